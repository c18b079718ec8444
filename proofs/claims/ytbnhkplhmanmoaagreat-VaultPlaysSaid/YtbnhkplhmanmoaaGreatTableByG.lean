/- . -/
import Derived.Test.YtbnhkplhmanmoaaGreatTableSlG
import Derived.Test.YtbnhkplhmanmoaaGreatTableC17G
namespace Go.Proofs.YtbnhkplhmanmoaaGreat
open Go.RowKit
abbrev jaR (w X:World) (A1:Option Addr) (N1 c1:Nat) (A2:Option Addr) (N2 c2:Nat) (A3:Option Addr) (N3 c3:Nat) (rk ra rb rc rd:Int) (key:ByteArray):Prop :=
 X.cell? ⟨w.heap.size,0,none⟩=some (.slice A1 N1 c1)/\X.cell? ⟨w.heap.size,1,none⟩=some (.slice A2 N2 c2)/\X.cell? ⟨w.heap.size,2,none⟩=some (.slice A3 N3 c3) /\
 X.cell? ⟨w.heap.size + 1,0,none⟩=some (.int .i64 rk)/\X.cell? ⟨w.heap.size + 1,1,none⟩=some (.int .i64 ra)/\X.cell? ⟨w.heap.size + 1,2,none⟩=some (.int .i64 rb)/\X.cell? ⟨w.heap.size + 1,3,none⟩=some (.int .i64 rc)/\X.cell? ⟨w.heap.size + 1,4,none⟩=some (.int .i64 rd)/\X.cell? ⟨w.heap.size + 1,5,none⟩=some (.string key) /\
 X.cell? ⟨w.heap.size + 1 + 1,0,none⟩=some (.slice none 0 0)/\X.cell? ⟨w.heap.size + 1 + 1,1,none⟩=some (.slice none 0 0)/\X.cell? ⟨w.heap.size + 1 + 1,2,none⟩=some (.slice none 0 0) /\
 X.frozen? ⟨w.heap.size + 1 + 1,0,none⟩=false/\X.frozen? ⟨w.heap.size + 1 + 1,1,none⟩=false/\X.frozen? ⟨w.heap.size + 1 + 1,2,none⟩=false /\
 X.frozen? ⟨w.heap.size,0,none⟩=false/\X.frozen? ⟨w.heap.size,1,none⟩=false
abbrev ja6 (lo:Nat) (w:World) (V0:jat) (X:World) (A1:Option Addr) (N1 c1:Nat) (A2:Option Addr) (N2 c2:Nat) (A3:Option Addr) (N3 c3:Nat) (T:Tab):Prop :=
 (((X.setCell ⟨w.heap.size + 1 + 1,0,none⟩ (.slice A1 N1 c1)).setCell ⟨w.heap.size + 1 + 1,1,none⟩ (.slice A2 N2 c2)).setCell ⟨w.heap.size + 1 + 1,2,none⟩ (.slice A3 N3 c3)).heap[w.heap.size + 1 + 1]? = some (.cells #[.slice A1 N1 c1,.slice A2 N2 c2,.slice A3 N3 c3] 35 (0,0)) /\
  ∀ c e,e=.returned (.tuple #[.agg #[.slice A1 N1 c1,.slice A2 N2 c2,.slice A3 N3 c3],.int .i64 c])->jcd lo w V0 (c,T) e (((X.setCell ⟨w.heap.size + 1 + 1,0,none⟩ (.slice A1 N1 c1)).setCell ⟨w.heap.size + 1 + 1,1,none⟩ (.slice A2 N2 c2)).setCell ⟨w.heap.size + 1 + 1,2,none⟩ (.slice A3 N3 c3))
section
variable {lo:Nat} {w X:World} {A1 A2 A3:Option Addr} {c1 c2 c3 N1 N2 N3:Nat} {rk ra rb rc rd:Int} {key:ByteArray} {t:Tab} {V0:jat}
theorem Bx3.all (h:Bx3 lo w V0 ⟨rk,ra,rb,rc,rd,key⟩ ⟨A1,c1,A2,c2,A3,c3⟩ t X) (e1:t.ts.length=N1) (e2:t.vs.length=N2) (e3:t.os.length=N3):jaR w X A1 N1 c1 A2 N2 c2 A3 N3 c3 rk ra rb rc rd key:=by
 subst e1 e2 e3;obtain ⟨y0,y1,y2⟩:=h.cells;obtain ⟨r0,r1,r2,r3,r4,r5⟩:=h.recs;obtain ⟨⟨s0,s1,s2⟩,f0,f1,f2⟩:=h.ress;exact ⟨y0,y1,y2,r0,r1,r2,r3,r4,r5,s0,s1,s2,f0,f1,f2,h.bx.thaw 0,h.bx.thaw 1⟩
theorem Bx3.fin (h:Bx3 lo w V0 ⟨rk,ra,rb,rc,rd,key⟩ ⟨A1,c1,A2,c2,A3,c3⟩ t X) (e1:t.ts.length=N1) (e2:t.vs.length=N2) (e3:t.os.length=N3):ja6 lo w V0 X A1 N1 c1 A2 N2 c2 A3 N3 c3 t:=by
 subst e1 e2 e3;obtain ⟨q1,q2,q3,q4,q5⟩:=h.ret;exact ⟨q1,fun c e he=>⟨⟨A1,c1,A2,c2,A3,c3⟩,he,q2,q3,q4,q5⟩⟩
theorem Bx3.turnV {V:jat} {r:Rc} {w':World} {vs':List Vol} {A':Option Addr} {c':Nat} (h:Bx3 lo w V0 r V t X) (hrow:jaP w' lo 82 4 A' vs'.length c' (jaE jb1 vs')) (hg:X.grownBy w' (ob V.A2)) (hA:ob A'=ob V.A2∨ob A'=some X.heap.size) :
  Bx3 lo w V0 r { V with A2:=A',c2:=c' } { t with vs:=vs' } (w'.setCell ⟨w.heap.size,1,none⟩ (.slice A' vs'.length c')):=by
 have hlt:=(Array.getElem?_eq_some_iff.1 h.res).1;have hlt1:=(Array.getElem?_eq_some_iff.1 h.chg).1;have hp:=h.bx.lt;have hbox:=(hg.block w.heap.size hp (fun q=>h.bx.p2 _ q.symm rfl)).trans h.bx.box;obtain ⟨k1,k2⟩:=jfP (.slice A' vs'.length c') hbox;refine ⟨h.bx.turnV hrow hg (hA.imp id fun q=>.inr ⟨_,q,Nat.le_refl _⟩) k1 k2,?_,?_,?_,?_,?_,?_⟩
 ·have e1:=(k2.block (w.heap.size + 1) (Nat.lt_of_lt_of_le hlt1 hg.size) (fun q=>by injection q with q;omega));exact e1.trans ((hg.block _ hlt1 (fun q=>(h.far _ (.inr (.inl q.symm))).1 rfl)).trans h.chg)
 ·have e1:=(k2.block (w.heap.size + 1 + 1) (Nat.lt_of_lt_of_le hlt hg.size) (fun q=>by injection q with q;omega));exact e1.trans ((hg.block _ hlt (fun q=>(h.far _ (.inr (.inl q.symm))).2 rfl)).trans h.res)
 ·intro b hb;rcases hb with hb | hb | hb
  ·exact h.far b (.inl hb)
  ·rcases hA with q | q
   ·exact h.far b (.inr (.inl (q ▸ hb)))
   ·have:b=X.heap.size:=by
     have e:=hb.symm.trans q;injection e
    omega
  ·exact h.far b (.inr (.inr hb))
 ·have q2:=h.below.grown hg h.lo_le fun b hb=>(jaU h.bx.rows.vs b hb).1
  exact jae q2 k2 (Nat.le_trans h.lo_le hg.size) h.lo_p
 ·intro b hb hn;have hbX:=Nat.lt_of_lt_of_le hb h.below.size;have e1:=k2.block b (Nat.lt_of_lt_of_le hbX hg.size) (fun q=>by injection q with q;omega);refine e1.trans ((hg.block b hbX (fun q=>?_)).trans (h.kept b hb hn));rcases h.fresh b (.inr (.inl q.symm)) with q2 | q2
  ·exact hn q2
  ·omega
 ·intro b hb;rcases hb with hb | hb | hb
  ·exact h.fresh b (.inl hb)
  ·rcases hA with q | q
   ·exact h.fresh b (.inr (.inl (q ▸ hb)))
   ·exact .inr (by have e:=hb.symm.trans q;injection e with e;have:=h.below.size;omega)
  ·exact h.fresh b (.inr (.inr hb))
theorem Bx3.turnT {V:jat} {r:Rc} {w':World} {ts':List Ten} {A':Option Addr} {c':Nat} (h:Bx3 lo w V0 r V t X) (hrow:jaP w' lo 52 6 A' ts'.length c' (jaE jbP ts')) (hg:X.grownBy w' (ob V.A1)) (hA:ob A'=ob V.A1∨ob A'=some X.heap.size) :
  Bx3 lo w V0 r { V with A1:=A',c1:=c' } { t with ts:=ts' } (w'.setCell ⟨w.heap.size,0,none⟩ (.slice A' ts'.length c')):=by
 have hlt:=(Array.getElem?_eq_some_iff.1 h.res).1;have hlt1:=(Array.getElem?_eq_some_iff.1 h.chg).1;have hp:=h.bx.lt;have hbox:=(hg.block w.heap.size hp (fun q=>h.bx.p1 _ q.symm rfl)).trans h.bx.box;obtain ⟨k1,k2⟩:=jfF (.slice A' ts'.length c') hbox;refine ⟨h.bx.turnT hrow hg (hA.imp id fun q=>.inr ⟨_,q,Nat.le_refl _⟩) k1 k2,?_,?_,?_,?_,?_,?_⟩
 ·have e1:=(k2.block (w.heap.size + 1) (Nat.lt_of_lt_of_le hlt1 hg.size) (fun q=>by injection q with q;omega));exact e1.trans ((hg.block _ hlt1 (fun q=>(h.far _ (.inl q.symm)).1 rfl)).trans h.chg)
 ·have e1:=(k2.block (w.heap.size + 1 + 1) (Nat.lt_of_lt_of_le hlt hg.size) (fun q=>by injection q with q;omega));exact e1.trans ((hg.block _ hlt (fun q=>(h.far _ (.inl q.symm)).2 rfl)).trans h.res)
 ·intro b hb;rcases hb with hb | hb | hb
  ·rcases hA with q | q
   ·exact h.far b (.inl (q ▸ hb))
   ·have:b=X.heap.size:=by
     have e:=hb.symm.trans q;injection e
    omega
  ·exact h.far b (.inr (.inl hb))
  ·exact h.far b (.inr (.inr hb))
 ·have q2:=h.below.grown hg h.lo_le fun b hb=>(jaU h.bx.rows.ts b hb).1
  exact jae q2 k2 (Nat.le_trans h.lo_le hg.size) h.lo_p
 ·intro b hb hn;have hbX:=Nat.lt_of_lt_of_le hb h.below.size;have e1:=k2.block b (Nat.lt_of_lt_of_le hbX hg.size) (fun q=>by injection q with q;omega);refine e1.trans ((hg.block b hbX (fun q=>?_)).trans (h.kept b hb hn));rcases h.fresh b (.inl q.symm) with q2 | q2
  ·exact hn q2
  ·omega
 ·intro b hb;rcases hb with hb | hb | hb
  ·rcases hA with q | q
   ·exact h.fresh b (.inl (q ▸ hb))
   ·exact .inr (by have e:=hb.symm.trans q;injection e with e;have:=h.below.size;omega)
  ·exact h.fresh b (.inr (.inl hb))
  ·exact h.fresh b (.inr (.inr hb))
theorem Bx3.midV {V:jat} {r:Rc} {w':World} (h:Bx3 lo w V0 r V t X) (hg:X.grownBy w' (ob V.A2)):w'.cell? ⟨w.heap.size,1,none⟩=some (.slice V.A2 t.vs.length V.c2)/\w'.frozen? ⟨w.heap.size,1,none⟩=false:=by
 have hbox:=(hg.block w.heap.size h.bx.lt (fun q=>h.bx.p2 _ q.symm rfl)).trans h.bx.box;unfold jan at hbox;exact ⟨by rw [cell_of_row _ _ _ _ _ _ hbox];rfl,frozen_of_row _ _ 1 _ _ hbox⟩
theorem Bx3.midT {V:jat} {r:Rc} {w':World} (h:Bx3 lo w V0 r V t X) (hg:X.grownBy w' (ob V.A1)):w'.cell? ⟨w.heap.size,0,none⟩=some (.slice V.A1 t.ts.length V.c1)/\w'.frozen? ⟨w.heap.size,0,none⟩=false:=by
 have hbox:=(hg.block w.heap.size h.bx.lt (fun q=>h.bx.p1 _ q.symm rfl)).trans h.bx.box;unfold jan at hbox;exact ⟨by rw [cell_of_row _ _ _ _ _ _ hbox];rfl,frozen_of_row _ _ 0 _ _ hbox⟩
theorem joB (g c j s:Nat):∃ ad:Addr,(if c=j + 1 then some (⟨g,0,none⟩:Addr) else some ⟨g,(j + 1) * s,none⟩)=some ad/\(c≠j + 1->ad=⟨g,(j + 1) * s,none⟩):=by
 by_cases h:c=j + 1
 ·exact ⟨⟨g,0,none⟩,if_pos h,fun q=>absurd h q⟩
 ·exact ⟨_,if_neg h,fun _=>rfl⟩
theorem jlv {X:World} {B g c j:Nat} {vs:List Vol} {ad:Addr} (h:jbc X B (some ⟨g,0,none⟩) vs) (hc:vs.length<=c) (had:c≠j + 1->ad=⟨g,(j + 1) * 4,none⟩):∀ i u,(jaE jb1 (vs.drop (j + 1)))[i]? = some u->X.cell? (ad.add i)=some u:=by
 by_cases hcj:c=j + 1
 ·intro i u hu;rw [List.drop_eq_nil_of_le (by omega)] at hu;cases hu
 ·rw [had hcj];refine jfZ (B:=B) fun k hk=>?_
  have hk2:j + 1 + k < vs.length:=by rw [List.length_drop] at hk;omega
  obtain ⟨b,off,e,hl,q0,q1,q2,q3⟩:=h (j + 1 + k) hk2;injection e with e
  injection e with e1 e2 e3
  subst e1 e2;have hm:∀ n,(j + 1) * 4 + k * 4 + n=0 + (j + 1 + k) * 4 + n:=fun n=>by omega
  have hm0:(j + 1) * 4 + k * 4=0 + (j + 1 + k) * 4:=by omega
  refine ⟨g,(j + 1) * 4,rfl,hl,?_⟩;simp only [List.getElem_drop];rw [hm0];exact ⟨q0,q1,q2,q3⟩
theorem jlo {X:World} {B g c j:Nat} {ts:List Ten} {ad:Addr} (h:jbb X B (some ⟨g,0,none⟩) ts) (hc:ts.length<=c) (had:c≠j + 1->ad=⟨g,(j + 1) * 6,none⟩):∀ i u,(jaE jbP (ts.drop (j + 1)))[i]? = some u->X.cell? (ad.add i)=some u:=by
 by_cases hcj:c=j + 1
 ·intro i u hu;rw [List.drop_eq_nil_of_le (by omega)] at hu;cases hu
 ·rw [had hcj];refine jfp (B:=B) fun k hk=>?_
  have hk2:j + 1 + k < ts.length:=by rw [List.length_drop] at hk;omega
  obtain ⟨b,off,e,hl,q0,q1,q2,q3,q4,q5⟩:=h (j + 1 + k) hk2;injection e with e
  injection e with e1 e2 e3
  subst e1 e2;have hm0:(j + 1) * 6 + k * 6=0 + (j + 1 + k) * 6:=by omega
  refine ⟨g,(j + 1) * 6,rfl,hl,?_⟩;simp only [List.getElem_drop];rw [hm0];exact ⟨q0,q1,q2,q3,q4,q5⟩
theorem jgH {α:Type} {E:α->List Value} (l:List α) (j:Nat):jaE E (l.take j) ++ jaE E (l.drop (j + 1))=jaE E (l.eraseIdx j):=by
 rw [List.eraseIdx_eq_take_drop_succ,jdT]
theorem jaW (hV:V0=⟨A1,c1,A2,c2,A3,c3⟩) (h:jaw lo w ⟨A1,c1,A2,c2,A3,c3⟩ t) (hl:lo<=w.heap.size) (rk ra rb rc rd:Int) (key:ByteArray):∃ W0,W0=(((w.alloc (.cells #[.slice A1 t.ts.length c1,.slice A2 t.vs.length c2,.slice A3 t.os.length c3] 35)).alloc (.cells #[.int .i64 rk,.int .i64 ra,.int .i64 rb,.int .i64 rc,.int .i64 rd,.string key] 56)).alloc (.cells #[.slice none 0 0,.slice none 0 0,.slice none 0 0] 35)) /\
  Bx3 lo w V0 ⟨rk,ra,rb,rc,rd,key⟩ ⟨A1,c1,A2,c2,A3,c3⟩ t W0:=by subst hV;exact ⟨_,rfl,Bx3.start h hl ⟨rk,ra,rb,rc,rd,key⟩⟩
end
set_option maxHeartbeats 6400000
set_option maxRecDepth 20000
theorem jkV {lo:Nat} {w:World} {t:Tab} (A1:Option Addr) (c1:Nat) (A2:Option Addr) (c2:Nat) (A3:Option Addr) (c3:Nat) (h:jaw lo w ⟨A1,c1,A2,c2,A3,c3⟩ t) (hl:lo<=w.heap.size) (hs:t.sound) (rk ra rb rc rd:Int) (key:ByteArray) (k:Nat) (hka:ra=k) (V0:jat) (hV0:V0=⟨A1,c1,A2,c2,A3,c3⟩) :
  Calls Tryz.prog 51 #[.agg #[.slice A1 t.ts.length c1,.slice A2 t.vs.length c2,.slice A3 t.os.length c3],.agg #[.int .i64 rk,.int .i64 ra,.int .i64 rb,.int .i64 rc,.int .i64 rd,.string key]] w (jcd lo w V0 (jcs t ⟨rk,ra,rb,rc,rd,key⟩)):=by
 obtain ⟨n1,n2,n3⟩:=jam hs;obtain ⟨W0,hW0,S0⟩:=jaW hV0 h hl rk ra rb rc rd key;clear hV0;subst hka;obtain ⟨N1,HN1⟩:∃ N,Hid (t.ts.length=N):=⟨_,rfl⟩;obtain ⟨N2,HN2⟩:∃ N,Hid (t.vs.length=N):=⟨_,rfl⟩;obtain ⟨N3,HN3⟩:∃ N,Hid (t.os.length=N):=⟨_,rfl⟩;have HALL:Hid (∀ X,Below W0.heap.size W0 X->jaR w X A1 N1 c1 A2 N2 c2 A3 N3 c3 rk (k:Int) rb rc rd key):=fun X hb=>(S0.later hb).all HN1.out HN2.out HN3.out
 have HFIN:Hid (∀ X,Below W0.heap.size W0 X->ja6 lo w V0 X A1 N1 c1 A2 N2 c2 A3 N3 c3 t):=fun X hb=>(S0.later hb).fin HN1.out HN2.out HN3.out
 have HTE:Hid (∀ X,Below W0.heap.size W0 X->Calls Tryz.prog 46 #[.agg #[.slice A1 N1 c1,.slice A2 N2 c2,.slice A3 N3 c3],.int .i64 rb] X fun e w'=>e=.returned (.int .i64 (jdI t.ts rb))/\Below X.heap.size X w'):=fun X hb=>by
  have q:=jb5 ⟨A1,c1,A2,c2,A3,c3⟩ t rb X (S0.later hb).bx.tab (by omega);unfold jan at q
  rwa [HN1.out,HN2.out,HN3.out] at q
 have HOW:Hid (∀ X,Below W0.heap.size W0 X->Calls Tryz.prog 45 #[.agg #[.slice A1 N1 c1,.slice A2 N2 c2,.slice A3 N3 c3],.int .i64 rb] X fun e w'=>e=.returned (.int .i64 (ja0 t.os rb:Nat))/\Below X.heap.size X w'):=fun X hb=>by
  have q:=jcZ ⟨A1,c1,A2,c2,A3,c3⟩ t rb X (S0.later hb).bx.tab (by omega);unfold jan at q
  rwa [HN1.out,HN2.out,HN3.out] at q
 have H9:jcs t ⟨rk,(k:Int),rb,rc,rd,key⟩=(if (t.os.length:Int)<=(k:Int) then (7,t) else if rb=0 then if t.os.getD k 0=0 then (4,t) else (0,{ t with os:=t.os.set k 0 }) else match tenAt t.ts rb with
  | none=>(4,t)
  | some x=>if x.dying=true then (10,t) else if t.os.getD k 0≠0 then (5,t) else if x.quota<=ja0 t.os rb then (6,t) else (0,{ t with os:=t.os.set k rb }):Int × Tab):=by
  unfold jcs;simp only [Int.toNat_natCast];rfl
 rw [HN1.out,HN2.out,HN3.out] at hW0 ⊢;rw [HN3.out] at H9 n3;have HW0:=Lib.hid hW0;have HOLD:=Lib.hid H9;obtain ⟨y0,y1,y2,r0,r1,r2,r3,r4,r5,s0,s1,s2,sf0,sf1,sf2,pf0,pf1⟩:=HALL.out W0 (Below.refl _ _);have HS0:=Lib.hid S0;have HB0:Hid (Below W0.heap.size W0 W0):=Below.refl _ _;have ra0:(0:Int)<=(k:Int):=by omega
 by_cases hge:(N3:Int)<=(k:Int)
 ·have HE:Hid (jcs t ⟨rk,(k:Int),rb,rc,rd,key⟩=(7,t)):=by show _=_;rw [H9,if_pos hge]
  rw [HE.out];have d:(k:Int) ≥ (N3:Int):=hge;clear HE H9 HOLD HTE HOW h hl hs hge S0 hW0 n1 n2 n3;go_enter Tryz.func51,Tryz.ntmps51
  go_wp2_with (first
   | (rw [<- HW0.out];clear HW0))
  have hr:=HFIN.out _ HB0.out;refine bodyPost_ret (jab rfl _ _ (w.heap.size + 1 + 1) _ _ _ _ rfl hr.1 Tryz.underlying35 rfl (by kernel_rfl)) rfl ?_;exact hr.2 7 _ rfl
 ·rw [if_neg hge] at H9;have hkx:k < t.os.length:=by have:=HN3.out;omega
  have hgd:t.os.getD k 0=t.os[k]:=by simp [List.getD,hkx]
  rw [hgd] at H9;obtain ⟨g,hA,hg,hgl,hX⟩:=S0.bx.foundO hkx;simp only at hA;subst hA;have d:¬ (k:Int) ≥ (N3:Int):=hge;have k1:(k:Int) < (N3:Int):=by omega
  obtain ⟨o,ho⟩:∃ o,o=t.os[k]:=⟨_,rfl⟩;simp only [<- ho] at hX H9;have HX:=Lib.hid hX
  have HSET:Hid (∀ n X,Below W0.heap.size W0 X->jaR w (X.setCell ⟨g,k,none⟩ (.int .i64 n)) A1 N1 c1 A2 N2 c2 (some ⟨g,0,none⟩) N3 c3 rk (k:Int) rb rc rd key/\ja6 lo w V0 (X.setCell ⟨g,k,none⟩ (.int .i64 n)) A1 N1 c1 A2 N2 c2 (some ⟨g,0,none⟩) N3 c3 { t with os:=t.os.set k n }):=fun n X hb=>by
   have q:=(S0.later hb).setO rfl hkx n;have e3:({ t with os:=t.os.set k n } : Tab).os.length=N3:=by show (t.os.set k n).length=N3;rw [List.length_set];exact HN3.out
   exact ⟨q.all HN1.out HN2.out e3,q.fin HN1.out HN2.out e3⟩
  obtain ⟨z0,z1⟩:=hX W0 (Below.refl _ _);by_cases hb0:rb=0
  ·rw [if_pos hb0] at H9;have e0:(rb == 0)=true:=beq_iff_eq.2 hb0;by_cases ho0:o=0
   ·have HE:Hid (jcs t ⟨rk,(k:Int),rb,rc,rd,key⟩=(4,t)):=by show _=_;rw [H9,if_pos ho0]
    rw [HE.out];have e1:(o == 0)=true:=beq_iff_eq.2 ho0;clear HE H9 HOLD HTE HOW h hl hs hge S0 hW0 n1 n2 n3 hX ho hkx hgd hg hgl HSET hb0 ho0;go_enter Tryz.func51,Tryz.ntmps51
    go_wp2_with (first
     | (rw [<- HW0.out];clear HW0))
    have hr:=HFIN.out _ HB0.out;refine bodyPost_ret (jab rfl _ _ (w.heap.size + 1 + 1) _ _ _ _ rfl hr.1 Tryz.underlying35 rfl (by kernel_rfl)) rfl ?_;exact hr.2 4 _ rfl
   ·have HE:Hid (jcs t ⟨rk,(k:Int),rb,rc,rd,key⟩=(0,{ t with os:=t.os.set k 0 })):=by show _=_;rw [H9,if_neg ho0]
    rw [HE.out];have e1:(o == 0)=false:=beq_eq_false_iff_ne.2 ho0;obtain ⟨W1,HW1⟩:∃ W,Hid (W=W0.setCell ⟨g,k,none⟩ (.int .i64 0)):=⟨_,rfl⟩;have HS1:=Lib.hid (HSET.out 0 _ (Below.refl _ _));rw [<- HW1.out] at HS1;clear HE H9 HOLD HTE HOW h hl hs hge S0 hW0 n1 n2 n3 hX ho hkx hgd hg hgl HSET hb0 ho0;go_enter Tryz.func51,Tryz.ntmps51
    go_wp2_with (first
     | (rw [<- HW0.out];clear HW0)
     | (rw [<- HW1.out];clear HW1;obtain ⟨y0,y1,y2,r0,r1,r2,r3,r4,r5,s0,s1,s2,sf0,sf1,sf2,pf0,pf1⟩:=HS1.out.1))
    have hr:=HS1.out.2;refine bodyPost_ret (jab rfl _ _ (w.heap.size + 1 + 1) _ _ _ _ rfl hr.1 Tryz.underlying35 rfl (by kernel_rfl)) rfl ?_;exact hr.2 0 _ rfl
  ·rw [if_neg hb0] at H9;have e0:(rb == 0)=false:=beq_eq_false_iff_ne.2 hb0;rcases jaX t.ts rb with ⟨j,hj,he,hlj,hat⟩ | ⟨hlj,hat⟩
   ·rw [hat] at H9;replace H9:jcs t ⟨rk,(k:Int),rb,rc,rd,key⟩=if t.ts[j].dying=true then (10,t) else if o≠0 then (5,t) else if t.ts[j].quota<=ja0 t.os rb then (6,t) else (0,{ t with os:=t.os.set k rb }):=H9
    have HTI:=jdX hj he hlj;rw [HTI] at HTE;obtain ⟨g1,hA1,_,_,hX1⟩:=S0.bx.tenAt hj;simp only at hA1;subst hA1;have j0:(0:Int)<=(j:Int):=by omega
    have jn:¬ (j:Int) < 0:=by omega
    have j1:(j:Int) < (N1:Int):=by have:=HN1.out;omega
    obtain ⟨xd,hxd⟩:∃ x,x=t.ts[j].dying:=⟨_,rfl⟩;obtain ⟨xq,hxq⟩:∃ x,x=t.ts[j].quota:=⟨_,rfl⟩;obtain ⟨m,hm⟩:∃ x,x=ja0 t.os rb:=⟨_,rfl⟩;simp only [<- hxd,<- hxq,<- hm] at hX1 H9 HOW;have HX1:Hid (∀ X,Below W0.heap.size W0 X->X.cell? ⟨g1,j * 6 + 1,none⟩=some (.int .i64 xq)/\X.cell? ⟨g1,j * 6 + 5,none⟩=some (.bool xd)):=fun X hb=>⟨(hX1 X hb).1.2.1,(hX1 X hb).1.2.2.2.2.2⟩
    clear HTI hX1 h hl hs hge S0 hW0 n1 n2 n3 hX ho hkx hgd hg hgl hb0 hlj hat he hj hxd hxq hm HOLD;cases xd
    ·by_cases ho0:o=0
     ·rw [if_neg (by decide),if_neg (fun q=>q ho0)] at H9;have e1:(o != 0)=false:=by rw [ho0];rfl
      by_cases cq:xq<=(m:Int)
      ·have HE:Hid (jcs t ⟨rk,(k:Int),rb,rc,rd,key⟩=(6,t)):=by show _=_;rw [H9,if_pos cq]
       rw [HE.out];have cq3:(m:Int) ≥ xq:=cq;clear HE H9 ho0;go_enter Tryz.func51,Tryz.ntmps51
       go_wp2_with (first
        | (rw [<- HW0.out];clear HW0)
        | (go_at_call 46;with_reducible (refine Calls.mono (HTE.out _ HB0.out) ?_);rintro e w1 ⟨rfl,hb1⟩;obtain ⟨y0,y1,y2,r0,r1,r2,r3,r4,r5,s0,s1,s2,sf0,sf1,sf2,pf0,pf1⟩:=HALL.out _ hb1;obtain ⟨x1,x5⟩:=HX1.out _ hb1;obtain ⟨z0,z1⟩:=HX.out _ hb1))
       have hbx:=hb1.drew
       go_region_held3 (fun W=>(W.cell? ⟨g1,j * 6 + 1,none⟩=some (.int .i64 xq)/\W.cell? ⟨w.heap.size,0,none⟩=some (.slice (some ⟨g1,0,none⟩) N1 c1)/\W.cell? ⟨w.heap.size,1,none⟩=some (.slice A2 N2 c2)/\W.cell? ⟨w.heap.size,2,none⟩=some (.slice (some ⟨g,0,none⟩) N3 c3))/\W.cell? ⟨w.heap.size + 1,2,none⟩=some (.int .i64 rb))
        (exact ⟨⟨(HX1.out _ hbx).1,(HALL.out _ hbx).1,(HALL.out _ hbx).2.1,(HALL.out _ hbx).2.2.1⟩,(HALL.out _ hbx).2.2.2.2.2.1⟩)
        (first
         | (go_at_call 45;with_reducible (refine Calls.mono (HOW.out _ hbx) ?_);rintro e w3 ⟨rfl,hb3⟩;have hbx:=jaa hbx hb3)
         | fail)
       obtain ⟨y0,y1,y2,r0,r1,r2,r3,r4,r5,s0,s1,s2,sf0,sf1,sf2,pf0,pf1⟩:=HALL.out _ hbx;obtain ⟨z0,z1⟩:=HX.out _ hbx;go_wp2;have hr:=HFIN.out _ hbx;refine bodyPost_ret (jab rfl _ _ (w.heap.size + 1 + 1) _ _ _ _ rfl hr.1 Tryz.underlying35 rfl (by kernel_rfl)) rfl ?_;exact hr.2 6 _ rfl
      ·have HE:Hid (jcs t ⟨rk,(k:Int),rb,rc,rd,key⟩=(0,{ t with os:=t.os.set k rb })):=by show _=_;rw [H9,if_neg cq]
       rw [HE.out];have cq3:¬ (m:Int) ≥ xq:=cq;clear HE H9 ho0;go_enter Tryz.func51,Tryz.ntmps51
       go_wp2_with (first
        | (rw [<- HW0.out];clear HW0)
        | (go_at_call 46;with_reducible (refine Calls.mono (HTE.out _ HB0.out) ?_);rintro e w1 ⟨rfl,hb1⟩;obtain ⟨y0,y1,y2,r0,r1,r2,r3,r4,r5,s0,s1,s2,sf0,sf1,sf2,pf0,pf1⟩:=HALL.out _ hb1;obtain ⟨x1,x5⟩:=HX1.out _ hb1;obtain ⟨z0,z1⟩:=HX.out _ hb1))
       have hbx:=hb1.drew
       go_region_held3 (fun W=>(W.cell? ⟨g1,j * 6 + 1,none⟩=some (.int .i64 xq)/\W.cell? ⟨w.heap.size,0,none⟩=some (.slice (some ⟨g1,0,none⟩) N1 c1)/\W.cell? ⟨w.heap.size,1,none⟩=some (.slice A2 N2 c2)/\W.cell? ⟨w.heap.size,2,none⟩=some (.slice (some ⟨g,0,none⟩) N3 c3))/\W.cell? ⟨w.heap.size + 1,2,none⟩=some (.int .i64 rb))
        (exact ⟨⟨(HX1.out _ hbx).1,(HALL.out _ hbx).1,(HALL.out _ hbx).2.1,(HALL.out _ hbx).2.2.1⟩,(HALL.out _ hbx).2.2.2.2.2.1⟩)
        (first
         | (go_at_call 45;with_reducible (refine Calls.mono (HOW.out _ hbx) ?_);rintro e w3 ⟨rfl,hb3⟩;have hbx:=jaa hbx hb3)
         | fail)
       obtain ⟨y0,y1,y2,r0,r1,r2,r3,r4,r5,s0,s1,s2,sf0,sf1,sf2,pf0,pf1⟩:=HALL.out _ hbx;obtain ⟨z0,z1⟩:=HX.out _ hbx;have HS1:=Lib.hid (HSET.out rb _ hbx);obtain ⟨W1,HW1⟩:∃ W,Hid (W=w3.setCell ⟨g,k,none⟩ (.int .i64 rb)):=⟨_,rfl⟩;rw [<- HW1.out] at HS1
       go_wp2_with (first
        | (rw [<- HW1.out];clear HW1;obtain ⟨y0,y1,y2,r0,r1,r2,r3,r4,r5,s0,s1,s2,sf0,sf1,sf2,pf0,pf1⟩:=HS1.out.1))
       have hr:=HS1.out.2;refine bodyPost_ret (jab rfl _ _ (w.heap.size + 1 + 1) _ _ _ _ rfl hr.1 Tryz.underlying35 rfl (by kernel_rfl)) rfl ?_;exact hr.2 0 _ rfl
     ·have HE:Hid (jcs t ⟨rk,(k:Int),rb,rc,rd,key⟩=(5,t)):=by show _=_;rw [H9,if_neg (by decide),if_pos ho0]
      rw [HE.out];have e1:(o != 0)=true:=bne_iff_ne.2 ho0;clear HE H9 ho0;go_enter Tryz.func51,Tryz.ntmps51
      go_wp2_with (first
       | (rw [<- HW0.out];clear HW0)
       | (go_at_call 46;with_reducible (refine Calls.mono (HTE.out _ HB0.out) ?_);rintro e w1 ⟨rfl,hb1⟩;obtain ⟨y0,y1,y2,r0,r1,r2,r3,r4,r5,s0,s1,s2,sf0,sf1,sf2,pf0,pf1⟩:=HALL.out _ hb1;obtain ⟨x1,x5⟩:=HX1.out _ hb1;obtain ⟨z0,z1⟩:=HX.out _ hb1))
      have hr:=HFIN.out _ hb1;refine bodyPost_ret (jab rfl _ _ (w.heap.size + 1 + 1) _ _ _ _ rfl hr.1 Tryz.underlying35 rfl (by kernel_rfl)) rfl ?_;exact hr.2 5 _ rfl
    ·have HE:Hid (jcs t ⟨rk,(k:Int),rb,rc,rd,key⟩=(10,t)):=by show _=_;rw [H9,if_pos rfl]
     rw [HE.out];clear HE H9;go_enter Tryz.func51,Tryz.ntmps51
     go_wp2_with (first
      | (rw [<- HW0.out];clear HW0)
      | (go_at_call 46;with_reducible (refine Calls.mono (HTE.out _ HB0.out) ?_);rintro e w1 ⟨rfl,hb1⟩;obtain ⟨y0,y1,y2,r0,r1,r2,r3,r4,r5,s0,s1,s2,sf0,sf1,sf2,pf0,pf1⟩:=HALL.out _ hb1;obtain ⟨x1,x5⟩:=HX1.out _ hb1;obtain ⟨z0,z1⟩:=HX.out _ hb1))
     have hr:=HFIN.out _ hb1;refine bodyPost_ret (jab rfl _ _ (w.heap.size + 1 + 1) _ _ _ _ rfl hr.1 Tryz.underlying35 rfl (by kernel_rfl)) rfl ?_;exact hr.2 10 _ rfl
   ·rw [hat] at H9;have HE:Hid (jcs t ⟨rk,(k:Int),rb,rc,rd,key⟩=(4,t)):=H9;rw [HE.out];rw [jdU hlj] at HTE;clear HE H9 h hl hs hge S0 hW0 n1 n2 n3 hX ho hkx hgd hg hgl hb0 hlj hat HOLD HSET HOW;go_enter Tryz.func51,Tryz.ntmps51
    go_wp2_with (first
     | (rw [<- HW0.out];clear HW0)
     | (go_at_call 46;with_reducible (refine Calls.mono (HTE.out _ HB0.out) ?_);rintro e w1 ⟨rfl,hb1⟩;obtain ⟨y0,y1,y2,r0,r1,r2,r3,r4,r5,s0,s1,s2,sf0,sf1,sf2,pf0,pf1⟩:=HALL.out _ hb1))
    have hr:=HFIN.out _ hb1;refine bodyPost_ret (jab rfl _ _ (w.heap.size + 1 + 1) _ _ _ _ rfl hr.1 Tryz.underlying35 rfl (by kernel_rfl)) rfl ?_;exact hr.2 4 _ rfl
theorem jew {lo:Nat} {w:World} {t:Tab} (A1:Option Addr) (c1:Nat) (A2:Option Addr) (c2:Nat) (A3:Option Addr) (c3:Nat) (h:jaw lo w ⟨A1,c1,A2,c2,A3,c3⟩ t) (hl:lo<=w.heap.size) (hs:t.sound) (rk ra rb rc rd:Int) (key:ByteArray) (hk:rk=6∨rk=7∨rk=8) (V0:jat) (hV0:V0=⟨A1,c1,A2,c2,A3,c3⟩) :
  Calls Tryz.prog 50 #[.agg #[.slice A1 t.ts.length c1,.slice A2 t.vs.length c2,.slice A3 t.os.length c3],.agg #[.int .i64 rk,.int .i64 ra,.int .i64 rb,.int .i64 rc,.int .i64 rd,.string key],.int .i64 (jhs t.vs ra)] w (jcd lo w V0 (jar t ⟨rk,ra,rb,rc,rd,key⟩)):=by
 obtain ⟨n1,n2,n3⟩:=jam hs;obtain ⟨W0,hW0,S0⟩:=jaW hV0 h hl rk ra rb rc rd key;clear hV0;obtain ⟨N1,HN1⟩:∃ N,Hid (t.ts.length=N):=⟨_,rfl⟩;obtain ⟨N2,HN2⟩:∃ N,Hid (t.vs.length=N):=⟨_,rfl⟩;obtain ⟨N3,HN3⟩:∃ N,Hid (t.os.length=N):=⟨_,rfl⟩;have HALL:Hid (∀ X,Below W0.heap.size W0 X->jaR w X A1 N1 c1 A2 N2 c2 A3 N3 c3 rk ra rb rc rd key):=fun X hb=>(S0.later hb).all HN1.out HN2.out HN3.out
 have HFIN:Hid (∀ X,Below W0.heap.size W0 X->ja6 lo w V0 X A1 N1 c1 A2 N2 c2 A3 N3 c3 t):=fun X hb=>(S0.later hb).fin HN1.out HN2.out HN3.out
 rw [HN1.out,HN2.out,HN3.out] at hW0 ⊢;have HW0:=Lib.hid hW0;obtain ⟨y0,y1,y2,r0,r1,r2,r3,r4,r5,s0,s1,s2,sf0,sf1,sf2,pf0,pf1⟩:=HALL.out W0 (Below.refl _ _);have HS0:=Lib.hid S0;have HB0:Hid (Below W0.heap.size W0 W0):=Below.refl _ _;rcases jcy t.vs ra with ⟨j,hj,he,hlj,hat⟩ | ⟨hlj,hat⟩
 ·rw [jiI hj he hlj];obtain ⟨g,hA,_,hgl,hX⟩:=S0.bx.volAt hj;simp only at hA;subst hA;have j0:(0:Int)<=(j:Int):=by omega
  have jn:¬ (j:Int) < 0:=by omega
  have j1:(j:Int) < (N2:Int):=by have:=HN2.out;omega
  obtain ⟨xb,hxb⟩:∃ x,x=t.vs[j].base:=⟨_,rfl⟩;obtain ⟨xk,hxk⟩:∃ x,x=t.vs[j].blocks:=⟨_,rfl⟩
  have HX:Hid (∀ X,Below W0.heap.size W0 X->(X.cell? ⟨g,j * 4 + 2,none⟩=some (.int .i64 xk)/\X.cell? ⟨g,j * 4 + 3,none⟩=some (.int .i64 xb))/\X.frozen? ⟨g,j * 4 + 2,none⟩=false/\X.frozen? ⟨g,j * 4 + 3,none⟩=false):=fun X hb=>by
   obtain ⟨⟨_,_,q2,q3⟩,q⟩:=hX X hb;exact ⟨⟨by rw [hxk];exact q2,by rw [hxb];exact q3⟩,q _,q _⟩
  have HSET:Hid (∀ (i:Nat) (v:Value) (y:Vol),i < 4->jb1 y=(jb1 t.vs[j]).set i v->∀ X,Below W0.heap.size W0 X->jaR w (X.setCell ⟨g,j * 4 + i,none⟩ v) A1 N1 c1 (some ⟨g,0,none⟩) N2 c2 A3 N3 c3 rk ra rb rc rd key/\ja6 lo w V0 (X.setCell ⟨g,j * 4 + i,none⟩ v) A1 N1 c1 (some ⟨g,0,none⟩) N2 c2 A3 N3 c3 { t with vs:=t.vs.set j y }):=fun i v y hi hy X hb=>by
   have q:=(S0.later hb).setV rfl hj hi v y hy;have e2:({ t with vs:=t.vs.set j y } : Tab).vs.length=N2:=by show (t.vs.set j y).length=N2;rw [List.length_set];exact HN2.out
   exact ⟨q.all HN1.out e2 HN3.out,q.fin HN1.out e2 HN3.out⟩
  obtain ⟨⟨x2,x3⟩,f2,f3⟩:=HX.out W0 (Below.refl _ _);rcases hk with rfl | rfl | rfl
  ·have HE:Hid (jar t ⟨6,ra,rb,rc,rd,key⟩=(0,{ t with vs:=t.vs.set j { t.vs[j] with blocks:=rb } })):=by
    show jga t ⟨6,ra,rb,rc,rd,key⟩=_;unfold jga;rw [hat];show (_,_)=_;rw [jcl Vol.id (fun x=>{ x with blocks:=rb }) hj hs.vup he]
   rw [HE.out];obtain ⟨W1,HW1⟩:∃ W,Hid (W=W0.setCell ⟨g,j * 4 + 2,none⟩ (.int .i64 rb)):=⟨_,rfl⟩;have HS1:=Lib.hid (HSET.out 2 (.int .i64 rb) { t.vs[j] with blocks:=rb } (by decide) rfl _ (Below.refl _ _));rw [<- HW1.out] at HS1;obtain ⟨T,hT⟩:∃ T,T=({ t with vs:=t.vs.set j { t.vs[j] with blocks:=rb } } : Tab):=⟨_,rfl⟩;rw [<- hT] at HS1 ⊢;clear hT HE h hl hs S0 hW0 n1 n2 n3 hX hgl HSET hlj hat he hxb hxk hj;go_enter Tryz.func50,Tryz.ntmps50
   go_wp2_with (first
    | (rw [<- HW0.out];clear HW0)
    | (rw [<- HW1.out];clear HW1;obtain ⟨y0,y1,y2,r0,r1,r2,r3,r4,r5,s0,s1,s2,sf0,sf1,sf2,pf0,pf1⟩:=HS1.out.1))
   have hr:=HS1.out.2;refine bodyPost_ret (jab rfl _ _ (w.heap.size + 1 + 1) _ _ _ _ rfl hr.1 Tryz.underlying35 rfl (by kernel_rfl)) rfl ?_;exact hr.2 0 _ rfl
  ·have HE:Hid (jar t ⟨7,ra,rb,rc,rd,key⟩=(0,{ t with vs:=t.vs.eraseIdx j })):=by
    show jgf t ⟨7,ra,rb,rc,rd,key⟩=_;unfold jgf;rw [hat];show (_,_)=_;rw [jcc Vol.id hj hs.vup he]
   rw [HE.out];obtain ⟨i0,hi,hz0,hz1,hz2⟩:=info_parts Tryz.infoVolD;have c2N:N2<=c2:=by have:=jqp S0.bx.rows.vs;rwa [HN2.out] at this
   have n2:N2<=8:=by have:=HN2.out;omega
   have HCUT:Hid (∀ X,Below W0.heap.size W0 X->jaP X lo 82 4 (some ⟨g,0,none⟩) j j (jaE jb1 (t.vs.take j))):=fun X hb=>joC jaG (S0.later hb).bx.rows.vs rfl (Nat.le_of_lt hj)
   obtain ⟨ad,hif,had⟩:=joB g c2 j 4;have HFL:Hid ((jaE jb1 (t.vs.drop (j + 1))).length=(N2 - (j + 1)) * 4):=by show _=_;rw [jaY jaG,List.length_drop,HN2.out]
   have HF1:=Lib.hid (jcm jbQ (t.vs.drop (j + 1)));have HNW:Hid (∀ X,Below W0.heap.size W0 X->∀ i u,(jaE jb1 (t.vs.drop (j + 1)))[i]? = some u->X.cell? (ad.add i)=some u):=fun X hb=>jlv (S0.later hb).bx.tab.vs (by rw [HN2.out];exact c2N) had
   have HLO:=Lib.hid S0.lo_le
   have HMID:Hid (∀ X,W0.drew.grownBy X (ob (some ⟨g,0,none⟩))->X.cell? ⟨w.heap.size,1,none⟩=some (.slice (some ⟨g,0,none⟩) N2 c2)/\X.frozen? ⟨w.heap.size,1,none⟩=false):=fun X hg=>by
    have q:=(S0.later HB0.out.drew).midV hg
    rwa [HN2.out] at q
   have HEND:Hid (∀ A' c' X,jaP X lo 82 4 A' (j + (N2 - (j + 1))) c' (jaE jb1 (t.vs.take j) ++ jaE jb1 (t.vs.drop (j + 1)))->W0.drew.grownBy X (ob (some ⟨g,0,none⟩))->(ob A'=ob (some ⟨g,0,none⟩)∨ob A'=some W0.drew.heap.size) ->
     jaR w (X.setCell ⟨w.heap.size,1,none⟩ (.slice A' (j + (N2 - (j + 1))) c')) A1 N1 c1 A' (j + (N2 - (j + 1))) c' A3 N3 c3 7 ra rb rc rd key/\ja6 lo w V0 (X.setCell ⟨w.heap.size,1,none⟩ (.slice A' (j + (N2 - (j + 1))) c')) A1 N1 c1 A' (j + (N2 - (j + 1))) c' A3 N3 c3 { t with vs:=t.vs.eraseIdx j }):=fun A' c' X hr hg hw=>by
    have eM:(t.vs.eraseIdx j).length=j + (N2 - (j + 1)):=by rw [List.length_eraseIdx_of_lt hj,HN2.out];omega
    rw [jgH] at hr;have q:=(S0.later HB0.out.drew).turnV (by rw [eM];exact hr) hg hw;rw [eM] at q;exact ⟨q.all HN1.out eM HN3.out,q.fin HN1.out eM HN3.out⟩
   clear HE h hl hs S0 hW0 n1 n3 hX hgl HSET hlj hat he hxb hxk hj had;go_enter Tryz.func50,Tryz.ntmps50
   go_wp2_with (first
    | (rw [<- HW0.out];clear HW0))
   have jc:(j:Int)<=(c2:Int):=by omega
   have jv:IntKind.i64.wrap ((j:Int) + 1)=(j:Int) + 1:=IntWalk.i64_in _ (by omega);have jl0:(0:Int)<=(j:Int) + 1:=by omega
   have jl:(j:Int) + 1<=(N2:Int):=by omega
   have jt:((j:Int) + 1).toNat=j + 1:=by omega
   have hbd:Below W0.heap.size W0 W0.drew:=HB0.out.drew;have HBD:=Lib.hid hbd;clear hbd
   go_region_law (refine jcK _ rfl _ _ 33 rfl lo 82 i0 (.agg #[.int .i64 0,.int .i64 0,.int .i64 0,.int .i64 0]) 4 32 Tryz.underlying33 hi hz0 hz1 hz2 rfl (by decide) (some ⟨g,0,none⟩) j j (jaE jb1 (t.vs.take j)) rfl (HCUT.out _ HBD.out) ad (N2 - (j + 1)) (c2 - (j + 1)) (jaE jb1 (t.vs.drop (j + 1))) rfl HFL.out (HNW.out _ HBD.out) HF1.out (by unfold maxLen;omega) (by omega) (Nat.le_trans HLO.out HBD.out.size) ?_;intro A' c' w' hrow hgrow hwh;obtain ⟨m1,mf⟩:=HMID.out _ hgrow)
   all_goals
    have hq:=HEND.out _ _ _ hrow hgrow hwh;obtain ⟨W1,hW1⟩:∃ W,W=w'.setCell ⟨w.heap.size,1,none⟩ (.slice A' (j + (N2 - (j + 1))) c'):=⟨_,rfl⟩;rw [<- hW1] at hq ⊢;obtain ⟨q1,q2⟩:=hq;have HQ:=Lib.hid q2;clear q2 hW1 hrow hgrow hwh m1 mf HEND HMID HNW;obtain ⟨y0,y1,y2,r0,r1,r2,r3,r4,r5,s0,s1,s2,sf0,sf1,sf2,pf0,pf1⟩:=q1;go_wp2;have hr:=HQ.out;refine bodyPost_ret (jab rfl _ _ (w.heap.size + 1 + 1) _ _ _ _ rfl hr.1 Tryz.underlying35 rfl (by kernel_rfl)) rfl ?_;exact hr.2 0 _ rfl
  ·have H8:jar t ⟨8,ra,rb,rc,rd,key⟩=if rb < xb then (7,t) else (0,{ t with vs:=t.vs.set j { t.vs[j] with base:=rb } }):=by
    show jf3 t ⟨8,ra,rb,rc,rd,key⟩=_;unfold jf3;rw [hat,hxb];show (if rb < t.vs[j].base then _ else _)=_;rw [jcl Vol.id (fun x=>{ x with base:=rb }) hj hs.vup he]
   by_cases cq:rb < xb
   ·have HE:Hid (jar t ⟨8,ra,rb,rc,rd,key⟩=(7,t)):=by show _=_;rw [H8,if_pos cq]
    rw [HE.out];clear HE H8 h hl hs S0 hW0 n1 n2 n3 hX hgl HSET hlj hat he hxb hxk hj;go_enter Tryz.func50,Tryz.ntmps50
    go_wp2_with (first
     | (rw [<- HW0.out];clear HW0))
    have hbx:=HB0.out.drew
    go_region_held3 (fun W=>(W.cell? ⟨g,j * 4 + 3,none⟩=some (.int .i64 xb)/\W.cell? ⟨w.heap.size,1,none⟩=some (.slice (some ⟨g,0,none⟩) N2 c2))/\W.cell? ⟨w.heap.size + 1,2,none⟩=some (.int .i64 rb))
     (exact ⟨⟨(HX.out _ hbx).1.2,(HALL.out _ hbx).2.1⟩,(HALL.out _ hbx).2.2.2.2.2.1⟩)
     (first
      | fail)
    obtain ⟨y0,y1,y2,r0,r1,r2,r3,r4,r5,s0,s1,s2,sf0,sf1,sf2,pf0,pf1⟩:=HALL.out _ hbx;go_wp2;have hr:=HFIN.out _ hbx;refine bodyPost_ret (jab rfl _ _ (w.heap.size + 1 + 1) _ _ _ _ rfl hr.1 Tryz.underlying35 rfl (by kernel_rfl)) rfl ?_;exact hr.2 7 _ rfl
   ·have HE:Hid (jar t ⟨8,ra,rb,rc,rd,key⟩=(0,{ t with vs:=t.vs.set j { t.vs[j] with base:=rb } })):=by show _=_;rw [H8,if_neg cq]
    rw [HE.out];have HSET3:=Lib.hid (HSET.out 3 (.int .i64 rb) { t.vs[j] with base:=rb } (by decide) rfl);obtain ⟨T,hT⟩:∃ T,T=({ t with vs:=t.vs.set j { t.vs[j] with base:=rb } } : Tab):=⟨_,rfl⟩;rw [<- hT] at HSET3 ⊢;clear hT HE H8 h hl hs S0 hW0 n1 n2 n3 hX hgl HSET hlj hat he hxb hxk hj;go_enter Tryz.func50,Tryz.ntmps50
    go_wp2_with (first
     | (rw [<- HW0.out];clear HW0))
    have hbx:=HB0.out.drew
    go_region_held3 (fun W=>(W.cell? ⟨g,j * 4 + 3,none⟩=some (.int .i64 xb)/\W.cell? ⟨w.heap.size,1,none⟩=some (.slice (some ⟨g,0,none⟩) N2 c2))/\W.cell? ⟨w.heap.size + 1,2,none⟩=some (.int .i64 rb))
     (exact ⟨⟨(HX.out _ hbx).1.2,(HALL.out _ hbx).2.1⟩,(HALL.out _ hbx).2.2.2.2.2.1⟩)
     (first
      | fail)
    obtain ⟨Wd,hWd⟩:∃ Wd,Wd=W0.drew:=⟨_,rfl⟩;rw [<- hWd] at hbx ⊢;clear hWd;have HS1:=Lib.hid (HSET3.out _ hbx);obtain ⟨W1,HW1⟩:∃ W,Hid (W=Wd.setCell ⟨g,j * 4 + 3,none⟩ (.int .i64 rb)):=⟨_,rfl⟩;rw [<- HW1.out] at HS1;obtain ⟨y0,y1,y2,r0,r1,r2,r3,r4,r5,s0,s1,s2,sf0,sf1,sf2,pf0,pf1⟩:=HALL.out _ hbx;obtain ⟨⟨x2,x3⟩,f2,f3⟩:=HX.out _ hbx
    go_wp2_with (first
     | (rw [<- HW1.out];clear HW1;obtain ⟨y0,y1,y2,r0,r1,r2,r3,r4,r5,s0,s1,s2,sf0,sf1,sf2,pf0,pf1⟩:=HS1.out.1))
    have hr:=HS1.out.2;refine bodyPost_ret (jab rfl _ _ (w.heap.size + 1 + 1) _ _ _ _ rfl hr.1 Tryz.underlying35 rfl (by kernel_rfl)) rfl ?_;exact hr.2 0 _ rfl
 ·rw [jiQ hlj]
  have HE:Hid (jar t ⟨rk,ra,rb,rc,rd,key⟩=(4,t)):=by
   rcases hk with rfl | rfl | rfl
   ·show jga t _=_;unfold jga;rw [hat]
   ·show jgf t _=_;unfold jgf;rw [hat]
   ·show jf3 t _=_;unfold jf3;rw [hat]
  rw [HE.out];clear HE h hl hs S0 hW0 n1 n2 n3 hlj hat;go_enter Tryz.func50,Tryz.ntmps50
  go_wp2_with (first
   | (rw [<- HW0.out];clear HW0))
  have hr:=HFIN.out _ HB0.out;refine bodyPost_ret (jab rfl _ _ (w.heap.size + 1 + 1) _ _ _ _ rfl hr.1 Tryz.underlying35 rfl (by kernel_rfl)) rfl ?_;exact hr.2 4 _ rfl
end Go.Proofs.YtbnhkplhmanmoaaGreat
