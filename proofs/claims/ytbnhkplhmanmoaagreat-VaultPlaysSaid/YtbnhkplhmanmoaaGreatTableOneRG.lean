/- . -/
import Derived.Test.YtbnhkplhmanmoaaGreatTableByG
import Derived.Test.YtbnhkplhmanmoaaGreatTableTenDG
import Derived.Test.YtbnhkplhmanmoaaGreatTableInsTG
import Derived.Test.YtbnhkplhmanmoaaGreatTableInsVG
import Derived.Test.YtbnhkplhmanmoaaGreatTableC18G
namespace Go.Proofs.YtbnhkplhmanmoaaGreat
open Go.RowKit
set_option maxHeartbeats 6400000
set_option maxRecDepth 20000
abbrev jbn (w X:World) (A1:Option Addr) (N1 c1:Nat) (A2:Option Addr) (N2 c2:Nat) (A3:Option Addr) (N3 c3:Nat) (rk ra rb rc rd:Int) (key:ByteArray):Prop :=
 (X.cell? ⟨w.heap.size,0,none⟩=some (.slice A1 N1 c1)/\X.cell? ⟨w.heap.size,1,none⟩=some (.slice A2 N2 c2)/\X.cell? ⟨w.heap.size,2,none⟩=some (.slice A3 N3 c3)) /\
 X.cell? ⟨w.heap.size + 1,0,none⟩=some (.int .i64 rk)/\X.cell? ⟨w.heap.size + 1,1,none⟩=some (.int .i64 ra)/\X.cell? ⟨w.heap.size + 1,2,none⟩=some (.int .i64 rb)/\X.cell? ⟨w.heap.size + 1,3,none⟩=some (.int .i64 rc)/\X.cell? ⟨w.heap.size + 1,4,none⟩=some (.int .i64 rd)/\X.cell? ⟨w.heap.size + 1,5,none⟩=some (.string key)
theorem jbn.set {w X Z:World} {A1 A2 A3:Option Addr} {N1 c1 N2 c2 N3 c3:Nat} {rk ra rb rc rd:Int} {key:ByteArray} (ha:jaR w X A1 N1 c1 A2 N2 c2 A3 N3 c3 rk ra rb rc rd key) (h0:Z.heap[w.heap.size]? = X.heap[w.heap.size]?) (h1:Z.heap[w.heap.size + 1]? = X.heap[w.heap.size + 1]?):jbn w Z A1 N1 c1 A2 N2 c2 A3 N3 c3 rk ra rb rc rd key:=by
 have c0:∀ i,Z.cell? ⟨w.heap.size,i,none⟩=X.cell? ⟨w.heap.size,i,none⟩:=fun i=>World.cell?_of_block h0
 have c1:∀ i,Z.cell? ⟨w.heap.size + 1,i,none⟩=X.cell? ⟨w.heap.size + 1,i,none⟩:=fun i=>World.cell?_of_block h1
 obtain ⟨k0,k1,k2,k3,k4,k5,k6,k7,k8,_⟩:=ha;unfold jbn;simp only [c0,c1];exact ⟨⟨k0,k1,k2⟩,k3,k4,k5,k6,k7,k8⟩
theorem jcM.all {V:jat} {w X Y:World} {A1 A2 A3:Option Addr} {N1 c1 N2 c2 N3 c3:Nat} {rk ra rb rc rd:Int} {key:ByteArray} (h:jcM V X Y) (hp:∀ b,b=w.heap.size∨b=w.heap.size + 1∨b=w.heap.size + 1 + 1->b < X.heap.size/\¬ jbK V b)
  (ha:jaR w X A1 N1 c1 A2 N2 c2 A3 N3 c3 rk ra rb rc rd key):jaR w Y A1 N1 c1 A2 N2 c2 A3 N3 c3 rk ra rb rc rd key:=by
 have h0:=h _ (hp w.heap.size (.inl rfl)).1 (hp w.heap.size (.inl rfl)).2;have h1:=h _ (hp (w.heap.size + 1) (.inr (.inl rfl))).1 (hp (w.heap.size + 1) (.inr (.inl rfl))).2;have h2:=h _ (hp (w.heap.size + 1 + 1) (.inr (.inr rfl))).1 (hp (w.heap.size + 1 + 1) (.inr (.inr rfl))).2;have c0:∀ i,Y.cell? ⟨w.heap.size,i,none⟩=X.cell? ⟨w.heap.size,i,none⟩:=fun i=>World.cell?_of_block h0
 have c1:∀ i,Y.cell? ⟨w.heap.size + 1,i,none⟩=X.cell? ⟨w.heap.size + 1,i,none⟩:=fun i=>World.cell?_of_block h1
 have c2:∀ i,Y.cell? ⟨w.heap.size + 1 + 1,i,none⟩=X.cell? ⟨w.heap.size + 1 + 1,i,none⟩:=fun i=>World.cell?_of_block h2
 have f0:∀ i,Y.frozen? ⟨w.heap.size,i,none⟩=X.frozen? ⟨w.heap.size,i,none⟩:=fun i=>World.frozen?_of_block h0
 have f2:∀ i,Y.frozen? ⟨w.heap.size + 1 + 1,i,none⟩=X.frozen? ⟨w.heap.size + 1 + 1,i,none⟩:=fun i=>World.frozen?_of_block h2
 unfold jaR at ha ⊢;simp only [c0,c1,c2,f0,f2];exact ha
theorem joY {lo:Nat} {w:World} {t:Tab} (A1:Option Addr) (c1:Nat) (A2:Option Addr) (c2:Nat) (A3:Option Addr) (c3:Nat) (h:jaw lo w ⟨A1,c1,A2,c2,A3,c3⟩ t) (hl:lo<=w.heap.size) (hs:t.sound) (ra rb rc rd:Int) (key:ByteArray) (hf:inR rb 1 64) (V0:jat) (hV0:V0=⟨A1,c1,A2,c2,A3,c3⟩) :
  Calls Tryz.prog 30 #[.agg #[.slice A1 t.ts.length c1,.slice A2 t.vs.length c2,.slice A3 t.os.length c3],.agg #[.int .i64 2,.int .i64 ra,.int .i64 rb,.int .i64 rc,.int .i64 rd,.string key]] w (jcd lo w V0 (jar t ⟨2,ra,rb,rc,rd,key⟩)):=by
 obtain ⟨n1,n2,n3⟩:=jam hs;obtain ⟨W0,hW0,S0⟩:=jaW hV0 h hl 2 ra rb rc rd key;clear hV0;obtain ⟨N1,HN1⟩:∃ N,Hid (t.ts.length=N):=⟨_,rfl⟩;obtain ⟨N2,HN2⟩:∃ N,Hid (t.vs.length=N):=⟨_,rfl⟩;obtain ⟨N3,HN3⟩:∃ N,Hid (t.os.length=N):=⟨_,rfl⟩;have HALL:Hid (∀ X,Below W0.heap.size W0 X->jaR w X A1 N1 c1 A2 N2 c2 A3 N3 c3 2 ra rb rc rd key):=fun X hb=>(S0.later hb).all HN1.out HN2.out HN3.out
 have HFIN:Hid (∀ X,Below W0.heap.size W0 X->ja6 lo w V0 X A1 N1 c1 A2 N2 c2 A3 N3 c3 t):=fun X hb=>(S0.later hb).fin HN1.out HN2.out HN3.out
 have HNOT:Hid (∀ X,Below W0.heap.size W0 X->∀ b,b=w.heap.size∨b=w.heap.size + 1∨b=w.heap.size + 1 + 1->b < X.heap.size/\¬ jbK ⟨A1,c1,A2,c2,A3,c3⟩ b):=fun X hb b hbb=>by
  have S:=S0.later hb;have l0:=S.bx.lt;have l1:=(Array.getElem?_eq_some_iff.1 S.chg).1;have l2:=(Array.getElem?_eq_some_iff.1 S.res).1;refine ⟨by omega,fun hin=>?_⟩;have f:=S.far b hin;rcases hbb with rfl | rfl | rfl
  ·rcases hin with q | q | q
   ·exact S.bx.p1 _ q rfl
   ·exact S.bx.p2 _ q rfl
   ·exact S.bx.p3 _ q rfl
  ·exact f.1 rfl
  ·exact f.2 rfl
 have HKEEP:Hid (∀ X Y,Below W0.heap.size W0 X->jcM ⟨A1,c1,A2,c2,A3,c3⟩ X Y->jaR w Y A1 N1 c1 A2 N2 c2 A3 N3 c3 2 ra rb rc rd key):=fun X Y hb hk=>hk.all (HNOT.out X hb) (HALL.out X hb)
 have HEND:Hid (∀ X Y B1 d1 B2 d2 B3 d3 T,Below W0.heap.size W0 X->jcM ⟨A1,c1,A2,c2,A3,c3⟩ X Y->jaw lo Y ⟨B1,d1,B2,d2,B3,d3⟩ T->Below lo X Y->jdi ⟨A1,c1,A2,c2,A3,c3⟩ X ⟨B1,d1,B2,d2,B3,d3⟩->ja6 lo w V0 Y B1 T.ts.length d1 B2 T.vs.length d2 B3 T.os.length d3 T/\jbn w (((Y.setCell ⟨w.heap.size + 1 + 1,0,none⟩ (.slice B1 T.ts.length d1)).setCell ⟨w.heap.size + 1 + 1,1,none⟩ (.slice B2 T.vs.length d2)).setCell ⟨w.heap.size + 1 + 1,2,none⟩ (.slice B3 T.os.length d3)) A1 N1 c1 A2 N2 c2 A3 N3 c3 2 ra rb rc rd key):=fun X Y B1 d1 B2 d2 B3 d3 T hb hk hr hbl hf=>by
  have S:=S0.later hb;have hn:=HNOT.out X hb;have hres:Y.heap[w.heap.size + 1 + 1]? = some (.cells #[.slice none 0 0,.slice none 0 0,.slice none 0 0] 35 (0,0)):=(hk _ (hn _ (.inr (.inr rfl))).1 (hn _ (.inr (.inr rfl))).2).trans S.res;obtain ⟨q1,q2⟩:=jd4 (.slice B1 T.ts.length d1) (.slice B2 T.vs.length d2) (.slice B3 T.os.length d3) hres
  have hne:∀ b,jbK ⟨B1,d1,B2,d2,B3,d3⟩ b->b≠w.heap.size + 1 + 1:=fun b hb2 e=>by
   rcases hf b hb2 with q | q
   ·subst e;exact (hn _ (.inr (.inr rfl))).2 q
   ·have:=(hn _ (.inr (.inr rfl))).1;omega
  refine ⟨⟨q1,fun c e he=>⟨⟨B1,d1,B2,d2,B3,d3⟩,he,?_,?_,?_,?_⟩⟩,jbn.set (HKEEP.out X Y hb hk) (q2.block _ (Nat.lt_of_lt_of_le (hn _ (.inl rfl)).1 hbl.size) (fun e=>by injection e with e;omega)) (q2.block _ (Nat.lt_of_lt_of_le (hn _ (.inr (.inl rfl))).1 hbl.size) (fun e=>by injection e with e;omega))⟩
  ·refine hr.grown q2 (fun b hb e=>?_) (fun b hb e=>?_) (fun b hb e=>?_)
   ·injection e with e;exact hne b (.inl hb) e.symm
   ·injection e with e;exact hne b (.inr (.inl hb)) e.symm
   ·injection e with e;exact hne b (.inr (.inr hb)) e.symm
  ·have hwl:=S.lo_p;exact jae (S.below.trans hbl) q2 (Nat.le_trans S.lo_le hbl.size) (by omega)
  ·intro b hb2 hn2;have hbX:=Nat.lt_of_lt_of_le hb2 S.below.size;refine (q2.block b (Nat.lt_of_lt_of_le hbX hbl.size) (fun e=>by injection e with e;omega)).trans ((hk b hbX fun q=>?_).trans (S.kept b hb2 hn2));rcases S.fresh b q with q | q
   ·exact hn2 q
   ·omega
  ·intro b hb2;rcases hf b hb2 with q | q
   ·exact S.fresh b q
   ·exact .inr (Nat.le_trans S.below.size q)
 have HLK:Hid (∀ X,Below W0.heap.size W0 X->Calls Tryz.prog 46 #[.agg #[.slice A1 N1 c1,.slice A2 N2 c2,.slice A3 N3 c3],.int .i64 ra] X fun e w'=>e=.returned (.int .i64 (jdI t.ts ra))/\Below X.heap.size X w'):=fun X hb=>by
  have q:=jb5 ⟨A1,c1,A2,c2,A3,c3⟩ t ra X (S0.later hb).bx.tab (by omega);unfold jan at q
  rwa [HN1.out,HN2.out,HN3.out] at q
 have HCA:Hid (∀ X,Below W0.heap.size W0 X->Calls Tryz.prog 48 #[.agg #[.slice A1 N1 c1,.slice A2 N2 c2,.slice A3 N3 c3],.agg #[.int .i64 2,.int .i64 ra,.int .i64 rb,.int .i64 rc,.int .i64 rd,.string key],.int .i64 (jdI t.ts ra)] X fun e w'=>∃ B1 d1 B2 d2 B3 d3,e=.returned (.tuple #[.agg #[.slice B1 (jar t ⟨2,ra,rb,rc,rd,key⟩).2.ts.length d1,.slice B2 (jar t ⟨2,ra,rb,rc,rd,key⟩).2.vs.length d2,.slice B3 (jar t ⟨2,ra,rb,rc,rd,key⟩).2.os.length d3],.int .i64 (jar t ⟨2,ra,rb,rc,rd,key⟩).1]) /\
   jaR w w' A1 N1 c1 A2 N2 c2 A3 N3 c3 2 ra rb rc rd key/\ja6 lo w V0 w' B1 (jar t ⟨2,ra,rb,rc,rd,key⟩).2.ts.length d1 B2 (jar t ⟨2,ra,rb,rc,rd,key⟩).2.vs.length d2 B3 (jar t ⟨2,ra,rb,rc,rd,key⟩).2.os.length d3 (jar t ⟨2,ra,rb,rc,rd,key⟩).2/\jbn w (((w'.setCell ⟨w.heap.size + 1 + 1,0,none⟩ (.slice B1 (jar t ⟨2,ra,rb,rc,rd,key⟩).2.ts.length d1)).setCell ⟨w.heap.size + 1 + 1,1,none⟩ (.slice B2 (jar t ⟨2,ra,rb,rc,rd,key⟩).2.vs.length d2)).setCell ⟨w.heap.size + 1 + 1,2,none⟩ (.slice B3 (jar t ⟨2,ra,rb,rc,rd,key⟩).2.os.length d3)) A1 N1 c1 A2 N2 c2 A3 N3 c3 2 ra rb rc rd key):=fun X hb=>by
  have S:=S0.later hb;have q:=ji5 (w:=X) A1 c1 A2 c2 A3 c3 S.bx.rows S.lo_le hs ra rb rc rd key hf _ rfl;rw [HN1.out,HN2.out,HN3.out] at q;refine Calls.mono q fun e w' h=>?_
  obtain ⟨⟨B1,d1,B2,d2,B3,d3⟩,he,hr,hbl,hk,hf⟩:=h;exact ⟨B1,d1,B2,d2,B3,d3,he,HKEEP.out X w' hb hk,HEND.out X w' B1 d1 B2 d2 B3 d3 _ hb hk hr hbl hf⟩
 obtain ⟨R,hR⟩:∃ R,R=jar t ⟨2,ra,rb,rc,rd,key⟩:=⟨_,rfl⟩;simp only [<- hR] at HCA ⊢;obtain ⟨L1,hL1⟩:∃ N,N=R.2.ts.length:=⟨_,rfl⟩;obtain ⟨L2,hL2⟩:∃ N,N=R.2.vs.length:=⟨_,rfl⟩;obtain ⟨L3,hL3⟩:∃ N,N=R.2.os.length:=⟨_,rfl⟩;simp only [<- hL1,<- hL2,<- hL3] at HCA;obtain ⟨ix,hix⟩:∃ i,i=jdI t.ts ra:=⟨_,rfl⟩;simp only [<- hix] at HCA HLK;rw [HN1.out,HN2.out,HN3.out] at hW0 ⊢;have HW0:=Lib.hid hW0;obtain ⟨y0,y1,y2,r0,r1,r2,r3,r4,r5,s0,s1,s2,sf0,sf1,sf2,pf0,pf1⟩:=HALL.out W0 (Below.refl _ _);have HB0:Hid (Below W0.heap.size W0 W0):=Below.refl _ _;clear h hl hs hf S0 hW0 n1 n2 n3 hR hL1 hL2 hL3 hix HKEEP HEND HNOT;go_enter Tryz.func30,Tryz.ntmps30
 go_wp2_with (first
  | (rw [<- HW0.out];clear HW0))
 have hbx:=HB0.out.drew;have hgx:=HALL.out _ hbx
 go_region_held3 (fun W=>(W.cell? ⟨w.heap.size,0,none⟩=some (.slice A1 N1 c1)/\W.cell? ⟨w.heap.size,1,none⟩=some (.slice A2 N2 c2)/\W.cell? ⟨w.heap.size,2,none⟩=some (.slice A3 N3 c3))/\W.cell? ⟨w.heap.size + 1,0,none⟩=some (.int .i64 2)/\W.cell? ⟨w.heap.size + 1,1,none⟩=some (.int .i64 ra)/\W.cell? ⟨w.heap.size + 1,2,none⟩=some (.int .i64 rb)/\W.cell? ⟨w.heap.size + 1,3,none⟩=some (.int .i64 rc)/\W.cell? ⟨w.heap.size + 1,4,none⟩=some (.int .i64 rd)/\W.cell? ⟨w.heap.size + 1,5,none⟩=some (.string key))
  (first | exact ⟨⟨hgx.1,hgx.2.1,hgx.2.2.1⟩,hgx.2.2.2.1,hgx.2.2.2.2.1,hgx.2.2.2.2.2.1,hgx.2.2.2.2.2.2.1,hgx.2.2.2.2.2.2.2.1,hgx.2.2.2.2.2.2.2.2.1⟩ | exact hnx)
  (first
   | (go_at_call 46;with_reducible (refine Calls.mono (HLK.out _ hbx) ?_);rintro e w3 ⟨rfl,hb3⟩;have hbx:=jaa hbx hb3;have hgx:=HALL.out _ hbx)
   | (go_at_call 48;with_reducible (refine Calls.mono (HCA.out _ hbx) ?_);rintro e w4 ⟨B1,d1,B2,d2,B3,d3,rfl,hgx,hfx,hnx⟩;have hgz:=hgx;obtain ⟨_,_,_,_,_,_,_,_,_,s0,s1,s2,sf0,sf1,sf2,_,_⟩:=hgz)
   | fail)
 go_wp2;have hr:=hfx;refine bodyPost_ret (jab rfl _ _ (w.heap.size + 1 + 1) _ _ _ _ rfl hr.1 Tryz.underlying35 rfl (by kernel_rfl)) rfl ?_;exact hr.2 _ _ rfl
theorem jpd {lo:Nat} {w:World} {t:Tab} (A1:Option Addr) (c1:Nat) (A2:Option Addr) (c2:Nat) (A3:Option Addr) (c3:Nat) (h:jaw lo w ⟨A1,c1,A2,c2,A3,c3⟩ t) (hl:lo<=w.heap.size) (hs:t.sound) (ra rb rc rd:Int) (key:ByteArray) (V0:jat) (hV0:V0=⟨A1,c1,A2,c2,A3,c3⟩) :
  Calls Tryz.prog 30 #[.agg #[.slice A1 t.ts.length c1,.slice A2 t.vs.length c2,.slice A3 t.os.length c3],.agg #[.int .i64 3,.int .i64 ra,.int .i64 rb,.int .i64 rc,.int .i64 rd,.string key]] w (jcd lo w V0 (jar t ⟨3,ra,rb,rc,rd,key⟩)):=by
 obtain ⟨n1,n2,n3⟩:=jam hs;obtain ⟨W0,hW0,S0⟩:=jaW hV0 h hl 3 ra rb rc rd key;clear hV0;obtain ⟨N1,HN1⟩:∃ N,Hid (t.ts.length=N):=⟨_,rfl⟩;obtain ⟨N2,HN2⟩:∃ N,Hid (t.vs.length=N):=⟨_,rfl⟩;obtain ⟨N3,HN3⟩:∃ N,Hid (t.os.length=N):=⟨_,rfl⟩;have HALL:Hid (∀ X,Below W0.heap.size W0 X->jaR w X A1 N1 c1 A2 N2 c2 A3 N3 c3 3 ra rb rc rd key):=fun X hb=>(S0.later hb).all HN1.out HN2.out HN3.out
 have HFIN:Hid (∀ X,Below W0.heap.size W0 X->ja6 lo w V0 X A1 N1 c1 A2 N2 c2 A3 N3 c3 t):=fun X hb=>(S0.later hb).fin HN1.out HN2.out HN3.out
 have HNOT:Hid (∀ X,Below W0.heap.size W0 X->∀ b,b=w.heap.size∨b=w.heap.size + 1∨b=w.heap.size + 1 + 1->b < X.heap.size/\¬ jbK ⟨A1,c1,A2,c2,A3,c3⟩ b):=fun X hb b hbb=>by
  have S:=S0.later hb;have l0:=S.bx.lt;have l1:=(Array.getElem?_eq_some_iff.1 S.chg).1;have l2:=(Array.getElem?_eq_some_iff.1 S.res).1;refine ⟨by omega,fun hin=>?_⟩;have f:=S.far b hin;rcases hbb with rfl | rfl | rfl
  ·rcases hin with q | q | q
   ·exact S.bx.p1 _ q rfl
   ·exact S.bx.p2 _ q rfl
   ·exact S.bx.p3 _ q rfl
  ·exact f.1 rfl
  ·exact f.2 rfl
 have HKEEP:Hid (∀ X Y,Below W0.heap.size W0 X->jcM ⟨A1,c1,A2,c2,A3,c3⟩ X Y->jaR w Y A1 N1 c1 A2 N2 c2 A3 N3 c3 3 ra rb rc rd key):=fun X Y hb hk=>hk.all (HNOT.out X hb) (HALL.out X hb)
 have HEND:Hid (∀ X Y B1 d1 B2 d2 B3 d3 T,Below W0.heap.size W0 X->jcM ⟨A1,c1,A2,c2,A3,c3⟩ X Y->jaw lo Y ⟨B1,d1,B2,d2,B3,d3⟩ T->Below lo X Y->jdi ⟨A1,c1,A2,c2,A3,c3⟩ X ⟨B1,d1,B2,d2,B3,d3⟩->ja6 lo w V0 Y B1 T.ts.length d1 B2 T.vs.length d2 B3 T.os.length d3 T/\jbn w (((Y.setCell ⟨w.heap.size + 1 + 1,0,none⟩ (.slice B1 T.ts.length d1)).setCell ⟨w.heap.size + 1 + 1,1,none⟩ (.slice B2 T.vs.length d2)).setCell ⟨w.heap.size + 1 + 1,2,none⟩ (.slice B3 T.os.length d3)) A1 N1 c1 A2 N2 c2 A3 N3 c3 3 ra rb rc rd key):=fun X Y B1 d1 B2 d2 B3 d3 T hb hk hr hbl hf=>by
  have S:=S0.later hb;have hn:=HNOT.out X hb;have hres:Y.heap[w.heap.size + 1 + 1]? = some (.cells #[.slice none 0 0,.slice none 0 0,.slice none 0 0] 35 (0,0)):=(hk _ (hn _ (.inr (.inr rfl))).1 (hn _ (.inr (.inr rfl))).2).trans S.res;obtain ⟨q1,q2⟩:=jd4 (.slice B1 T.ts.length d1) (.slice B2 T.vs.length d2) (.slice B3 T.os.length d3) hres
  have hne:∀ b,jbK ⟨B1,d1,B2,d2,B3,d3⟩ b->b≠w.heap.size + 1 + 1:=fun b hb2 e=>by
   rcases hf b hb2 with q | q
   ·subst e;exact (hn _ (.inr (.inr rfl))).2 q
   ·have:=(hn _ (.inr (.inr rfl))).1;omega
  refine ⟨⟨q1,fun c e he=>⟨⟨B1,d1,B2,d2,B3,d3⟩,he,?_,?_,?_,?_⟩⟩,jbn.set (HKEEP.out X Y hb hk) (q2.block _ (Nat.lt_of_lt_of_le (hn _ (.inl rfl)).1 hbl.size) (fun e=>by injection e with e;omega)) (q2.block _ (Nat.lt_of_lt_of_le (hn _ (.inr (.inl rfl))).1 hbl.size) (fun e=>by injection e with e;omega))⟩
  ·refine hr.grown q2 (fun b hb e=>?_) (fun b hb e=>?_) (fun b hb e=>?_)
   ·injection e with e;exact hne b (.inl hb) e.symm
   ·injection e with e;exact hne b (.inr (.inl hb)) e.symm
   ·injection e with e;exact hne b (.inr (.inr hb)) e.symm
  ·have hwl:=S.lo_p;exact jae (S.below.trans hbl) q2 (Nat.le_trans S.lo_le hbl.size) (by omega)
  ·intro b hb2 hn2;have hbX:=Nat.lt_of_lt_of_le hb2 S.below.size;refine (q2.block b (Nat.lt_of_lt_of_le hbX hbl.size) (fun e=>by injection e with e;omega)).trans ((hk b hbX fun q=>?_).trans (S.kept b hb2 hn2));rcases S.fresh b q with q | q
   ·exact hn2 q
   ·omega
  ·intro b hb2;rcases hf b hb2 with q | q
   ·exact S.fresh b q
   ·exact .inr (Nat.le_trans S.below.size q)
 have HLK:Hid (∀ X,Below W0.heap.size W0 X->Calls Tryz.prog 46 #[.agg #[.slice A1 N1 c1,.slice A2 N2 c2,.slice A3 N3 c3],.int .i64 ra] X fun e w'=>e=.returned (.int .i64 (jdI t.ts ra))/\Below X.heap.size X w'):=fun X hb=>by
  have q:=jb5 ⟨A1,c1,A2,c2,A3,c3⟩ t ra X (S0.later hb).bx.tab (by omega);unfold jan at q
  rwa [HN1.out,HN2.out,HN3.out] at q
 have HCA:Hid (∀ X,Below W0.heap.size W0 X->Calls Tryz.prog 48 #[.agg #[.slice A1 N1 c1,.slice A2 N2 c2,.slice A3 N3 c3],.agg #[.int .i64 3,.int .i64 ra,.int .i64 rb,.int .i64 rc,.int .i64 rd,.string key],.int .i64 (jdI t.ts ra)] X fun e w'=>∃ B1 d1 B2 d2 B3 d3,e=.returned (.tuple #[.agg #[.slice B1 (jar t ⟨3,ra,rb,rc,rd,key⟩).2.ts.length d1,.slice B2 (jar t ⟨3,ra,rb,rc,rd,key⟩).2.vs.length d2,.slice B3 (jar t ⟨3,ra,rb,rc,rd,key⟩).2.os.length d3],.int .i64 (jar t ⟨3,ra,rb,rc,rd,key⟩).1]) /\
   jaR w w' A1 N1 c1 A2 N2 c2 A3 N3 c3 3 ra rb rc rd key/\ja6 lo w V0 w' B1 (jar t ⟨3,ra,rb,rc,rd,key⟩).2.ts.length d1 B2 (jar t ⟨3,ra,rb,rc,rd,key⟩).2.vs.length d2 B3 (jar t ⟨3,ra,rb,rc,rd,key⟩).2.os.length d3 (jar t ⟨3,ra,rb,rc,rd,key⟩).2/\jbn w (((w'.setCell ⟨w.heap.size + 1 + 1,0,none⟩ (.slice B1 (jar t ⟨3,ra,rb,rc,rd,key⟩).2.ts.length d1)).setCell ⟨w.heap.size + 1 + 1,1,none⟩ (.slice B2 (jar t ⟨3,ra,rb,rc,rd,key⟩).2.vs.length d2)).setCell ⟨w.heap.size + 1 + 1,2,none⟩ (.slice B3 (jar t ⟨3,ra,rb,rc,rd,key⟩).2.os.length d3)) A1 N1 c1 A2 N2 c2 A3 N3 c3 3 ra rb rc rd key):=fun X hb=>by
  have S:=S0.later hb;have q:=jiM (w:=X) A1 c1 A2 c2 A3 c3 S.bx.rows S.lo_le hs ra rb rc rd key _ rfl;rw [HN1.out,HN2.out,HN3.out] at q;refine Calls.mono q fun e w' h=>?_
  obtain ⟨⟨B1,d1,B2,d2,B3,d3⟩,he,hr,hbl,hk,hf⟩:=h;exact ⟨B1,d1,B2,d2,B3,d3,he,HKEEP.out X w' hb hk,HEND.out X w' B1 d1 B2 d2 B3 d3 _ hb hk hr hbl hf⟩
 obtain ⟨R,hR⟩:∃ R,R=jar t ⟨3,ra,rb,rc,rd,key⟩:=⟨_,rfl⟩;simp only [<- hR] at HCA ⊢;obtain ⟨L1,hL1⟩:∃ N,N=R.2.ts.length:=⟨_,rfl⟩;obtain ⟨L2,hL2⟩:∃ N,N=R.2.vs.length:=⟨_,rfl⟩;obtain ⟨L3,hL3⟩:∃ N,N=R.2.os.length:=⟨_,rfl⟩;simp only [<- hL1,<- hL2,<- hL3] at HCA;obtain ⟨ix,hix⟩:∃ i,i=jdI t.ts ra:=⟨_,rfl⟩;simp only [<- hix] at HCA HLK;rw [HN1.out,HN2.out,HN3.out] at hW0 ⊢;have HW0:=Lib.hid hW0;obtain ⟨y0,y1,y2,r0,r1,r2,r3,r4,r5,s0,s1,s2,sf0,sf1,sf2,pf0,pf1⟩:=HALL.out W0 (Below.refl _ _);have HB0:Hid (Below W0.heap.size W0 W0):=Below.refl _ _;clear h hl hs S0 hW0 n1 n2 n3 hR hL1 hL2 hL3 hix HKEEP HEND HNOT;go_enter Tryz.func30,Tryz.ntmps30
 go_wp2_with (first
  | (rw [<- HW0.out];clear HW0))
 have hbx:=HB0.out.drew;have hgx:=HALL.out _ hbx
 go_region_held3 (fun W=>(W.cell? ⟨w.heap.size,0,none⟩=some (.slice A1 N1 c1)/\W.cell? ⟨w.heap.size,1,none⟩=some (.slice A2 N2 c2)/\W.cell? ⟨w.heap.size,2,none⟩=some (.slice A3 N3 c3))/\W.cell? ⟨w.heap.size + 1,0,none⟩=some (.int .i64 3)/\W.cell? ⟨w.heap.size + 1,1,none⟩=some (.int .i64 ra)/\W.cell? ⟨w.heap.size + 1,2,none⟩=some (.int .i64 rb)/\W.cell? ⟨w.heap.size + 1,3,none⟩=some (.int .i64 rc)/\W.cell? ⟨w.heap.size + 1,4,none⟩=some (.int .i64 rd)/\W.cell? ⟨w.heap.size + 1,5,none⟩=some (.string key))
  (first | exact ⟨⟨hgx.1,hgx.2.1,hgx.2.2.1⟩,hgx.2.2.2.1,hgx.2.2.2.2.1,hgx.2.2.2.2.2.1,hgx.2.2.2.2.2.2.1,hgx.2.2.2.2.2.2.2.1,hgx.2.2.2.2.2.2.2.2.1⟩ | exact hnx)
  (first
   | (go_at_call 46;with_reducible (refine Calls.mono (HLK.out _ hbx) ?_);rintro e w3 ⟨rfl,hb3⟩;have hbx:=jaa hbx hb3;have hgx:=HALL.out _ hbx)
   | (go_at_call 48;with_reducible (refine Calls.mono (HCA.out _ hbx) ?_);rintro e w4 ⟨B1,d1,B2,d2,B3,d3,rfl,hgx,hfx,hnx⟩;have hgz:=hgx;obtain ⟨_,_,_,_,_,_,_,_,_,s0,s1,s2,sf0,sf1,sf2,_,_⟩:=hgz)
   | fail)
 go_wp2;have hr:=hfx;refine bodyPost_ret (jab rfl _ _ (w.heap.size + 1 + 1) _ _ _ _ rfl hr.1 Tryz.underlying35 rfl (by kernel_rfl)) rfl ?_;exact hr.2 _ _ rfl
theorem jpf {lo:Nat} {w:World} {t:Tab} (A1:Option Addr) (c1:Nat) (A2:Option Addr) (c2:Nat) (A3:Option Addr) (c3:Nat) (h:jaw lo w ⟨A1,c1,A2,c2,A3,c3⟩ t) (hl:lo<=w.heap.size) (hs:t.sound) (ra rb rc rd:Int) (key:ByteArray) (V0:jat) (hV0:V0=⟨A1,c1,A2,c2,A3,c3⟩) :
  Calls Tryz.prog 30 #[.agg #[.slice A1 t.ts.length c1,.slice A2 t.vs.length c2,.slice A3 t.os.length c3],.agg #[.int .i64 4,.int .i64 ra,.int .i64 rb,.int .i64 rc,.int .i64 rd,.string key]] w (jcd lo w V0 (jar t ⟨4,ra,rb,rc,rd,key⟩)):=by
 obtain ⟨n1,n2,n3⟩:=jam hs;obtain ⟨W0,hW0,S0⟩:=jaW hV0 h hl 4 ra rb rc rd key;clear hV0;obtain ⟨N1,HN1⟩:∃ N,Hid (t.ts.length=N):=⟨_,rfl⟩;obtain ⟨N2,HN2⟩:∃ N,Hid (t.vs.length=N):=⟨_,rfl⟩;obtain ⟨N3,HN3⟩:∃ N,Hid (t.os.length=N):=⟨_,rfl⟩;have HALL:Hid (∀ X,Below W0.heap.size W0 X->jaR w X A1 N1 c1 A2 N2 c2 A3 N3 c3 4 ra rb rc rd key):=fun X hb=>(S0.later hb).all HN1.out HN2.out HN3.out
 have HFIN:Hid (∀ X,Below W0.heap.size W0 X->ja6 lo w V0 X A1 N1 c1 A2 N2 c2 A3 N3 c3 t):=fun X hb=>(S0.later hb).fin HN1.out HN2.out HN3.out
 have HNOT:Hid (∀ X,Below W0.heap.size W0 X->∀ b,b=w.heap.size∨b=w.heap.size + 1∨b=w.heap.size + 1 + 1->b < X.heap.size/\¬ jbK ⟨A1,c1,A2,c2,A3,c3⟩ b):=fun X hb b hbb=>by
  have S:=S0.later hb;have l0:=S.bx.lt;have l1:=(Array.getElem?_eq_some_iff.1 S.chg).1;have l2:=(Array.getElem?_eq_some_iff.1 S.res).1;refine ⟨by omega,fun hin=>?_⟩;have f:=S.far b hin;rcases hbb with rfl | rfl | rfl
  ·rcases hin with q | q | q
   ·exact S.bx.p1 _ q rfl
   ·exact S.bx.p2 _ q rfl
   ·exact S.bx.p3 _ q rfl
  ·exact f.1 rfl
  ·exact f.2 rfl
 have HKEEP:Hid (∀ X Y,Below W0.heap.size W0 X->jcM ⟨A1,c1,A2,c2,A3,c3⟩ X Y->jaR w Y A1 N1 c1 A2 N2 c2 A3 N3 c3 4 ra rb rc rd key):=fun X Y hb hk=>hk.all (HNOT.out X hb) (HALL.out X hb)
 have HEND:Hid (∀ X Y B1 d1 B2 d2 B3 d3 T,Below W0.heap.size W0 X->jcM ⟨A1,c1,A2,c2,A3,c3⟩ X Y->jaw lo Y ⟨B1,d1,B2,d2,B3,d3⟩ T->Below lo X Y->jdi ⟨A1,c1,A2,c2,A3,c3⟩ X ⟨B1,d1,B2,d2,B3,d3⟩->ja6 lo w V0 Y B1 T.ts.length d1 B2 T.vs.length d2 B3 T.os.length d3 T/\jbn w (((Y.setCell ⟨w.heap.size + 1 + 1,0,none⟩ (.slice B1 T.ts.length d1)).setCell ⟨w.heap.size + 1 + 1,1,none⟩ (.slice B2 T.vs.length d2)).setCell ⟨w.heap.size + 1 + 1,2,none⟩ (.slice B3 T.os.length d3)) A1 N1 c1 A2 N2 c2 A3 N3 c3 4 ra rb rc rd key):=fun X Y B1 d1 B2 d2 B3 d3 T hb hk hr hbl hf=>by
  have S:=S0.later hb;have hn:=HNOT.out X hb;have hres:Y.heap[w.heap.size + 1 + 1]? = some (.cells #[.slice none 0 0,.slice none 0 0,.slice none 0 0] 35 (0,0)):=(hk _ (hn _ (.inr (.inr rfl))).1 (hn _ (.inr (.inr rfl))).2).trans S.res;obtain ⟨q1,q2⟩:=jd4 (.slice B1 T.ts.length d1) (.slice B2 T.vs.length d2) (.slice B3 T.os.length d3) hres
  have hne:∀ b,jbK ⟨B1,d1,B2,d2,B3,d3⟩ b->b≠w.heap.size + 1 + 1:=fun b hb2 e=>by
   rcases hf b hb2 with q | q
   ·subst e;exact (hn _ (.inr (.inr rfl))).2 q
   ·have:=(hn _ (.inr (.inr rfl))).1;omega
  refine ⟨⟨q1,fun c e he=>⟨⟨B1,d1,B2,d2,B3,d3⟩,he,?_,?_,?_,?_⟩⟩,jbn.set (HKEEP.out X Y hb hk) (q2.block _ (Nat.lt_of_lt_of_le (hn _ (.inl rfl)).1 hbl.size) (fun e=>by injection e with e;omega)) (q2.block _ (Nat.lt_of_lt_of_le (hn _ (.inr (.inl rfl))).1 hbl.size) (fun e=>by injection e with e;omega))⟩
  ·refine hr.grown q2 (fun b hb e=>?_) (fun b hb e=>?_) (fun b hb e=>?_)
   ·injection e with e;exact hne b (.inl hb) e.symm
   ·injection e with e;exact hne b (.inr (.inl hb)) e.symm
   ·injection e with e;exact hne b (.inr (.inr hb)) e.symm
  ·have hwl:=S.lo_p;exact jae (S.below.trans hbl) q2 (Nat.le_trans S.lo_le hbl.size) (by omega)
  ·intro b hb2 hn2;have hbX:=Nat.lt_of_lt_of_le hb2 S.below.size;refine (q2.block b (Nat.lt_of_lt_of_le hbX hbl.size) (fun e=>by injection e with e;omega)).trans ((hk b hbX fun q=>?_).trans (S.kept b hb2 hn2));rcases S.fresh b q with q | q
   ·exact hn2 q
   ·omega
  ·intro b hb2;rcases hf b hb2 with q | q
   ·exact S.fresh b q
   ·exact .inr (Nat.le_trans S.below.size q)
 have HLK:Hid (∀ X,Below W0.heap.size W0 X->Calls Tryz.prog 46 #[.agg #[.slice A1 N1 c1,.slice A2 N2 c2,.slice A3 N3 c3],.int .i64 ra] X fun e w'=>e=.returned (.int .i64 (jdI t.ts ra))/\Below X.heap.size X w'):=fun X hb=>by
  have q:=jb5 ⟨A1,c1,A2,c2,A3,c3⟩ t ra X (S0.later hb).bx.tab (by omega);unfold jan at q
  rwa [HN1.out,HN2.out,HN3.out] at q
 have HCA:Hid (∀ X,Below W0.heap.size W0 X->Calls Tryz.prog 48 #[.agg #[.slice A1 N1 c1,.slice A2 N2 c2,.slice A3 N3 c3],.agg #[.int .i64 4,.int .i64 ra,.int .i64 rb,.int .i64 rc,.int .i64 rd,.string key],.int .i64 (jdI t.ts ra)] X fun e w'=>∃ B1 d1 B2 d2 B3 d3,e=.returned (.tuple #[.agg #[.slice B1 (jar t ⟨4,ra,rb,rc,rd,key⟩).2.ts.length d1,.slice B2 (jar t ⟨4,ra,rb,rc,rd,key⟩).2.vs.length d2,.slice B3 (jar t ⟨4,ra,rb,rc,rd,key⟩).2.os.length d3],.int .i64 (jar t ⟨4,ra,rb,rc,rd,key⟩).1]) /\
   jaR w w' A1 N1 c1 A2 N2 c2 A3 N3 c3 4 ra rb rc rd key/\ja6 lo w V0 w' B1 (jar t ⟨4,ra,rb,rc,rd,key⟩).2.ts.length d1 B2 (jar t ⟨4,ra,rb,rc,rd,key⟩).2.vs.length d2 B3 (jar t ⟨4,ra,rb,rc,rd,key⟩).2.os.length d3 (jar t ⟨4,ra,rb,rc,rd,key⟩).2/\jbn w (((w'.setCell ⟨w.heap.size + 1 + 1,0,none⟩ (.slice B1 (jar t ⟨4,ra,rb,rc,rd,key⟩).2.ts.length d1)).setCell ⟨w.heap.size + 1 + 1,1,none⟩ (.slice B2 (jar t ⟨4,ra,rb,rc,rd,key⟩).2.vs.length d2)).setCell ⟨w.heap.size + 1 + 1,2,none⟩ (.slice B3 (jar t ⟨4,ra,rb,rc,rd,key⟩).2.os.length d3)) A1 N1 c1 A2 N2 c2 A3 N3 c3 4 ra rb rc rd key):=fun X hb=>by
  have S:=S0.later hb;have q:=jjn (w:=X) A1 c1 A2 c2 A3 c3 S.bx.rows S.lo_le hs ra rb rc rd key _ rfl;rw [HN1.out,HN2.out,HN3.out] at q;refine Calls.mono q fun e w' h=>?_
  obtain ⟨⟨B1,d1,B2,d2,B3,d3⟩,he,hr,hbl,hk,hf⟩:=h;exact ⟨B1,d1,B2,d2,B3,d3,he,HKEEP.out X w' hb hk,HEND.out X w' B1 d1 B2 d2 B3 d3 _ hb hk hr hbl hf⟩
 obtain ⟨R,hR⟩:∃ R,R=jar t ⟨4,ra,rb,rc,rd,key⟩:=⟨_,rfl⟩;simp only [<- hR] at HCA ⊢;obtain ⟨L1,hL1⟩:∃ N,N=R.2.ts.length:=⟨_,rfl⟩;obtain ⟨L2,hL2⟩:∃ N,N=R.2.vs.length:=⟨_,rfl⟩;obtain ⟨L3,hL3⟩:∃ N,N=R.2.os.length:=⟨_,rfl⟩;simp only [<- hL1,<- hL2,<- hL3] at HCA;obtain ⟨ix,hix⟩:∃ i,i=jdI t.ts ra:=⟨_,rfl⟩;simp only [<- hix] at HCA HLK;rw [HN1.out,HN2.out,HN3.out] at hW0 ⊢;have HW0:=Lib.hid hW0;obtain ⟨y0,y1,y2,r0,r1,r2,r3,r4,r5,s0,s1,s2,sf0,sf1,sf2,pf0,pf1⟩:=HALL.out W0 (Below.refl _ _);have HB0:Hid (Below W0.heap.size W0 W0):=Below.refl _ _;clear h hl hs S0 hW0 n1 n2 n3 hR hL1 hL2 hL3 hix HKEEP HEND HNOT;go_enter Tryz.func30,Tryz.ntmps30
 go_wp2_with (first
  | (rw [<- HW0.out];clear HW0))
 have hbx:=HB0.out.drew;have hgx:=HALL.out _ hbx
 go_region_held3 (fun W=>(W.cell? ⟨w.heap.size,0,none⟩=some (.slice A1 N1 c1)/\W.cell? ⟨w.heap.size,1,none⟩=some (.slice A2 N2 c2)/\W.cell? ⟨w.heap.size,2,none⟩=some (.slice A3 N3 c3))/\W.cell? ⟨w.heap.size + 1,0,none⟩=some (.int .i64 4)/\W.cell? ⟨w.heap.size + 1,1,none⟩=some (.int .i64 ra)/\W.cell? ⟨w.heap.size + 1,2,none⟩=some (.int .i64 rb)/\W.cell? ⟨w.heap.size + 1,3,none⟩=some (.int .i64 rc)/\W.cell? ⟨w.heap.size + 1,4,none⟩=some (.int .i64 rd)/\W.cell? ⟨w.heap.size + 1,5,none⟩=some (.string key))
  (first | exact ⟨⟨hgx.1,hgx.2.1,hgx.2.2.1⟩,hgx.2.2.2.1,hgx.2.2.2.2.1,hgx.2.2.2.2.2.1,hgx.2.2.2.2.2.2.1,hgx.2.2.2.2.2.2.2.1,hgx.2.2.2.2.2.2.2.2.1⟩ | exact hnx)
  (first
   | (go_at_call 46;with_reducible (refine Calls.mono (HLK.out _ hbx) ?_);rintro e w3 ⟨rfl,hb3⟩;have hbx:=jaa hbx hb3;have hgx:=HALL.out _ hbx)
   | (go_at_call 48;with_reducible (refine Calls.mono (HCA.out _ hbx) ?_);rintro e w4 ⟨B1,d1,B2,d2,B3,d3,rfl,hgx,hfx,hnx⟩;have hgz:=hgx;obtain ⟨_,_,_,_,_,_,_,_,_,s0,s1,s2,sf0,sf1,sf2,_,_⟩:=hgz)
   | fail)
 go_wp2;have hr:=hfx;refine bodyPost_ret (jab rfl _ _ (w.heap.size + 1 + 1) _ _ _ _ rfl hr.1 Tryz.underlying35 rfl (by kernel_rfl)) rfl ?_;exact hr.2 _ _ rfl
theorem jo6 {lo:Nat} {w:World} {t:Tab} (A1:Option Addr) (c1:Nat) (A2:Option Addr) (c2:Nat) (A3:Option Addr) (c3:Nat) (h:jaw lo w ⟨A1,c1,A2,c2,A3,c3⟩ t) (hl:lo<=w.heap.size) (hs:t.sound) (ra rb rc rd:Int) (key:ByteArray) (V0:jat) (hV0:V0=⟨A1,c1,A2,c2,A3,c3⟩) :
  Calls Tryz.prog 30 #[.agg #[.slice A1 t.ts.length c1,.slice A2 t.vs.length c2,.slice A3 t.os.length c3],.agg #[.int .i64 6,.int .i64 ra,.int .i64 rb,.int .i64 rc,.int .i64 rd,.string key]] w (jcd lo w V0 (jar t ⟨6,ra,rb,rc,rd,key⟩)):=by
 obtain ⟨n1,n2,n3⟩:=jam hs;obtain ⟨W0,hW0,S0⟩:=jaW hV0 h hl 6 ra rb rc rd key;clear hV0;obtain ⟨N1,HN1⟩:∃ N,Hid (t.ts.length=N):=⟨_,rfl⟩;obtain ⟨N2,HN2⟩:∃ N,Hid (t.vs.length=N):=⟨_,rfl⟩;obtain ⟨N3,HN3⟩:∃ N,Hid (t.os.length=N):=⟨_,rfl⟩;have HALL:Hid (∀ X,Below W0.heap.size W0 X->jaR w X A1 N1 c1 A2 N2 c2 A3 N3 c3 6 ra rb rc rd key):=fun X hb=>(S0.later hb).all HN1.out HN2.out HN3.out
 have HFIN:Hid (∀ X,Below W0.heap.size W0 X->ja6 lo w V0 X A1 N1 c1 A2 N2 c2 A3 N3 c3 t):=fun X hb=>(S0.later hb).fin HN1.out HN2.out HN3.out
 have HNOT:Hid (∀ X,Below W0.heap.size W0 X->∀ b,b=w.heap.size∨b=w.heap.size + 1∨b=w.heap.size + 1 + 1->b < X.heap.size/\¬ jbK ⟨A1,c1,A2,c2,A3,c3⟩ b):=fun X hb b hbb=>by
  have S:=S0.later hb;have l0:=S.bx.lt;have l1:=(Array.getElem?_eq_some_iff.1 S.chg).1;have l2:=(Array.getElem?_eq_some_iff.1 S.res).1;refine ⟨by omega,fun hin=>?_⟩;have f:=S.far b hin;rcases hbb with rfl | rfl | rfl
  ·rcases hin with q | q | q
   ·exact S.bx.p1 _ q rfl
   ·exact S.bx.p2 _ q rfl
   ·exact S.bx.p3 _ q rfl
  ·exact f.1 rfl
  ·exact f.2 rfl
 have HKEEP:Hid (∀ X Y,Below W0.heap.size W0 X->jcM ⟨A1,c1,A2,c2,A3,c3⟩ X Y->jaR w Y A1 N1 c1 A2 N2 c2 A3 N3 c3 6 ra rb rc rd key):=fun X Y hb hk=>hk.all (HNOT.out X hb) (HALL.out X hb)
 have HEND:Hid (∀ X Y B1 d1 B2 d2 B3 d3 T,Below W0.heap.size W0 X->jcM ⟨A1,c1,A2,c2,A3,c3⟩ X Y->jaw lo Y ⟨B1,d1,B2,d2,B3,d3⟩ T->Below lo X Y->jdi ⟨A1,c1,A2,c2,A3,c3⟩ X ⟨B1,d1,B2,d2,B3,d3⟩->ja6 lo w V0 Y B1 T.ts.length d1 B2 T.vs.length d2 B3 T.os.length d3 T/\jbn w (((Y.setCell ⟨w.heap.size + 1 + 1,0,none⟩ (.slice B1 T.ts.length d1)).setCell ⟨w.heap.size + 1 + 1,1,none⟩ (.slice B2 T.vs.length d2)).setCell ⟨w.heap.size + 1 + 1,2,none⟩ (.slice B3 T.os.length d3)) A1 N1 c1 A2 N2 c2 A3 N3 c3 6 ra rb rc rd key):=fun X Y B1 d1 B2 d2 B3 d3 T hb hk hr hbl hf=>by
  have S:=S0.later hb;have hn:=HNOT.out X hb;have hres:Y.heap[w.heap.size + 1 + 1]? = some (.cells #[.slice none 0 0,.slice none 0 0,.slice none 0 0] 35 (0,0)):=(hk _ (hn _ (.inr (.inr rfl))).1 (hn _ (.inr (.inr rfl))).2).trans S.res;obtain ⟨q1,q2⟩:=jd4 (.slice B1 T.ts.length d1) (.slice B2 T.vs.length d2) (.slice B3 T.os.length d3) hres
  have hne:∀ b,jbK ⟨B1,d1,B2,d2,B3,d3⟩ b->b≠w.heap.size + 1 + 1:=fun b hb2 e=>by
   rcases hf b hb2 with q | q
   ·subst e;exact (hn _ (.inr (.inr rfl))).2 q
   ·have:=(hn _ (.inr (.inr rfl))).1;omega
  refine ⟨⟨q1,fun c e he=>⟨⟨B1,d1,B2,d2,B3,d3⟩,he,?_,?_,?_,?_⟩⟩,jbn.set (HKEEP.out X Y hb hk) (q2.block _ (Nat.lt_of_lt_of_le (hn _ (.inl rfl)).1 hbl.size) (fun e=>by injection e with e;omega)) (q2.block _ (Nat.lt_of_lt_of_le (hn _ (.inr (.inl rfl))).1 hbl.size) (fun e=>by injection e with e;omega))⟩
  ·refine hr.grown q2 (fun b hb e=>?_) (fun b hb e=>?_) (fun b hb e=>?_)
   ·injection e with e;exact hne b (.inl hb) e.symm
   ·injection e with e;exact hne b (.inr (.inl hb)) e.symm
   ·injection e with e;exact hne b (.inr (.inr hb)) e.symm
  ·have hwl:=S.lo_p;exact jae (S.below.trans hbl) q2 (Nat.le_trans S.lo_le hbl.size) (by omega)
  ·intro b hb2 hn2;have hbX:=Nat.lt_of_lt_of_le hb2 S.below.size;refine (q2.block b (Nat.lt_of_lt_of_le hbX hbl.size) (fun e=>by injection e with e;omega)).trans ((hk b hbX fun q=>?_).trans (S.kept b hb2 hn2));rcases S.fresh b q with q | q
   ·exact hn2 q
   ·omega
  ·intro b hb2;rcases hf b hb2 with q | q
   ·exact S.fresh b q
   ·exact .inr (Nat.le_trans S.below.size q)
 have HLK:Hid (∀ X,Below W0.heap.size W0 X->Calls Tryz.prog 49 #[.agg #[.slice A1 N1 c1,.slice A2 N2 c2,.slice A3 N3 c3],.int .i64 ra] X fun e w'=>e=.returned (.int .i64 (jhs t.vs ra))/\Below X.heap.size X w'):=fun X hb=>by
  have q:=jdC ⟨A1,c1,A2,c2,A3,c3⟩ t ra X (S0.later hb).bx.tab (by omega);unfold jan at q
  rwa [HN1.out,HN2.out,HN3.out] at q
 have HCA:Hid (∀ X,Below W0.heap.size W0 X->Calls Tryz.prog 50 #[.agg #[.slice A1 N1 c1,.slice A2 N2 c2,.slice A3 N3 c3],.agg #[.int .i64 6,.int .i64 ra,.int .i64 rb,.int .i64 rc,.int .i64 rd,.string key],.int .i64 (jhs t.vs ra)] X fun e w'=>∃ B1 d1 B2 d2 B3 d3,e=.returned (.tuple #[.agg #[.slice B1 (jar t ⟨6,ra,rb,rc,rd,key⟩).2.ts.length d1,.slice B2 (jar t ⟨6,ra,rb,rc,rd,key⟩).2.vs.length d2,.slice B3 (jar t ⟨6,ra,rb,rc,rd,key⟩).2.os.length d3],.int .i64 (jar t ⟨6,ra,rb,rc,rd,key⟩).1]) /\
   jaR w w' A1 N1 c1 A2 N2 c2 A3 N3 c3 6 ra rb rc rd key/\ja6 lo w V0 w' B1 (jar t ⟨6,ra,rb,rc,rd,key⟩).2.ts.length d1 B2 (jar t ⟨6,ra,rb,rc,rd,key⟩).2.vs.length d2 B3 (jar t ⟨6,ra,rb,rc,rd,key⟩).2.os.length d3 (jar t ⟨6,ra,rb,rc,rd,key⟩).2/\jbn w (((w'.setCell ⟨w.heap.size + 1 + 1,0,none⟩ (.slice B1 (jar t ⟨6,ra,rb,rc,rd,key⟩).2.ts.length d1)).setCell ⟨w.heap.size + 1 + 1,1,none⟩ (.slice B2 (jar t ⟨6,ra,rb,rc,rd,key⟩).2.vs.length d2)).setCell ⟨w.heap.size + 1 + 1,2,none⟩ (.slice B3 (jar t ⟨6,ra,rb,rc,rd,key⟩).2.os.length d3)) A1 N1 c1 A2 N2 c2 A3 N3 c3 6 ra rb rc rd key):=fun X hb=>by
  have S:=S0.later hb;have q:=jew (w:=X) A1 c1 A2 c2 A3 c3 S.bx.rows S.lo_le hs 6 ra rb rc rd key (.inl rfl) _ rfl;rw [HN1.out,HN2.out,HN3.out] at q;refine Calls.mono q fun e w' h=>?_
  obtain ⟨⟨B1,d1,B2,d2,B3,d3⟩,he,hr,hbl,hk,hf⟩:=h;exact ⟨B1,d1,B2,d2,B3,d3,he,HKEEP.out X w' hb hk,HEND.out X w' B1 d1 B2 d2 B3 d3 _ hb hk hr hbl hf⟩
 obtain ⟨R,hR⟩:∃ R,R=jar t ⟨6,ra,rb,rc,rd,key⟩:=⟨_,rfl⟩;simp only [<- hR] at HCA ⊢;obtain ⟨L1,hL1⟩:∃ N,N=R.2.ts.length:=⟨_,rfl⟩;obtain ⟨L2,hL2⟩:∃ N,N=R.2.vs.length:=⟨_,rfl⟩;obtain ⟨L3,hL3⟩:∃ N,N=R.2.os.length:=⟨_,rfl⟩;simp only [<- hL1,<- hL2,<- hL3] at HCA;obtain ⟨ix,hix⟩:∃ i,i=jhs t.vs ra:=⟨_,rfl⟩;simp only [<- hix] at HCA HLK;rw [HN1.out,HN2.out,HN3.out] at hW0 ⊢;have HW0:=Lib.hid hW0;obtain ⟨y0,y1,y2,r0,r1,r2,r3,r4,r5,s0,s1,s2,sf0,sf1,sf2,pf0,pf1⟩:=HALL.out W0 (Below.refl _ _);have HB0:Hid (Below W0.heap.size W0 W0):=Below.refl _ _;clear h hl hs S0 hW0 n1 n2 n3 hR hL1 hL2 hL3 hix HKEEP HEND HNOT;go_enter Tryz.func30,Tryz.ntmps30
 go_wp2_with (first
  | (rw [<- HW0.out];clear HW0))
 have hbx:=HB0.out.drew;have hgx:=HALL.out _ hbx
 go_region_held3 (fun W=>(W.cell? ⟨w.heap.size,0,none⟩=some (.slice A1 N1 c1)/\W.cell? ⟨w.heap.size,1,none⟩=some (.slice A2 N2 c2)/\W.cell? ⟨w.heap.size,2,none⟩=some (.slice A3 N3 c3))/\W.cell? ⟨w.heap.size + 1,0,none⟩=some (.int .i64 6)/\W.cell? ⟨w.heap.size + 1,1,none⟩=some (.int .i64 ra)/\W.cell? ⟨w.heap.size + 1,2,none⟩=some (.int .i64 rb)/\W.cell? ⟨w.heap.size + 1,3,none⟩=some (.int .i64 rc)/\W.cell? ⟨w.heap.size + 1,4,none⟩=some (.int .i64 rd)/\W.cell? ⟨w.heap.size + 1,5,none⟩=some (.string key))
  (first | exact ⟨⟨hgx.1,hgx.2.1,hgx.2.2.1⟩,hgx.2.2.2.1,hgx.2.2.2.2.1,hgx.2.2.2.2.2.1,hgx.2.2.2.2.2.2.1,hgx.2.2.2.2.2.2.2.1,hgx.2.2.2.2.2.2.2.2.1⟩ | exact hnx)
  (first
   | (go_at_call 49;with_reducible (refine Calls.mono (HLK.out _ hbx) ?_);rintro e w3 ⟨rfl,hb3⟩;have hbx:=jaa hbx hb3;have hgx:=HALL.out _ hbx)
   | (go_at_call 50;with_reducible (refine Calls.mono (HCA.out _ hbx) ?_);rintro e w4 ⟨B1,d1,B2,d2,B3,d3,rfl,hgx,hfx,hnx⟩;have hgz:=hgx;obtain ⟨_,_,_,_,_,_,_,_,_,s0,s1,s2,sf0,sf1,sf2,_,_⟩:=hgz)
   | fail)
 go_wp2;have hr:=hfx;refine bodyPost_ret (jab rfl _ _ (w.heap.size + 1 + 1) _ _ _ _ rfl hr.1 Tryz.underlying35 rfl (by kernel_rfl)) rfl ?_;exact hr.2 _ _ rfl
theorem jo0 {lo:Nat} {w:World} {t:Tab} (A1:Option Addr) (c1:Nat) (A2:Option Addr) (c2:Nat) (A3:Option Addr) (c3:Nat) (h:jaw lo w ⟨A1,c1,A2,c2,A3,c3⟩ t) (hl:lo<=w.heap.size) (hs:t.sound) (ra rb rc rd:Int) (key:ByteArray) (V0:jat) (hV0:V0=⟨A1,c1,A2,c2,A3,c3⟩) :
  Calls Tryz.prog 30 #[.agg #[.slice A1 t.ts.length c1,.slice A2 t.vs.length c2,.slice A3 t.os.length c3],.agg #[.int .i64 7,.int .i64 ra,.int .i64 rb,.int .i64 rc,.int .i64 rd,.string key]] w (jcd lo w V0 (jar t ⟨7,ra,rb,rc,rd,key⟩)):=by
 obtain ⟨n1,n2,n3⟩:=jam hs;obtain ⟨W0,hW0,S0⟩:=jaW hV0 h hl 7 ra rb rc rd key;clear hV0;obtain ⟨N1,HN1⟩:∃ N,Hid (t.ts.length=N):=⟨_,rfl⟩;obtain ⟨N2,HN2⟩:∃ N,Hid (t.vs.length=N):=⟨_,rfl⟩;obtain ⟨N3,HN3⟩:∃ N,Hid (t.os.length=N):=⟨_,rfl⟩;have HALL:Hid (∀ X,Below W0.heap.size W0 X->jaR w X A1 N1 c1 A2 N2 c2 A3 N3 c3 7 ra rb rc rd key):=fun X hb=>(S0.later hb).all HN1.out HN2.out HN3.out
 have HFIN:Hid (∀ X,Below W0.heap.size W0 X->ja6 lo w V0 X A1 N1 c1 A2 N2 c2 A3 N3 c3 t):=fun X hb=>(S0.later hb).fin HN1.out HN2.out HN3.out
 have HNOT:Hid (∀ X,Below W0.heap.size W0 X->∀ b,b=w.heap.size∨b=w.heap.size + 1∨b=w.heap.size + 1 + 1->b < X.heap.size/\¬ jbK ⟨A1,c1,A2,c2,A3,c3⟩ b):=fun X hb b hbb=>by
  have S:=S0.later hb;have l0:=S.bx.lt;have l1:=(Array.getElem?_eq_some_iff.1 S.chg).1;have l2:=(Array.getElem?_eq_some_iff.1 S.res).1;refine ⟨by omega,fun hin=>?_⟩;have f:=S.far b hin;rcases hbb with rfl | rfl | rfl
  ·rcases hin with q | q | q
   ·exact S.bx.p1 _ q rfl
   ·exact S.bx.p2 _ q rfl
   ·exact S.bx.p3 _ q rfl
  ·exact f.1 rfl
  ·exact f.2 rfl
 have HKEEP:Hid (∀ X Y,Below W0.heap.size W0 X->jcM ⟨A1,c1,A2,c2,A3,c3⟩ X Y->jaR w Y A1 N1 c1 A2 N2 c2 A3 N3 c3 7 ra rb rc rd key):=fun X Y hb hk=>hk.all (HNOT.out X hb) (HALL.out X hb)
 have HEND:Hid (∀ X Y B1 d1 B2 d2 B3 d3 T,Below W0.heap.size W0 X->jcM ⟨A1,c1,A2,c2,A3,c3⟩ X Y->jaw lo Y ⟨B1,d1,B2,d2,B3,d3⟩ T->Below lo X Y->jdi ⟨A1,c1,A2,c2,A3,c3⟩ X ⟨B1,d1,B2,d2,B3,d3⟩->ja6 lo w V0 Y B1 T.ts.length d1 B2 T.vs.length d2 B3 T.os.length d3 T/\jbn w (((Y.setCell ⟨w.heap.size + 1 + 1,0,none⟩ (.slice B1 T.ts.length d1)).setCell ⟨w.heap.size + 1 + 1,1,none⟩ (.slice B2 T.vs.length d2)).setCell ⟨w.heap.size + 1 + 1,2,none⟩ (.slice B3 T.os.length d3)) A1 N1 c1 A2 N2 c2 A3 N3 c3 7 ra rb rc rd key):=fun X Y B1 d1 B2 d2 B3 d3 T hb hk hr hbl hf=>by
  have S:=S0.later hb;have hn:=HNOT.out X hb;have hres:Y.heap[w.heap.size + 1 + 1]? = some (.cells #[.slice none 0 0,.slice none 0 0,.slice none 0 0] 35 (0,0)):=(hk _ (hn _ (.inr (.inr rfl))).1 (hn _ (.inr (.inr rfl))).2).trans S.res;obtain ⟨q1,q2⟩:=jd4 (.slice B1 T.ts.length d1) (.slice B2 T.vs.length d2) (.slice B3 T.os.length d3) hres
  have hne:∀ b,jbK ⟨B1,d1,B2,d2,B3,d3⟩ b->b≠w.heap.size + 1 + 1:=fun b hb2 e=>by
   rcases hf b hb2 with q | q
   ·subst e;exact (hn _ (.inr (.inr rfl))).2 q
   ·have:=(hn _ (.inr (.inr rfl))).1;omega
  refine ⟨⟨q1,fun c e he=>⟨⟨B1,d1,B2,d2,B3,d3⟩,he,?_,?_,?_,?_⟩⟩,jbn.set (HKEEP.out X Y hb hk) (q2.block _ (Nat.lt_of_lt_of_le (hn _ (.inl rfl)).1 hbl.size) (fun e=>by injection e with e;omega)) (q2.block _ (Nat.lt_of_lt_of_le (hn _ (.inr (.inl rfl))).1 hbl.size) (fun e=>by injection e with e;omega))⟩
  ·refine hr.grown q2 (fun b hb e=>?_) (fun b hb e=>?_) (fun b hb e=>?_)
   ·injection e with e;exact hne b (.inl hb) e.symm
   ·injection e with e;exact hne b (.inr (.inl hb)) e.symm
   ·injection e with e;exact hne b (.inr (.inr hb)) e.symm
  ·have hwl:=S.lo_p;exact jae (S.below.trans hbl) q2 (Nat.le_trans S.lo_le hbl.size) (by omega)
  ·intro b hb2 hn2;have hbX:=Nat.lt_of_lt_of_le hb2 S.below.size;refine (q2.block b (Nat.lt_of_lt_of_le hbX hbl.size) (fun e=>by injection e with e;omega)).trans ((hk b hbX fun q=>?_).trans (S.kept b hb2 hn2));rcases S.fresh b q with q | q
   ·exact hn2 q
   ·omega
  ·intro b hb2;rcases hf b hb2 with q | q
   ·exact S.fresh b q
   ·exact .inr (Nat.le_trans S.below.size q)
 have HLK:Hid (∀ X,Below W0.heap.size W0 X->Calls Tryz.prog 49 #[.agg #[.slice A1 N1 c1,.slice A2 N2 c2,.slice A3 N3 c3],.int .i64 ra] X fun e w'=>e=.returned (.int .i64 (jhs t.vs ra))/\Below X.heap.size X w'):=fun X hb=>by
  have q:=jdC ⟨A1,c1,A2,c2,A3,c3⟩ t ra X (S0.later hb).bx.tab (by omega);unfold jan at q
  rwa [HN1.out,HN2.out,HN3.out] at q
 have HCA:Hid (∀ X,Below W0.heap.size W0 X->Calls Tryz.prog 50 #[.agg #[.slice A1 N1 c1,.slice A2 N2 c2,.slice A3 N3 c3],.agg #[.int .i64 7,.int .i64 ra,.int .i64 rb,.int .i64 rc,.int .i64 rd,.string key],.int .i64 (jhs t.vs ra)] X fun e w'=>∃ B1 d1 B2 d2 B3 d3,e=.returned (.tuple #[.agg #[.slice B1 (jar t ⟨7,ra,rb,rc,rd,key⟩).2.ts.length d1,.slice B2 (jar t ⟨7,ra,rb,rc,rd,key⟩).2.vs.length d2,.slice B3 (jar t ⟨7,ra,rb,rc,rd,key⟩).2.os.length d3],.int .i64 (jar t ⟨7,ra,rb,rc,rd,key⟩).1]) /\
   jaR w w' A1 N1 c1 A2 N2 c2 A3 N3 c3 7 ra rb rc rd key/\ja6 lo w V0 w' B1 (jar t ⟨7,ra,rb,rc,rd,key⟩).2.ts.length d1 B2 (jar t ⟨7,ra,rb,rc,rd,key⟩).2.vs.length d2 B3 (jar t ⟨7,ra,rb,rc,rd,key⟩).2.os.length d3 (jar t ⟨7,ra,rb,rc,rd,key⟩).2/\jbn w (((w'.setCell ⟨w.heap.size + 1 + 1,0,none⟩ (.slice B1 (jar t ⟨7,ra,rb,rc,rd,key⟩).2.ts.length d1)).setCell ⟨w.heap.size + 1 + 1,1,none⟩ (.slice B2 (jar t ⟨7,ra,rb,rc,rd,key⟩).2.vs.length d2)).setCell ⟨w.heap.size + 1 + 1,2,none⟩ (.slice B3 (jar t ⟨7,ra,rb,rc,rd,key⟩).2.os.length d3)) A1 N1 c1 A2 N2 c2 A3 N3 c3 7 ra rb rc rd key):=fun X hb=>by
  have S:=S0.later hb;have q:=jew (w:=X) A1 c1 A2 c2 A3 c3 S.bx.rows S.lo_le hs 7 ra rb rc rd key (.inr (.inl rfl)) _ rfl;rw [HN1.out,HN2.out,HN3.out] at q;refine Calls.mono q fun e w' h=>?_
  obtain ⟨⟨B1,d1,B2,d2,B3,d3⟩,he,hr,hbl,hk,hf⟩:=h;exact ⟨B1,d1,B2,d2,B3,d3,he,HKEEP.out X w' hb hk,HEND.out X w' B1 d1 B2 d2 B3 d3 _ hb hk hr hbl hf⟩
 obtain ⟨R,hR⟩:∃ R,R=jar t ⟨7,ra,rb,rc,rd,key⟩:=⟨_,rfl⟩;simp only [<- hR] at HCA ⊢;obtain ⟨L1,hL1⟩:∃ N,N=R.2.ts.length:=⟨_,rfl⟩;obtain ⟨L2,hL2⟩:∃ N,N=R.2.vs.length:=⟨_,rfl⟩;obtain ⟨L3,hL3⟩:∃ N,N=R.2.os.length:=⟨_,rfl⟩;simp only [<- hL1,<- hL2,<- hL3] at HCA;obtain ⟨ix,hix⟩:∃ i,i=jhs t.vs ra:=⟨_,rfl⟩;simp only [<- hix] at HCA HLK;rw [HN1.out,HN2.out,HN3.out] at hW0 ⊢;have HW0:=Lib.hid hW0;obtain ⟨y0,y1,y2,r0,r1,r2,r3,r4,r5,s0,s1,s2,sf0,sf1,sf2,pf0,pf1⟩:=HALL.out W0 (Below.refl _ _);have HB0:Hid (Below W0.heap.size W0 W0):=Below.refl _ _;clear h hl hs S0 hW0 n1 n2 n3 hR hL1 hL2 hL3 hix HKEEP HEND HNOT;go_enter Tryz.func30,Tryz.ntmps30
 go_wp2_with (first
  | (rw [<- HW0.out];clear HW0))
 have hbx:=HB0.out.drew;have hgx:=HALL.out _ hbx
 go_region_held3 (fun W=>(W.cell? ⟨w.heap.size,0,none⟩=some (.slice A1 N1 c1)/\W.cell? ⟨w.heap.size,1,none⟩=some (.slice A2 N2 c2)/\W.cell? ⟨w.heap.size,2,none⟩=some (.slice A3 N3 c3))/\W.cell? ⟨w.heap.size + 1,0,none⟩=some (.int .i64 7)/\W.cell? ⟨w.heap.size + 1,1,none⟩=some (.int .i64 ra)/\W.cell? ⟨w.heap.size + 1,2,none⟩=some (.int .i64 rb)/\W.cell? ⟨w.heap.size + 1,3,none⟩=some (.int .i64 rc)/\W.cell? ⟨w.heap.size + 1,4,none⟩=some (.int .i64 rd)/\W.cell? ⟨w.heap.size + 1,5,none⟩=some (.string key))
  (first | exact ⟨⟨hgx.1,hgx.2.1,hgx.2.2.1⟩,hgx.2.2.2.1,hgx.2.2.2.2.1,hgx.2.2.2.2.2.1,hgx.2.2.2.2.2.2.1,hgx.2.2.2.2.2.2.2.1,hgx.2.2.2.2.2.2.2.2.1⟩ | exact hnx)
  (first
   | (go_at_call 49;with_reducible (refine Calls.mono (HLK.out _ hbx) ?_);rintro e w3 ⟨rfl,hb3⟩;have hbx:=jaa hbx hb3;have hgx:=HALL.out _ hbx)
   | (go_at_call 50;with_reducible (refine Calls.mono (HCA.out _ hbx) ?_);rintro e w4 ⟨B1,d1,B2,d2,B3,d3,rfl,hgx,hfx,hnx⟩;have hgz:=hgx;obtain ⟨_,_,_,_,_,_,_,_,_,s0,s1,s2,sf0,sf1,sf2,_,_⟩:=hgz)
   | fail)
 go_wp2;have hr:=hfx;refine bodyPost_ret (jab rfl _ _ (w.heap.size + 1 + 1) _ _ _ _ rfl hr.1 Tryz.underlying35 rfl (by kernel_rfl)) rfl ?_;exact hr.2 _ _ rfl
theorem joQ {lo:Nat} {w:World} {t:Tab} (A1:Option Addr) (c1:Nat) (A2:Option Addr) (c2:Nat) (A3:Option Addr) (c3:Nat) (h:jaw lo w ⟨A1,c1,A2,c2,A3,c3⟩ t) (hl:lo<=w.heap.size) (hs:t.sound) (ra rb rc rd:Int) (key:ByteArray) (V0:jat) (hV0:V0=⟨A1,c1,A2,c2,A3,c3⟩) :
  Calls Tryz.prog 30 #[.agg #[.slice A1 t.ts.length c1,.slice A2 t.vs.length c2,.slice A3 t.os.length c3],.agg #[.int .i64 8,.int .i64 ra,.int .i64 rb,.int .i64 rc,.int .i64 rd,.string key]] w (jcd lo w V0 (jar t ⟨8,ra,rb,rc,rd,key⟩)):=by
 obtain ⟨n1,n2,n3⟩:=jam hs;obtain ⟨W0,hW0,S0⟩:=jaW hV0 h hl 8 ra rb rc rd key;clear hV0;obtain ⟨N1,HN1⟩:∃ N,Hid (t.ts.length=N):=⟨_,rfl⟩;obtain ⟨N2,HN2⟩:∃ N,Hid (t.vs.length=N):=⟨_,rfl⟩;obtain ⟨N3,HN3⟩:∃ N,Hid (t.os.length=N):=⟨_,rfl⟩;have HALL:Hid (∀ X,Below W0.heap.size W0 X->jaR w X A1 N1 c1 A2 N2 c2 A3 N3 c3 8 ra rb rc rd key):=fun X hb=>(S0.later hb).all HN1.out HN2.out HN3.out
 have HFIN:Hid (∀ X,Below W0.heap.size W0 X->ja6 lo w V0 X A1 N1 c1 A2 N2 c2 A3 N3 c3 t):=fun X hb=>(S0.later hb).fin HN1.out HN2.out HN3.out
 have HNOT:Hid (∀ X,Below W0.heap.size W0 X->∀ b,b=w.heap.size∨b=w.heap.size + 1∨b=w.heap.size + 1 + 1->b < X.heap.size/\¬ jbK ⟨A1,c1,A2,c2,A3,c3⟩ b):=fun X hb b hbb=>by
  have S:=S0.later hb;have l0:=S.bx.lt;have l1:=(Array.getElem?_eq_some_iff.1 S.chg).1;have l2:=(Array.getElem?_eq_some_iff.1 S.res).1;refine ⟨by omega,fun hin=>?_⟩;have f:=S.far b hin;rcases hbb with rfl | rfl | rfl
  ·rcases hin with q | q | q
   ·exact S.bx.p1 _ q rfl
   ·exact S.bx.p2 _ q rfl
   ·exact S.bx.p3 _ q rfl
  ·exact f.1 rfl
  ·exact f.2 rfl
 have HKEEP:Hid (∀ X Y,Below W0.heap.size W0 X->jcM ⟨A1,c1,A2,c2,A3,c3⟩ X Y->jaR w Y A1 N1 c1 A2 N2 c2 A3 N3 c3 8 ra rb rc rd key):=fun X Y hb hk=>hk.all (HNOT.out X hb) (HALL.out X hb)
 have HEND:Hid (∀ X Y B1 d1 B2 d2 B3 d3 T,Below W0.heap.size W0 X->jcM ⟨A1,c1,A2,c2,A3,c3⟩ X Y->jaw lo Y ⟨B1,d1,B2,d2,B3,d3⟩ T->Below lo X Y->jdi ⟨A1,c1,A2,c2,A3,c3⟩ X ⟨B1,d1,B2,d2,B3,d3⟩->ja6 lo w V0 Y B1 T.ts.length d1 B2 T.vs.length d2 B3 T.os.length d3 T/\jbn w (((Y.setCell ⟨w.heap.size + 1 + 1,0,none⟩ (.slice B1 T.ts.length d1)).setCell ⟨w.heap.size + 1 + 1,1,none⟩ (.slice B2 T.vs.length d2)).setCell ⟨w.heap.size + 1 + 1,2,none⟩ (.slice B3 T.os.length d3)) A1 N1 c1 A2 N2 c2 A3 N3 c3 8 ra rb rc rd key):=fun X Y B1 d1 B2 d2 B3 d3 T hb hk hr hbl hf=>by
  have S:=S0.later hb;have hn:=HNOT.out X hb;have hres:Y.heap[w.heap.size + 1 + 1]? = some (.cells #[.slice none 0 0,.slice none 0 0,.slice none 0 0] 35 (0,0)):=(hk _ (hn _ (.inr (.inr rfl))).1 (hn _ (.inr (.inr rfl))).2).trans S.res;obtain ⟨q1,q2⟩:=jd4 (.slice B1 T.ts.length d1) (.slice B2 T.vs.length d2) (.slice B3 T.os.length d3) hres
  have hne:∀ b,jbK ⟨B1,d1,B2,d2,B3,d3⟩ b->b≠w.heap.size + 1 + 1:=fun b hb2 e=>by
   rcases hf b hb2 with q | q
   ·subst e;exact (hn _ (.inr (.inr rfl))).2 q
   ·have:=(hn _ (.inr (.inr rfl))).1;omega
  refine ⟨⟨q1,fun c e he=>⟨⟨B1,d1,B2,d2,B3,d3⟩,he,?_,?_,?_,?_⟩⟩,jbn.set (HKEEP.out X Y hb hk) (q2.block _ (Nat.lt_of_lt_of_le (hn _ (.inl rfl)).1 hbl.size) (fun e=>by injection e with e;omega)) (q2.block _ (Nat.lt_of_lt_of_le (hn _ (.inr (.inl rfl))).1 hbl.size) (fun e=>by injection e with e;omega))⟩
  ·refine hr.grown q2 (fun b hb e=>?_) (fun b hb e=>?_) (fun b hb e=>?_)
   ·injection e with e;exact hne b (.inl hb) e.symm
   ·injection e with e;exact hne b (.inr (.inl hb)) e.symm
   ·injection e with e;exact hne b (.inr (.inr hb)) e.symm
  ·have hwl:=S.lo_p;exact jae (S.below.trans hbl) q2 (Nat.le_trans S.lo_le hbl.size) (by omega)
  ·intro b hb2 hn2;have hbX:=Nat.lt_of_lt_of_le hb2 S.below.size;refine (q2.block b (Nat.lt_of_lt_of_le hbX hbl.size) (fun e=>by injection e with e;omega)).trans ((hk b hbX fun q=>?_).trans (S.kept b hb2 hn2));rcases S.fresh b q with q | q
   ·exact hn2 q
   ·omega
  ·intro b hb2;rcases hf b hb2 with q | q
   ·exact S.fresh b q
   ·exact .inr (Nat.le_trans S.below.size q)
 have HLK:Hid (∀ X,Below W0.heap.size W0 X->Calls Tryz.prog 49 #[.agg #[.slice A1 N1 c1,.slice A2 N2 c2,.slice A3 N3 c3],.int .i64 ra] X fun e w'=>e=.returned (.int .i64 (jhs t.vs ra))/\Below X.heap.size X w'):=fun X hb=>by
  have q:=jdC ⟨A1,c1,A2,c2,A3,c3⟩ t ra X (S0.later hb).bx.tab (by omega);unfold jan at q
  rwa [HN1.out,HN2.out,HN3.out] at q
 have HCA:Hid (∀ X,Below W0.heap.size W0 X->Calls Tryz.prog 50 #[.agg #[.slice A1 N1 c1,.slice A2 N2 c2,.slice A3 N3 c3],.agg #[.int .i64 8,.int .i64 ra,.int .i64 rb,.int .i64 rc,.int .i64 rd,.string key],.int .i64 (jhs t.vs ra)] X fun e w'=>∃ B1 d1 B2 d2 B3 d3,e=.returned (.tuple #[.agg #[.slice B1 (jar t ⟨8,ra,rb,rc,rd,key⟩).2.ts.length d1,.slice B2 (jar t ⟨8,ra,rb,rc,rd,key⟩).2.vs.length d2,.slice B3 (jar t ⟨8,ra,rb,rc,rd,key⟩).2.os.length d3],.int .i64 (jar t ⟨8,ra,rb,rc,rd,key⟩).1]) /\
   jaR w w' A1 N1 c1 A2 N2 c2 A3 N3 c3 8 ra rb rc rd key/\ja6 lo w V0 w' B1 (jar t ⟨8,ra,rb,rc,rd,key⟩).2.ts.length d1 B2 (jar t ⟨8,ra,rb,rc,rd,key⟩).2.vs.length d2 B3 (jar t ⟨8,ra,rb,rc,rd,key⟩).2.os.length d3 (jar t ⟨8,ra,rb,rc,rd,key⟩).2/\jbn w (((w'.setCell ⟨w.heap.size + 1 + 1,0,none⟩ (.slice B1 (jar t ⟨8,ra,rb,rc,rd,key⟩).2.ts.length d1)).setCell ⟨w.heap.size + 1 + 1,1,none⟩ (.slice B2 (jar t ⟨8,ra,rb,rc,rd,key⟩).2.vs.length d2)).setCell ⟨w.heap.size + 1 + 1,2,none⟩ (.slice B3 (jar t ⟨8,ra,rb,rc,rd,key⟩).2.os.length d3)) A1 N1 c1 A2 N2 c2 A3 N3 c3 8 ra rb rc rd key):=fun X hb=>by
  have S:=S0.later hb;have q:=jew (w:=X) A1 c1 A2 c2 A3 c3 S.bx.rows S.lo_le hs 8 ra rb rc rd key (.inr (.inr rfl)) _ rfl;rw [HN1.out,HN2.out,HN3.out] at q;refine Calls.mono q fun e w' h=>?_
  obtain ⟨⟨B1,d1,B2,d2,B3,d3⟩,he,hr,hbl,hk,hf⟩:=h;exact ⟨B1,d1,B2,d2,B3,d3,he,HKEEP.out X w' hb hk,HEND.out X w' B1 d1 B2 d2 B3 d3 _ hb hk hr hbl hf⟩
 obtain ⟨R,hR⟩:∃ R,R=jar t ⟨8,ra,rb,rc,rd,key⟩:=⟨_,rfl⟩;simp only [<- hR] at HCA ⊢;obtain ⟨L1,hL1⟩:∃ N,N=R.2.ts.length:=⟨_,rfl⟩;obtain ⟨L2,hL2⟩:∃ N,N=R.2.vs.length:=⟨_,rfl⟩;obtain ⟨L3,hL3⟩:∃ N,N=R.2.os.length:=⟨_,rfl⟩;simp only [<- hL1,<- hL2,<- hL3] at HCA;obtain ⟨ix,hix⟩:∃ i,i=jhs t.vs ra:=⟨_,rfl⟩;simp only [<- hix] at HCA HLK;rw [HN1.out,HN2.out,HN3.out] at hW0 ⊢;have HW0:=Lib.hid hW0;obtain ⟨y0,y1,y2,r0,r1,r2,r3,r4,r5,s0,s1,s2,sf0,sf1,sf2,pf0,pf1⟩:=HALL.out W0 (Below.refl _ _);have HB0:Hid (Below W0.heap.size W0 W0):=Below.refl _ _;clear h hl hs S0 hW0 n1 n2 n3 hR hL1 hL2 hL3 hix HKEEP HEND HNOT;go_enter Tryz.func30,Tryz.ntmps30
 go_wp2_with (first
  | (rw [<- HW0.out];clear HW0))
 have hbx:=HB0.out.drew;have hgx:=HALL.out _ hbx
 go_region_held3 (fun W=>(W.cell? ⟨w.heap.size,0,none⟩=some (.slice A1 N1 c1)/\W.cell? ⟨w.heap.size,1,none⟩=some (.slice A2 N2 c2)/\W.cell? ⟨w.heap.size,2,none⟩=some (.slice A3 N3 c3))/\W.cell? ⟨w.heap.size + 1,0,none⟩=some (.int .i64 8)/\W.cell? ⟨w.heap.size + 1,1,none⟩=some (.int .i64 ra)/\W.cell? ⟨w.heap.size + 1,2,none⟩=some (.int .i64 rb)/\W.cell? ⟨w.heap.size + 1,3,none⟩=some (.int .i64 rc)/\W.cell? ⟨w.heap.size + 1,4,none⟩=some (.int .i64 rd)/\W.cell? ⟨w.heap.size + 1,5,none⟩=some (.string key))
  (first | exact ⟨⟨hgx.1,hgx.2.1,hgx.2.2.1⟩,hgx.2.2.2.1,hgx.2.2.2.2.1,hgx.2.2.2.2.2.1,hgx.2.2.2.2.2.2.1,hgx.2.2.2.2.2.2.2.1,hgx.2.2.2.2.2.2.2.2.1⟩ | exact hnx)
  (first
   | (go_at_call 49;with_reducible (refine Calls.mono (HLK.out _ hbx) ?_);rintro e w3 ⟨rfl,hb3⟩;have hbx:=jaa hbx hb3;have hgx:=HALL.out _ hbx)
   | (go_at_call 50;with_reducible (refine Calls.mono (HCA.out _ hbx) ?_);rintro e w4 ⟨B1,d1,B2,d2,B3,d3,rfl,hgx,hfx,hnx⟩;have hgz:=hgx;obtain ⟨_,_,_,_,_,_,_,_,_,s0,s1,s2,sf0,sf1,sf2,_,_⟩:=hgz)
   | fail)
 go_wp2;have hr:=hfx;refine bodyPost_ret (jab rfl _ _ (w.heap.size + 1 + 1) _ _ _ _ rfl hr.1 Tryz.underlying35 rfl (by kernel_rfl)) rfl ?_;exact hr.2 _ _ rfl
theorem joZ {lo:Nat} {w:World} {t:Tab} (A1:Option Addr) (c1:Nat) (A2:Option Addr) (c2:Nat) (A3:Option Addr) (c3:Nat) (h:jaw lo w ⟨A1,c1,A2,c2,A3,c3⟩ t) (hl:lo<=w.heap.size) (hs:t.sound) (ra rb rc rd:Int) (key:ByteArray) (k:Nat) (hka:ra=k) (V0:jat) (hV0:V0=⟨A1,c1,A2,c2,A3,c3⟩) :
  Calls Tryz.prog 30 #[.agg #[.slice A1 t.ts.length c1,.slice A2 t.vs.length c2,.slice A3 t.os.length c3],.agg #[.int .i64 9,.int .i64 ra,.int .i64 rb,.int .i64 rc,.int .i64 rd,.string key]] w (jcd lo w V0 (jar t ⟨9,ra,rb,rc,rd,key⟩)):=by
 obtain ⟨n1,n2,n3⟩:=jam hs;obtain ⟨W0,hW0,S0⟩:=jaW hV0 h hl 9 ra rb rc rd key;clear hV0;obtain ⟨N1,HN1⟩:∃ N,Hid (t.ts.length=N):=⟨_,rfl⟩;obtain ⟨N2,HN2⟩:∃ N,Hid (t.vs.length=N):=⟨_,rfl⟩;obtain ⟨N3,HN3⟩:∃ N,Hid (t.os.length=N):=⟨_,rfl⟩;have HALL:Hid (∀ X,Below W0.heap.size W0 X->jaR w X A1 N1 c1 A2 N2 c2 A3 N3 c3 9 ra rb rc rd key):=fun X hb=>(S0.later hb).all HN1.out HN2.out HN3.out
 have HFIN:Hid (∀ X,Below W0.heap.size W0 X->ja6 lo w V0 X A1 N1 c1 A2 N2 c2 A3 N3 c3 t):=fun X hb=>(S0.later hb).fin HN1.out HN2.out HN3.out
 have HNOT:Hid (∀ X,Below W0.heap.size W0 X->∀ b,b=w.heap.size∨b=w.heap.size + 1∨b=w.heap.size + 1 + 1->b < X.heap.size/\¬ jbK ⟨A1,c1,A2,c2,A3,c3⟩ b):=fun X hb b hbb=>by
  have S:=S0.later hb;have l0:=S.bx.lt;have l1:=(Array.getElem?_eq_some_iff.1 S.chg).1;have l2:=(Array.getElem?_eq_some_iff.1 S.res).1;refine ⟨by omega,fun hin=>?_⟩;have f:=S.far b hin;rcases hbb with rfl | rfl | rfl
  ·rcases hin with q | q | q
   ·exact S.bx.p1 _ q rfl
   ·exact S.bx.p2 _ q rfl
   ·exact S.bx.p3 _ q rfl
  ·exact f.1 rfl
  ·exact f.2 rfl
 have HKEEP:Hid (∀ X Y,Below W0.heap.size W0 X->jcM ⟨A1,c1,A2,c2,A3,c3⟩ X Y->jaR w Y A1 N1 c1 A2 N2 c2 A3 N3 c3 9 ra rb rc rd key):=fun X Y hb hk=>hk.all (HNOT.out X hb) (HALL.out X hb)
 have HEND:Hid (∀ X Y B1 d1 B2 d2 B3 d3 T,Below W0.heap.size W0 X->jcM ⟨A1,c1,A2,c2,A3,c3⟩ X Y->jaw lo Y ⟨B1,d1,B2,d2,B3,d3⟩ T->Below lo X Y->jdi ⟨A1,c1,A2,c2,A3,c3⟩ X ⟨B1,d1,B2,d2,B3,d3⟩->ja6 lo w V0 Y B1 T.ts.length d1 B2 T.vs.length d2 B3 T.os.length d3 T/\jbn w (((Y.setCell ⟨w.heap.size + 1 + 1,0,none⟩ (.slice B1 T.ts.length d1)).setCell ⟨w.heap.size + 1 + 1,1,none⟩ (.slice B2 T.vs.length d2)).setCell ⟨w.heap.size + 1 + 1,2,none⟩ (.slice B3 T.os.length d3)) A1 N1 c1 A2 N2 c2 A3 N3 c3 9 ra rb rc rd key):=fun X Y B1 d1 B2 d2 B3 d3 T hb hk hr hbl hf=>by
  have S:=S0.later hb;have hn:=HNOT.out X hb;have hres:Y.heap[w.heap.size + 1 + 1]? = some (.cells #[.slice none 0 0,.slice none 0 0,.slice none 0 0] 35 (0,0)):=(hk _ (hn _ (.inr (.inr rfl))).1 (hn _ (.inr (.inr rfl))).2).trans S.res;obtain ⟨q1,q2⟩:=jd4 (.slice B1 T.ts.length d1) (.slice B2 T.vs.length d2) (.slice B3 T.os.length d3) hres
  have hne:∀ b,jbK ⟨B1,d1,B2,d2,B3,d3⟩ b->b≠w.heap.size + 1 + 1:=fun b hb2 e=>by
   rcases hf b hb2 with q | q
   ·subst e;exact (hn _ (.inr (.inr rfl))).2 q
   ·have:=(hn _ (.inr (.inr rfl))).1;omega
  refine ⟨⟨q1,fun c e he=>⟨⟨B1,d1,B2,d2,B3,d3⟩,he,?_,?_,?_,?_⟩⟩,jbn.set (HKEEP.out X Y hb hk) (q2.block _ (Nat.lt_of_lt_of_le (hn _ (.inl rfl)).1 hbl.size) (fun e=>by injection e with e;omega)) (q2.block _ (Nat.lt_of_lt_of_le (hn _ (.inr (.inl rfl))).1 hbl.size) (fun e=>by injection e with e;omega))⟩
  ·refine hr.grown q2 (fun b hb e=>?_) (fun b hb e=>?_) (fun b hb e=>?_)
   ·injection e with e;exact hne b (.inl hb) e.symm
   ·injection e with e;exact hne b (.inr (.inl hb)) e.symm
   ·injection e with e;exact hne b (.inr (.inr hb)) e.symm
  ·have hwl:=S.lo_p;exact jae (S.below.trans hbl) q2 (Nat.le_trans S.lo_le hbl.size) (by omega)
  ·intro b hb2 hn2;have hbX:=Nat.lt_of_lt_of_le hb2 S.below.size;refine (q2.block b (Nat.lt_of_lt_of_le hbX hbl.size) (fun e=>by injection e with e;omega)).trans ((hk b hbX fun q=>?_).trans (S.kept b hb2 hn2));rcases S.fresh b q with q | q
   ·exact hn2 q
   ·omega
  ·intro b hb2;rcases hf b hb2 with q | q
   ·exact S.fresh b q
   ·exact .inr (Nat.le_trans S.below.size q)
 have HCA:Hid (∀ X,Below W0.heap.size W0 X->Calls Tryz.prog 51 #[.agg #[.slice A1 N1 c1,.slice A2 N2 c2,.slice A3 N3 c3],.agg #[.int .i64 9,.int .i64 ra,.int .i64 rb,.int .i64 rc,.int .i64 rd,.string key]] X fun e w'=>∃ B1 d1 B2 d2 B3 d3,e=.returned (.tuple #[.agg #[.slice B1 (jar t ⟨9,ra,rb,rc,rd,key⟩).2.ts.length d1,.slice B2 (jar t ⟨9,ra,rb,rc,rd,key⟩).2.vs.length d2,.slice B3 (jar t ⟨9,ra,rb,rc,rd,key⟩).2.os.length d3],.int .i64 (jar t ⟨9,ra,rb,rc,rd,key⟩).1]) /\
   jaR w w' A1 N1 c1 A2 N2 c2 A3 N3 c3 9 ra rb rc rd key/\ja6 lo w V0 w' B1 (jar t ⟨9,ra,rb,rc,rd,key⟩).2.ts.length d1 B2 (jar t ⟨9,ra,rb,rc,rd,key⟩).2.vs.length d2 B3 (jar t ⟨9,ra,rb,rc,rd,key⟩).2.os.length d3 (jar t ⟨9,ra,rb,rc,rd,key⟩).2/\jbn w (((w'.setCell ⟨w.heap.size + 1 + 1,0,none⟩ (.slice B1 (jar t ⟨9,ra,rb,rc,rd,key⟩).2.ts.length d1)).setCell ⟨w.heap.size + 1 + 1,1,none⟩ (.slice B2 (jar t ⟨9,ra,rb,rc,rd,key⟩).2.vs.length d2)).setCell ⟨w.heap.size + 1 + 1,2,none⟩ (.slice B3 (jar t ⟨9,ra,rb,rc,rd,key⟩).2.os.length d3)) A1 N1 c1 A2 N2 c2 A3 N3 c3 9 ra rb rc rd key):=fun X hb=>by
  have S:=S0.later hb;have q:=jkV (w:=X) A1 c1 A2 c2 A3 c3 S.bx.rows S.lo_le hs 9 ra rb rc rd key k hka _ rfl;rw [HN1.out,HN2.out,HN3.out] at q;refine Calls.mono q fun e w' h=>?_
  obtain ⟨⟨B1,d1,B2,d2,B3,d3⟩,he,hr,hbl,hk,hf⟩:=h;exact ⟨B1,d1,B2,d2,B3,d3,he,HKEEP.out X w' hb hk,HEND.out X w' B1 d1 B2 d2 B3 d3 _ hb hk hr hbl hf⟩
 obtain ⟨R,hR⟩:∃ R,R=jar t ⟨9,ra,rb,rc,rd,key⟩:=⟨_,rfl⟩;simp only [<- hR] at HCA ⊢;obtain ⟨L1,hL1⟩:∃ N,N=R.2.ts.length:=⟨_,rfl⟩;obtain ⟨L2,hL2⟩:∃ N,N=R.2.vs.length:=⟨_,rfl⟩;obtain ⟨L3,hL3⟩:∃ N,N=R.2.os.length:=⟨_,rfl⟩;simp only [<- hL1,<- hL2,<- hL3] at HCA;rw [HN1.out,HN2.out,HN3.out] at hW0 ⊢;have HW0:=Lib.hid hW0;obtain ⟨y0,y1,y2,r0,r1,r2,r3,r4,r5,s0,s1,s2,sf0,sf1,sf2,pf0,pf1⟩:=HALL.out W0 (Below.refl _ _);have HB0:Hid (Below W0.heap.size W0 W0):=Below.refl _ _;clear h hl hs hka S0 hW0 n1 n2 n3 hR hL1 hL2 hL3 HKEEP HEND HNOT;go_enter Tryz.func30,Tryz.ntmps30
 go_wp2_with (first
  | (rw [<- HW0.out];clear HW0)
  | (go_at_call 51;with_reducible (refine Calls.mono (HCA.out _ HB0.out) ?_);rintro e w4 ⟨B1,d1,B2,d2,B3,d3,rfl,hgx,hfx,hnx⟩;have hgz:=hgx;obtain ⟨_,_,_,_,_,_,_,_,_,s0,s1,s2,sf0,sf1,sf2,_,_⟩:=hgz))
 have hr:=hfx;refine bodyPost_ret (jab rfl _ _ (w.heap.size + 1 + 1) _ _ _ _ rfl hr.1 Tryz.underlying35 rfl (by kernel_rfl)) rfl ?_;exact hr.2 _ _ rfl
theorem jpG {lo:Nat} {w:World} {t:Tab} (A1:Option Addr) (c1:Nat) (A2:Option Addr) (c2:Nat) (A3:Option Addr) (c3:Nat) (h:jaw lo w ⟨A1,c1,A2,c2,A3,c3⟩ t) (hl:lo<=w.heap.size) (hs:t.sound) (ra rb rc rd:Int) (key:ByteArray) (V0:jat) (hV0:V0=⟨A1,c1,A2,c2,A3,c3⟩) :
  Calls Tryz.prog 30 #[.agg #[.slice A1 t.ts.length c1,.slice A2 t.vs.length c2,.slice A3 t.os.length c3],.agg #[.int .i64 0,.int .i64 ra,.int .i64 rb,.int .i64 rc,.int .i64 rd,.string key]] w (jcd lo w V0 (jar t ⟨0,ra,rb,rc,rd,key⟩)):=by
 obtain ⟨n1,n2,n3⟩:=jam hs;obtain ⟨W0,hW0,S0⟩:=jaW hV0 h hl 0 ra rb rc rd key;clear hV0;obtain ⟨N1,HN1⟩:∃ N,Hid (t.ts.length=N):=⟨_,rfl⟩;obtain ⟨N2,HN2⟩:∃ N,Hid (t.vs.length=N):=⟨_,rfl⟩;obtain ⟨N3,HN3⟩:∃ N,Hid (t.os.length=N):=⟨_,rfl⟩;have HALL:Hid (∀ X,Below W0.heap.size W0 X->jaR w X A1 N1 c1 A2 N2 c2 A3 N3 c3 0 ra rb rc rd key):=fun X hb=>(S0.later hb).all HN1.out HN2.out HN3.out
 have HFIN:Hid (∀ X,Below W0.heap.size W0 X->ja6 lo w V0 X A1 N1 c1 A2 N2 c2 A3 N3 c3 t):=fun X hb=>(S0.later hb).fin HN1.out HN2.out HN3.out
 rw [HN1.out,HN2.out,HN3.out] at hW0 ⊢;have HW0:=Lib.hid hW0;obtain ⟨y0,y1,y2,r0,r1,r2,r3,r4,r5,s0,s1,s2,sf0,sf1,sf2,pf0,pf1⟩:=HALL.out W0 (Below.refl _ _);have HB0:Hid (Below W0.heap.size W0 W0):=Below.refl _ _;have HE:Hid (jar t ⟨0,ra,rb,rc,rd,key⟩=(0,t)):=rfl;rw [HE.out];clear h hl hs S0 hW0 n1 n2 n3 HE;go_enter Tryz.func30,Tryz.ntmps30
 go_wp2_with (first
  | (rw [<- HW0.out];clear HW0))
 have hr:=HFIN.out _ HB0.out;refine bodyPost_ret (jab rfl _ _ (w.heap.size + 1 + 1) _ _ _ _ rfl hr.1 Tryz.underlying35 rfl (by kernel_rfl)) rfl ?_;exact hr.2 0 _ rfl
theorem jkR {lo:Nat} {w:World} {t:Tab} (A1:Option Addr) (c1:Nat) (A2:Option Addr) (c2:Nat) (A3:Option Addr) (c3:Nat) (h:jaw lo w ⟨A1,c1,A2,c2,A3,c3⟩ t) (hl:lo<=w.heap.size) (hs:t.sound) (r:Rc) (hf:jaf r) :
  Calls Tryz.prog 30 #[.agg #[.slice A1 t.ts.length c1,.slice A2 t.vs.length c2,.slice A3 t.os.length c3],.agg (rcV r)] w (jcd lo w ⟨A1,c1,A2,c2,A3,c3⟩ (jar t r)):=by
 have hk:=jgx hf;obtain ⟨rk,ra,rb,rc,rd,key⟩:=r;unfold rcV;simp only at hk;unfold jaf at hf;simp only at hf;have:rk=0∨rk=1∨rk=2∨rk=3∨rk=4∨rk=5∨rk=6∨rk=7∨rk=8∨rk=9:=by omega
 rcases this with rfl | rfl | rfl | rfl | rfl | rfl | rfl | rfl | rfl | rfl
 ·exact jpG A1 c1 A2 c2 A3 c3 h hl hs ra rb rc rd key _ rfl
 ·exact jiT A1 c1 A2 c2 A3 c3 h hl hs ra rb rc rd key (by rw [if_pos rfl] at hf;exact hf.2.1) _ rfl
 ·exact joY A1 c1 A2 c2 A3 c3 h hl hs ra rb rc rd key (by
   rw [if_neg (by decide)] at hf;split at hf
   ·exact hf.elim
   ·exact hf.2) _ rfl
 ·exact jpd A1 c1 A2 c2 A3 c3 h hl hs ra rb rc rd key _ rfl
 ·exact jpf A1 c1 A2 c2 A3 c3 h hl hs ra rb rc rd key _ rfl
 ·exact jiJ A1 c1 A2 c2 A3 c3 h hl hs ra rb rc rd key _ rfl
 ·exact jo6 A1 c1 A2 c2 A3 c3 h hl hs ra rb rc rd key _ rfl
 ·exact jo0 A1 c1 A2 c2 A3 c3 h hl hs ra rb rc rd key _ rfl
 ·exact joQ A1 c1 A2 c2 A3 c3 h hl hs ra rb rc rd key _ rfl
 ·have ha:inR ra 0 63:=by
   rw [if_neg (by decide)] at hf;split at hf
   ·exact hf.elim
   ·exact hf.1
  unfold inR at ha;exact joZ A1 c1 A2 c2 A3 c3 h hl hs ra rb rc rd key ra.toNat (by omega) _ rfl
end Go.Proofs.YtbnhkplhmanmoaaGreat
