/- . -/
import Derived.Test.YtbnhkplhmanmoaaGreatTableSortVG
import Derived.Test.YtbnhkplhmanmoaaGreatTableC12G
namespace Go.Proofs.YtbnhkplhmanmoaaGreat
open Go.RowKit
set_option maxHeartbeats 6400000
set_option maxRecDepth 20000
theorem jl4 {vs:List Vol} {x:Vol} (h:vs.Pairwise fun a b=>a.id < b.id):jcW Vol.id (vs ++ [x])=jcj Vol.id x vs:=by rw [jce,jfU Vol.id h]
theorem jfP {X:World} {p:Nat} {T:TypeId} {v0 v1 v2:Value} (x:Value) (h:X.heap[p]? = some (.cells #[v0,v1,v2] T (0,0))):(X.setCell ⟨p,1,none⟩ x).heap[p]? = some (.cells #[v0,x,v2] T (0,0))/\X.grownBy (X.setCell ⟨p,1,none⟩ x) (some p) :=
 ⟨by simp [World.setCell,Array.getElem?_modify,h],jal X p 1 [x]⟩
theorem jhC {lo p:Nat} {w:World} {V:jat} {t:Tab} (h:jaZ lo w p V t) (hs:t.sound) (r:Rc) (hf:inR r.a 0 7) :
  Calls Tryz.prog 71 #[.pointer (some ⟨p,0,none⟩),.agg #[.int .i64 r.a,.int .i64 r.b,.int .i64 r.c,.int .i64 0]] w fun e w'=>∃ V',e=.returned (.int .i64 (jd0 t r).1)/\jaZ lo w' p V' (jd0 t r).2/\Below lo w w':=by
 have HB:Hid (∀ X,Below w.heap.size w X->jaZ lo X p V t/\Below lo w X):=fun X hb=>⟨h.below hb,hb.mono h.lo_le⟩
 obtain ⟨n1,n2,n3⟩:=jam hs;obtain ⟨i0,hi,hz0,hz1,hz2⟩:=info_parts Tryz.infoVolD;unfold inR at hf;have hb0:Below w.heap.size w (w.alloc (.cells #[.int .i64 r.a,.int .i64 r.b,.int .i64 r.c,.int .i64 0] 82)):=(Below.refl _ _).alloc (Nat.le_refl _) _;have hg0:=heap_alloc_new w (.cells #[.int .i64 r.a,.int .i64 r.b,.int .i64 r.c,.int .i64 0] 82);obtain ⟨W0,hW0⟩:∃ W,W=w.alloc (.cells #[.int .i64 r.a,.int .i64 r.b,.int .i64 r.c,.int .i64 0] 82):=⟨_,rfl⟩;rw [<- hW0] at hb0 hg0;have HXB:Hid (∀ X,Below W0.heap.size W0 X->X.cell? ⟨w.heap.size,0,none⟩=some (.int .i64 r.a)/\X.cell? ⟨w.heap.size,1,none⟩=some (.int .i64 r.b)/\X.cell? ⟨w.heap.size,2,none⟩=some (.int .i64 r.c)/\X.cell? ⟨w.heap.size,3,none⟩=some (.int .i64 0)):=fun X hb=>jjy ((hb.block _ (Array.getElem?_eq_some_iff.1 hg0).1).trans hg0)
 obtain ⟨r0,r1,r2,r3⟩:=HXB.out W0 (Below.refl _ _);have HB0:=Lib.hid hb0;obtain ⟨k,hk,he,hl,ha⟩ | ⟨hl,ha⟩:=jcy t.vs r.a
 ·obtain ⟨g,hA,hg,hgl,hX,hC⟩:=h.foundV hs hk he hl;have HC:=Lib.hid (hC W0 hb0);have H1:Hid (jd0 t r=(5,t)):=by show jd0 t r=_;unfold jd0;rw [ha];rfl
  rw [H1.out];clear hX hC hA hl ha he H1 h hs n1 n2 n3 hf hi hz0 hz1 hz2 hg0 hb0;go_enter Tryz.func71,Tryz.ntmps71
  go_wp2_with fail
  rw [<- hW0];clear hW0
  go_wp2_with (go_at_call 99;with_reducible (refine Calls.mono HC.out ?_);rintro e w1 ⟨rfl,hb1⟩)
  go_ret;exact ⟨V,rfl,HB.out _ (jaa HB0.out hb1)⟩
 ·have HC:=Lib.hid (h.noV hs hl W0 hb0);obtain ⟨k,hk,he,hl2,ha2⟩ | ⟨hl2,ha2⟩:=jaX t.ts r.b
  ·obtain ⟨g,hA,hg,hgl,hX,hC⟩:=h.foundT hs hk he hl2;have HCT:=Lib.hid (fun X (hb:Below w.heap.size w X)=>hC X hb);have HX:=Lib.hid hX
   have hone:jd0 t r=if t.ts[k].dying=true then (10,t) else (0,{ t with vs:=jcj Vol.id ⟨r.a,r.b,r.c,0⟩ t.vs }):=by
    unfold jd0;rw [ha,ha2];rfl
   have HONE:=Lib.hid hone;by_cases hd:t.ts[k].dying=true
   ·have H1:Hid (jd0 t r=(10,t)):=by show _=_;rw [HONE.out,if_pos hd]
    rw [H1.out];simp only [hd] at HX;clear hX hC hA hl hl2 ha ha2 he hd H1 HONE hone h hs n1 n2 n3 hf hi hz0 hz1 hz2 hg0 hb0;go_enter Tryz.func71,Tryz.ntmps71
    go_wp2_with fail
    rw [<- hW0];clear hW0
    go_wp2_with (first
     | (go_at_call 99;with_reducible (refine Calls.mono HC.out ?_);rintro e w1 ⟨rfl,hb1⟩;obtain ⟨r0,r1,r2,r3⟩:=HXB.out _ hb1)
     | (go_at_call 91;with_reducible (refine Calls.mono (HCT.out _ (jaa HB0.out hb1)) ?_);rintro e w2 ⟨rfl,hb2⟩;obtain ⟨⟨x0,x1,x5⟩,f1,f5⟩:=HX.out _ (jaa HB0.out (jaa hb1 hb2))))
    go_ret;exact ⟨V,rfl,HB.out _ (jaa HB0.out (jaa hb1 hb2))⟩
   ·have hd2:t.ts[k].dying=false:=by simpa using hd
    have H1:Hid (jd0 t r=(0,{ t with vs:=jcj Vol.id ⟨r.a,r.b,r.c,0⟩ t.vs })):=by show _=_;rw [HONE.out,if_neg hd]
    rw [H1.out];simp only [hd2] at HX;have HH:Hid (jaZ lo w p V t):=h;have HBX:=Lib.hid (fun X (hb:Below w.heap.size w X)=>(h.below hb).cells)
    have hnew:∀ x∈t.vs ++ [(⟨r.a,r.b,r.c,0⟩:Vol)],0<=x.id/\x.id<=7:=fun x hx=>by
     rcases List.mem_append.1 hx with hx | hx
     ·exact (hs.vol x hx).1
     ·rw [List.mem_singleton] at hx;subst hx;exact hf
    have HNEW:=Lib.hid hnew;have HUP:Hid (jcW Vol.id (t.vs ++ [(⟨r.a,r.b,r.c,0⟩:Vol)])=jcj Vol.id ⟨r.a,r.b,r.c,0⟩ t.vs):=jl4 hs.vup;have HFL:Hid (jaE jb1 t.vs ++ [.int .i64 r.a,.int .i64 r.b,.int .i64 r.c,.int .i64 0]=jaE jb1 (t.vs ++ [(⟨r.a,r.b,r.c,0⟩:Vol)])):=(jdw (E:=jb1) t.vs ⟨r.a,r.b,r.c,0⟩).symm;have HLEN:Hid ((t.vs ++ [(⟨r.a,r.b,r.c,0⟩:Vol)]).length=t.vs.length + 1):=List.length_append;have HN1:Hid (t.vs.length + 1<=12):=by unfold Hid;omega
    clear hX hC hA H1 HONE hone hl hl2 ha ha2 he hd hd2 h hs n1 n2 n3 hf hg0 hb0 hnew;go_enter Tryz.func71,Tryz.ntmps71
    go_wp2_with fail
    rw [<- hW0];clear hW0
    go_wp2_with (first
     | (go_at_call 99;with_reducible (refine Calls.mono HC.out ?_);rintro e w1 ⟨rfl,hb1⟩;obtain ⟨r0,r1,r2,r3⟩:=HXB.out _ hb1)
     | (go_at_call 91;with_reducible (refine Calls.mono (HCT.out _ (jaa HB0.out hb1)) ?_);rintro e w3 ⟨rfl,hb2⟩;have hbx:=jaa hb1 hb2;obtain ⟨⟨x0,x1,x5⟩,f1,f5⟩:=HX.out _ (jaa HB0.out hbx);obtain ⟨r0,r1,r2,r3⟩:=HXB.out _ hbx))
    obtain ⟨y0,y1,y2⟩:=HBX.out _ (jaa HB0.out hbx);have hd3:=(HH.out.below (jaa HB0.out hbx)).below (Below.refl _ _).drew;have hba:Below w3.drew.heap.size w3.drew (w3.drew.alloc (.cells #[.int .i64 r.a,.int .i64 r.b,.int .i64 r.c,.int .i64 0] 82)):=(Below.refl _ _).alloc (Nat.le_refl _) _;have hda:=hd3.below hba;have za:(w3.alloc (.cells #[.int .i64 r.a,.int .i64 r.b,.int .i64 r.c,.int .i64 0] 82)).cell? ⟨p,1,none⟩=some (.slice V.A2 t.vs.length V.c2):=hda.cells.2.1;have HDA:=Lib.hid hda;have HNW:Hid (∀ j u,([.int .i64 r.a,.int .i64 r.b,.int .i64 r.c,.int .i64 0]:List Value)[j]? = some u->(w3.drew.alloc (.cells #[.int .i64 r.a,.int .i64 r.b,.int .i64 r.c,.int .i64 0] 82)).cell? ((⟨w3.drew.heap.size,0,none⟩:Addr).add j)=some u):=World.news_of_block (heap_alloc_new _ _);have HON:Hid (∀ u∈([.int .i64 r.a,.int .i64 r.b,.int .i64 r.c,.int .i64 0]:List Value),u.oneCell'=true):=jbQ ⟨r.a,r.b,r.c,0⟩;clear hd3 hda
    go_region_law (refine step_append_lies _ rfl _ _ 33 rfl lo 82 i0 (.agg #[.int .i64 0,.int .i64 0,.int .i64 0,.int .i64 0]) 4 32 Tryz.underlying33 hi hz0 hz1 hz2 rfl (by decide) (.slice V.A2 t.vs.length V.c2) t.vs.length (jaE jb1 t.vs) rfl HDA.out.rows.vs ⟨w3.drew.heap.size,0,none⟩ 1 1 [.int .i64 r.a,.int .i64 r.b,.int .i64 r.c,.int .i64 0] rfl rfl HNW.out HON.out (by decide) (by unfold maxLen;have:=HN1.out;omega) (by have:=HN1.out;omega) HDA.out.lo_le _ rfl ?_;intro g5 c5 w5 ho5 hg5 hn5 hl5;have hq5:=(hg5.block p HDA.out.lt (fun q=>HDA.out.p2 p (by rw [<- jaB];exact q.symm) rfl)).trans HDA.out.box;obtain ⟨_,z0,_⟩:=jai hq5;have zf:=frozen_of_row _ _ 1 _ _ hq5)
    all_goals
     have hs6:=jfP (.slice (some ⟨g5,0,none⟩) (t.vs.length + 1) c5) hq5
     have hga:w3.grownBy w5 (ob V.A2):=by
      rw [<- jaB V.A2 t.vs.length V.c2];exact (jaJ (Below.refl _ _).drew _).trans ((jaJ hba _).trans hg5)
     have hd3:=HH.out.below (jaa HB0.out hbx);rw [HFL.out] at ho5;have hd6:=hd3.turnV (W:=(w5.setCell ⟨p,1,none⟩ (.slice (some ⟨g5,0,none⟩) (t.vs.length + 1) c5))) (vs':=t.vs ++ [(⟨r.a,r.b,r.c,0⟩:Vol)]) (A':=some ⟨g5,0,none⟩) (c':=c5) (by rw [HLEN.out];exact ho5) hga (hn5.elim (fun q=>.inl (by rw [<- jaB V.A2 t.vs.length V.c2,q];rfl)) (fun q=>.inr (.inr ⟨g5,rfl,by rw [q];exact hba.size⟩))) (by rw [HLEN.out];exact hs6.1) hs6.2
     have hb6:Below lo w (w5.setCell ⟨p,1,none⟩ (.slice (some ⟨g5,0,none⟩) (t.vs.length + 1) c5)):=by
      have q1:=(HB.out _ (jaa HB0.out hbx)).2;have q2:=q1.grown hga hd3.lo_le fun b hb=>(ja1 hd3.rows.vs b hb).1
      exact jae q2 hs6.2 (Nat.le_trans hd3.lo_le hga.size) HH.out.hp
     obtain ⟨W6,hW6⟩:∃ W,W=w5.setCell ⟨p,1,none⟩ (.slice (some ⟨g5,0,none⟩) (t.vs.length + 1) c5):=⟨_,rfl⟩;rw [<- hW6] at hd6 hb6 ⊢;have hR6:RwV lo g5 (t.vs.length + 1) c5 W6 (t.vs ++ [(⟨r.a,r.b,r.c,0⟩:Vol)]) W6:=⟨by have:=hd6.rows.vs;rwa [HLEN.out] at this,jcP _ _,HLEN.out.symm⟩;have HSO:=Lib.hid (jne lo g5 (t.vs.length + 1) c5 101 _ W6 hR6 HN1.out (fun args w=>by kernel_rfl) (fun x hx y hy X=>jnN x y X (HNEW.out x hx) (HNEW.out y hy)))
     have y6:W6.cell? ⟨p,1,none⟩=some (.slice (some ⟨g5,0,none⟩) (t.vs.length + 1) c5):=by
      have:=hd6.cells.2.1
      rwa [HLEN.out] at this
     have HD6:=Lib.hid hd6;have HB6:=Lib.hid hb6;clear hs6 hga hd3 hd6 hb6 hR6 hq5 z0 zf ho5 hg5 hn5 hl5 hW6 hba za r0 r1 r2 r3 y0 y1 y2 HNW HON HDA HC HBX hbx hi hz0 hz1 hz2 x0 x1 x5 f1 f5
     go_wp2_with (go_at_call 100;with_reducible (refine Calls.mono HSO.out ?_);rintro e w7 ⟨rfl,hR7⟩)
     go_ret;have hl7:(jcW Vol.id (t.vs ++ [(⟨r.a,r.b,r.c,0⟩:Vol)])).length=(t.vs ++ [(⟨r.a,r.b,r.c,0⟩:Vol)]).length:=je9 _ _;have hd7:=HD6.out.inV (g:=g5) rfl hl7 (by have:=hR7.own;rw [<- HLEN.out] at this;exact this) hR7.grown;rw [HUP.out] at hd7;exact ⟨_,rfl,hd7,jae HB6.out hR7.grown (HD6.out.lo_le) (ja1 HD6.out.rows.vs g5 rfl).1⟩
  ·have HCT:=Lib.hid (fun X (hb:Below w.heap.size w X)=>h.noT hs hl2 X hb);have H1:Hid (jd0 t r=(4,t)):=by show jd0 t r=_;unfold jd0;rw [ha,ha2];rfl
   rw [H1.out];clear hl hl2 ha ha2 H1 h hs n1 n2 n3 hf hi hz0 hz1 hz2 hg0 hb0;go_enter Tryz.func71,Tryz.ntmps71
   go_wp2_with fail
   rw [<- hW0];clear hW0
   go_wp2_with (first
    | (go_at_call 99;with_reducible (refine Calls.mono HC.out ?_);rintro e w1 ⟨rfl,hb1⟩;obtain ⟨r0,r1,r2,r3⟩:=HXB.out _ hb1)
    | (go_at_call 91;with_reducible (refine Calls.mono (HCT.out _ (jaa HB0.out hb1)) ?_);rintro e w2 ⟨rfl,hb2⟩))
   go_ret;exact ⟨V,rfl,HB.out _ (jaa HB0.out (jaa hb1 hb2))⟩
theorem jcc {α:Type} (k:α->Int) {id:Int} : ∀ {l:List α} {i:Nat} (hi:i < l.length),(l.Pairwise fun a b=>k a < k b)->k l[i]=id->(l.filter fun x=>decide (k x≠id))=l.eraseIdx i
 | x :: l,0,hi,h,he=>by
  obtain ⟨h1,h2⟩:=List.pairwise_cons.1 h;have he':k x=id:=he;rw [List.filter_cons_of_neg (by simp [he']),List.eraseIdx_cons_zero];exact List.filter_eq_self.2 fun y hy=>by have:=h1 y hy;exact decide_eq_true (by omega)
 | x :: l,i + 1,hi,h,he=>by
  obtain ⟨h1,h2⟩:=List.pairwise_cons.1 h;have hi2:i < l.length:=by simpa using hi
  have he':k l[i]=id:=by simpa using he
  have hx:=h1 l[i] (List.getElem_mem hi2);have hd:decide (k x≠id)=true:=decide_eq_true (by omega);rw [List.filter_cons_of_pos (p:=fun x=>decide (k x≠id)) hd,List.eraseIdx_cons_succ,jcc k hi2 h2 he']
def ja7 {α:Type} (l:List α) (k j:Nat):List α:=(l.eraseIdx k).take (j - 1) ++ l.drop (j - 1)
theorem jis {α:Type} {l:List α} {k j:Nat} (hk:k < l.length) (hj:j<=l.length) (h1:1<=j):(ja7 l k j).length=l.length:=by
 unfold ja7;rw [List.length_append,List.length_take,List.length_eraseIdx_of_lt hk,List.length_drop];omega
theorem jf4 {α:Type} {l:List α} {k:Nat} : ja7 l k (k + 1)=l:=by
 unfold ja7;rw [Nat.add_sub_cancel]
 have e:(l.eraseIdx k).take k=l.take k:=by
  refine List.ext_getElem? fun i=>?_
  rw [List.getElem?_take,List.getElem?_take];by_cases h:i < k
  ·rw [if_pos h,if_pos h,List.getElem?_eraseIdx_of_lt h]
  ·rw [if_neg h,if_neg h]
 rw [e,List.take_append_drop]
theorem jkb {α:Type} {l:List α} {k j:Nat} (hk:k < l.length) (hj:j < l.length) (h1:1<=j):(ja7 l k j)[j]? = some l[j]:=by
 unfold ja7;have hl:((l.eraseIdx k).take (j - 1)).length=j - 1:=by rw [List.length_take,List.length_eraseIdx_of_lt hk];omega
 rw [List.getElem?_append_right (by omega),hl,List.getElem?_drop,show j - 1 + (j - (j - 1))=j by omega,List.getElem?_eq_getElem hj]
theorem jgA {α:Type} {l:List α} {k j:Nat} (hk:k < j) (hj:j < l.length):(ja7 l k j).set (j - 1) l[j]=ja7 l k (j + 1):=by
 have hkl:k < l.length:=by omega
 unfold ja7;have hl:((l.eraseIdx k).take (j - 1)).length=j - 1:=by rw [List.length_take,List.length_eraseIdx_of_lt hkl];omega
 rw [List.set_append_right (h:=by omega),hl,Nat.sub_self,Nat.add_sub_cancel,List.drop_eq_getElem_cons (i:=j - 1) (by omega),List.set_cons_zero,show j - 1 + 1=j by omega];have hel:j - 1 < (l.eraseIdx k).length:=by rw [List.length_eraseIdx_of_lt hkl];omega
 have e:(l.eraseIdx k).take j=(l.eraseIdx k).take (j - 1) ++ [l[j]]:=by
  have h2:=List.take_succ_eq_append_getElem hel;rw [show j - 1 + 1=j by omega] at h2;rw [h2]
  congr 2
  have h3:=List.getElem?_eraseIdx_of_ge (l:=l) (i:=k) (j:=j - 1) (by omega);rw [show j - 1 + 1=j by omega,List.getElem?_eq_getElem hel,List.getElem?_eq_getElem hj] at h3;injection h3
 rw [e];simp
theorem jiu {α:Type} {l:List α} {k:Nat} (hk:k < l.length):(ja7 l k l.length).take (l.length - 1)=l.eraseIdx k:=by
 unfold ja7;have hl:(l.eraseIdx k).length=l.length - 1:=List.length_eraseIdx_of_lt hk;rw [List.take_append_of_le_length (by rw [List.length_take,hl];omega),List.take_take,Nat.min_self,List.take_of_length_le (by omega)]
theorem jgB {P:Program} {ops:Array Oper} {rest:List Oper} {o:Oper} {a:Act} {w:World} {Q:Exit->Act->World->Prop} (hgd:o.guard=none) (ty:TypeId) (x y:Operand) (ho:o.op=.store ty x y)
  {α:Type} {E:α->List Value} {e base t n g c k:Nat} {A:Option Addr} {l:List α} (hE:∀ x,(E x).length=e) (h1:∀ x,∀ u∈E x,u.oneCell'=true) (h:w.ownsRow base t e (.slice A n c) n (jaE E l)) (hA:A=some ⟨g,0,none⟩) (hn:n=l.length) (hk:k < l.length)
  (off:Nat) (hoff:off=k * e) (z:α) (hx:a.eval x=.pointer (some ⟨g,off,none⟩)) (cs:Array Value) (hcs:cs=(E z).toArray) (hy:a.eval y=.agg cs) (hi:(P.info? ty).map (·.size)=some e)
  (hK:∀ W:World,W.ownsRow base t e (.slice A n c) n (jaE E (l.set k z))->w.grownBy W (some g)->wpList P ops Q rest (a.put o.dst undef) W):wpList P ops Q (o :: rest) a w:=by
 subst hoff hcs;have hs:((E z).toArray).size=e:=by rw [List.size_toArray,hE]
 have hth:w.there g (k * e) ((E z).toArray).size:=fun j hj=>by
  rw [hs] at hj;obtain ⟨g2,hA2,_,_,_,hc,hf⟩:=jb2 hE h hn hk;have:g2=g:=by rw [hA] at hA2;injection hA2 with q;injection q with q;exact q.symm
  subst this;refine ⟨?_,hf _⟩;rw [hc j _ (List.getElem?_eq_getElem (by rw [hE];exact hj))];rfl
 refine wpList_store_mid hgd ty x y ho g (k * e) _ hx hy hth (by rw [hs];exact hi) (all_oneCell_toArray (h1 z)) (hK _ ?_ ?_)
 ·exact jdV hE h hA hn hk z
 ·exact jal w g (k * e) (E z)
theorem jeY {P:Program} {ops:Array Oper} {rest:List Oper} {o:Oper} {a:Act} {w:World} {Q:Exit->Act->World->Prop} (hgd:o.guard=none) (s:Operand) (ty et:TypeId)
  (ho:o.op=.call { callee:=.builtin .clear,args:=#[s],argTypes:=#[ty] }) (hu:P.underlying ty=some (.slice et)) (zv:Value) (hz:∀ w,(zeroValue et).run P w=.ok zv w)
  {α:Type} {E:α->List Value} {e base t n g c k:Nat} {A:Option Addr} {l:List α} (hE:∀ x,(E x).length=e) (h1:∀ x,∀ u∈E x,u.oneCell'=true) (h:w.ownsRow base t e (.slice A n c) n (jaE E l)) (hA:A=some ⟨g,0,none⟩) (hn:n=l.length) (hk:k < l.length)
  (off:Nat) (hoff:off=k * e) (c':Nat) (z:α) (hs:a.eval s=.slice (some ⟨g,off,none⟩) 1 c') (hzc:(Builtin.zeroCells zv.cells 1).toList=E z)
  (hK:∀ W:World,W.ownsRow base t e (.slice A n c) n (jaE E (l.set k z))->w.grownBy W (some g)->wpList P ops Q rest (a.put o.dst (.tuple #[])) W):wpList P ops Q (o :: rest) a w:=by
 subst hoff;refine wpList_plain hgd fun K hKK=>?_
 have hth:∀ j,j < (E z).length->(w.cell? ⟨g,k * e + j,none⟩).isSome=true/\w.frozen? ⟨g,k * e + j,none⟩=false:=fun j hj=>by
  rw [hE] at hj;obtain ⟨g2,hA2,_,_,_,hc,hf⟩:=jb2 hE h hn hk;have:g2=g:=by rw [hA] at hA2;injection hA2 with q;injection q with q;exact q.symm
  subst this;refine ⟨?_,hf _⟩;rw [hc j _ (List.getElem?_eq_getElem (by rw [hE];exact hj))];rfl
 have hst:=run_storeCells_cells (P:=P) g (k * e) (E z) 0 w (fun j hj=>(hth j hj).1) (fun j hj=>(hth j hj).2) (h1 z)
 have hrun:(Builtin.clear_ #[ty] o.type #[.slice (some ⟨g,k * e,none⟩) 1 c']).run P w=.ok (.tuple #[]) (w.setCells g (k * e) (E z)):=by
  simp [Builtin.clear_,run_underlying hu,hz,hzc,hst]
 unfold Oper.wp execOp;simp only [ho,resolve,invoke,builtin,Sem.run_bind,Sem.run_pure,Result.andThen_ok,List.map_toArray,List.map_cons,List.map_nil,hs,hrun];exact hKK _ _ (hK _ (jdV hE h hA hn hk z) (jal w g (k * e) (E z)))
theorem zcT:(Builtin.zeroCells (Value.cells (.agg #[.int .i64 0,.int .i64 0,.int .i64 0,.int .i64 0,.string ⟨#[]⟩,.bool false])) 1).toList=jbP ⟨0,0,0,0,⟨#[]⟩,false⟩:=by kernel_rfl
theorem Tryz.infoZT:(Tryz.prog.info? 52).map (fun i=>(i.zero,i.size))=some (some (.agg #[.int .i64 0,.int .i64 0,.int .i64 0,.int .i64 0,.string ⟨#[]⟩,.bool false]),6):=by kernel_rfl
theorem jko (lo g N c k:Nat) (id:Int) (fn:FuncId) (cb:Array Value) (L:List Ten) (w:World) (hR:RwT lo g N c w L w) (h12:N<=12) (hup:L.Pairwise fun a b=>a.id < b.id) (hk:k < L.length) (hid:L[k].id=id)
  (he:∀ args w,(callFunc fn args).run Tryz.prog w=.ok (.enter fn args) w)
  (hc:∀ (x:Ten) X,w.grownBy X (some g)->Calls Tryz.prog fn (#[.agg (jcQ x)] ++ cb) X fun e w'=>e=.returned (.bool (decide (x.id=id)))/\Below X.heap.size X w') :
  Calls Tryz.prog 97 #[.slice (some ⟨g,0,none⟩) N c,.func (.func fn) #[] cb] w fun e w'=>e=.returned (.slice (some ⟨g,0,none⟩) (N - 1:Nat) c)/\RwT lo g (N - 1) c w (L.eraseIdx k) w':=by
 have hNL:=hR.len
 have hl:∀ j,(h:j < L.length)->j < k->L[j].id≠id:=fun j hj hjk=>by
  have:=List.pairwise_iff_getElem.1 hup j k hj hk hjk;omega
 have hafter:∀ j,(h:j < L.length)->k < j->L[j].id≠id:=fun j hj hjk=>by
  have:=List.pairwise_iff_getElem.1 hup k j hk hj hjk;omega
 have hfirst:jbk (fun j=>decide (∃ h:j < L.length,L[j].id=id)) L.length k:=.inr ⟨k,hk,rfl,decide_eq_true ⟨hk,hid⟩,fun j hj=>decide_eq_false fun ⟨h,e⟩=>hl j h hj e⟩
 have hidx:=jeD (some ⟨g,0,none⟩) c L _ k fn cb w (by omega) (jdS (by rw [<- hNL];exact hR.own)) hfirst he (fun j hj X hb=>by
  have q:=hc L[j] X (jaJ hb _)
  have e:decide (∃ h:j < L.length,L[j].id=id)=decide (L[j].id=id):=by
   rw [Bool.eq_iff_iff,decide_eq_true_iff,decide_eq_true_iff];exact ⟨fun ⟨_,e⟩=>e,fun e=>⟨hj,e⟩⟩
  rw [e];exact q)
 rw [<- hNL] at hidx;have HIDX:=Lib.hid hidx;have HC:=Lib.hid hc;have HNL:Hid (N=L.length):=hNL;have HST:Hid (ja7 L k (k + 1)=L):=jf4;have HEN:Hid ((ja7 L k N).take (N - 1)=L.eraseIdx k):=by rw [hNL];exact jiu hk
 have HLN:Hid (∀ j,j<=N->1<=j->N=(ja7 L k j).length):=fun j h1 h2=>by rw [jis hk (by omega) h2];exact hNL
 have HEL:Hid ((L.eraseIdx k).length=N - 1):=by unfold Hid;rw [List.length_eraseIdx_of_lt hk,hNL]
 have HAT:Hid (∀ j,(h:j < L.length)->k < j->(ja7 L k j)[j]? = some L[j]/\(ja7 L k j).set (j - 1) L[j]=ja7 L k (j + 1)/\L[j].id≠id):=fun j h1 h2=>⟨jkb hk h1 (by omega),jgA h2 h1,hafter j h1 h2⟩
 have HR:=Lib.hid hR;have eg:=he;have hkN:k < N:=by omega
 have v1:IntKind.i64.wrap ((k:Int) + 1)=((k + 1:Nat):Int):=by rw [IntWalk.i64_in _ (by omega)];omega
 have kne:((k:Int) == -1)=false:=by rw [beq_eq_false_iff_ne];omega
 clear hl hafter hfirst hidx hc hNL hR hup hid hk he;go_enter Tryz.func97,Tryz.ntmps97
 go_wp2_with (go_at_call 129;with_reducible (refine Calls.mono HIDX.out ?_);rintro e w1 ⟨rfl,hb1⟩)
 have HR1:=Lib.hid (HR.out.below hb1);clear HR HIDX hb1
 go_loopw [5,6] (fun iv jv wr=>∃ i j:Nat,i + 1=j/\k < j/\j<=N/\iv=.int .i64 i/\jv=.int .i64 j/\Hid (RwT lo g N c w (ja7 L k j) wr)) (fun _ jv _=>N - (intOf jv).toNat)
 case atStart=>exact ⟨k,k + 1,rfl,Nat.lt_succ_self k,hkN,rfl,by first | rfl | go_num,by rw [HST.out];exact HR1.out⟩
 case round =>
  clear HR1 v1 kne;obtain ⟨i,j,hij,hkj,hjN,rfl,rfl,S1⟩:=hrel;by_cases hlt:j < N
  ·have k1:(j:Int) < (N:Int):=by omega
   have k0:(0:Int)<=(j:Int):=by omega
   have i1:(i:Int) < (N:Int):=by omega
   have i0:(0:Int)<=(i:Int):=by omega
   have hjL:j < L.length:=by have:=HNL.out;omega
   obtain ⟨hat,hset,hne⟩:=HAT.out j hjL hkj;have hlen:=HLN.out j (by omega) (by omega);have hjD:j < (ja7 L k j).length:=by omega
   have hcell:=S1.out.at_ hjD;have hat2:(ja7 L k j)[j]=L[j]:=by rw [List.getElem?_eq_getElem hjD] at hat;injection hat
   rw [hat2] at hcell;obtain ⟨y,hy⟩:∃ y,y=L[j]:=⟨_,rfl⟩;rw [<- hy] at hcell hset hne;obtain ⟨xp0,xp1,xp2,xp3,xp4,xp5⟩:=hcell;have hb0:Below wr.heap.size wr (wr.alloc (.cells #[.int .i64 y.id,.int .i64 y.quota,.int .i64 y.rate,.int .i64 y.burst,.string y.key,.bool y.dying] 52)):=(Below.refl _ _).alloc (Nat.le_refl _) _;have hcl:=HC.out y (wr.alloc (.cells #[.int .i64 y.id,.int .i64 y.quota,.int .i64 y.rate,.int .i64 y.burst,.string y.key,.bool y.dying] 52)) (S1.out.grown.trans (jaJ hb0 _));rw [decide_eq_false hne,show jcQ y=#[.int .i64 y.id,.int .i64 y.quota,.int .i64 y.rate,.int .i64 y.burst,.string y.key,.bool y.dying] from rfl] at hcl;have HCL:=Lib.hid hcl;have HX:Hid (∀ W:World,Below (wr.alloc (.cells #[.int .i64 y.id,.int .i64 y.quota,.int .i64 y.rate,.int .i64 y.burst,.string y.key,.bool y.dying] 52)).heap.size (wr.alloc (.cells #[.int .i64 y.id,.int .i64 y.quota,.int .i64 y.rate,.int .i64 y.burst,.string y.key,.bool y.dying] 52)) W->(W.cell? ⟨wr.heap.size,0,none⟩=some (.int .i64 y.id)/\W.cell? ⟨wr.heap.size,1,none⟩=some (.int .i64 y.quota)/\W.cell? ⟨wr.heap.size,2,none⟩=some (.int .i64 y.rate)/\W.cell? ⟨wr.heap.size,3,none⟩=some (.int .i64 y.burst)/\W.cell? ⟨wr.heap.size,4,none⟩=some (.string y.key)/\W.cell? ⟨wr.heap.size,5,none⟩=some (.bool y.dying))):=fun W hb=>jbz ((hb.block _ (by simp)).trans (heap_alloc_new wr _))
   have HSET:=Lib.hid hset;have HY:Hid (#[.int .i64 y.id,.int .i64 y.quota,.int .i64 y.rate,.int .i64 y.burst,.string y.key,.bool y.dying]=(jbP y).toArray):=rfl;have HIJ:Hid (i=j - 1):=by unfold Hid;omega
   have hiL:Hid (i < (ja7 L k j).length):=by unfold Hid;omega
   have hlen2:Hid (N=(ja7 L k j).length):=hlen;have hlen3:Hid (N=(ja7 L k (j + 1)).length):=HLN.out (j + 1) (by omega) (by omega);clear HC HAT hcl hat hat2 hset hne hy hlen hjD HST HEN HEL HLN
   go_wp2_with (first
    | (go_at_fn fn;with_reducible (refine Calls.mono HCL.out ?_);rintro e w2 ⟨rfl,hb2⟩
       obtain ⟨xq0,xq1,xq2,xq3,xq4,xq5⟩:=HX.out _ hb2;have hb3:=jaa hb0 hb2;have S2:=Lib.hid (S1.out.below hb3))
    | (refine jgB rfl 52 _ _ rfl jaF jbT S2.out.own rfl hlen2.out hiL.out _ rfl y rfl _ HY.out rfl Tryz.infTS ?_;intro W5 ho5 hg5))
   have S5:Hid (RwT lo g N c w (ja7 L k (j + 1)) W5):=by
    rw [HIJ.out,HSET.out] at ho5;exact ⟨ho5,S2.out.grown.trans hg5,hlen3.out⟩
   clear S1 S2 ho5 hg5 hb0 hb2 hb3 xp0 xp1 xp2 xp3 xp4 xp5 xq0 xq1 xq2 xq3 xq4 xq5 HX HCL;go_roundw
   case rel=>first | exact ⟨j,j + 1,rfl,by omega,by omega,by go_num,by go_num,S5⟩ | ((repeat apply Exists.intro);exact ⟨⟨j,j + 1,rfl,by omega,by omega,by go_num,by go_num,S5⟩,rfl⟩)
   case measure=>simp [intOf];omega
  ·have hjn:j=N:=by omega
   subst hjn;have k1:¬ (j:Int) < (j:Int):=by omega
   have hiD:Hid (i < (ja7 L k j).length):=by unfold Hid;have:=HLN.out j (Nat.le_refl _) (by omega);omega
   have hlenj:Hid (j=(ja7 L k j).length):=HLN.out j (Nat.le_refl _) (by omega);have hjc:j<=c:=jfD S1.out.own;clear HC HAT HST;have i0:(0:Int)<=(i:Int):=by omega
   have i1:(i:Int)<=(j:Int):=by omega
   have i2:(i:Int)<=(c:Int):=by omega
   have hne:¬ c=i:=by omega
   have hji:j - i=1:=by omega
   go_wp2_with (refine jeY rfl _ 32 52 rfl Tryz.underlying32 (.agg #[.int .i64 0,.int .i64 0,.int .i64 0,.int .i64 0,.string ⟨#[]⟩,.bool false]) (zero_of_info Tryz.infoZT).1 jaF jbT S1.out.own rfl hlenj.out hiD.out _ rfl _ ⟨0,0,0,0,⟨#[]⟩,false⟩ rfl zcT ?_;intro W6 ho6 hg6)
   have hij2:i=j - 1:=by omega
   have S6:Hid (RwT lo g (j - 1) c w (L.eraseIdx k) W6):=by
    refine ⟨?_,S1.out.grown.trans hg6,HEL.out.symm⟩;have h7:=jg3 jaF ho6 (by rw [List.length_set];exact hlenj.out) (m:=j - 1) (by omega)
    have e:((ja7 L k j).set i ⟨0,0,0,0,⟨#[]⟩,false⟩).take (j - 1)=L.eraseIdx k:=by
     rw [<- HEN.out,hij2];refine List.ext_getElem? fun q=>?_
     rw [List.getElem?_take,List.getElem?_take];by_cases hq:q < j - 1
     ·rw [if_pos hq,if_pos hq,List.getElem?_set_ne (by omega)]
     ·rw [if_neg hq,if_neg hq]
    rw [e] at h7;exact h7
   have hcast:Hid (((j - 1:Nat))=i):=hij2.symm;clear S1 ho6 hg6;go_wp2;go_ret;exact ⟨by rw [hcast.out];rfl,S6.out⟩
theorem zcV:(Builtin.zeroCells (Value.cells (.agg #[.int .i64 0,.int .i64 0,.int .i64 0,.int .i64 0])) 1).toList=jb1 ⟨0,0,0,0⟩:=by kernel_rfl
theorem Tryz.infoZV:(Tryz.prog.info? 82).map (fun i=>(i.zero,i.size))=some (some (.agg #[.int .i64 0,.int .i64 0,.int .i64 0,.int .i64 0]),4):=by kernel_rfl
theorem jkw (lo g N c k:Nat) (id:Int) (fn:FuncId) (cb:Array Value) (L:List Vol) (w:World) (hR:RwV lo g N c w L w) (h12:N<=12) (hup:L.Pairwise fun a b=>a.id < b.id) (hk:k < L.length) (hid:L[k].id=id)
  (he:∀ args w,(callFunc fn args).run Tryz.prog w=.ok (.enter fn args) w)
  (hc:∀ (x:Vol) X,w.grownBy X (some g)->Calls Tryz.prog fn (#[.agg (jcJ x)] ++ cb) X fun e w'=>e=.returned (.bool (decide (x.id=id)))/\Below X.heap.size X w') :
  Calls Tryz.prog 102 #[.slice (some ⟨g,0,none⟩) N c,.func (.func fn) #[] cb] w fun e w'=>e=.returned (.slice (some ⟨g,0,none⟩) (N - 1:Nat) c)/\RwV lo g (N - 1) c w (L.eraseIdx k) w':=by
 have hNL:=hR.len
 have hl:∀ j,(h:j < L.length)->j < k->L[j].id≠id:=fun j hj hjk=>by
  have:=List.pairwise_iff_getElem.1 hup j k hj hk hjk;omega
 have hafter:∀ j,(h:j < L.length)->k < j->L[j].id≠id:=fun j hj hjk=>by
  have:=List.pairwise_iff_getElem.1 hup k j hk hj hjk;omega
 have hfirst:jbk (fun j=>decide (∃ h:j < L.length,L[j].id=id)) L.length k:=.inr ⟨k,hk,rfl,decide_eq_true ⟨hk,hid⟩,fun j hj=>decide_eq_false fun ⟨h,e⟩=>hl j h hj e⟩
 have hidx:=jey (some ⟨g,0,none⟩) c L _ k fn cb w (by omega) (jdW (by rw [<- hNL];exact hR.own)) hfirst he (fun j hj X hb=>by
  have q:=hc L[j] X (jaJ hb _)
  have e:decide (∃ h:j < L.length,L[j].id=id)=decide (L[j].id=id):=by
   rw [Bool.eq_iff_iff,decide_eq_true_iff,decide_eq_true_iff];exact ⟨fun ⟨_,e⟩=>e,fun e=>⟨hj,e⟩⟩
  rw [e];exact q)
 rw [<- hNL] at hidx;have HIDX:=Lib.hid hidx;have HC:=Lib.hid hc;have HNL:Hid (N=L.length):=hNL;have HST:Hid (ja7 L k (k + 1)=L):=jf4;have HEN:Hid ((ja7 L k N).take (N - 1)=L.eraseIdx k):=by rw [hNL];exact jiu hk
 have HLN:Hid (∀ j,j<=N->1<=j->N=(ja7 L k j).length):=fun j h1 h2=>by rw [jis hk (by omega) h2];exact hNL
 have HEL:Hid ((L.eraseIdx k).length=N - 1):=by unfold Hid;rw [List.length_eraseIdx_of_lt hk,hNL]
 have HAT:Hid (∀ j,(h:j < L.length)->k < j->(ja7 L k j)[j]? = some L[j]/\(ja7 L k j).set (j - 1) L[j]=ja7 L k (j + 1)/\L[j].id≠id):=fun j h1 h2=>⟨jkb hk h1 (by omega),jgA h2 h1,hafter j h1 h2⟩
 have HR:=Lib.hid hR;have eg:=he;have hkN:k < N:=by omega
 have v1:IntKind.i64.wrap ((k:Int) + 1)=((k + 1:Nat):Int):=by rw [IntWalk.i64_in _ (by omega)];omega
 have kne:((k:Int) == -1)=false:=by rw [beq_eq_false_iff_ne];omega
 clear hl hafter hfirst hidx hc hNL hR hup hid hk he;go_enter Tryz.func102,Tryz.ntmps102
 go_wp2_with (go_at_call 135;with_reducible (refine Calls.mono HIDX.out ?_);rintro e w1 ⟨rfl,hb1⟩)
 have HR1:=Lib.hid (HR.out.below hb1);clear HR HIDX hb1
 go_loopw [5,6] (fun iv jv wr=>∃ i j:Nat,i + 1=j/\k < j/\j<=N/\iv=.int .i64 i/\jv=.int .i64 j/\Hid (RwV lo g N c w (ja7 L k j) wr)) (fun _ jv _=>N - (intOf jv).toNat)
 case atStart=>exact ⟨k,k + 1,rfl,Nat.lt_succ_self k,hkN,rfl,by first | rfl | go_num,by rw [HST.out];exact HR1.out⟩
 case round =>
  clear HR1 v1 kne;obtain ⟨i,j,hij,hkj,hjN,rfl,rfl,S1⟩:=hrel;by_cases hlt:j < N
  ·have k1:(j:Int) < (N:Int):=by omega
   have k0:(0:Int)<=(j:Int):=by omega
   have i1:(i:Int) < (N:Int):=by omega
   have i0:(0:Int)<=(i:Int):=by omega
   have hjL:j < L.length:=by have:=HNL.out;omega
   obtain ⟨hat,hset,hne⟩:=HAT.out j hjL hkj;have hlen:=HLN.out j (by omega) (by omega);have hjD:j < (ja7 L k j).length:=by omega
   have hcell:=S1.out.at_ hjD;have hat2:(ja7 L k j)[j]=L[j]:=by rw [List.getElem?_eq_getElem hjD] at hat;injection hat
   rw [hat2] at hcell;obtain ⟨y,hy⟩:∃ y,y=L[j]:=⟨_,rfl⟩;rw [<- hy] at hcell hset hne;obtain ⟨xp0,xp1,xp2,xp3⟩:=hcell;have hb0:Below wr.heap.size wr (wr.alloc (.cells #[.int .i64 y.id,.int .i64 y.ten,.int .i64 y.blocks,.int .i64 y.base] 82)):=(Below.refl _ _).alloc (Nat.le_refl _) _;have hcl:=HC.out y (wr.alloc (.cells #[.int .i64 y.id,.int .i64 y.ten,.int .i64 y.blocks,.int .i64 y.base] 82)) (S1.out.grown.trans (jaJ hb0 _));rw [decide_eq_false hne,show jcJ y=#[.int .i64 y.id,.int .i64 y.ten,.int .i64 y.blocks,.int .i64 y.base] from rfl] at hcl;have HCL:=Lib.hid hcl;have HX:Hid (∀ W:World,Below (wr.alloc (.cells #[.int .i64 y.id,.int .i64 y.ten,.int .i64 y.blocks,.int .i64 y.base] 82)).heap.size (wr.alloc (.cells #[.int .i64 y.id,.int .i64 y.ten,.int .i64 y.blocks,.int .i64 y.base] 82)) W->(W.cell? ⟨wr.heap.size,0,none⟩=some (.int .i64 y.id)/\W.cell? ⟨wr.heap.size,1,none⟩=some (.int .i64 y.ten)/\W.cell? ⟨wr.heap.size,2,none⟩=some (.int .i64 y.blocks)/\W.cell? ⟨wr.heap.size,3,none⟩=some (.int .i64 y.base))):=fun W hb=>jjy ((hb.block _ (by simp)).trans (heap_alloc_new wr _))
   have HSET:=Lib.hid hset;have HY:Hid (#[.int .i64 y.id,.int .i64 y.ten,.int .i64 y.blocks,.int .i64 y.base]=(jb1 y).toArray):=rfl;have HIJ:Hid (i=j - 1):=by unfold Hid;omega
   have hiL:Hid (i < (ja7 L k j).length):=by unfold Hid;omega
   have hlen2:Hid (N=(ja7 L k j).length):=hlen;have hlen3:Hid (N=(ja7 L k (j + 1)).length):=HLN.out (j + 1) (by omega) (by omega);clear HC HAT hcl hat hat2 hset hne hy hlen hjD HST HEN HEL HLN
   go_wp2_with (first
    | (go_at_fn fn;with_reducible (refine Calls.mono HCL.out ?_);rintro e w2 ⟨rfl,hb2⟩
       obtain ⟨xq0,xq1,xq2,xq3⟩:=HX.out _ hb2;have hb3:=jaa hb0 hb2;have S2:=Lib.hid (S1.out.below hb3))
    | (refine jgB rfl 82 _ _ rfl jaG jbQ S2.out.own rfl hlen2.out hiL.out _ rfl y rfl _ HY.out rfl Tryz.infVS ?_;intro W5 ho5 hg5))
   have S5:Hid (RwV lo g N c w (ja7 L k (j + 1)) W5):=by
    rw [HIJ.out,HSET.out] at ho5;exact ⟨ho5,S2.out.grown.trans hg5,hlen3.out⟩
   clear S1 S2 ho5 hg5 hb0 hb2 hb3 xp0 xp1 xp2 xp3 xq0 xq1 xq2 xq3 HX HCL;go_roundw
   case rel=>first | exact ⟨j,j + 1,rfl,by omega,by omega,by go_num,by go_num,S5⟩ | ((repeat apply Exists.intro);exact ⟨⟨j,j + 1,rfl,by omega,by omega,by go_num,by go_num,S5⟩,rfl⟩)
   case measure=>simp [intOf];omega
  ·have hjn:j=N:=by omega
   subst hjn;have k1:¬ (j:Int) < (j:Int):=by omega
   have hiD:Hid (i < (ja7 L k j).length):=by unfold Hid;have:=HLN.out j (Nat.le_refl _) (by omega);omega
   have hlenj:Hid (j=(ja7 L k j).length):=HLN.out j (Nat.le_refl _) (by omega);have hjc:j<=c:=jfD S1.out.own;clear HC HAT HST;have i0:(0:Int)<=(i:Int):=by omega
   have i1:(i:Int)<=(j:Int):=by omega
   have i2:(i:Int)<=(c:Int):=by omega
   have hne:¬ c=i:=by omega
   have hji:j - i=1:=by omega
   go_wp2_with (refine jeY rfl _ 33 82 rfl Tryz.underlying33 (.agg #[.int .i64 0,.int .i64 0,.int .i64 0,.int .i64 0]) (zero_of_info Tryz.infoZV).1 jaG jbQ S1.out.own rfl hlenj.out hiD.out _ rfl _ ⟨0,0,0,0⟩ rfl zcV ?_;intro W6 ho6 hg6)
   have hij2:i=j - 1:=by omega
   have S6:Hid (RwV lo g (j - 1) c w (L.eraseIdx k) W6):=by
    refine ⟨?_,S1.out.grown.trans hg6,HEL.out.symm⟩;have h7:=jg3 jaG ho6 (by rw [List.length_set];exact hlenj.out) (m:=j - 1) (by omega)
    have e:((ja7 L k j).set i ⟨0,0,0,0⟩).take (j - 1)=L.eraseIdx k:=by
     rw [<- HEN.out,hij2];refine List.ext_getElem? fun q=>?_
     rw [List.getElem?_take,List.getElem?_take];by_cases hq:q < j - 1
     ·rw [if_pos hq,if_pos hq,List.getElem?_set_ne (by omega)]
     ·rw [if_neg hq,if_neg hq]
    rw [e] at h7;exact h7
   have hcast:Hid (((j - 1:Nat))=i):=hij2.symm;clear S1 ho6 hg6;go_wp2;go_ret;exact ⟨by rw [hcast.out];rfl,S6.out⟩
end Go.Proofs.YtbnhkplhmanmoaaGreat
