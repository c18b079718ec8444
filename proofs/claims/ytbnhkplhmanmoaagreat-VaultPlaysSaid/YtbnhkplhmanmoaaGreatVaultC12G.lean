/- . -/
import Derived.Test.YtbnhkplhmanmoaaGreatVaultC10G
namespace Go.Proofs.YtbnhkplhmanmoaaGreat
open Go.RowKit
set_option maxHeartbeats 6400000
section
variable {Rep:World->Nat->(Nat->Prop)->Dk->Prop}
variable (L:jbX Rep)
include L
theorem jir {w:World} {p q:Nat} {F:Nat->Prop} {s:Dk} {d:Option Addr} {V:jat} {v:Vt} (h:jdK Rep w p q F s d V v) (hs:v.t.sound) :
  Calls Tryz.prog 15 #[.pointer (some ⟨q,0,none⟩)] w fun e w'=>∃ V',e=.returned (.agg #[.slice V'.A1 v.t.ts.length V'.c1,.slice V'.A2 v.t.vs.length V'.c2,.slice V'.A3 v.t.os.length V'.c3])/\jao w' w'.heap.size V' v.t/\jay w.heap.size V'/\Below w.heap.size w w':=by
 have hb0:Below w.heap.size w (w.alloc (.cells #[.slice none 0 0,.slice none 0 0,.slice none 0 0] 35)):=(Below.refl _ _).alloc (Nat.le_refl _) _;have hg0:=heap_alloc_new w (.cells #[.slice none 0 0,.slice none 0 0,.slice none 0 0] 35);obtain ⟨W0,hW0⟩:∃ W,W=w.alloc (.cells #[.slice none 0 0,.slice none 0 0,.slice none 0 0] 35):=⟨_,rfl⟩;rw [<- hW0] at hb0 hg0
 have HA:Hid (Calls Tryz.prog 24 #[.agg #[.slice V.A1 v.t.ts.length V.c1,.slice V.A2 v.t.vs.length V.c2,.slice V.A3 v.t.os.length V.c3],.slice none 0 0] W0 fun e w'=>∃ V',e=.returned (.tuple #[.agg #[.slice V'.A1 v.t.ts.length V'.c1,.slice V'.A2 v.t.vs.length V'.c2,.slice V'.A3 v.t.os.length V'.c3],.int .i64 0])/\jao w' w'.heap.size V' v.t/\jay W0.heap.size V'/\Below W0.heap.size W0 w'):=by
  have:=(L.t W0).apply V v.t none 0 [] W0 (Below.refl _ _) ((h.tab.below hb0).more hb0.size) (jdg hs) (jax.nil _ _ _) (Nat.le_refl _) (fun r hr=>absurd hr (List.not_mem_nil)) (by decide);rw [show jbR v.t []=(0,v.t) from jcV hs] at this;exact this
 have hc:=(hb0.block _ (Array.getElem?_eq_some_iff.1 h.cells).1).trans h.cells;unfold vtC at hc;obtain ⟨_,c1,c2,c3,_⟩:=jdJ hc;have hq:q < w.heap.size:=(Array.getElem?_eq_some_iff.1 h.cells).1;have HG:Hid (∀ X,Below W0.heap.size W0 X->X.heap[w.heap.size]? = some (.cells #[.slice none 0 0,.slice none 0 0,.slice none 0 0] 35 (0,0))):=fun X hb=>(hb.block _ (Array.getElem?_eq_some_iff.1 hg0).1).trans hg0
 have HB0:=Lib.hid hb0;have HW0:=Lib.hid hW0;have hs0:W0.heap.size=w.heap.size + 1:=by rw [hW0];simp
 have HS0:=Lib.hid hs0;rw [hW0] at c1 c2 c3;clear hc hb0 hg0 h hs L hs0 hW0;go_enter Tryz.func15,Tryz.ntmps15
 go_wp2_with (go_at_call 24;rw [<- HW0.out];with_reducible (refine Calls.mono HA.out ?_);rintro e w2 ⟨V2,rfl,hT,hF,hb⟩
              have hba:=(Below.refl w2.heap.size w2).alloc (Nat.le_refl _) (.cells #[.slice V2.A1 v.t.ts.length V2.c1,.slice V2.A2 v.t.vs.length V2.c2,.slice V2.A3 v.t.os.length V2.c3] 35);have hg:=HG.out _ (jaa hb hba);have HG2:=Lib.hid hg;obtain ⟨z0,z1,z2⟩:=jai hg;have z3:=frozen_of_row _ _ 0 _ _ hg;have z4:=frozen_of_row _ _ 1 _ _ hg;have z5:=frozen_of_row _ _ 2 _ _ hg;have HB2:=Lib.hid (jaa HB0.out (jaa hb hba));have HT:=Lib.hid ((hT.below hba).more hba.size);have HF:=Lib.hid hF;clear hb hba hg hT hF c1 c2 c3)
 have hs:=jd4 (.slice V2.A1 v.t.ts.length V2.c1) (.slice V2.A2 v.t.vs.length V2.c2) (.slice V2.A3 v.t.os.length V2.c3) HG2.out;refine bodyPost_ret (results_cell_row rfl _ _ w.heap.size 35 _ (0,0) _ rfl hs.1 Tryz.underlying35 rfl (by kernel_rfl)) rfl ?_;exact ⟨V2,rfl,(HT.out.other HF.out (by rw [HS0.out];omega) fun k hk=>jaq w.heap.size k hk [.slice V2.A1 v.t.ts.length V2.c1,.slice V2.A2 v.t.vs.length V2.c2,.slice V2.A3 v.t.os.length V2.c3] 0 _).more hs.2.size,jcT (by rw [HS0.out];omega) HF.out,jae HB2.out hs.2 HB2.out.size (Nat.le_refl _)⟩
end
set_option maxRecDepth 20000
structure CoS (w X:World) (q:Nat) (E:Int):Prop where
 rv:X.heap[w.heap.size]? = some (.cells #[.pointer (some ⟨q,0,none⟩)] 27 (0,0))
 re:X.heap[w.heap.size + 1]? = some (.cells #[.int .i64 E] 24 (0,0))
theorem CoS.start (w:World) (q:Nat):CoS w ((w.alloc (.cells #[.pointer (some ⟨q,0,none⟩)] 27)).alloc (.cells #[.int .i64 0] 24)) q 0:=by
 refine ⟨by rw [Below.heap_alloc _ _ _ (by simp)];exact heap_alloc_new _ _,?_⟩;have:=heap_alloc_new (w.alloc (.cells #[.pointer (some ⟨q,0,none⟩)] 27)) (.cells #[.int .i64 0] 24)
 rwa [show (w.alloc (.cells #[.pointer (some ⟨q,0,none⟩)] 27)).heap.size=w.heap.size + 1 by simp] at this
section
variable {w X Y:World} {q:Nat} {E:Int}
theorem CoS.later (h:CoS w X q E) (hb:Below X.heap.size X Y):CoS w Y q E:=⟨(hb.block _ (Array.getElem?_eq_some_iff.1 h.rv).1).trans h.rv,(hb.block _ (Array.getElem?_eq_some_iff.1 h.re).1).trans h.re⟩
theorem CoS.away (h:CoS w X q E) {N:Nat->Prop} (ha:jaM N X Y) (hN:∀ b,N b->b < w.heap.size):CoS w Y q E:=by
 have h1:=(Array.getElem?_eq_some_iff.1 h.rv).1;have h2:=(Array.getElem?_eq_some_iff.1 h.re).1;exact ⟨(ha.block _ h1 fun q=>by have:=hN _ q;omega).trans h.rv,(ha.block _ h2 fun q=>by have:=hN _ q;omega).trans h.re⟩
theorem CoS.cells (h:CoS w X q E):X.cell? ⟨w.heap.size,0,none⟩=some (.pointer (some ⟨q,0,none⟩))/\X.cell? ⟨w.heap.size + 1,0,none⟩=some (.int .i64 E)/\X.frozen? ⟨w.heap.size + 1,0,none⟩=false :=
 ⟨by rw [cell_of_row _ _ _ _ _ _ h.rv];rfl,by rw [cell_of_row _ _ _ _ _ _ h.re];rfl,frozen_of_row _ _ _ _ _ h.re⟩
theorem CoS.setE (h:CoS w X q E) (E2:Int):CoS w (X.setCell ⟨w.heap.size + 1,0,none⟩ (.int .i64 E2)) q E2:=by
 have hs:=jaC X (w.heap.size + 1) 0 (.int .i64 E2) _ _ h.re;exact ⟨(jah _ _ _ _ _ (by omega)).trans h.rv,hs⟩
end
section
variable {Rep:World->Nat->(Nat->Prop)->Dk->Prop}
theorem jjm {w:World} {p q:Nat} {F:Nat->Prop} {s:Dk} {V:jat} {v:Vt} (h:jdK Rep w p q F s none V v) (A:Option Addr) (l c:Nat) :
  Calls Tryz.prog 10 #[.pointer (some ⟨q,0,none⟩),.slice A l c] w fun e w'=>e=.returned (.int .i64 8)/\Below w.heap.size w w':=by
 have hb0:Below w.heap.size w (w.alloc (.cells #[.pointer (some ⟨q,0,none⟩)] 27)):=(Below.refl _ _).alloc (Nat.le_refl _) _;have hb1:=hb0.alloc hb0.size (.cells #[.int .i64 0] 24);have hc:=(hb1.block _ (Array.getElem?_eq_some_iff.1 h.cells).1).trans h.cells;unfold vtC at hc;obtain ⟨c0,_⟩:=jdJ hc;have HO:=CoS.start w q;obtain ⟨y0,y1,y2⟩:=HO.cells;have HB:Hid (Below w.heap.size w ((w.alloc (.cells #[.pointer (some ⟨q,0,none⟩)] 27)).alloc (.cells #[.int .i64 8] 24))):=hb0.alloc hb0.size _;clear hc hb0 hb1 h HO
 go_enter_defers Tryz.func10,Tryz.ntmps10
 go_wp2;simp [bodyPostD,Leaves,results,Tryz.results10,go_sem];exact HB.out
variable (L:jbX Rep)
include L
theorem jgt {w:World} {p q:Nat} {F:Nat->Prop} {s:Dk} {V:jat} {v:Vt} (h:jdK Rep w p q F s (some ⟨p,0,none⟩) V v) (hs:v.t.sound) (A:Option Addr) (c:Nat) (l:List Rc) (hrec:jax w w.heap.size A l) (hc:l.length<=c) (hok:∀ r∈l,r.ok) (hm:l.length<=140737488355328) (hor:(jbR v.t l).1≠0∨((jbR v.t l).1=0/\l.length=0)) :
  Calls Tryz.prog 10 #[.pointer (some ⟨q,0,none⟩),.slice A l.length c] w fun e w'=>e=.returned (.int .i64 (jbR v.t l).1)/\Below w.heap.size w w':=by
 have hb0:Below w.heap.size w (w.alloc (.cells #[.pointer (some ⟨q,0,none⟩)] 27)):=(Below.refl _ _).alloc (Nat.le_refl _) _;have hb1:=hb0.alloc hb0.size (.cells #[.int .i64 0] 24);have hvc:=(hb1.block _ (Array.getElem?_eq_some_iff.1 h.cells).1).trans h.cells;unfold vtC at hvc;obtain ⟨c0,c1,c2,c3,_⟩:=jdJ hvc;have HO:=CoS.start w q;obtain ⟨y0,y1,y2⟩:=HO.cells;obtain ⟨W0,hW0⟩:∃ W,W=(w.alloc (.cells #[.pointer (some ⟨q,0,none⟩)] 27)).alloc (.cells #[.int .i64 0] 24):=⟨_,rfl⟩;rw [<- hW0] at HO hb1;have HO:=Lib.hid HO;have HW0:=Lib.hid hW0;have HB0:=Lib.hid hb1;obtain ⟨E,hEd⟩:∃ E,E=(jbR v.t l).1:=⟨_,rfl⟩;obtain ⟨T,hTd⟩:∃ T,T=(jbR v.t l).2:=⟨_,rfl⟩
 have HA:Hid (Calls Tryz.prog 24 #[.agg #[.slice V.A1 v.t.ts.length V.c1,.slice V.A2 v.t.vs.length V.c2,.slice V.A3 v.t.os.length V.c3],.slice A l.length c] W0 fun e w'=>∃ V':jat,e=.returned (.tuple #[.agg #[.slice V'.A1 T.ts.length V'.c1,.slice V'.A2 T.vs.length V'.c2,.slice V'.A3 T.os.length V'.c3],.int .i64 E])/\Below W0.heap.size W0 w'):=by
  have:=(L.t W0).apply V v.t A c l W0 (Below.refl _ _) ((h.tab.below hb1).more hb1.size) (jdg hs) ((hrec.below hb1).more hb1.size) hc hok hm;rw [<- hEd,<- hTd] at this;exact this.mono fun e w' ⟨V',q1,_,_,q2⟩=>⟨V',q1,q2⟩
 rw [<- hEd] at hor ⊢;obtain ⟨NL,hNL⟩:∃ x,x=l.length:=⟨_,rfl⟩;rw [<- hNL] at HA hor ⊢;clear hvc hb0 hb1 h hs L hrec hc hok hm hEd hTd hNL hW0;rcases hor with hE | ⟨hE,hl0⟩
 ·have hor:=True.intro;have hE2:(E != 0)=true:=by rw [bne_iff_ne];exact hE
  have hE3:(E == 0)=false:=by rw [beq_eq_false_iff_ne];exact hE
  clear hor
  go_enter_defers Tryz.func10,Tryz.ntmps10
  go_wp2_with (go_at_call 24;rw [<- HW0.out];with_reducible (refine Calls.mono HA.out ?_);rintro e w1 ⟨V1,rfl,hb1⟩
               have HO1:=Lib.hid ((HO.out.later hb1).later ((Below.refl w1.heap.size w1).alloc (Nat.le_refl _) (.cells #[.slice V1.A1 T.ts.length V1.c1,.slice V1.A2 T.vs.length V1.c2,.slice V1.A3 T.os.length V1.c3] 35)));have HO2:=Lib.hid (HO1.out.setE E);have HB2:=Lib.hid (((jaa HB0.out hb1).alloc (jaa HB0.out hb1).size (.cells #[.slice V1.A1 T.ts.length V1.c1,.slice V1.A2 T.vs.length V1.c2,.slice V1.A3 T.os.length V1.c3] 35)).setCell (p:=⟨w.heap.size + 1,0,none⟩) (Nat.le_succ _) (.int .i64 E));obtain ⟨x0,x1,x2⟩:=HO1.out.cells;obtain ⟨z0,z1,z2⟩:=HO2.out.cells;clear hb1 y0 y1 y2 c0 c1 c2 c3)
  have HO3:=HO2.out.setE E;obtain ⟨u0,u1,_⟩:=HO3.cells;have HB3:=Lib.hid (HB2.out.setCell (p:=⟨w.heap.size + 1,0,none⟩) (Nat.le_succ _) (.int .i64 E));clear HO3;simp [bodyPostD,Leaves,results,Tryz.results10,go_sem,u1];exact HB3.out
 ·have hor:=True.intro;subst hl0;subst hE;clear hor
  go_enter_defers Tryz.func10,Tryz.ntmps10
  go_wp2_with (go_at_call 24;rw [<- HW0.out];with_reducible (refine Calls.mono HA.out ?_);rintro e w1 ⟨V1,rfl,hb1⟩
               have HO1:=Lib.hid ((HO.out.later hb1).later ((Below.refl w1.heap.size w1).alloc (Nat.le_refl _) (.cells #[.slice V1.A1 T.ts.length V1.c1,.slice V1.A2 T.vs.length V1.c2,.slice V1.A3 T.os.length V1.c3] 35)));have HO2:=Lib.hid (HO1.out.setE 0);have HB2:=Lib.hid (((jaa HB0.out hb1).alloc (jaa HB0.out hb1).size (.cells #[.slice V1.A1 T.ts.length V1.c1,.slice V1.A2 T.vs.length V1.c2,.slice V1.A3 T.os.length V1.c3] 35)).setCell (p:=⟨w.heap.size + 1,0,none⟩) (Nat.le_succ _) (.int .i64 0));obtain ⟨x0,x1,x2⟩:=HO1.out.cells;obtain ⟨z0,z1,z2⟩:=HO2.out.cells;clear hb1 y0 y1 y2 c0 c1 c2 c3)
  have HO3:=HO2.out.setE 0;obtain ⟨u0,u1,_⟩:=HO3.cells;have HB3:=Lib.hid (HB2.out.setCell (p:=⟨w.heap.size + 1,0,none⟩) (Nat.le_succ _) (.int .i64 0));clear HO3;simp [bodyPostD,Leaves,results,Tryz.results10,go_sem,u1];exact HB3.out
end
end Go.Proofs.YtbnhkplhmanmoaaGreat
