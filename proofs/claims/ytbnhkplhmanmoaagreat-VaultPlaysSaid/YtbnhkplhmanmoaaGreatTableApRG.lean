/- . -/
import Derived.Test.YtbnhkplhmanmoaaGreatTkG
import Derived.Test.YtbnhkplhmanmoaaGreatTableOneRG
import Derived.Test.YtbnhkplhmanmoaaGreatTableFormRG
import Derived.Test.YtbnhkplhmanmoaaGreatTableCopyRG
import Derived.Test.YtbnhkplhmanmoaaGreatTableC20G
import Derived.Test.YtbnhkplhmanmoaaGreatTableSoundG
import Derived.Test.YtbnhkplhmanmoaaGreatVaultC14G
import Derived.Test.YtbnhkplhmanmoaaGreatTableAskG
namespace Go.Proofs.YtbnhkplhmanmoaaGreat
open Go.RowKit
set_option maxHeartbeats 6400000
set_option maxRecDepth 20000
structure ApS (w:World) (t:Tab) (l:List Rc) (k:Nat) (V':jat) (t':Tab) (wr:World):Prop where
 box:wr.heap[w.heap.size]? = some (.cells (jan V' t') 35 (0,0))
 res:wr.heap[w.heap.size + 1]? = some (.cells #[.slice none 0 0,.slice none 0 0,.slice none 0 0] 35 (0,0))
 rows:jaw (w.heap.size + 2) wr V' t'
 sound:t'.sound
 below:Below w.heap.size w wr
 run:jaV t l=jaV t' (l.drop k)
theorem ApS.lo {w wr:World} {t t':Tab} {l:List Rc} {k:Nat} {V':jat} (h:ApS w t l k V' t' wr):w.heap.size + 2<=wr.heap.size:=by
 have:=(Array.getElem?_eq_some_iff.1 h.res).1;omega
structure ApZ (w:World) (q:Nat) (V':jat) (t':Tab) (V5:jat) (T:Tab) (Z:World):Prop where
 nxt:Z.heap[q]? = some (.cells (jan V5 T) 35 (0,0))
 box:Z.heap[w.heap.size]? = some (.cells (jan V' t') 35 (0,0))
 res:Z.heap[w.heap.size + 1]? = some (.cells #[.slice none 0 0,.slice none 0 0,.slice none 0 0] 35 (0,0))
 rows:jaw (w.heap.size + 2) Z V5 T
 below:Below w.heap.size w Z
theorem ApZ.of {w Y:World} {q:Nat} {V' V5:jat} {t' T:Tab} (hq:Y.heap[q]? = some (.cells #[.slice none 0 0,.slice none 0 0,.slice none 0 0] 35 (0,0))) (hlo:w.heap.size + 2<=q) (hn:¬ jbK V5 q)
  (box:Y.heap[w.heap.size]? = some (.cells (jan V' t') 35 (0,0))) (res:Y.heap[w.heap.size + 1]? = some (.cells #[.slice none 0 0,.slice none 0 0,.slice none 0 0] 35 (0,0))) (rows:jaw (w.heap.size + 2) Y V5 T) (below:Below w.heap.size w Y) :
  ApZ w q V' t' V5 T (((Y.setCell ⟨q,0,none⟩ (.slice V5.A1 T.ts.length V5.c1)).setCell ⟨q,1,none⟩ (.slice V5.A2 T.vs.length V5.c2)).setCell ⟨q,2,none⟩ (.slice V5.A3 T.os.length V5.c3)):=by
 obtain ⟨q1,q2⟩:=jd4 (.slice V5.A1 T.ts.length V5.c1) (.slice V5.A2 T.vs.length V5.c2) (.slice V5.A3 T.os.length V5.c3) hq;have l0:=(Array.getElem?_eq_some_iff.1 box).1;have l1:=(Array.getElem?_eq_some_iff.1 res).1;refine ⟨q1,(q2.block _ l0 (fun e=>by injection e with e;omega)).trans box,(q2.block _ l1 (fun e=>by injection e with e;omega)).trans res,rows.grown q2 (fun b hb e=>?_) (fun b hb e=>?_) (fun b hb e=>?_),jae below q2 below.size (by omega)⟩
 ·injection e with e;subst e;exact hn (.inl hb)
 ·injection e with e;subst e;exact hn (.inr (.inl hb))
 ·injection e with e;subst e;exact hn (.inr (.inr hb))
theorem ApZ.turn {w Z:World} {q:Nat} {V' V5:jat} {t t' T:Tab} {l:List Rc} {k:Nat} (h:ApZ w q V' t' V5 T Z) (hs:T.sound) (hr:jaV t l=jaV T (l.drop (k + 1))) :
  ApS w t l (k + 1) V5 T (((Z.setCell ⟨w.heap.size,0,none⟩ (.slice V5.A1 T.ts.length V5.c1)).setCell ⟨w.heap.size,1,none⟩ (.slice V5.A2 T.vs.length V5.c2)).setCell ⟨w.heap.size,2,none⟩ (.slice V5.A3 T.os.length V5.c3)):=by
 have hb:=h.box;unfold jan at hb;obtain ⟨q1,q2⟩:=jd4 (.slice V5.A1 T.ts.length V5.c1) (.slice V5.A2 T.vs.length V5.c2) (.slice V5.A3 T.os.length V5.c3) hb;have l1:=(Array.getElem?_eq_some_iff.1 h.res).1;refine ⟨q1,(q2.block _ l1 (fun e=>by injection e with e;omega)).trans h.res,h.rows.grown q2 (fun b hb e=>?_) (fun b hb e=>?_) (fun b hb e=>?_),hs,jae h.below q2 h.below.size (Nat.le_refl _),hr⟩
 ·injection e with e;have:=(jaU h.rows.ts b hb).1;omega
 ·injection e with e;have:=(jaU h.rows.vs b hb).1;omega
 ·injection e with e;have:=(jaU h.rows.os b hb).1;omega
theorem ApS.later {w wr X:World} {t t':Tab} {l:List Rc} {k:Nat} {V':jat} (h:ApS w t l k V' t' wr) (hb:Below wr.heap.size wr X):ApS w t l k V' t' X :=
 ⟨(hb.block _ (Array.getElem?_eq_some_iff.1 h.box).1).trans h.box,(hb.block _ (Array.getElem?_eq_some_iff.1 h.res).1).trans h.res,h.rows.below hb,h.sound,jaa h.below hb,h.run⟩
theorem jh0 {w wr X0 w5:World} {t t2 T:Tab} {l:List Rc} {k:Nat} {V2 V5:jat} (S:ApS w t l k V2 t2 wr) (h0:Below wr.heap.size wr X0) (hr:jaw (w.heap.size + 2) w5 V5 T) (hb:Below (w.heap.size + 2) X0 w5) :
  ∃ Y q,Y=w5.alloc (.cells #[.slice none 0 0,.slice none 0 0,.slice none 0 0] 35)/\q=w5.heap.size/\Y.heap[q]? = some (.cells #[.slice none 0 0,.slice none 0 0,.slice none 0 0] 35 (0,0))/\Below (w.heap.size + 2) wr Y /\
   ∃ Z,Z=((Y.setCell ⟨q,0,none⟩ (.slice V5.A1 T.ts.length V5.c1)).setCell ⟨q,1,none⟩ (.slice V5.A2 T.vs.length V5.c2)).setCell ⟨q,2,none⟩ (.slice V5.A3 T.os.length V5.c3)/\ApZ w q V2 t2 V5 T Z/\Below (w.heap.size + 2) wr Z:=by
 have hX:=S.later h0;have hba:Below w5.heap.size w5 (w5.alloc (.cells #[.slice none 0 0,.slice none 0 0,.slice none 0 0] 35)):=(Below.refl _ _).alloc (Nat.le_refl _) _;have hlo:w.heap.size + 2<=w5.heap.size:=Nat.le_trans hX.lo hb.size;have hq:=heap_alloc_new w5 (.cells #[.slice none 0 0,.slice none 0 0,.slice none 0 0] 35);have hbY:Below (w.heap.size + 2) wr (w5.alloc (.cells #[.slice none 0 0,.slice none 0 0,.slice none 0 0] 35)):=((h0.mono S.lo).trans hb).trans (hba.mono hlo);refine ⟨_,_,rfl,rfl,hq,hbY,_,rfl,?_,?_⟩
 ·refine ApZ.of hq hlo (fun hin=>?_) ((hbY.block _ (by omega)).trans S.box) ((hbY.block _ (by omega)).trans S.res) (hr.below hba) (S.below.trans (hbY.mono (by omega)));rcases hin with e | e | e
  ·have:=(jaU hr.ts _ e).2;omega
  ·have:=(jaU hr.vs _ e).2;omega
  ·have:=(jaU hr.os _ e).2;omega
 ·obtain ⟨_,q2⟩:=jd4 (.slice V5.A1 T.ts.length V5.c1) (.slice V5.A2 T.vs.length V5.c2) (.slice V5.A3 T.os.length V5.c3) hq;exact jae hbY q2 (Nat.le_trans S.lo hbY.size) hlo
theorem jiv {w wr X0:World} {t t2 T:Tab} {l:List Rc} {k:Nat} {V2:jat} (S:ApS w t l k V2 t2 wr) (h0:Below wr.heap.size wr X0) :
  ∃ Y q,Y=X0.alloc (.cells #[.slice none 0 0,.slice none 0 0,.slice none 0 0] 35)/\q=X0.heap.size/\Below wr.heap.size wr Y/\∀ V5 w5,jaw (w.heap.size + 2) w5 V5 T->Below (w.heap.size + 2) Y w5->jcM V2 Y w5->jdi V2 Y V5 ->
   w5.heap[q]? = some (.cells #[.slice none 0 0,.slice none 0 0,.slice none 0 0] 35 (0,0))/\Below (w.heap.size + 2) wr w5 /\
   ∃ Z,Z=((w5.setCell ⟨q,0,none⟩ (.slice V5.A1 T.ts.length V5.c1)).setCell ⟨q,1,none⟩ (.slice V5.A2 T.vs.length V5.c2)).setCell ⟨q,2,none⟩ (.slice V5.A3 T.os.length V5.c3)/\ApZ w q V2 t2 V5 T Z/\Below (w.heap.size + 2) wr Z:=by
 have hX:=S.later h0;have hba:Below X0.heap.size X0 (X0.alloc (.cells #[.slice none 0 0,.slice none 0 0,.slice none 0 0] 35)):=(Below.refl _ _).alloc (Nat.le_refl _) _;have hq:=heap_alloc_new X0 (.cells #[.slice none 0 0,.slice none 0 0,.slice none 0 0] 35);have hlt:=(Array.getElem?_eq_some_iff.1 hq).1;refine ⟨_,_,rfl,rfl,jaa h0 hba,fun V5 w5 hr hb hk hf=>?_⟩
 have hno:¬ jbK V2 X0.heap.size:=fun hin=>by
  rcases hin with e | e | e
  ·have:=(jaU hX.rows.ts _ e).2;omega
  ·have:=(jaU hX.rows.vs _ e).2;omega
  ·have:=(jaU hX.rows.os _ e).2;omega
 have hq5:=(hk _ hlt hno).trans hq;have hbY:Below (w.heap.size + 2) wr w5:=((jaa h0 hba).mono S.lo).trans hb;refine ⟨hq5,hbY,_,rfl,?_,?_⟩
 ·refine ApZ.of hq5 hX.lo (fun hin=>?_) ((hbY.block _ (by omega)).trans S.box) ((hbY.block _ (by omega)).trans S.res) hr (S.below.trans (hbY.mono (by omega)));rcases hf _ hin with e | e
  ·exact hno e
  ·omega
 ·obtain ⟨_,q2⟩:=jd4 (.slice V5.A1 T.ts.length V5.c1) (.slice V5.A2 T.vs.length V5.c2) (.slice V5.A3 T.os.length V5.c3) hq5;exact jae hbY q2 (Nat.le_trans S.lo hbY.size) hX.lo
def jpB (w:World) (R:Int × Tab) (e:Ending) (w':World):Prop:=∃ V',e=.returned (.tuple #[.agg (jan V' R.2),.int .i64 R.1])/\jao w' w'.heap.size V' R.2/\jay w.heap.size V'/\Below w.heap.size w w'
theorem jiD {w Z:World} (c:Int) (res:Z.heap[w.heap.size + 1]? = some (.cells #[.slice none 0 0,.slice none 0 0,.slice none 0 0] 35 (0,0))) (below:Below w.heap.size w Z) :
  (((Z.setCell ⟨w.heap.size + 1,0,none⟩ (.slice none 0 0)).setCell ⟨w.heap.size + 1,1,none⟩ (.slice none 0 0)).setCell ⟨w.heap.size + 1,2,none⟩ (.slice none 0 0)).heap[w.heap.size + 1]? = some (.cells #[.slice none 0 0,.slice none 0 0,.slice none 0 0] 35 (0,0)) /\
  jpB w (c,Tab.zero) (.returned (.tuple #[.agg #[.slice none 0 0,.slice none 0 0,.slice none 0 0],.int .i64 c])) (((Z.setCell ⟨w.heap.size + 1,0,none⟩ (.slice none 0 0)).setCell ⟨w.heap.size + 1,1,none⟩ (.slice none 0 0)).setCell ⟨w.heap.size + 1,2,none⟩ (.slice none 0 0)):=by
 obtain ⟨q1,q2⟩:=jd4 (.slice none 0 0) (.slice none 0 0) (.slice none 0 0) res;exact ⟨q1,⟨none,0,none,0,none,0⟩,rfl,je5 _ _,jeg _,jae below q2 below.size (Nat.le_succ _)⟩
theorem jp5 {w Z:World} {V:jat} {t:Tab} (res:Z.heap[w.heap.size + 1]? = some (.cells #[.slice none 0 0,.slice none 0 0,.slice none 0 0] 35 (0,0))) (rows:jaw (w.heap.size + 2) Z V t) (below:Below w.heap.size w Z) :
  (((Z.setCell ⟨w.heap.size + 1,0,none⟩ (.slice V.A1 t.ts.length V.c1)).setCell ⟨w.heap.size + 1,1,none⟩ (.slice V.A2 t.vs.length V.c2)).setCell ⟨w.heap.size + 1,2,none⟩ (.slice V.A3 t.os.length V.c3)).heap[w.heap.size + 1]? = some (.cells #[.slice V.A1 t.ts.length V.c1,.slice V.A2 t.vs.length V.c2,.slice V.A3 t.os.length V.c3] 35 (0,0)) /\
  jpB w (0,t) (.returned (.tuple #[.agg #[.slice V.A1 t.ts.length V.c1,.slice V.A2 t.vs.length V.c2,.slice V.A3 t.os.length V.c3],.int .i64 0])) (((Z.setCell ⟨w.heap.size + 1,0,none⟩ (.slice V.A1 t.ts.length V.c1)).setCell ⟨w.heap.size + 1,1,none⟩ (.slice V.A2 t.vs.length V.c2)).setCell ⟨w.heap.size + 1,2,none⟩ (.slice V.A3 t.os.length V.c3)):=by
 obtain ⟨q1,q2⟩:=jd4 (.slice V.A1 t.ts.length V.c1) (.slice V.A2 t.vs.length V.c2) (.slice V.A3 t.os.length V.c3) res;have hr:jaw (w.heap.size + 2) _ V t:=rows.grown q2 (fun b hb e=>by injection e with e;have:=(jaU rows.ts b hb).1;omega) (fun b hb e=>by injection e with e;have:=(jaU rows.vs b hb).1;omega) (fun b hb e=>by injection e with e;have:=(jaU rows.os b hb).1;omega);exact ⟨q1,V,rfl,hr.tab,fun a ha=>Nat.le_trans (by omega) (hr.from_ a ha),jae below q2 below.size (Nat.le_succ _)⟩
theorem jh2 (A1:Option Addr) (c1:Nat) (A2:Option Addr) (c2:Nat) (A3:Option Addr) (c3:Nat) (t:Tab) (A:Option Addr) (c:Nat) (l:List Rc) (w:World) (h:jao w w.heap.size ⟨A1,c1,A2,c2,A3,c3⟩ t) (hl:jax w w.heap.size A l) (hs:t.sound) (hm:l.length<=140737488355328) :
  Calls Tryz.prog 11 #[.agg #[.slice A1 t.ts.length c1,.slice A2 t.vs.length c2,.slice A3 t.os.length c3],.slice A l.length c] w (jpB w (jaV t l)):=by
 have hb0:Below w.heap.size w (w.alloc (.cells #[.slice A1 t.ts.length c1,.slice A2 t.vs.length c2,.slice A3 t.os.length c3] 35)):=(Below.refl _ _).alloc (Nat.le_refl _) _;have hb1:=hb0.alloc hb0.size (.cells #[.slice none 0 0,.slice none 0 0,.slice none 0 0] 35);have hs0:(w.alloc (.cells #[.slice A1 t.ts.length c1,.slice A2 t.vs.length c2,.slice A3 t.os.length c3] 35)).heap.size=w.heap.size + 1:=by simp
 have hg1:=heap_alloc_new (w.alloc (.cells #[.slice A1 t.ts.length c1,.slice A2 t.vs.length c2,.slice A3 t.os.length c3] 35)) (.cells #[.slice none 0 0,.slice none 0 0,.slice none 0 0] 35);rw [hs0] at hg1;obtain ⟨W0,hW0⟩:∃ W,W=(w.alloc (.cells #[.slice A1 t.ts.length c1,.slice A2 t.vs.length c2,.slice A3 t.os.length c3] 35)).alloc (.cells #[.slice none 0 0,.slice none 0 0,.slice none 0 0] 35):=⟨_,rfl⟩;have hsz:W0.heap.size=w.heap.size + 2:=by rw [hW0];simp
 have hg0:W0.heap[w.heap.size]? = some (.cells #[.slice A1 t.ts.length c1,.slice A2 t.vs.length c2,.slice A3 t.os.length c3] 35 (0,0)):=by
  rw [hW0,Below.heap_alloc _ _ _ (by simp)];exact heap_alloc_new _ _
 rw [<- hW0] at hb1 hg1;have HSO:=Lib.hid (jf7 ⟨A1,c1,A2,c2,A3,c3⟩ t W0 ((h.below hb1).more hb1.size) (jdg hs) true (by simp [hs]));unfold jan at HSO
 have HF:Hid (∀ X,Below W0.heap.size W0 X->(X.cell? ⟨w.heap.size,0,none⟩=some (.slice A1 t.ts.length c1)/\X.cell? ⟨w.heap.size,1,none⟩=some (.slice A2 t.vs.length c2)/\X.cell? ⟨w.heap.size,2,none⟩=some (.slice A3 t.os.length c3))/\X.frozen? ⟨w.heap.size,0,none⟩=false/\X.frozen? ⟨w.heap.size,1,none⟩=false/\X.frozen? ⟨w.heap.size,2,none⟩=false):=fun X hb=>by
  have q:=(hb.block _ (Array.getElem?_eq_some_iff.1 hg0).1).trans hg0;exact ⟨jai q,frozen_of_row _ _ 0 _ _ q,frozen_of_row _ _ 1 _ _ q,frozen_of_row _ _ 2 _ _ q⟩
 have HCL:Hid (∀ X,Below W0.heap.size W0 X->Calls Tryz.prog 28 #[.agg #[.slice A1 t.ts.length c1,.slice A2 t.vs.length c2,.slice A3 t.os.length c3]] X fun e w'=>∃ B1 d1 B2 d2 B3 d3,e=.returned (.agg #[.slice B1 t.ts.length d1,.slice B2 t.vs.length d2,.slice B3 t.os.length d3])/\Below W0.heap.size W0 w'/\ApS w t l 0 ⟨B1,d1,B2,d2,B3,d3⟩ t (((w'.setCell ⟨w.heap.size,0,none⟩ (.slice B1 t.ts.length d1)).setCell ⟨w.heap.size,1,none⟩ (.slice B2 t.vs.length d2)).setCell ⟨w.heap.size,2,none⟩ (.slice B3 t.os.length d3))):=fun X hb=>by
  refine Calls.mono (jjs A1 c1 A2 c2 A3 c3 ((h.below (jaa hb1 hb)).more (jaa hb1 hb).size) hs) fun e w' hh=>?_
  obtain ⟨⟨B1,d1,B2,d2,B3,d3⟩,he,hr,hbw⟩:=hh;have hbb:=jaa hb hbw;have hbox:=(hbb.block _ (Array.getElem?_eq_some_iff.1 hg0).1).trans hg0;obtain ⟨q1,q2⟩:=jd4 (.slice B1 t.ts.length d1) (.slice B2 t.vs.length d2) (.slice B3 t.os.length d3) hbox;have hXs:w.heap.size + 2<=X.heap.size:=by have:=hb.size;omega
  have hr2:jaw (w.heap.size + 2) w' ⟨B1,d1,B2,d2,B3,d3⟩ t:=⟨jdE hr.ts hXs,jdE hr.vs hXs,jdE hr.os hXs,hr.a12,hr.a13,hr.a23⟩;refine ⟨B1,d1,B2,d2,B3,d3,he,hbb,q1,?_,hr2.grown q2 (fun b hb e=>?_) (fun b hb e=>?_) (fun b hb e=>?_),hs,jae (jaa hb1 hbb) q2 (jaa hb1 hbb).size (Nat.le_refl _),rfl⟩
  ·refine (q2.block _ ?_ (fun e=>by injection e with e;omega)).trans ((hbb.block _ (Array.getElem?_eq_some_iff.1 hg1).1).trans hg1);have:=hbb.size;omega
  ·injection e with e;have:=(jaU hr2.ts b hb).1;omega
  ·injection e with e;have:=(jaU hr2.vs b hb).1;omega
  ·injection e with e;have:=(jaU hr2.os b hb).1;omega
 obtain ⟨⟨f0,f1,f2⟩,ff0,ff1,ff2⟩:=HF.out W0 (Below.refl _ _);have HRE:Hid (∀ X,Below w.heap.size w X->jax X w.heap.size A l):=fun X hb=>hl.below hb
 obtain ⟨N,hN⟩:∃ N,N=l.length:=⟨_,rfl⟩;have HN:=Lib.hid hN;rw [<- hN] at hm ⊢;obtain ⟨RR,hRR⟩:∃ R,R=jaV t l:=⟨_,rfl⟩;have HRR:=Lib.hid hRR;rw [<- hRR];obtain ⟨N1,hN1⟩:∃ N,N=t.ts.length:=⟨_,rfl⟩;obtain ⟨N2,hN2⟩:∃ N,N=t.vs.length:=⟨_,rfl⟩;obtain ⟨N3,hN3⟩:∃ N,N=t.os.length:=⟨_,rfl⟩;simp only [<- hN1,<- hN2,<- hN3] at HSO HF HCL f0 f1 f2 hW0 ⊢;have HW0:=Lib.hid hW0;clear h hl hs hb0 hb1 hs0 hg0 hg1 hN hRR hsz hW0 hN1 hN2 hN3;go_enter Tryz.func11,Tryz.ntmps11
 go_wp2_with (first
  | (rw [<- HW0.out];clear HW0)
  | (go_at_call 27;with_reducible (refine Calls.mono HSO.out ?_);rintro e w2 ⟨rfl,hb2⟩;obtain ⟨⟨f0,f1,f2⟩,ff0,ff1,ff2⟩:=HF.out _ hb2)
  | (go_at_call 28;with_reducible (refine Calls.mono (HCL.out _ hb2) ?_);rintro e w3 ⟨B1,d1,B2,d2,B3,d3,rfl,hb3,hst⟩;obtain ⟨⟨f0,f1,f2⟩,ff0,ff1,ff2⟩:=HF.out _ hb3
     have HST:=Lib.hid hst;clear hst))
 clear HSO HF HCL f0 f1 f2 ff0 ff1 ff2 hb2 hb3
 go_loopw [6] (fun i wr=>∃ (k:Nat) (V':jat) (t':Tab),k<=N/\i=.int .i64 k/\Hid (ApS w t l k V' t' wr)) (fun i _=>N - (intOf i).toNat)
 case atStart=>exact ⟨0,_,t,Nat.zero_le _,rfl,HST.out⟩
 case round =>
  clear HST;obtain ⟨k,V2,t2,hk,rfl,S⟩:=hrel;have k0:(0:Int)<=(k:Int):=by omega
  by_cases hlt:k < N
  ·have k1:(k:Int) < (N:Int):=by omega
   have hkx:k < l.length:=by have:=HN.out;omega
   obtain ⟨b,off,rfl,hbl,q0,q1,q2,q3,q4,q5⟩:=jjM (HRE.out wr S.out.below) hkx;have hrun:=S.out.run;rw [List.drop_eq_getElem_cons hkx] at hrun;obtain ⟨x,hx⟩:∃ x,x=l[k]:=⟨_,rfl⟩
   have HXR:Hid (∀ X,Below wr.heap.size wr X->X.cell? ⟨b,off + k * 6,none⟩=some (.int .i64 x.k)/\X.cell? ⟨b,off + k * 6 + 1,none⟩=some (.int .i64 x.a)/\X.cell? ⟨b,off + k * 6 + 2,none⟩=some (.int .i64 x.b)/\X.cell? ⟨b,off + k * 6 + 3,none⟩=some (.int .i64 x.c)/\X.cell? ⟨b,off + k * 6 + 4,none⟩=some (.int .i64 x.d)/\X.cell? ⟨b,off + k * 6 + 5,none⟩=some (.string x.key)):=fun X hb=>by
    obtain ⟨b',off',e,_,p0,p1,p2,p3,p4,p5⟩:=jjM (HRE.out X (jaa S.out.below hb)) hkx;injection e with e
    injection e with e1 e2 e3
    subst e1 e2;rw [hx];exact ⟨p0,p1,p2,p3,p4,p5⟩
   rw [<- hx] at q0 q1 q2 q3 q4 q5 hrun;by_cases hf:jaf x
   ·have HFM:Hid (∀ W,Calls Tryz.prog 29 #[.agg #[.int .i64 x.k,.int .i64 x.a,.int .i64 x.b,.int .i64 x.c,.int .i64 x.d,.string x.key]] W fun e w'=>e=.returned (.bool true)/\Below W.heap.size W w'):=fun W=>by have:=jfE x W;rw [decide_eq_true hf] at this;exact this
    obtain ⟨T,hT⟩:∃ T,T=(jar t2 x).2:=⟨_,rfl⟩;obtain ⟨E,hE⟩:∃ E,E=(jar t2 x).1:=⟨_,rfl⟩
    have HON:Hid (∀ X,Below wr.heap.size wr X->Calls Tryz.prog 30 #[.agg #[.slice V2.A1 t2.ts.length V2.c1,.slice V2.A2 t2.vs.length V2.c2,.slice V2.A3 t2.os.length V2.c3],.agg #[.int .i64 x.k,.int .i64 x.a,.int .i64 x.b,.int .i64 x.c,.int .i64 x.d,.string x.key]] X fun e w'=>∃ B1 d1 B2 d2 B3 d3,e=.returned (.tuple #[.agg #[.slice B1 T.ts.length d1,.slice B2 T.vs.length d2,.slice B3 T.os.length d3],.int .i64 E])/\jaw (w.heap.size + 2) w' ⟨B1,d1,B2,d2,B3,d3⟩ T/\Below (w.heap.size + 2) X w'/\jcM V2 X w'/\jdi V2 X ⟨B1,d1,B2,d2,B3,d3⟩):=fun X hb=>by
     have SX:=S.out.later hb;refine Calls.mono (jkR V2.A1 V2.c1 V2.A2 V2.c2 V2.A3 V2.c3 SX.rows SX.lo SX.sound x hf) fun e w' hh=>?_
     obtain ⟨⟨B1,d1,B2,d2,B3,d3⟩,he,hr,hb2,hk2,hf2⟩:=hh;rw [hT,hE];exact ⟨B1,d1,B2,d2,B3,d3,he,hr,hb2,hk2,hf2⟩
    have HS9:Hid (∀ W,Below (w.heap.size + 2) wr W->(W.cell? ⟨w.heap.size,0,none⟩=some (.slice V2.A1 t2.ts.length V2.c1)/\W.cell? ⟨w.heap.size,1,none⟩=some (.slice V2.A2 t2.vs.length V2.c2)/\W.cell? ⟨w.heap.size,2,none⟩=some (.slice V2.A3 t2.os.length V2.c3))/\W.cell? ⟨b,off + k * 6,none⟩=some (.int .i64 x.k)/\W.cell? ⟨b,off + k * 6 + 1,none⟩=some (.int .i64 x.a)/\W.cell? ⟨b,off + k * 6 + 2,none⟩=some (.int .i64 x.b)/\W.cell? ⟨b,off + k * 6 + 3,none⟩=some (.int .i64 x.c)/\W.cell? ⟨b,off + k * 6 + 4,none⟩=some (.int .i64 x.d)/\W.cell? ⟨b,off + k * 6 + 5,none⟩=some (.string x.key)):=fun W hb=>by
     have hbx:=(hb.block w.heap.size (by omega)).trans S.out.box;unfold jan at hbx;have hXR:=HXR.out wr (Below.refl _ _);have hbb:b < w.heap.size + 2:=by omega
     exact ⟨jai hbx,(hb.cell (p:=⟨b,_,none⟩) hbb).trans hXR.1,(hb.cell (p:=⟨b,_,none⟩) hbb).trans hXR.2.1,(hb.cell (p:=⟨b,_,none⟩) hbb).trans hXR.2.2.1,(hb.cell (p:=⟨b,_,none⟩) hbb).trans hXR.2.2.2.1,(hb.cell (p:=⟨b,_,none⟩) hbb).trans hXR.2.2.2.2.1,(hb.cell (p:=⟨b,_,none⟩) hbb).trans hXR.2.2.2.2.2⟩
    have HLO:=Lib.hid S.out.lo;by_cases hE0:E=0
    ·have HTN:Hid (∀ q V5 Z,ApZ w q V2 t2 V5 T Z->ApS w t l (k + 1) V5 T (((Z.setCell ⟨w.heap.size,0,none⟩ (.slice V5.A1 T.ts.length V5.c1)).setCell ⟨w.heap.size,1,none⟩ (.slice V5.A2 T.vs.length V5.c2)).setCell ⟨w.heap.size,2,none⟩ (.slice V5.A3 T.os.length V5.c3))):=fun q V5 Z hz=>by
      refine hz.turn ?_ ?_
      ·rw [hT];exact (jfH S.out.sound hf (by rw [<- hE];exact hE0)).1
      ·rw [hrun,joH hf (by rw [<- hE];exact hE0),<- hT]
     have d1:(E != 0)=false:=by rw [hE0];rfl
     have d2:(E == 0)=true:=beq_iff_eq.2 hE0;clear hrun hf hx hT hE hE0 HRR
     go_wp2_with (first
      | (go_at_call 29;with_reducible (refine Calls.mono (HFM.out _) ?_);rintro e w4 ⟨rfl,hb4⟩
         have HB4:=Lib.hid hb4;clear hb4))
     obtain ⟨X0,hX0⟩:∃ X,X=w4.drew:=⟨_,rfl⟩;have HX0:Hid (Below wr.heap.size wr X0):=by rw [hX0];exact HB4.out.drew
     refine wp_region_held_drew (S:=(fun W=>(W.cell? ⟨w.heap.size,0,none⟩=some (.slice V2.A1 t2.ts.length V2.c1)/\W.cell? ⟨w.heap.size,1,none⟩=some (.slice V2.A2 t2.vs.length V2.c2)/\W.cell? ⟨w.heap.size,2,none⟩=some (.slice V2.A3 t2.os.length V2.c3))/\W.cell? ⟨b,off + k * 6,none⟩=some (.int .i64 x.k)/\W.cell? ⟨b,off + k * 6 + 1,none⟩=some (.int .i64 x.a)/\W.cell? ⟨b,off + k * 6 + 2,none⟩=some (.int .i64 x.b)/\W.cell? ⟨b,off + k * 6 + 3,none⟩=some (.int .i64 x.c)/\W.cell? ⟨b,off + k * 6 + 4,none⟩=some (.int .i64 x.d)/\W.cell? ⟨b,off + k * 6 + 5,none⟩=some (.string x.key))) (by kernel_rfl) (HS9.out _ (HB4.out.drew.mono HLO.out)) (fun hHeld=>?_);rw [<- hX0] at hHeld ⊢;clear hX0 HB4 q0 q1 q2 q3 q4 q5;refine tkS 0 29 (v:=?_) ?_ ?_
     rotate_left 1
     ·intro w hSw;obtain ⟨⟨S0,S1,S2⟩,S3,S4,S5,S6,S7,S8⟩:=hSw;first | (go_simp;done) | (go_simp;with_reducible rfl)
     (try simp only [Act.put,tk1,tk2,tk3])
     refine tk 1 30 ?_
     (try simp only [Act.put,tk1,tk2,tk3])
     refine tk 2 31 ?_
     (try simp only [Act.put,tk1,tk2,tk3])
     refine tk 3 32 ?_
     (try simp only [Act.put,tk1,tk2,tk3])
     refine tkS 4 33 (v:=?_) ?_ ?_
     rotate_left 1
     ·intro w hSw;obtain ⟨⟨S0,S1,S2⟩,S3,S4,S5,S6,S7,S8⟩:=hSw;first | (go_simp;done) | (go_simp;with_reducible rfl)
     (try simp only [Act.put,tk1,tk2,tk3])
     refine wpAnyH_ready (rs:=[5,9]) (by kernel_rfl) (by simp) ?_;refine AllReadyH.cons (o:=_) rfl (fun K hK=>?_) (AllReadyH.cons (o:=_) rfl (fun K hK=>?_) (AllReadyH.nil))
     ·go_simp
      (go_at_call 30;with_reducible (refine Calls.mono (HON.out _ HX0.out) ?_);rintro e w5 ⟨B1,d1,B2,d2,B3,d3,rfl,hr5,hb5,hk5,hf5⟩)
      refine hK.out _ _ (HS9.out _ ((HX0.out.mono HLO.out).trans hb5)) (fun hHeldA=>?_)
      (try simp only [Act.put,tk1,tk2,tk3])
      clear hK K;refine tk 6 28 ?_
      (try simp only [Act.put,tk1,tk2,tk3])
      refine tk 7 35 ?_
      (try simp only [Act.put,tk1,tk2,tk3])
      refine tk 8 36 ?_
      (try simp only [Act.put,tk1,tk2,tk3])
      obtain ⟨Y,q,hY,hqq,hq,hbY,Z,hze,hzz,hzb⟩:=jh0 S.out HX0.out hr5 hb5;clear hr5 hb5 hk5 hf5;refine wpAnyH_ready (rs:=[9]) (by kernel_rfl) (by simp) ?_;refine AllReadyH.cons (o:=_) rfl (fun K hK=>?_) (AllReadyH.nil)
      go_simp
      rw [<- hY,<- hqq];refine hK.out _ _ (HS9.out _ hbY) (fun hHeldB=>?_)
      (try simp only [Act.put,tk1,tk2,tk3])
      clear hK K hY hqq hbY;obtain ⟨z0,z1,z2⟩:=jai hq;have zf0:=frozen_of_row _ _ 0 _ _ hq;have zf1:=frozen_of_row _ _ 1 _ _ hq;have zf2:=frozen_of_row _ _ 2 _ _ hq;have HZZ:=Lib.hid hzz;have HZB:=Lib.hid hzb;have HZE:=Lib.hid hze;clear hq hzz hzb hze;refine wpAnyH_ready (rs:=[10]) (by kernel_rfl) (by simp) ?_;refine AllReadyH.cons (o:=_) rfl (fun K hK=>?_) (AllReadyH.nil)
      go_simp
      rw [<- HZE.out];refine hK.out _ _ (HS9.out _ HZB.out) (fun hHeldZ=>?_);clear hK K z0 z1 z2 zf0 zf1 zf2 HZE;refine tk 11 8 ?_
      (try simp only [Act.put,tk1,tk2,tk3])
      refine wpAnyH_done (by kernel_rfl) ?_ _;have hg2:=HZZ.out.box;have hg3:=HZZ.out.nxt;unfold jan at hg2 hg3;obtain ⟨g0,g1,g2⟩:=jai hg2;obtain ⟨n0,n1,n2⟩:=jai hg3;have z0:=frozen_of_row _ _ 0 _ _ hg2;have z1:=frozen_of_row _ _ 1 _ _ hg2;have z2:=frozen_of_row _ _ 2 _ _ hg2;have S5:=Lib.hid (HTN.out _ _ _ HZZ.out);clear hg2 hg3 HZZ HTN S HON HFM HXR HS9;go_wp2;go_roundw
      case rel=>first | exact ⟨k + 1,_,T,by omega,by go_num,S5⟩ | ((repeat apply Exists.intro);exact ⟨⟨k + 1,_,T,by omega,by go_num,S5⟩,rfl⟩)
      case measure=>simp [intOf];omega
     ·go_simp
      obtain ⟨Y,q,hY,hqq,hbY,hall⟩:=jiv (T:=T) S.out HX0.out;rw [<- hY,<- hqq];refine hK.out _ _ (HS9.out _ (hbY.mono HLO.out)) (fun hHeldA=>?_)
      (try simp only [Act.put,tk1,tk2,tk3])
      clear hK K hY hqq;refine wpAnyH_ready (rs:=[5]) (by kernel_rfl) (by simp) ?_;refine AllReadyH.cons (o:=_) rfl (fun K hK=>?_) (AllReadyH.nil)
      go_simp
      (go_at_call 30;with_reducible (refine Calls.mono (HON.out _ hbY) ?_);rintro e w5 ⟨B1,d1,B2,d2,B3,d3,rfl,hr5,hb5,hk5,hf5⟩)
      obtain ⟨hq,hb5w,Z,hze,hzz,hzb⟩:=hall ⟨B1,d1,B2,d2,B3,d3⟩ w5 hr5 hb5 hk5 hf5;refine hK.out _ _ (HS9.out _ hb5w) (fun hHeldB=>?_)
      (try simp only [Act.put,tk1,tk2,tk3])
      clear hK K hall hr5 hb5 hk5 hf5 hb5w hbY;refine tk 6 28 ?_
      (try simp only [Act.put,tk1,tk2,tk3])
      refine tk 7 35 ?_
      (try simp only [Act.put,tk1,tk2,tk3])
      refine tk 8 36 ?_
      (try simp only [Act.put,tk1,tk2,tk3])
      obtain ⟨z0,z1,z2⟩:=jai hq;have zf0:=frozen_of_row _ _ 0 _ _ hq;have zf1:=frozen_of_row _ _ 1 _ _ hq;have zf2:=frozen_of_row _ _ 2 _ _ hq;have HZZ:=Lib.hid hzz;have HZB:=Lib.hid hzb;have HZE:=Lib.hid hze;clear hq hzz hzb hze;refine wpAnyH_ready (rs:=[10]) (by kernel_rfl) (by simp) ?_;refine AllReadyH.cons (o:=_) rfl (fun K hK=>?_) (AllReadyH.nil)
      go_simp
      rw [<- HZE.out];refine hK.out _ _ (HS9.out _ HZB.out) (fun hHeldZ=>?_);clear hK K z0 z1 z2 zf0 zf1 zf2 HZE;refine tk 11 8 ?_
      (try simp only [Act.put,tk1,tk2,tk3])
      refine wpAnyH_done (by kernel_rfl) ?_ _;have hg2:=HZZ.out.box;have hg3:=HZZ.out.nxt;unfold jan at hg2 hg3;obtain ⟨g0,g1,g2⟩:=jai hg2;obtain ⟨n0,n1,n2⟩:=jai hg3;have z0:=frozen_of_row _ _ 0 _ _ hg2;have z1:=frozen_of_row _ _ 1 _ _ hg2;have z2:=frozen_of_row _ _ 2 _ _ hg2;have S5:=Lib.hid (HTN.out _ _ _ HZZ.out);clear hg2 hg3 HZZ HTN S HON HFM HXR HS9;go_wp2;go_roundw
      case rel=>first | exact ⟨k + 1,_,T,by omega,by go_num,S5⟩ | ((repeat apply Exists.intro);exact ⟨⟨k + 1,_,T,by omega,by go_num,S5⟩,rfl⟩)
      case measure=>simp [intOf];omega
    ·have HE:Hid (RR=(E,Tab.zero)):=by unfold Hid;rw [HRR.out,hrun,jlC hf (by rw [<- hE];exact hE0),<- hE]
     have d1:(E != 0)=true:=bne_iff_ne.2 hE0;have d2:(E == 0)=false:=beq_eq_false_iff_ne.2 hE0;clear hrun hf hx hT hE hE0 HRR
     go_wp2_with (first
      | (go_at_call 29;with_reducible (refine Calls.mono (HFM.out _) ?_);rintro e w4 ⟨rfl,hb4⟩
         have HB4:=Lib.hid hb4;clear hb4))
     obtain ⟨X0,hX0⟩:∃ X,X=w4.drew:=⟨_,rfl⟩;have HX0:Hid (Below wr.heap.size wr X0):=by rw [hX0];exact HB4.out.drew
     refine wp_region_held_drew (S:=(fun W=>(W.cell? ⟨w.heap.size,0,none⟩=some (.slice V2.A1 t2.ts.length V2.c1)/\W.cell? ⟨w.heap.size,1,none⟩=some (.slice V2.A2 t2.vs.length V2.c2)/\W.cell? ⟨w.heap.size,2,none⟩=some (.slice V2.A3 t2.os.length V2.c3))/\W.cell? ⟨b,off + k * 6,none⟩=some (.int .i64 x.k)/\W.cell? ⟨b,off + k * 6 + 1,none⟩=some (.int .i64 x.a)/\W.cell? ⟨b,off + k * 6 + 2,none⟩=some (.int .i64 x.b)/\W.cell? ⟨b,off + k * 6 + 3,none⟩=some (.int .i64 x.c)/\W.cell? ⟨b,off + k * 6 + 4,none⟩=some (.int .i64 x.d)/\W.cell? ⟨b,off + k * 6 + 5,none⟩=some (.string x.key))) (by kernel_rfl) (HS9.out _ (HB4.out.drew.mono HLO.out)) (fun hHeld=>?_);rw [<- hX0] at hHeld ⊢;clear hX0 HB4 q0 q1 q2 q3 q4 q5;refine tkS 0 29 (v:=?_) ?_ ?_
     rotate_left 1
     ·intro w hSw;obtain ⟨⟨S0,S1,S2⟩,S3,S4,S5,S6,S7,S8⟩:=hSw;first | (go_simp;done) | (go_simp;with_reducible rfl)
     (try simp only [Act.put,tk1,tk2,tk3])
     refine tk 1 30 ?_
     (try simp only [Act.put,tk1,tk2,tk3])
     refine tk 2 31 ?_
     (try simp only [Act.put,tk1,tk2,tk3])
     refine tk 3 32 ?_
     (try simp only [Act.put,tk1,tk2,tk3])
     refine tkS 4 33 (v:=?_) ?_ ?_
     rotate_left 1
     ·intro w hSw;obtain ⟨⟨S0,S1,S2⟩,S3,S4,S5,S6,S7,S8⟩:=hSw;first | (go_simp;done) | (go_simp;with_reducible rfl)
     (try simp only [Act.put,tk1,tk2,tk3])
     refine wpAnyH_ready (rs:=[5,9]) (by kernel_rfl) (by simp) ?_;refine AllReadyH.cons (o:=_) rfl (fun K hK=>?_) (AllReadyH.cons (o:=_) rfl (fun K hK=>?_) (AllReadyH.nil))
     ·go_simp
      (go_at_call 30;with_reducible (refine Calls.mono (HON.out _ HX0.out) ?_);rintro e w5 ⟨B1,d1,B2,d2,B3,d3,rfl,hr5,hb5,hk5,hf5⟩)
      refine hK.out _ _ (HS9.out _ ((HX0.out.mono HLO.out).trans hb5)) (fun hHeldA=>?_)
      (try simp only [Act.put,tk1,tk2,tk3])
      clear hK K;refine tk 6 28 ?_
      (try simp only [Act.put,tk1,tk2,tk3])
      refine tk 7 35 ?_
      (try simp only [Act.put,tk1,tk2,tk3])
      refine tk 8 36 ?_
      (try simp only [Act.put,tk1,tk2,tk3])
      obtain ⟨Y,q,hY,hqq,hq,hbY,Z,hze,hzz,hzb⟩:=jh0 S.out HX0.out hr5 hb5;clear hr5 hb5 hk5 hf5;refine wpAnyH_ready (rs:=[9]) (by kernel_rfl) (by simp) ?_;refine AllReadyH.cons (o:=_) rfl (fun K hK=>?_) (AllReadyH.nil)
      go_simp
      rw [<- hY,<- hqq];refine hK.out _ _ (HS9.out _ hbY) (fun hHeldB=>?_)
      (try simp only [Act.put,tk1,tk2,tk3])
      clear hK K hY hqq hbY;obtain ⟨z0,z1,z2⟩:=jai hq;have zf0:=frozen_of_row _ _ 0 _ _ hq;have zf1:=frozen_of_row _ _ 1 _ _ hq;have zf2:=frozen_of_row _ _ 2 _ _ hq;have HZZ:=Lib.hid hzz;have HZB:=Lib.hid hzb;have HZE:=Lib.hid hze;clear hq hzz hzb hze;refine wpAnyH_ready (rs:=[10]) (by kernel_rfl) (by simp) ?_;refine AllReadyH.cons (o:=_) rfl (fun K hK=>?_) (AllReadyH.nil)
      go_simp
      rw [<- HZE.out];refine hK.out _ _ (HS9.out _ HZB.out) (fun hHeldZ=>?_);clear hK K z0 z1 z2 zf0 zf1 zf2 HZE;refine tk 11 8 ?_
      (try simp only [Act.put,tk1,tk2,tk3])
      refine wpAnyH_done (by kernel_rfl) ?_ _;have hg2:=HZZ.out.res;obtain ⟨g0,g1,g2⟩:=jai hg2;have z0:=frozen_of_row _ _ 0 _ _ hg2;have z1:=frozen_of_row _ _ 1 _ _ hg2;have z2:=frozen_of_row _ _ 2 _ _ hg2;clear hg2;go_wp2;have hr:=jiD E HZZ.out.res HZZ.out.below;refine bodyPost_ret (jab rfl _ _ (w.heap.size + 1) _ _ _ _ rfl hr.1 Tryz.underlying35 rfl (by kernel_rfl)) rfl ?_;rw [HE.out];exact hr.2
     ·go_simp
      obtain ⟨Y,q,hY,hqq,hbY,hall⟩:=jiv (T:=T) S.out HX0.out;rw [<- hY,<- hqq];refine hK.out _ _ (HS9.out _ (hbY.mono HLO.out)) (fun hHeldA=>?_)
      (try simp only [Act.put,tk1,tk2,tk3])
      clear hK K hY hqq;refine wpAnyH_ready (rs:=[5]) (by kernel_rfl) (by simp) ?_;refine AllReadyH.cons (o:=_) rfl (fun K hK=>?_) (AllReadyH.nil)
      go_simp
      (go_at_call 30;with_reducible (refine Calls.mono (HON.out _ hbY) ?_);rintro e w5 ⟨B1,d1,B2,d2,B3,d3,rfl,hr5,hb5,hk5,hf5⟩)
      obtain ⟨hq,hb5w,Z,hze,hzz,hzb⟩:=hall ⟨B1,d1,B2,d2,B3,d3⟩ w5 hr5 hb5 hk5 hf5;refine hK.out _ _ (HS9.out _ hb5w) (fun hHeldB=>?_)
      (try simp only [Act.put,tk1,tk2,tk3])
      clear hK K hall hr5 hb5 hk5 hf5 hb5w hbY;refine tk 6 28 ?_
      (try simp only [Act.put,tk1,tk2,tk3])
      refine tk 7 35 ?_
      (try simp only [Act.put,tk1,tk2,tk3])
      refine tk 8 36 ?_
      (try simp only [Act.put,tk1,tk2,tk3])
      obtain ⟨z0,z1,z2⟩:=jai hq;have zf0:=frozen_of_row _ _ 0 _ _ hq;have zf1:=frozen_of_row _ _ 1 _ _ hq;have zf2:=frozen_of_row _ _ 2 _ _ hq;have HZZ:=Lib.hid hzz;have HZB:=Lib.hid hzb;have HZE:=Lib.hid hze;clear hq hzz hzb hze;refine wpAnyH_ready (rs:=[10]) (by kernel_rfl) (by simp) ?_;refine AllReadyH.cons (o:=_) rfl (fun K hK=>?_) (AllReadyH.nil)
      go_simp
      rw [<- HZE.out];refine hK.out _ _ (HS9.out _ HZB.out) (fun hHeldZ=>?_);clear hK K z0 z1 z2 zf0 zf1 zf2 HZE;refine tk 11 8 ?_
      (try simp only [Act.put,tk1,tk2,tk3])
      refine wpAnyH_done (by kernel_rfl) ?_ _;have hg2:=HZZ.out.res;obtain ⟨g0,g1,g2⟩:=jai hg2;have z0:=frozen_of_row _ _ 0 _ _ hg2;have z1:=frozen_of_row _ _ 1 _ _ hg2;have z2:=frozen_of_row _ _ 2 _ _ hg2;clear hg2;go_wp2;have hr:=jiD E HZZ.out.res HZZ.out.below;refine bodyPost_ret (jab rfl _ _ (w.heap.size + 1) _ _ _ _ rfl hr.1 Tryz.underlying35 rfl (by kernel_rfl)) rfl ?_;rw [HE.out];exact hr.2
   ·have HFM:Hid (∀ W,Calls Tryz.prog 29 #[.agg #[.int .i64 x.k,.int .i64 x.a,.int .i64 x.b,.int .i64 x.c,.int .i64 x.d,.string x.key]] W fun e w'=>e=.returned (.bool false)/\Below W.heap.size W w'):=fun W=>by have:=jfE x W;rw [decide_eq_false hf] at this;exact this
    have HE:Hid (RR=(1,Tab.zero)):=by unfold Hid;rw [HRR.out,hrun,jox hf]
    have HRES:Hid (∀ X,Below wr.heap.size wr X->X.heap[w.heap.size + 1]? = some (.cells #[.slice none 0 0,.slice none 0 0,.slice none 0 0] 35 (0,0))/\Below w.heap.size w X):=fun X hb=>⟨(S.out.later hb).res,(S.out.later hb).below⟩
    clear hrun hf hx S
    go_wp2_with (first
     | (go_at_call 29;with_reducible (refine Calls.mono (HFM.out _) ?_);rintro e w4 ⟨rfl,hb4⟩
        have hg2:=(HRES.out _ hb4).1;obtain ⟨g0,g1,g2⟩:=jai hg2;have z0:=frozen_of_row _ _ 0 _ _ hg2;have z1:=frozen_of_row _ _ 1 _ _ hg2;have z2:=frozen_of_row _ _ 2 _ _ hg2))
    have hr:=jiD 1 (HRES.out _ hb4).1 (HRES.out _ hb4).2;refine bodyPost_ret (jab rfl _ _ (w.heap.size + 1) _ _ _ _ rfl hr.1 Tryz.underlying35 rfl (by kernel_rfl)) rfl ?_;rw [HE.out];exact hr.2
  ·have hkN:k=N:=by omega
   subst hkN;have k1:¬ (k:Int) < (k:Int):=by omega
   have HE:Hid (RR=(0,t2)):=by unfold Hid;rw [HRR.out,S.out.run,HN.out,List.drop_length];rfl
   have hg2:=S.out.res;obtain ⟨g0,g1,g2⟩:=jai hg2;have z0:=frozen_of_row _ _ 0 _ _ hg2;have z1:=frozen_of_row _ _ 1 _ _ hg2;have z2:=frozen_of_row _ _ 2 _ _ hg2;have hbx:=S.out.box;unfold jan at hbx;obtain ⟨y0,y1,y2⟩:=jai hbx;clear HRR HRE hbx;go_wp2;have hr:=jp5 S.out.res S.out.rows S.out.below;refine bodyPost_ret (jab rfl _ _ (w.heap.size + 1) _ _ _ _ rfl hr.1 Tryz.underlying35 rfl (by kernel_rfl)) rfl ?_;rw [HE.out];exact hr.2
theorem Tryz.infoI64v:(Tryz.prog.info? 3).map (fun i=>(i.zero,i.size,i.bytes))=some (some (.int .i64 0),1,8):=by kernel_rfl
section
variable {Rep:World->Nat->(Nat->Prop)->Dk->Prop} (L:jbX Rep)
include L
end
end Go.Proofs.YtbnhkplhmanmoaaGreat
