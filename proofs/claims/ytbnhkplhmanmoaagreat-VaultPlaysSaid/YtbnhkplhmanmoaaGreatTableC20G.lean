/- . -/
import Derived.Test.YtbnhkplhmanmoaaGreatTableC18G
namespace Go.Proofs.YtbnhkplhmanmoaaGreat
open Go.RowKit
set_option maxHeartbeats 6400000
set_option maxRecDepth 20000
theorem jox {t:Tab} {r:Rc} {l:List Rc} (h:¬ jaf r):jaV t (r :: l)=(1,Tab.zero):=by
 conv=>lhs;unfold jaV
 rw [if_neg h]
theorem jlC {t:Tab} {r:Rc} {l:List Rc} (hf:jaf r) (h:(jar t r).1≠0):jaV t (r :: l)=((jar t r).1,Tab.zero):=by
 conv=>lhs;unfold jaV
 rw [if_pos hf,if_neg h]
theorem joH {t:Tab} {r:Rc} {l:List Rc} (hf:jaf r) (h:(jar t r).1=0):jaV t (r :: l)=jaV (jar t r).2 l:=by
 conv=>lhs;unfold jaV
 rw [if_pos hf,if_pos h]
theorem je5 (w:World) (B:Nat):jao w B ⟨none,0,none,0,none,0⟩ Tab.zero:=⟨jbb.nil _ _ _,jbc.nil _ _ _,jaO.nil _ _ _ _,Nat.le_refl _,Nat.le_refl _,Nat.le_refl _⟩
theorem jeg (lo:Nat):jay lo ⟨none,0,none,0,none,0⟩:=fun a ha=>by rcases ha with ha | ha | ha <;> cases ha
theorem jjM {w:World} {B:Nat} {A:Option Addr} {rs:List Rc} (h:jax w B A rs) {k:Nat} (hk:k < rs.length):∃ b off,A=some ⟨b,off,none⟩/\b < B/\w.cell? ⟨b,off + k * 6,none⟩=some (.int .i64 rs[k].k)/\w.cell? ⟨b,off + k * 6 + 1,none⟩=some (.int .i64 rs[k].a)/\w.cell? ⟨b,off + k * 6 + 2,none⟩=some (.int .i64 rs[k].b) /\
  w.cell? ⟨b,off + k * 6 + 3,none⟩=some (.int .i64 rs[k].c)/\w.cell? ⟨b,off + k * 6 + 4,none⟩=some (.int .i64 rs[k].d)/\w.cell? ⟨b,off + k * 6 + 5,none⟩=some (.string rs[k].key):=by
 have:=h k hk
 rwa [Nat.mul_comm 6 k] at this
structure ApR (lo p:Nat) (w2:World) (t0:Tab) (l:List Rc) (k:Nat) (V:jat) (t:Tab) (wr:World):Prop where
 dr:jaZ lo wr p V t
 sound:t.sound
 below:Below lo w2 wr
 run:jaV t0 l=jaV t (l.drop k)
theorem jn5 (V:jat) (t:Tab) (A:Option Addr) (c:Nat) (l:List Rc) (w:World) (h:jao w w.heap.size V t) (ho:t.ok) (hs:¬ t.sound) :
  Calls Tryz.prog 24 #[.agg (jan V t),.slice A l.length c] w fun e w'=>∃ V',e=.returned (.tuple #[.agg (jan V' (jbR t l).2),.int .i64 (jbR t l).1])/\jao w' w'.heap.size V' (jbR t l).2/\jay w.heap.size V'/\Below w.heap.size w w':=by
 have he:jbR t l=(2,Tab.zero):=if_neg hs;rw [he];have hb0:Below w.heap.size w (w.alloc (.cells (jan V t) 35)):=(Below.refl _ _).alloc (Nat.le_refl _) _;have hb1:=hb0.alloc hb0.size (.cells #[.slice none 0 0,.slice none 0 0,.slice none 0 0] 35);have hs0:(w.alloc (.cells (jan V t) 35)).heap.size=w.heap.size + 1:=by simp
 have hg1:=heap_alloc_new (w.alloc (.cells (jan V t) 35)) (.cells #[.slice none 0 0,.slice none 0 0,.slice none 0 0] 35);rw [hs0] at hg1;obtain ⟨W0,hW0⟩:∃ W,W=(w.alloc (.cells (jan V t) 35)).alloc (.cells #[.slice none 0 0,.slice none 0 0,.slice none 0 0] 35):=⟨_,rfl⟩
 have hg0:W0.heap[w.heap.size]? = some (.cells (jan V t) 35 (0,0)):=by
  rw [hW0,Below.heap_alloc _ _ _ (by simp)];exact heap_alloc_new _ _
 rw [<- hW0] at hb1 hg1;have HCH:=Lib.hid (jc0 V t W0 ((h.below hb1).more hb1.size) ho false (by simp [hs]));obtain ⟨f0,f1,f2⟩:W0.cell? ⟨w.heap.size,0,none⟩=some (.slice V.A1 t.ts.length V.c1)/\W0.cell? ⟨w.heap.size,1,none⟩=some (.slice V.A2 t.vs.length V.c2)/\W0.cell? ⟨w.heap.size,2,none⟩=some (.slice V.A3 t.os.length V.c3):=jai hg0;have HG1:Hid (∀ X,Below W0.heap.size W0 X->X.heap[w.heap.size + 1]? = some (.cells #[.slice none 0 0,.slice none 0 0,.slice none 0 0] 35 (0,0))):=fun X hb=>(hb.block _ (Array.getElem?_eq_some_iff.1 hg1).1).trans hg1
 have HB1:=Lib.hid hb1;unfold jan at HCH hW0 ⊢;clear h ho hs he hb0 hb1 hs0 hg0 hg1;go_enter Tryz.func24,Tryz.ntmps24
 go_wp2_with fail
 rw [<- hW0];clear hW0
 go_wp2_with (go_at_call 36;with_reducible (refine Calls.mono HCH.out ?_);rintro e w2 ⟨rfl,hb2⟩;have hg2:=HG1.out _ hb2;obtain ⟨g0,g1,g2⟩:=jai hg2;have z0:=frozen_of_row _ _ 0 _ _ hg2;have z1:=frozen_of_row _ _ 1 _ _ hg2;have z2:=frozen_of_row _ _ 2 _ _ hg2)
 have hs3:=jd4 (.slice none 0 0) (.slice none 0 0) (.slice none 0 0) hg2;refine bodyPost_ret (jab rfl _ _ (w.heap.size + 1) _ _ _ _ rfl hs3.1 Tryz.underlying35 rfl (by kernel_rfl)) rfl ?_;exact ⟨⟨none,0,none,0,none,0⟩,rfl,je5 _ _,jeg _,jae (jaa HB1.out hb2) hs3.2 (jaa HB1.out hb2).size (Nat.le_succ _)⟩
theorem ja8.lower {lo lo':Nat} {w:World} {V:jat} {t:Tab} (h:ja8 lo w V t) (hb:lo'<=lo):ja8 lo' w V t:=⟨jcB h.ts hb,jcB h.vs hb,jcB h.os hb,h.a12,h.a13,h.a23⟩
theorem jlR (V:jat) (t:Tab) (A:Option Addr) (c:Nat) (l:List Rc) (w:World) (h:jao w w.heap.size V t) (hl:jax w w.heap.size A l) (hs:t.sound) (hm:l.length<=140737488355328) :
  Calls Tryz.prog 24 #[.agg (jan V t),.slice A l.length c] w fun e w'=>∃ V',e=.returned (.tuple #[.agg (jan V' (jaV t l).2),.int .i64 (jaV t l).1])/\jao w' w'.heap.size V' (jaV t l).2/\jay w.heap.size V'/\Below w.heap.size w w'/\((jaV t l).1=0->ja8 w.heap.size w' V' (jaV t l).2):=by
 obtain ⟨n1,n2,n3⟩:=jam hs;have hb0:Below w.heap.size w (w.alloc (.cells (jan V t) 35)):=(Below.refl _ _).alloc (Nat.le_refl _) _;have hb1:=hb0.alloc hb0.size (.cells #[.slice none 0 0,.slice none 0 0,.slice none 0 0] 35);have hs0:(w.alloc (.cells (jan V t) 35)).heap.size=w.heap.size + 1:=by simp
 have hg1:=heap_alloc_new (w.alloc (.cells (jan V t) 35)) (.cells #[.slice none 0 0,.slice none 0 0,.slice none 0 0] 35);rw [hs0] at hg1;obtain ⟨W0,hW0⟩:∃ W,W=(w.alloc (.cells (jan V t) 35)).alloc (.cells #[.slice none 0 0,.slice none 0 0,.slice none 0 0] 35):=⟨_,rfl⟩;have hsz:W0.heap.size=w.heap.size + 2:=by rw [hW0];simp
 have hg0:W0.heap[w.heap.size]? = some (.cells (jan V t) 35 (0,0)):=by
  rw [hW0,Below.heap_alloc _ _ _ (by simp)];exact heap_alloc_new _ _
 rw [<- hW0] at hb1 hg1;have HCH:=Lib.hid (jc0 V t W0 ((h.below hb1).more hb1.size) (jdg hs) true (by simp [hs]));have HF:Hid (∀ X,Below W0.heap.size W0 X->X.cell? ⟨w.heap.size,0,none⟩=some (.slice V.A1 t.ts.length V.c1)/\X.cell? ⟨w.heap.size,1,none⟩=some (.slice V.A2 t.vs.length V.c2)/\X.cell? ⟨w.heap.size,2,none⟩=some (.slice V.A3 t.os.length V.c3)):=fun X hb=>jai ((hb.block _ (Array.getElem?_eq_some_iff.1 hg0).1).trans hg0)
 obtain ⟨f0,f1,f2⟩:=HF.out W0 (Below.refl _ _);have HG1:Hid (∀ X,Below W0.heap.size W0 X->X.heap[w.heap.size + 1]? = some (.cells #[.slice none 0 0,.slice none 0 0,.slice none 0 0] 35 (0,0))):=fun X hb=>(hb.block _ (Array.getElem?_eq_some_iff.1 hg1).1).trans hg1
 have HCL:Hid (∀ X,Below W0.heap.size W0 X->Calls Tryz.prog 37 #[.agg (jan V t)] X fun e w'=>∃ V',e=.returned (.agg (jan V' t))/\ja8 X.heap.size w' V' t/\Below X.heap.size X w'):=fun X hb=>jhZ V t X ((h.below (jaa hb1 hb)).more (jaa hb1 hb).size) (by omega) (by omega) (by omega)
 have HST:Hid (∀ (X Y:World) (V':jat),Below W0.heap.size W0 X->ja8 X.heap.size Y V' t->Below X.heap.size X Y->ApR X.heap.size Y.heap.size X t l 0 V' t (Y.alloc (.cells (jan V' t) 93))):=fun X Y V' hX hr hb=>by
  have hba:Below Y.heap.size Y (Y.alloc (.cells (jan V' t) 93)):=(Below.refl _ _).alloc (Nat.le_refl _) _;refine ⟨⟨heap_alloc_new _ _,hb.size,hr.below hba,fun b hb2 e=>?_,fun b hb2 e=>?_,fun b hb2 e=>?_⟩,hs,jaa hb hba,rfl⟩
  ·have:=(ja1 hr.ts b hb2).2;omega
  ·have:=(ja1 hr.vs b hb2).2;omega
  ·have:=(ja1 hr.os b hb2).2;omega
 have HRE:Hid (∀ X,Below w.heap.size w X->jax X w.heap.size A l):=fun X hb=>hl.below hb
 have HB1:=Lib.hid hb1;have HSZ:=Lib.hid hsz;obtain ⟨N,hN⟩:∃ N,N=l.length:=⟨_,rfl⟩;have HN:=Lib.hid hN;rw [<- hN] at hm ⊢;obtain ⟨RR,hRR⟩:∃ R,R=jaV t l:=⟨_,rfl⟩;have HRR:=Lib.hid hRR;rw [<- hRR];unfold jan at HCH HCL hW0;show Calls Tryz.prog 24 #[.agg #[.slice V.A1 t.ts.length V.c1,.slice V.A2 t.vs.length V.c2,.slice V.A3 t.os.length V.c3],.slice A N c] w _;clear h hl hs hb0 hb1 hs0 hg0 hg1 hN hRR hsz n1 n2 n3;go_enter Tryz.func24,Tryz.ntmps24
 go_wp2_with fail
 rw [<- hW0];clear hW0
 go_wp2_with (first
  | (go_at_call 36;with_reducible (refine Calls.mono HCH.out ?_);rintro e w2 ⟨rfl,hb2⟩;obtain ⟨f0,f1,f2⟩:=HF.out _ hb2)
  | (go_at_call 37;with_reducible (refine Calls.mono (HCL.out _ hb2) ?_);rintro e w3 ⟨V1,rfl,hr3,hb3⟩
     have hst:=HST.out _ _ _ hb2 hr3 hb3;unfold jan at hst))
 obtain ⟨lo,hlo⟩:∃ lo,lo=w2.heap.size:=⟨_,rfl⟩;obtain ⟨p,hp⟩:∃ p,p=w3.heap.size:=⟨_,rfl⟩;rw [<- hp] at hst ⊢;rw [<- hlo] at hst;have HST2:=Lib.hid hst;have HLO:=Lib.hid hlo;have HB2:=Lib.hid hb2
 have HWW:Hid (∀ X,Below lo w2 X->Below w.heap.size w X/\Below W0.heap.size W0 X):=fun X hb=>by
  rw [hlo] at hb;exact ⟨jaa HB1.out (jaa hb2 hb),jaa hb2 hb⟩
 have hbw2:Hid (lo<=w2.heap.size/\w.heap.size<=lo):=⟨Nat.le_of_eq hlo,by rw [hlo];have:=hb2.size;have:=HSZ.out;omega⟩;clear hst hlo hp hr3 hb3 HST HCL HCH f0 f1 f2 HF hb2
 go_loopw [22] (fun i wr=>∃ (k:Nat) (V':jat) (t':Tab),k<=N/\i=.int .i64 k/\Hid (ApR lo p w2 t l k V' t' wr)) (fun i _=>N - (intOf i).toNat)
 case atStart=>exact ⟨0,V1,t,Nat.zero_le _,rfl,HST2.out⟩
 case round =>
  clear HST2;obtain ⟨k,V2,t2,hk,rfl,S⟩:=hrel;have k0:(0:Int)<=(k:Int):=by omega
  by_cases hlt:k < N
  ·have k1:(k:Int) < (N:Int):=by omega
   have hkx:k < l.length:=by have:=HN.out;omega
   obtain ⟨b,off,rfl,_,q0,q1,q2,q3,q4,q5⟩:=jjM (HRE.out wr (HWW.out _ S.out.below).1) hkx;have hrun:=S.out.run;rw [List.drop_eq_getElem_cons hkx] at hrun;have hfm:=fun W=>jdG l[k] W
   have hch:jaf l[k]->∀ X,Below wr.heap.size wr X->Calls Tryz.prog 39 #[.pointer (some ⟨p,0,none⟩),.agg (rcV l[k])] X fun e w'=>∃ V',e=.returned (.int .i64 (jar t2 l[k]).1)/\jaZ lo w' p V' (jar t2 l[k]).2/\Below lo X w':=fun hf X hb=>jmC (S.out.dr.below hb) S.out.sound l[k] hf
   obtain ⟨x,hx⟩:∃ x,x=l[k]:=⟨_,rfl⟩;rw [<- hx] at q0 q1 q2 q3 q4 q5 hrun hfm hch;have hb0:Below wr.heap.size wr (wr.alloc (.cells (rcV x) 56)):=(Below.refl _ _).alloc (Nat.le_refl _) _;have HX:Hid (∀ X,Below (wr.alloc (.cells (rcV x) 56)).heap.size (wr.alloc (.cells (rcV x) 56)) X->X.cell? ⟨wr.heap.size,0,none⟩=some (.int .i64 x.k)/\X.cell? ⟨wr.heap.size,1,none⟩=some (.int .i64 x.a)/\X.cell? ⟨wr.heap.size,2,none⟩=some (.int .i64 x.b)/\X.cell? ⟨wr.heap.size,3,none⟩=some (.int .i64 x.c)/\X.cell? ⟨wr.heap.size,4,none⟩=some (.int .i64 x.d)/\X.cell? ⟨wr.heap.size,5,none⟩=some (.string x.key)):=fun X hb=>jbz ((hb.block _ (by simp)).trans (heap_alloc_new wr _))
   have HWR:Hid (∀ X,Below wr.heap.size wr X->Below lo w2 X):=fun X hb=>S.out.below.trans (hb.mono S.out.dr.lo_le)
   unfold rcV at hfm hch hb0 HX;by_cases hf:jaf x
   ·have HFM:Hid (∀ W,Calls Tryz.prog 38 #[.agg #[.int .i64 x.k,.int .i64 x.a,.int .i64 x.b,.int .i64 x.c,.int .i64 x.d,.string x.key]] W fun e w'=>e=.returned (.bool true)/\Below W.heap.size W w'):=fun W=>by have:=hfm W;rwa [decide_eq_true hf] at this
    have HCH:=Lib.hid (hch hf);by_cases hE:(jar t2 x).1=0
    ·have hs2:=(jfH S.out.sound hf hE).1;have HNX:Hid (∀ X V',jaZ lo X p V' (jar t2 x).2->Below lo w2 X->ApR lo p w2 t l (k + 1) V' (jar t2 x).2 X):=fun X V' h1 h2=>⟨h1,hs2,h2,by rw [hrun,joH hf hE]⟩
     rw [hE] at HCH;obtain ⟨T,hT⟩:∃ T,T=(jar t2 x).2:=⟨_,rfl⟩;rw [<- hT] at HCH HNX;clear hrun hfm hch hf hE hs2 hT hx S
     go_wp2_with (first
      | (go_at_call 38;with_reducible (refine Calls.mono (HFM.out _) ?_);rintro e w4 ⟨rfl,hb4⟩
         obtain ⟨r0,r1,r2,r3,r4,r5⟩:=HX.out _ hb4;have hb5:=jaa hb0 hb4)
      | (go_at_call 39;with_reducible (refine Calls.mono (HCH.out _ hb5) ?_);rintro e w5 ⟨V5,rfl,hd5,hb6⟩))
     have S5:=Lib.hid (HNX.out w5 V5 hd5 ((HWR.out _ hb5).trans hb6));clear hb0 hb4 hb5 hb6 hd5 HX HNX HCH HFM r0 r1 r2 r3 r4 r5;go_roundw
     case rel=>first | exact ⟨k + 1,V5,T,by omega,by go_num,S5⟩ | ((repeat apply Exists.intro);exact ⟨⟨k + 1,V5,T,by omega,by go_num,S5⟩,rfl⟩)
     case measure=>simp [intOf];omega
    ·have HE:Hid (RR=((jar t2 x).1,Tab.zero)):=by unfold Hid;rw [HRR.out,hrun,jlC hf hE]
     obtain ⟨E,hEE⟩:∃ E,E=(jar t2 x).1:=⟨_,rfl⟩;rw [<- hEE] at HCH HE hE;have d:(E != 0)=true:=bne_iff_ne.2 hE;have d2:(E == 0)=false:=beq_eq_false_iff_ne.2 hE;clear hrun hfm hch hf hE hEE hx S
     go_wp2_with (first
      | (go_at_call 38;with_reducible (refine Calls.mono (HFM.out _) ?_);rintro e w4 ⟨rfl,hb4⟩
         obtain ⟨r0,r1,r2,r3,r4,r5⟩:=HX.out _ hb4;have hb5:=jaa hb0 hb4)
      | (go_at_call 39;with_reducible (refine Calls.mono (HCH.out _ hb5) ?_);rintro e w5 ⟨V5,rfl,hd5,hb6⟩
         have hbz:=(HWR.out _ hb5).trans hb6;have hg2:=HG1.out _ (HWW.out _ hbz).2;obtain ⟨g0,g1,g2⟩:=jai hg2;have z0:=frozen_of_row _ _ 0 _ _ hg2;have z1:=frozen_of_row _ _ 1 _ _ hg2;have z2:=frozen_of_row _ _ 2 _ _ hg2))
     have hs3:=jd4 (.slice none 0 0) (.slice none 0 0) (.slice none 0 0) hg2;refine bodyPost_ret (jab rfl _ _ (w.heap.size + 1) _ _ _ _ rfl hs3.1 Tryz.underlying35 rfl (by kernel_rfl)) rfl ?_;rw [HE.out];exact ⟨⟨none,0,none,0,none,0⟩,rfl,je5 _ _,jeg _,jae (HWW.out _ hbz).1 hs3.2 (HWW.out _ hbz).1.size (Nat.le_succ _),fun h=>absurd h (bne_iff_ne.1 d)⟩
   ·have HFM:Hid (∀ W,Calls Tryz.prog 38 #[.agg #[.int .i64 x.k,.int .i64 x.a,.int .i64 x.b,.int .i64 x.c,.int .i64 x.d,.string x.key]] W fun e w'=>e=.returned (.bool false)/\Below W.heap.size W w'):=fun W=>by have:=hfm W;rwa [decide_eq_false hf] at this
    have HE:Hid (RR=(1,Tab.zero)):=by unfold Hid;rw [HRR.out,hrun,jox hf]
    clear hrun hfm hch hf hx S
    go_wp2_with (first
     | (go_at_call 38;with_reducible (refine Calls.mono (HFM.out _) ?_);rintro e w4 ⟨rfl,hb4⟩
        have hbz:=HWR.out _ (jaa hb0 hb4);have hg2:=HG1.out _ (HWW.out _ hbz).2;obtain ⟨g0,g1,g2⟩:=jai hg2;have z0:=frozen_of_row _ _ 0 _ _ hg2;have z1:=frozen_of_row _ _ 1 _ _ hg2;have z2:=frozen_of_row _ _ 2 _ _ hg2))
    have hs3:=jd4 (.slice none 0 0) (.slice none 0 0) (.slice none 0 0) hg2;refine bodyPost_ret (jab rfl _ _ (w.heap.size + 1) _ _ _ _ rfl hs3.1 Tryz.underlying35 rfl (by kernel_rfl)) rfl ?_;rw [HE.out];exact ⟨⟨none,0,none,0,none,0⟩,rfl,je5 _ _,jeg _,jae (HWW.out _ hbz).1 hs3.2 (HWW.out _ hbz).1.size (Nat.le_succ _),fun h=>absurd h (by decide)⟩
  ·have hkN:k=N:=by omega
   subst hkN;have k1:¬ (k:Int) < (k:Int):=by omega
   have HE:Hid (RR=(0,t2)):=by unfold Hid;rw [HRR.out,S.out.run,HN.out,List.drop_length];rfl
   have hg2:=HG1.out _ (HWW.out _ S.out.below).2;obtain ⟨g0,g1,g2⟩:=jai hg2;have z0:=frozen_of_row _ _ 0 _ _ hg2;have z1:=frozen_of_row _ _ 1 _ _ hg2;have z2:=frozen_of_row _ _ 2 _ _ hg2;obtain ⟨y0,y1,y2⟩:=S.out.dr.cells;clear HRR HRE HG1;go_wp2;have hs3:=jd4 (.slice V2.A1 t2.ts.length V2.c1) (.slice V2.A2 t2.vs.length V2.c2) (.slice V2.A3 t2.os.length V2.c3) hg2;have hq:w.heap.size + 1 < lo:=by have:=hbw2.out;have:=HSZ.out;have:=HB2.out.size;have:=HLO.out;omega
   have hr3:ja8 lo (((wr.setCell ⟨w.heap.size + 1,0,none⟩ (.slice V2.A1 t2.ts.length V2.c1)).setCell ⟨w.heap.size + 1,1,none⟩ (.slice V2.A2 t2.vs.length V2.c2)).setCell ⟨w.heap.size + 1,2,none⟩ (.slice V2.A3 t2.os.length V2.c3)) V2 t2 :=
    S.out.dr.rows.grown hs3.2 (fun b hb q=>by injection q with q;have:=(ja1 S.out.dr.rows.ts b hb).1;omega) (fun b hb q=>by injection q with q;have:=(ja1 S.out.dr.rows.vs b hb).1;omega) (fun b hb q=>by injection q with q;have:=(ja1 S.out.dr.rows.os b hb).1;omega)
   refine bodyPost_ret (jab rfl _ _ (w.heap.size + 1) _ _ _ _ rfl hs3.1 Tryz.underlying35 rfl (by kernel_rfl)) rfl ?_;rw [HE.out];exact ⟨V2,rfl,hr3.tab,fun a ha=>Nat.le_trans hbw2.out.2 (hr3.from_ a ha),jae (HWW.out _ S.out.below).1 hs3.2 (HWW.out _ S.out.below).1.size (Nat.le_succ _),fun _=>hr3.lower hbw2.out.2⟩
theorem jlT (V:jat) (t:Tab) (A:Option Addr) (c:Nat) (l:List Rc) (w:World) (h:jao w w.heap.size V t) (hl:jax w w.heap.size A l) (hs:t.sound) (hm:l.length<=140737488355328) :
  Calls Tryz.prog 24 #[.agg (jan V t),.slice A l.length c] w fun e w'=>∃ V',e=.returned (.tuple #[.agg (jan V' (jaV t l).2),.int .i64 (jaV t l).1])/\jao w' w'.heap.size V' (jaV t l).2/\jay w.heap.size V'/\Below w.heap.size w w' :=
 (jlR V t A c l w h hl hs hm).mono fun _ _ ⟨V',q1,q2,q3,q4,_⟩=>⟨V',q1,q2,q3,q4⟩
end Go.Proofs.YtbnhkplhmanmoaaGreat
