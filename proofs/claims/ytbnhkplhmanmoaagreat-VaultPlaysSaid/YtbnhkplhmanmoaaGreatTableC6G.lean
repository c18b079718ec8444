/- . -/
import Derived.Test.YtbnhkplhmanmoaaGreatTableC3G
import Derived.Deep.RegionHeld3
namespace Go.Proofs.YtbnhkplhmanmoaaGreat
open Go.RowKit
set_option maxHeartbeats 6400000
set_option maxRecDepth 20000
def jkk (vs:List Vol):Nat->Int
 | 0=>-1
 | k + 1=>(vs[k]?.map Vol.id).getD (-1)
def ji8 (ts:List Ten) (vs:List Vol) (k:Nat):Prop:=∃ h:k < vs.length,jkk vs k < vs[k].id/\jaf ⟨5,vs[k].id,vs[k].ten,vs[k].blocks,0,⟨#[]⟩⟩/\jaf ⟨8,vs[k].id,vs[k].base,0,0,⟨#[]⟩⟩/\(tenAt ts vs[k].ten).isSome=true
theorem jeF {vs:List Vol} {k:Nat} (h:k < vs.length):jkk vs (k + 1)=vs[k].id:=by
 show (vs[k]?.map Vol.id).getD (-1)=_;rw [List.getElem?_eq_getElem h];rfl
theorem jho (V:jat) (t:Tab) (w:World) (h:jao w w.heap.size V t) (hm1:t.ts.length<=9223372036854775807) (hm:t.vs.length<=9223372036854775807) (S:Bool) (hS:S=true↔(∀ j,j < t.vs.length->ji8 t.ts t.vs j)) :
  Calls Tryz.prog 89 #[.agg (jan V t)] w fun e w'=>e=.returned (.bool S)/\Below w.heap.size w w':=by
 obtain ⟨F0,F1,F2,hb0⟩:=jca w (.slice V.A1 t.ts.length V.c1) (.slice V.A2 t.vs.length V.c2) (.slice V.A3 t.os.length V.c3) 35
 have hth:∀ id (W:World),Below (w.alloc (.cells #[.slice V.A1 t.ts.length V.c1,.slice V.A2 t.vs.length V.c2,.slice V.A3 t.os.length V.c3] 35)).heap.size (w.alloc (.cells #[.slice V.A1 t.ts.length V.c1,.slice V.A2 t.vs.length V.c2,.slice V.A3 t.os.length V.c3] 35)) W ->
   Calls Tryz.prog 124 #[.agg (jan V t),.int .i64 id] W fun e w'=>e=.returned (.bool (tenAt t.ts id).isSome)/\Below W.heap.size W w':=fun id W hb=>jhI V t id W ((h.below (jaa hb0 hb)).more (jaa hb0 hb).size) hm1
 have ht:=h.vs;obtain ⟨ts,vs,os⟩:=t;obtain ⟨A1,c1,A2,c2,A3,c3⟩:=V;simp only [jan] at F0 F1 F2 hb0 ht hm hS hth ⊢;have HS:=Lib.hid hS;have HLT:Hid (∀ k,(h:k < vs.length)->jkk vs (k + 1)=vs[k].id):=fun k h=>jeF h
 have HGO:Hid (∀ k,(h:k < vs.length)->(ji8 ts vs k↔jkk vs k < vs[k].id/\jaf ⟨5,vs[k].id,vs[k].ten,vs[k].blocks,0,⟨#[]⟩⟩/\jaf ⟨8,vs[k].id,vs[k].base,0,0,⟨#[]⟩⟩/\(tenAt ts vs[k].ten).isSome=true)):=fun k h=>⟨fun ⟨_,q⟩=>q,fun q=>⟨h,q⟩⟩
 obtain ⟨W0,hW0⟩:∃ W,W=w.alloc (.cells #[.slice A1 ts.length c1,.slice A2 vs.length c2,.slice A3 os.length c3] 35):=⟨_,rfl⟩;rw [<- hW0] at F0 F1 F2 hb0;simp only [<- hW0] at hth;have HTH:=Lib.hid hth;have HT:Hid (∀ X,Below W0.heap.size W0 X->jbc X W0.heap.size A2 vs):=fun X hb=>((ht.below (jaa hb0 hb)).more hb0.size)
 have hlt0:=World.block_lt_of_cell? W0 _ F0;have HF:Hid (∀ X,Below W0.heap.size W0 X->X.cell? ⟨w.heap.size,0,none⟩=some (.slice A1 ts.length c1)/\X.cell? ⟨w.heap.size,1,none⟩=some (.slice A2 vs.length c2)/\X.cell? ⟨w.heap.size,2,none⟩=some (.slice A3 os.length c3)):=fun X hb=>⟨(hb.cell (p:=⟨w.heap.size,0,none⟩) hlt0).trans F0,(hb.cell (p:=⟨w.heap.size,1,none⟩) hlt0).trans F1,(hb.cell (p:=⟨w.heap.size,2,none⟩) hlt0).trans F2⟩
 have HB0:=Lib.hid hb0;obtain ⟨N,hN⟩:∃ N,N=vs.length:=⟨_,rfl⟩;obtain ⟨N3,hN3⟩:∃ N,N=os.length:=⟨_,rfl⟩;obtain ⟨N1,hN1⟩:∃ N,N=ts.length:=⟨_,rfl⟩;have HN:=Lib.hid hN;simp only [<- hN,<- hN1,<- hN3] at F0 F1 F2 hm HS HF HTH hW0 ⊢;clear h hN hN1 hN3 ht hS hlt0 hb0 hth hm1;go_enter Tryz.func89,Tryz.ntmps89
 go_wp2_with fail
 rw [<- hW0];clear hW0
 go_loopw [3,9] (fun l i wr=>∃ k:Nat,∃ z:Int,k<=N/\i=.int .i64 k/\l=.int .i64 z/\Hid (z=jkk vs k/\∀ j,j < k->ji8 ts vs j)/\Hid (Below W0.heap.size W0 wr)) (fun _ i _=>N - (intOf i).toNat)
 case atStart=>exact ⟨0,-1,Nat.zero_le _,rfl,rfl,⟨rfl,fun j hj=>absurd hj (Nat.not_lt_zero j)⟩,Below.refl _ _⟩
 case round =>
  obtain ⟨k,z,hk,rfl,rfl,hI,hB⟩:=hrel;have k0:(0:Int)<=(k:Int):=by omega
  clear F0 F1 F2;by_cases hlt:k < N
  ·have k1:(k:Int) < (N:Int):=by omega
   have hkx:k < vs.length:=by have:=HN.out;omega
   obtain ⟨b,off,rfl,_,q0,q1,q2,q3⟩:=HT.out wr hB.out k hkx;have hgo:=HGO.out k hkx;have hls:=HLT.out k hkx;have h1:=fun W=>jgl vs[k] W
   have h2:=fun W=>jdG ⟨5,vs[k].id,vs[k].ten,vs[k].blocks,0,⟨#[]⟩⟩ W
   have h3:=fun W=>jfo vs[k] W
   have h4:=fun W=>jdG ⟨8,vs[k].id,vs[k].base,0,0,⟨#[]⟩⟩ W
   have h5:=fun W hb=>HTH.out vs[k].ten W hb
   obtain ⟨x,hx⟩:∃ x,x=vs[k]:=⟨_,rfl⟩;rw [<- hx] at q0 q1 q2 q3 hgo hls h1 h2 h3 h4 h5;clear hx HT HGO HLT HTH;obtain ⟨p0,p1,p2,p3⟩:=x;simp only [jcJ,rcV] at h1 h2 h3 h4;simp only at q0 q1 q2 q3 hgo hls h5;have HGO:=Lib.hid hgo;have HLS:=Lib.hid hls;have H1:=Lib.hid h1;have H2:=Lib.hid h2;have H3:=Lib.hid h3;have H4:=Lib.hid h4;have H5:=Lib.hid h5;have hb1:Below wr.heap.size wr (wr.alloc (.cells #[.int .i64 p0,.int .i64 p1,.int .i64 p2,.int .i64 p3] 82)):=(Below.refl _ _).alloc (Nat.le_refl _) _
   have HX:Hid (∀ W:World,Below (wr.alloc (.cells #[.int .i64 p0,.int .i64 p1,.int .i64 p2,.int .i64 p3] 82)).heap.size (wr.alloc (.cells #[.int .i64 p0,.int .i64 p1,.int .i64 p2,.int .i64 p3] 82)) W ->
     (W.cell? ⟨wr.heap.size,0,none⟩=some (.int .i64 p0)/\W.cell? ⟨wr.heap.size,1,none⟩=some (.int .i64 p1)/\W.cell? ⟨wr.heap.size,2,none⟩=some (.int .i64 p2)/\W.cell? ⟨wr.heap.size,3,none⟩=some (.int .i64 p3))):=fun W hb=>jjy ((hb.block _ (by simp)).trans (heap_alloc_new wr _))
   have HWR:Hid (Below W0.heap.size W0 (wr.alloc (.cells #[.int .i64 p0,.int .i64 p1,.int .i64 p2,.int .i64 p3] 82))):=jaa hB.out hb1;clear hgo hls h1 h2 h3 h4 h5;by_cases hle:p0<=z
   ·have HNO:Hid (S=false):=by
     cases hs:S with
     | false=>rfl
     | true =>
      have:=(HGO.out.1 (HS.out.1 hs k hlt)).1;have:=hI.out.1;omega
    have d:decide (p0<=z)=true:=decide_eq_true hle;clear hle;go_wp2;go_ret;exact ⟨by rw [HNO.out];rfl,jaa HB0.out HWR.out⟩
   ·have d:decide (p0<=z)=false:=decide_eq_false hle;by_cases hf5:jaf ⟨5,p0,p1,p2,0,⟨#[]⟩⟩
    ·have H2b:Hid (∀ W,Calls Tryz.prog 38 #[.agg #[.int .i64 5,.int .i64 p0,.int .i64 p1,.int .i64 p2,.int .i64 0,.string ⟨#[]⟩]] W fun e w'=>e=.returned (.bool true)/\Below W.heap.size W w'):=fun W=>by have:=H2.out W;rwa [decide_eq_true hf5] at this
     by_cases hf8:jaf ⟨8,p0,p3,0,0,⟨#[]⟩⟩
     ·have H4b:Hid (∀ W,Calls Tryz.prog 38 #[.agg #[.int .i64 8,.int .i64 p0,.int .i64 p3,.int .i64 0,.int .i64 0,.string ⟨#[]⟩]] W fun e w'=>e=.returned (.bool true)/\Below W.heap.size W w'):=fun W=>by have:=H4.out W;rwa [decide_eq_true hf8] at this
      by_cases hth:(tenAt ts p1).isSome=true
      ·have H5b:Hid (∀ W,Below W0.heap.size W0 W->Calls Tryz.prog 124 #[.agg #[.slice A1 N1 c1,.slice (some ⟨b,off,none⟩) N c2,.slice A3 N3 c3],.int .i64 p1] W fun e w'=>e=.returned (.bool true)/\Below W.heap.size W w'):=fun W hb=>by have:=H5.out W hb;rwa [hth] at this
       have HI2:Hid (p0=jkk vs (k + 1)/\∀ j,j < k + 1->ji8 ts vs j):=⟨HLS.out.symm,fun j hj=>by
        rcases Nat.lt_or_ge j k with q | q
        ·exact hI.out.2 j q
        ·rw [show j=k by omega];exact HGO.out.2 ⟨by have:=hI.out.1;omega,hf5,hf8,hth⟩⟩
       clear hle hf5 hf8 hth HS hI HGO HLS H2 H4 H5
       go_wp2_with (first
        | (go_at_call 108;with_reducible (refine Calls.mono (H1.out _) ?_);rintro e w1 ⟨rfl,hb2⟩)
        | (have hguard:=hb6;clear hguard;go_at_call 38;with_reducible (refine Calls.mono (H4b.out _) ?_);rintro e w4 ⟨rfl,hb7⟩
           have hb8:=jaa hb6 hb7;obtain ⟨x0,x1,x2,x3⟩:=HX.out _ hb8;obtain ⟨f0,f1,f2⟩:=HF.out _ (jaa HWR.out hb8))
        | (go_at_call 38;with_reducible (refine Calls.mono (H2b.out _) ?_);rintro e w2 ⟨rfl,hb3⟩
           have hb4:=jaa hb2 hb3;obtain ⟨x0,x1,x2,x3⟩:=HX.out _ hb4;obtain ⟨f0,f1,f2⟩:=HF.out _ (jaa HWR.out hb4))
        | (go_at_call 109;with_reducible (refine Calls.mono (H3.out _) ?_);rintro e w3 ⟨rfl,hb5⟩
           have hb6:=jaa hb4 hb5)
        | (go_at_call 124;with_reducible (refine Calls.mono (H5b.out _ (jaa HWR.out hb8)) ?_);rintro e w5 ⟨rfl,hb9⟩
           have hb10:=jaa hb8 hb9;obtain ⟨x0,x1,x2,x3⟩:=HX.out _ hb10))
       have R:=Lib.hid (jaa HWR.out hb10);clear hB hb1 hb2 hb3 hb4 hb5 hb6 hb7 hb8 hb9 hb10 x0 x1 x2 x3 f0 f1 f2 HX HWR;go_roundw
       case rel=>exact ⟨k + 1,p0,by omega,by go_num,by first | rfl | go_num,HI2,R⟩
       case measure=>first | (simp [intOf];done) | (simp [intOf];omega)
      ·have H5b:Hid (∀ W,Below W0.heap.size W0 W->Calls Tryz.prog 124 #[.agg #[.slice A1 N1 c1,.slice (some ⟨b,off,none⟩) N c2,.slice A3 N3 c3],.int .i64 p1] W fun e w'=>e=.returned (.bool false)/\Below W.heap.size W w'):=fun W hb=>by have:=H5.out W hb;rwa [Bool.eq_false_iff.2 hth] at this
       have HNO:Hid (S=false):=by
        cases hs:S with
        | false=>rfl
        | true =>
         have hg:=HGO.out.1 (HS.out.1 hs k hlt);exact absurd hg.2.2.2 hth
       clear hle hf5 hf8 hth HS hI HGO HLS H2 H4 H5
       go_wp2_with (first
        | (go_at_call 108;with_reducible (refine Calls.mono (H1.out _) ?_);rintro e w1 ⟨rfl,hb2⟩)
        | (have hguard:=hb6;clear hguard;go_at_call 38;with_reducible (refine Calls.mono (H4b.out _) ?_);rintro e w4 ⟨rfl,hb7⟩
           have hb8:=jaa hb6 hb7;obtain ⟨x0,x1,x2,x3⟩:=HX.out _ hb8;obtain ⟨f0,f1,f2⟩:=HF.out _ (jaa HWR.out hb8))
        | (go_at_call 38;with_reducible (refine Calls.mono (H2b.out _) ?_);rintro e w2 ⟨rfl,hb3⟩
           have hb4:=jaa hb2 hb3;obtain ⟨x0,x1,x2,x3⟩:=HX.out _ hb4;obtain ⟨f0,f1,f2⟩:=HF.out _ (jaa HWR.out hb4))
        | (go_at_call 109;with_reducible (refine Calls.mono (H3.out _) ?_);rintro e w3 ⟨rfl,hb5⟩
           have hb6:=jaa hb4 hb5)
        | (go_at_call 124;with_reducible (refine Calls.mono (H5b.out _ (jaa HWR.out hb8)) ?_);rintro e w5 ⟨rfl,hb9⟩
           have hb10:=jaa hb8 hb9;obtain ⟨x0,x1,x2,x3⟩:=HX.out _ hb10))
       go_ret;exact ⟨by rw [HNO.out];rfl,jaa HB0.out (jaa HWR.out hb10)⟩
     ·have H4b:Hid (∀ W,Calls Tryz.prog 38 #[.agg #[.int .i64 8,.int .i64 p0,.int .i64 p3,.int .i64 0,.int .i64 0,.string ⟨#[]⟩]] W fun e w'=>e=.returned (.bool false)/\Below W.heap.size W w'):=fun W=>by have:=H4.out W;rwa [decide_eq_false hf8] at this
      have HNO:Hid (S=false):=by
       cases hs:S with
       | false=>rfl
       | true =>
        have hg:=HGO.out.1 (HS.out.1 hs k hlt);exact absurd hg.2.2.1 hf8
      clear hle hf5 hf8 HS hI HGO HLS H2 H4 H5
      go_wp2_with (first
       | (go_at_call 108;with_reducible (refine Calls.mono (H1.out _) ?_);rintro e w1 ⟨rfl,hb2⟩)
       | (have hguard:=hb6;clear hguard;go_at_call 38;with_reducible (refine Calls.mono (H4b.out _) ?_);rintro e w4 ⟨rfl,hb7⟩
          have hb8:=jaa hb6 hb7;obtain ⟨x0,x1,x2,x3⟩:=HX.out _ hb8;obtain ⟨f0,f1,f2⟩:=HF.out _ (jaa HWR.out hb8))
       | (go_at_call 38;with_reducible (refine Calls.mono (H2b.out _) ?_);rintro e w2 ⟨rfl,hb3⟩
          have hb4:=jaa hb2 hb3;obtain ⟨x0,x1,x2,x3⟩:=HX.out _ hb4;obtain ⟨f0,f1,f2⟩:=HF.out _ (jaa HWR.out hb4))
       | (go_at_call 109;with_reducible (refine Calls.mono (H3.out _) ?_);rintro e w3 ⟨rfl,hb5⟩
          have hb6:=jaa hb4 hb5))
      go_ret;exact ⟨by rw [HNO.out];rfl,jaa HB0.out (jaa HWR.out hb8)⟩
    ·have H2b:Hid (∀ W,Calls Tryz.prog 38 #[.agg #[.int .i64 5,.int .i64 p0,.int .i64 p1,.int .i64 p2,.int .i64 0,.string ⟨#[]⟩]] W fun e w'=>e=.returned (.bool false)/\Below W.heap.size W w'):=fun W=>by have:=H2.out W;rwa [decide_eq_false hf5] at this
     have HNO:Hid (S=false):=by
      cases hs:S with
      | false=>rfl
      | true =>
       have hg:=HGO.out.1 (HS.out.1 hs k hlt);exact absurd hg.2.1 hf5
     clear hle hf5 HS hI HGO HLS H2 H4 H5
     go_wp2_with (first
      | (go_at_call 108;with_reducible (refine Calls.mono (H1.out _) ?_);rintro e w1 ⟨rfl,hb2⟩)
      | (go_at_call 38;with_reducible (refine Calls.mono (H2b.out _) ?_);rintro e w2 ⟨rfl,hb3⟩
         have hb4:=jaa hb2 hb3;obtain ⟨x0,x1,x2,x3⟩:=HX.out _ hb4;obtain ⟨f0,f1,f2⟩:=HF.out _ (jaa HWR.out hb4)))
     go_ret;exact ⟨by rw [HNO.out];rfl,jaa HB0.out (jaa HWR.out hb4)⟩
  ·have hkN:k=N:=by omega
   subst hkN;have k1:¬ (k:Int) < (k:Int):=by omega
   have HE:Hid (S=true):=HS.out.2 hI.out.2;clear HT HGO HLT;go_wp2;go_ret;exact ⟨by rw [HE.out];rfl,jaa HB0.out hB.out⟩
theorem jkH (A:Option Addr) (c:Nat) (os:List Int) (P:Nat->Bool) (r:Int) (fn:FuncId) (cb:Array Value) (w:World) (hN:os.length<=9223372036854775807) (h:jaO w w.heap.size .i64 A os) (hr:jbk P os.length r)
  (he:∀ args w,(callFunc fn args).run Tryz.prog w=.ok (.enter fn args) w) (hc:∀ k (_:k < os.length) W,Below w.heap.size w W->Calls Tryz.prog fn (#[.int .i64 (os.getD k 0)] ++ cb) W fun e w'=>e=.returned (.bool (P k))/\Below W.heap.size W w') :
  Calls Tryz.prog 147 #[.slice A os.length c,.func (.func fn) #[] cb] w fun e w'=>e=.returned (.int .i64 r)/\Below w.heap.size w w':=by
 have HA:Hid (∀ W,Below w.heap.size w W->jaO W w.heap.size .i64 A os):=fun W hb=>h.below hb
 have HC:=Lib.hid hc;have HR:=Lib.hid hr;obtain ⟨N,hNN⟩:∃ N,N=os.length:=⟨_,rfl⟩;rw [<- hNN] at HR hN ⊢;have HN:=Lib.hid hNN;have eg:=he;clear h hc hNN hr;go_enter Tryz.func147,Tryz.ntmps147;go_wp2
 go_loopw [8] (fun i wr=>∃ k:Nat,k<=N/\i=.int .i64 k/\Hid (∀ j,j < k->P j=false)/\Hid (Below w.heap.size w wr)) (fun i _=>N - (intOf i).toNat)
 case atStart=>exact ⟨0,Nat.zero_le _,rfl,fun j hj=>absurd hj (Nat.not_lt_zero j),Below.refl _ _⟩
 case round =>
  obtain ⟨k,hk,rfl,hall,hB⟩:=hrel;by_cases hlt:k < N
  ·have hkx:k < os.length:=by have:=HN.out;omega
   obtain ⟨b,o,rfl,_,q0⟩:=HA.out wr hB.out k hkx;have k1:(k:Int) < (N:Int):=by omega
   have k0:(0:Int)<=(k:Int):=by omega
   have hck:=HC.out k hkx wr hB.out
   have hall2:Hid (P k=false->∀ j,j < k + 1->P j=false):=fun q j hj=>by
    rcases Nat.lt_or_ge j k with g | g
    ·exact hall.out j g
    ·rw [show j=k by omega];exact q
   have hy:Hid (P k=true->r=k):=fun q=>HR.out.hit hlt q hall.out
   obtain ⟨p,hp⟩:∃ p,p=P k:=⟨_,rfl⟩;rw [<- hp] at hck hy hall2;obtain ⟨x,hx⟩:∃ x,x=os.getD k 0:=⟨_,rfl⟩;rw [<- hx] at q0 hck;clear hx;have HCK:=Lib.hid hck;clear hall HA HC hp hck;cases p
   ·have H2:=Lib.hid (hall2.out rfl);clear hall2 hy
    go_wp2_with (go_at_fn fn;with_reducible (refine Calls.mono HCK.out ?_);rintro e w2 ⟨rfl,hb2⟩)
    have R:=Lib.hid (jaa hB.out hb2);clear hB hb2;go_roundw
    case rel=>first | exact ⟨k + 1,by omega,by go_num,H2.out,R⟩ | ((repeat apply Exists.intro);exact ⟨⟨k + 1,by omega,by go_num,H2.out,R⟩,rfl⟩)
    case measure=>simp [intOf];omega
   ·have H2:=Lib.hid (hy.out rfl);clear hall2 hy
    go_wp2_with (go_at_fn fn;with_reducible (refine Calls.mono HCK.out ?_);rintro e w2 ⟨rfl,hb2⟩)
    have R:=Lib.hid (jaa hB.out hb2);clear hB hb2;go_ret;exact ⟨by rw [H2.out];rfl,R.out⟩
  ·have hk8:k=N:=by omega
   subst hk8;have hn:=Lib.hid (HR.out.miss hall.out);clear hall HA HC;have k1:¬ (k:Int) < (k:Int):=by omega
   go_wp2;go_ret;exact ⟨by rw [hn.out];rfl,hB.out⟩
theorem jgI (A:Option Addr) (c:Nat) (os:List Int) (P:Nat->Bool) (fn:FuncId) (cb:Array Value) (w:World) (hN:os.length<=9223372036854775807) (h:jaO w w.heap.size .i64 A os)
  (he:∀ args w,(callFunc fn args).run Tryz.prog w=.ok (.enter fn args) w) (hc:∀ k (_:k < os.length) W,Below w.heap.size w W->Calls Tryz.prog fn (#[.int .i64 (os.getD k 0)] ++ cb) W fun e w'=>e=.returned (.bool (P k))/\Below W.heap.size W w') :
  Calls Tryz.prog 127 #[.slice A os.length c,.func (.func fn) #[] cb] w fun e w'=>e=.returned (.bool ((List.range os.length).any P))/\Below w.heap.size w w':=by
 obtain ⟨r,hr⟩:=jfg P os.length;have HI:=Lib.hid (jkH A c os P r fn cb w hN h hr he hc);rw [<- hr.any];obtain ⟨N,hNN⟩:∃ N,N=os.length:=⟨_,rfl⟩;rw [<- hNN] at HI ⊢;clear h he hc hNN hr hN;go_enter Tryz.func127,Tryz.ntmps127
 go_wp2_with (go_at_call 147;with_reducible (refine Calls.mono HI.out ?_);rintro e w2 ⟨rfl,hb2⟩)
 go_ret;exact ⟨rfl,hb2⟩
theorem jgW (A:Option Addr) (c:Nat) (ts:List Ten) (P:Nat->Bool) (fn:FuncId) (cb:Array Value) (w:World) (hN:ts.length<=9223372036854775807) (h:jbb w w.heap.size A ts)
  (he:∀ args w,(callFunc fn args).run Tryz.prog w=.ok (.enter fn args) w) (hc:∀ k (hk:k < ts.length) W,Below w.heap.size w W->Calls Tryz.prog fn (#[.agg (jcQ ts[k])] ++ cb) W fun e w'=>e=.returned (.bool (P k))/\Below W.heap.size W w') :
  Calls Tryz.prog 128 #[.slice A ts.length c,.func (.func fn) #[] cb] w fun e w'=>e=.returned (.bool ((List.range ts.length).any P))/\Below w.heap.size w w':=by
 obtain ⟨r,hr⟩:=jfg P ts.length;have HI:=Lib.hid (jeD A c ts P r fn cb w hN h hr he hc);rw [<- hr.any];obtain ⟨N,hNN⟩:∃ N,N=ts.length:=⟨_,rfl⟩;rw [<- hNN] at HI ⊢;clear h he hc hNN hr hN;go_enter Tryz.func128,Tryz.ntmps128
 go_wp2_with (go_at_call 129;with_reducible (refine Calls.mono HI.out ?_);rintro e w2 ⟨rfl,hb2⟩)
 go_ret;exact ⟨rfl,hb2⟩
theorem jig (V:jat) (t:Tab) (o:Int) (q:Nat) (w:World) (h:jao w w.heap.size V t) (hm:t.ts.length<=9223372036854775807)
  (hq:w.cell? ⟨q,0,none⟩=some (.slice V.A1 t.ts.length V.c1)/\w.cell? ⟨q,1,none⟩=some (.slice V.A2 t.vs.length V.c2)/\w.cell? ⟨q,2,none⟩=some (.slice V.A3 t.os.length V.c3)) :
  Calls Tryz.prog 125 (#[.int .i64 o] ++ #[.pointer (some ⟨q,0,none⟩)]) w fun e w'=>e=.returned (.bool (decide (o≠0/\(tenAt t.ts o).isSome=false)))/\Below w.heap.size w w':=by
 show Calls Tryz.prog 125 #[.int .i64 o,.pointer (some ⟨q,0,none⟩)] w _;have H:=Lib.hid (jhI V t o w h hm);unfold jan at H;obtain ⟨q0,q1,q2⟩:=hq;obtain ⟨b,hb⟩:∃ b,b=(tenAt t.ts o).isSome:=⟨_,rfl⟩;rw [<- hb] at H ⊢;obtain ⟨N1,hN1⟩:∃ N,N=t.ts.length:=⟨_,rfl⟩;obtain ⟨N2,hN2⟩:∃ N,N=t.vs.length:=⟨_,rfl⟩;obtain ⟨N3,hN3⟩:∃ N,N=t.os.length:=⟨_,rfl⟩;rw [<- hN1,<- hN2,<- hN3] at H;rw [<- hN1] at q0;rw [<- hN2] at q1;rw [<- hN3] at q2;clear h hm hb hN1 hN2 hN3;by_cases h0:o=0
 ·subst h0;rw [decide_eq_false (fun h=>h.1 rfl)];go_enter Tryz.func125,Tryz.ntmps125;go_wp2;go_ret;exact ⟨rfl,Below.refl _ _⟩
 ·have d:(o != 0)=true:=bne_iff_ne.2 h0;have d2:(o == 0)=false:=beq_eq_false_iff_ne.2 h0;have e:decide (o≠0/\b=false) = !b:=by cases b <;> simp [h0]
  rw [e];clear e h0;cases b
  ·go_enter Tryz.func125,Tryz.ntmps125
   go_wp2_with (go_at_call 124;with_reducible (refine Calls.mono H.out ?_);rintro e w2 ⟨rfl,hb2⟩)
   go_ret;exact ⟨rfl,hb2⟩
  ·go_enter Tryz.func125,Tryz.ntmps125
   go_wp2_with (go_at_call 124;with_reducible (refine Calls.mono H.out ?_);rintro e w2 ⟨rfl,hb2⟩)
   go_ret;exact ⟨rfl,hb2⟩
theorem jkn (V:jat) (t:Tab) (x:Ten) (q:Nat) (w:World) (h:jao w w.heap.size V t) (hm:t.os.length<=9223372036854775807)
  (hq:w.cell? ⟨q,0,none⟩=some (.slice V.A1 t.ts.length V.c1)/\w.cell? ⟨q,1,none⟩=some (.slice V.A2 t.vs.length V.c2)/\w.cell? ⟨q,2,none⟩=some (.slice V.A3 t.os.length V.c3)) :
  Calls Tryz.prog 126 (#[.agg (jcQ x)] ++ #[.pointer (some ⟨q,0,none⟩)]) w fun e w'=>e=.returned (.bool (decide (x.quota < (ja0 t.os x.id:Nat))))/\Below w.heap.size w w':=by
 show Calls Tryz.prog 126 #[.agg (jcQ x),.pointer (some ⟨q,0,none⟩)] w _;have H:=Lib.hid (fun (W:World) (hb:Below w.heap.size w W)=>jdu V t x.id W ((h.below hb).more hb.size) hm);unfold jan at H;obtain ⟨p0,p1,p2,p3,p4,p5⟩:=x;simp only [jcQ];simp only at H;have hb0:Below w.heap.size w (w.alloc (.cells #[.int .i64 p0,.int .i64 p1,.int .i64 p2,.int .i64 p3,.string p4,.bool p5] 52)):=(Below.refl _ _).alloc (Nat.le_refl _) _;have hlt0:=World.block_lt_of_cell? w _ hq.1;obtain ⟨N1,hN1⟩:∃ N,N=t.ts.length:=⟨_,rfl⟩;obtain ⟨N2,hN2⟩:∃ N,N=t.vs.length:=⟨_,rfl⟩;obtain ⟨N3,hN3⟩:∃ N,N=t.os.length:=⟨_,rfl⟩;obtain ⟨m,hmm⟩:∃ m,m=ja0 t.os p0:=⟨_,rfl⟩;rw [<- hN1,<- hN2,<- hN3,<- hmm] at H;rw [<- hN1,<- hN2,<- hN3] at hq;rw [<- hmm];have HQ:Hid (∀ X,Below w.heap.size w X->X.cell? ⟨q,0,none⟩=some (.slice V.A1 N1 V.c1)/\X.cell? ⟨q,1,none⟩=some (.slice V.A2 N2 V.c2)/\X.cell? ⟨q,2,none⟩=some (.slice V.A3 N3 V.c3)):=fun X hb=>⟨(hb.cell (p:=⟨q,0,none⟩) hlt0).trans hq.1,(hb.cell (p:=⟨q,1,none⟩) hlt0).trans hq.2.1,(hb.cell (p:=⟨q,2,none⟩) hlt0).trans hq.2.2⟩
 obtain ⟨W0,hW0⟩:∃ W,W=w.alloc (.cells #[.int .i64 p0,.int .i64 p1,.int .i64 p2,.int .i64 p3,.string p4,.bool p5] 52):=⟨_,rfl⟩
 have HX:Hid (∀ X,Below W0.heap.size W0 X->X.cell? ⟨w.heap.size,0,none⟩=some (.int .i64 p0)/\X.cell? ⟨w.heap.size,1,none⟩=some (.int .i64 p1)):=fun X hb=>by
  have hg:=heap_alloc_new w (.cells #[.int .i64 p0,.int .i64 p1,.int .i64 p2,.int .i64 p3,.string p4,.bool p5] 52);rw [<- hW0] at hg;obtain ⟨a,b,_⟩:=jbz ((hb.block _ (Array.getElem?_eq_some_iff.1 hg).1).trans hg);exact ⟨a,b⟩
 rw [<- hW0] at hb0;have HB0:=Lib.hid hb0;clear h hm hN1 hN2 hN3 hmm hq hlt0 hb0;go_enter Tryz.func126,Tryz.ntmps126
 go_wp2_with fail
 rw [<- hW0];clear hW0;have hbx:Below W0.heap.size W0 W0.drew:=(Below.refl _ _).drew
 go_region_held3 (fun W=>(W.cell? ⟨q,0,none⟩=some (.slice V.A1 N1 V.c1)/\W.cell? ⟨q,1,none⟩=some (.slice V.A2 N2 V.c2)/\W.cell? ⟨q,2,none⟩=some (.slice V.A3 N3 V.c3))/\W.cell? ⟨w.heap.size,0,none⟩=some (.int .i64 p0)/\W.cell? ⟨w.heap.size,1,none⟩=some (.int .i64 p1))
  (exact ⟨HQ.out _ (jaa HB0.out hbx),HX.out _ hbx⟩)
  (first
   | (go_at_call 95;with_reducible (refine Calls.mono (H.out _ (jaa HB0.out hbx)) ?_);rintro e w3 ⟨rfl,hb3⟩;have hbx:Below W0.heap.size W0 w3:=hbx.trans (hb3.mono hbx.size))
   | fail)
 all_goals (go_wp2;go_ret;exact ⟨rfl,jaa HB0.out hbx⟩)
end Go.Proofs.YtbnhkplhmanmoaaGreat
