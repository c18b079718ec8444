/- . -/
import Derived.Test.YtbnhkplhmanmoaaGreatTableAskG
import Derived.Test.YtbnhkplhmanmoaaGreatVaultC14G
namespace Go.Proofs.YtbnhkplhmanmoaaGreat
open Go.RowKit
set_option maxHeartbeats 6400000
set_option maxRecDepth 20000
theorem jhB (A0 A1:Option Addr) (c0 c1:Nat) (l l':List Int) (w:World) (h0:jaO w w.heap.size .i64 A0 l) (h1:jaO w w.heap.size .i64 A1 l') (hm:l.length<=140737488355328) :
  Calls Tryz.prog 17 #[.slice A0 l.length c0,.slice A1 l'.length c1] w fun e w'=>∃ b,e=.returned (.bool b)/\(b=true↔l=l')/\∃ m,w'=w.drewN m:=by
 by_cases hl:l.length=l'.length
 ·obtain ⟨n,hn⟩:∃ n,n=l.length:=⟨_,rfl⟩;have hn':n=l'.length:=hn.trans hl
  have HC:Hid (∀ m i,i < n->∃ b0 o0 b1 o1,A0=some ⟨b0,o0,none⟩/\A1=some ⟨b1,o1,none⟩/\(w.drewN m).cell? ⟨b0,o0 + i,none⟩=some (.int .i64 (l.getD i 0))/\(w.drewN m).cell? ⟨b1,o1 + i,none⟩=some (.int .i64 (l'.getD i 0))):=fun m i hi=>by
   obtain ⟨b0,o0,e0,_,q0⟩:=h0 i (by omega);obtain ⟨b1,o1,e1,_,q1⟩:=h1 i (by omega);exact ⟨b0,o0,b1,o1,e0,e1,q0,q1⟩
  have HEQ:Hid ((∀ i,i < n->l.getD i 0=l'.getD i 0)->l=l'):=fun h=>by
   apply List.ext_getElem (by omega);intro i h1 h2;have:=h i (by omega)
   rwa [List.getD_eq_getElem?_getD,List.getD_eq_getElem?_getD,List.getElem?_eq_getElem h1,List.getElem?_eq_getElem h2] at this
  have HNE:Hid (∀ i,l.getD i 0≠l'.getD i 0->¬ l=l'):=fun i h e=>h (by rw [e])
  obtain ⟨P,hP⟩:∃ P:Prop,P=(l=l'):=⟨_,rfl⟩;rw [<- hP] at HEQ HNE ⊢;rw [<- hn] at hm ⊢;rw [<- hn'];clear h0 h1 hn hn' hl hP;go_enter Tryz.func17,Tryz.ntmps17;go_wp2
  go_loopw [5] (fun i wr=>∃ k m:Nat,k<=n/\i=.int .i64 k/\wr=w.drewN m/\Hid (∀ i,i < k->l.getD i 0=l'.getD i 0)) (fun i _=>n - (intOf i).toNat)
  case atStart=>exact ⟨0,0,Nat.zero_le _,rfl,rfl,fun i hi=>absurd hi (Nat.not_lt_zero i)⟩
  case round =>
   obtain ⟨k,m,hk,rfl,hwm,hall⟩:=hrel;by_cases hlt:k < n
   ·obtain ⟨b0,o0,b1,o1,rfl,rfl,q0,q1⟩:=HC.out m k hlt;rw [<- hwm] at q0 q1;have HWM:=Lib.hid hwm;clear hwm;have k1:(k:Int) < (n:Int):=by omega
    have k0:(0:Int)<=(k:Int):=by omega
    by_cases hxy:l.getD k 0=l'.getD k 0
    ·have hall2:Hid (∀ i,i < k + 1->l.getD i 0=l'.getD i 0):=fun i hi=>by
      rcases Nat.lt_or_ge i k with q | q
      ·exact hall.out i q
      ·rw [show i=k by omega];exact hxy
     rw [<- hxy] at q1;obtain ⟨x,hx⟩:∃ x,x=l.getD k 0:=⟨_,rfl⟩;rw [<- hx] at q0 q1;have e1:(x == x)=true:=beq_self_eq_true x;clear hx hxy hall;go_wp2
     go_quiet (fail)
     go_wp2;go_roundw
     case rel=>first | exact ⟨k + 1,m + nq,by omega,by go_num,by rw [HWM.out,World.drewN_drewN],hall2⟩ | ((repeat apply Exists.intro);exact ⟨⟨k + 1,m + nq,by omega,by go_num,by rw [HWM.out,World.drewN_drewN],hall2⟩,rfl⟩)
     case measure=>simp [intOf];omega
    ·have hno:=Lib.hid (HNE.out k hxy);obtain ⟨x,hx⟩:∃ x,x=l.getD k 0:=⟨_,rfl⟩;obtain ⟨y,hy⟩:∃ y,y=l'.getD k 0:=⟨_,rfl⟩;rw [<- hx,<- hy] at hxy;rw [<- hx] at q0;rw [<- hy] at q1;have e1:(x == y)=false:=beq_eq_false_iff_ne.2 hxy;have e2:(x != y)=true:=bne_iff_ne.2 hxy;clear hx hy hxy hall;go_wp2
     go_quiet (fail)
     go_wp2;go_ret;exact ⟨false,rfl,by simp [hno.out],m + nq,by rw [HWM.out,World.drewN_drewN]⟩
   ·have hk8:n=k:=by omega
    subst hk8;have HWM:=Lib.hid hwm;have hP:=HEQ.out hall.out;have HPP:=Lib.hid hP;clear hwm hP;go_wp2;go_ret;exact ⟨true,rfl,by simp [HPP.out],_,HWM.out⟩
 ·have hno:Hid (¬ l=l'):=fun e=>hl (by rw [e])
  obtain ⟨n,hn⟩:∃ n,n=l.length:=⟨_,rfl⟩;obtain ⟨n',hn'⟩:∃ n',n'=l'.length:=⟨_,rfl⟩;rw [<- hn] at hm hl ⊢;rw [<- hn'] at hl ⊢;have e1:((n:Int) != (n':Int))=true:=bne_iff_ne.2 (by omega);have e2:((n:Int) == (n':Int))=false:=beq_eq_false_iff_ne.2 (by omega);clear hn hn' h0 h1 hl;go_enter Tryz.func17,Tryz.ntmps17;go_wp2;go_ret;exact ⟨false,rfl,by simp [hno.out],0,rfl⟩
theorem jg2 (V1 V2:jat) (t t':Tab) (w:World) (h1:jao w w.heap.size V1 t) (h2:jao w w.heap.size V2 t') (hm1:t.ts.length<=140737488355328) (hm2:t.vs.length<=140737488355328) (hm3:t.os.length<=140737488355328) (hp1:t'.ts.length<=140737488355328) (hp2:t'.vs.length<=140737488355328) :
  Calls Tryz.prog 14 #[.agg (jan V1 t),.agg (jan V2 t')] w fun e w'=>∃ b,e=.returned (.bool b)/\(b=true↔t=t')/\Below w.heap.size w w':=by
 obtain ⟨W0,hW0,hf,hb0,hbm⟩:=jpc w (.slice V1.A1 t.ts.length V1.c1) (.slice V1.A2 t.vs.length V1.c2) (.slice V1.A3 t.os.length V1.c3) (.slice V2.A1 t'.ts.length V2.c1) (.slice V2.A2 t'.vs.length V2.c2) (.slice V2.A3 t'.os.length V2.c3) 35;have H1:=Lib.hid (fun m=>h1.ts.below (hbm m));have G1:=Lib.hid (fun m=>h2.ts.below (hbm m));have H2:=Lib.hid (fun m=>h1.vs.below (hbm m));have G2:=Lib.hid (fun m=>h2.vs.below (hbm m));have HS:=Lib.hid (jhB V1.A3 V2.A3 V1.c3 V2.c3 t.os t'.os W0 ((h1.os.below hb0).more hb0.size) ((h2.os.below hb0).more hb0.size) hm3);have HB:=Lib.hid hb0;have hle1:=h1.l1;have hle2:=h2.l1;have hle3:=h1.l2;have hle4:=h2.l2;have hle5:=h1.l3;have hle6:=h2.l3;obtain ⟨ts,vs,os⟩:=t;obtain ⟨ts',vs',os'⟩:=t';obtain ⟨A1,c1,A2,c2,A3,c3⟩:=V1;obtain ⟨B1,d1,B2,d2,B3,d3⟩:=V2;simp only [jan] at hf hW0 H1 G1 H2 G2 HS hle1 hle2 hle3 hle4 hle5 hle6 hm1 hm2 hm3 hp1 hp2 ⊢;obtain ⟨N1,hN1⟩:∃ N,N=ts.length:=⟨_,rfl⟩;obtain ⟨N2,hN2⟩:∃ N,N=vs.length:=⟨_,rfl⟩;obtain ⟨N3,hN3⟩:∃ N,N=os.length:=⟨_,rfl⟩;obtain ⟨M1,hM1⟩:∃ N,N=ts'.length:=⟨_,rfl⟩;obtain ⟨M2,hM2⟩:∃ N,N=vs'.length:=⟨_,rfl⟩;obtain ⟨M3,hM3⟩:∃ N,N=os'.length:=⟨_,rfl⟩;simp only [<- hN1,<- hN2,<- hN3,<- hM1,<- hM2,<- hM3] at hf hW0 HS hle1 hle2 hle3 hle4 hle5 hle6 hm1 hm2 hm3 hp1 hp2 ⊢;have HF:=Lib.hid hf;have HW:=Lib.hid hW0;obtain ⟨f0,f1,f2,g0,g1,g2⟩:=hf 0;have e0:W0.drewN 0=W0:=rfl;rw [e0,hW0] at f0 f1 f2 g0 g1 g2;rw [hW0] at HS;by_cases hl1:N1=M1
 ·by_cases hl2:N2=M2
  ·subst hl1 hl2;have HN1:Hid (N1=ts.length/\N1=ts'.length):=⟨hN1,hM1⟩;have HN2:Hid (N2=vs.length/\N2=vs'.length):=⟨hN2,hM2⟩;clear h1 h2 hN1 hN2 hN3 hM1 hM2 hM3 hf hb0 hbm e0;go_enter Tryz.func14,Tryz.ntmps14
   go_wp2_with fail
   go_at_call 17
   with_reducible (refine Calls.mono HS.out ?_)
   rintro e w1 ⟨b,rfl,hb,m1,hw1⟩;rw [<- hW0] at hw1;clear f0 f1 f2 g0 g1 g2 HS hW0;rcases b with _ | _
   ·have hno:Hid (¬ (⟨ts,vs,os⟩:Tab)=⟨ts',vs',os'⟩):=fun e=>by
     injection e with _ _ e3
     exact absurd (hb.2 e3) (by decide)
    have HW1:=Lib.hid hw1;clear hb hw1;go_wp2;go_ret;exact ⟨false,rfl,by simp [hno.out],by rw [HW1.out];exact jaz HB.out _⟩
   ·have HOS:Hid (os=os'):=hb.1 rfl;clear hb;go_wp2
    go_loopw [5] (fun i wr=>∃ k m:Nat,k<=N1/\i=.int .i64 k/\wr=W0.drewN m/\Hid (∀ j,(h1:j < ts.length)->(h2:j < ts'.length)->j < k->ts[j]=ts'[j])) (fun i _=>N1 - (intOf i).toNat)
    case atStart=>exact ⟨0,m1,Nat.zero_le _,rfl,(by first | rfl | exact hw1),fun j _ _ hj=>absurd hj (Nat.not_lt_zero j)⟩
    case round =>
     clear hw1;obtain ⟨k,m,hk,rfl,hwm,hall⟩:=hrel;have k0:(0:Int)<=(k:Int):=by omega
     by_cases hlt:k < N1
     ·have k1:(k:Int) < (N1:Int):=by omega
      have hkx:k < ts.length:=by have:=HN1.out.1;omega
      have hky:k < ts'.length:=by have:=HN1.out.2;omega
      obtain ⟨b1,o1,rfl,_,x0,x1,x2,x3,x4,x5⟩:=H1.out m k hkx;obtain ⟨b2,o2,rfl,_,y0,y1,y2,y3,y4,y5⟩:=G1.out m k hky;obtain ⟨f0,f1,f2,g0,g1,g2⟩:=HF.out m;obtain ⟨x,hx⟩:∃ x,x=ts[k]:=⟨_,rfl⟩;obtain ⟨y,hy⟩:∃ y,y=ts'[k]:=⟨_,rfl⟩;rw [<- hx] at x0 x1 x2 x3 x4 x5;rw [<- hy] at y0 y1 y2 y3 y4 y5;have heq:∀ W,(Op.equalIn 10000 52 (.agg (jcQ x)) (.agg (jcQ y))).run Tryz.prog W=.ok (decide (x=y)) W:=fun W=>jmQ x y W
      by_cases hxy:x=y
      ·have hall2:Hid (∀ j,(h1:j < ts.length)->(h2:j < ts'.length)->j < k + 1->ts[j]=ts'[j]):=fun j h1 h2 hj=>by
        rcases Nat.lt_or_ge j k with q | q
        ·exact hall.out j h1 h2 q
        ·have:j=k:=by omega
         subst this;rw [<- hx,<- hy];exact hxy
       rw [decide_eq_true hxy] at heq;clear hx hy hxy hall;obtain ⟨p0,p1,p2,p3,p4,p5⟩:=x;obtain ⟨q0,q1,q2,q3,q4,q5⟩:=y;simp only [jcQ] at heq;simp only at x0 x1 x2 x3 x4 x5 y0 y1 y2 y3 y4 y5;rw [<- hwm] at x0 x1 x2 x3 x4 x5 y0 y1 y2 y3 y4 y5 f0 f1 f2 g0 g1 g2;have HWM:=Lib.hid hwm;clear hwm;go_wp2
       go_quiet (fail)
       go_wp2;go_roundw
       case rel=>exact ⟨k + 1,m + nq,by omega,by go_num,by rw [HWM.out,World.drewN_drewN],hall2⟩
       case measure=>first | (simp [intOf];done) | (simp [intOf];omega)
      ·have hno:Hid (¬ (⟨ts,vs,os⟩:Tab)=⟨ts',vs',os'⟩):=fun e=>hxy (by
        injection e with e1 e2 e3
        rw [hx,hy];simp only [e1])
       rw [decide_eq_false hxy] at heq;clear hx hy hxy hall;obtain ⟨p0,p1,p2,p3,p4,p5⟩:=x;obtain ⟨q0,q1,q2,q3,q4,q5⟩:=y;simp only [jcQ] at heq;simp only at x0 x1 x2 x3 x4 x5 y0 y1 y2 y3 y4 y5;rw [<- hwm] at x0 x1 x2 x3 x4 x5 y0 y1 y2 y3 y4 y5 f0 f1 f2 g0 g1 g2;have HWM:=Lib.hid hwm;clear hwm;go_wp2
       go_quiet (fail)
       go_wp2;go_ret;exact ⟨false,rfl,by simp [hno.out],by rw [HWM.out,World.drewN_drewN];exact jaz HB.out _⟩
     ·have k1:¬ (k:Int) < (N1:Int):=by omega
      have HTS:Hid (ts=ts'):=by
       have:=HN1.out;exact List.ext_getElem (by omega) fun j h1 h2=>hall.out j h1 h2 (by omega)
      obtain ⟨f0,f1,f2,g0,g1,g2⟩:=HF.out m;rw [<- hwm] at f0 f1 f2 g0 g1 g2;have HWM:=Lib.hid hwm;clear hwm hall;go_wp2;clear k0 hlt k1 hk
      go_loopw [6] (fun i wr=>∃ k m:Nat,k<=N2/\i=.int .i64 k/\wr=W0.drewN m/\Hid (∀ j,(h1:j < vs.length)->(h2:j < vs'.length)->j < k->vs[j]=vs'[j])) (fun i _=>N2 - (intOf i).toNat)
      case atStart=>exact ⟨0,m,Nat.zero_le _,rfl,HWM.out,fun j _ _ hj=>absurd hj (Nat.not_lt_zero j)⟩
      case round =>
       obtain ⟨k,m,hk,rfl,hwm,hall⟩:=hrel;have k0:(0:Int)<=(k:Int):=by omega
       by_cases hlt:k < N2
       ·have k1:(k:Int) < (N2:Int):=by omega
        have hkx:k < vs.length:=by have:=HN2.out.1;omega
        have hky:k < vs'.length:=by have:=HN2.out.2;omega
        obtain ⟨b1,o1,rfl,_,x0,x1,x2,x3⟩:=H2.out m k hkx;obtain ⟨b2,o2,rfl,_,y0,y1,y2,y3⟩:=G2.out m k hky;obtain ⟨f0,f1,f2,g0,g1,g2⟩:=HF.out m;obtain ⟨x,hx⟩:∃ x,x=vs[k]:=⟨_,rfl⟩;obtain ⟨y,hy⟩:∃ y,y=vs'[k]:=⟨_,rfl⟩;rw [<- hx] at x0 x1 x2 x3;rw [<- hy] at y0 y1 y2 y3;have heq:∀ W,(Op.equalIn 10000 82 (.agg (jcJ x)) (.agg (jcJ y))).run Tryz.prog W=.ok (decide (x=y)) W:=fun W=>jmi x y W
        by_cases hxy:x=y
        ·have hall2:Hid (∀ j,(h1:j < vs.length)->(h2:j < vs'.length)->j < k + 1->vs[j]=vs'[j]):=fun j h1 h2 hj=>by
          rcases Nat.lt_or_ge j k with q | q
          ·exact hall.out j h1 h2 q
          ·have:j=k:=by omega
           subst this;rw [<- hx,<- hy];exact hxy
         rw [decide_eq_true hxy] at heq;clear hx hy hxy hall;obtain ⟨p0,p1,p2,p3⟩:=x;obtain ⟨q0,q1,q2,q3⟩:=y;simp only [jcJ] at heq;simp only at x0 x1 x2 x3 y0 y1 y2 y3;rw [<- hwm] at x0 x1 x2 x3 y0 y1 y2 y3 f0 f1 f2 g0 g1 g2;have HWM:=Lib.hid hwm;clear hwm;go_wp2
         go_quiet (fail)
         go_wp2;go_roundw
         case rel=>exact ⟨k + 1,m + nq,by omega,by go_num,by rw [HWM.out,World.drewN_drewN],hall2⟩
         case measure=>first | (simp [intOf];done) | (simp [intOf];omega)
        ·have hno:Hid (¬ (⟨ts,vs,os⟩:Tab)=⟨ts',vs',os'⟩):=fun e=>hxy (by
          injection e with e1 e2 e3
          rw [hx,hy];simp only [e2])
         rw [decide_eq_false hxy] at heq;clear hx hy hxy hall;obtain ⟨p0,p1,p2,p3⟩:=x;obtain ⟨q0,q1,q2,q3⟩:=y;simp only [jcJ] at heq;simp only at x0 x1 x2 x3 y0 y1 y2 y3;rw [<- hwm] at x0 x1 x2 x3 y0 y1 y2 y3 f0 f1 f2 g0 g1 g2;have HWM:=Lib.hid hwm;clear hwm;go_wp2
         go_quiet (fail)
         go_wp2;go_ret;exact ⟨false,rfl,by simp [hno.out],by rw [HWM.out,World.drewN_drewN];exact jaz HB.out _⟩
       ·have k1:¬ (k:Int) < (N2:Int):=by omega
        have HVS:Hid (vs=vs'):=by
         have:=HN2.out;exact List.ext_getElem (by omega) fun j h1 h2=>hall.out j h1 h2 (by omega)
        obtain ⟨f0,f1,f2,g0,g1,g2⟩:=HF.out m;rw [<- hwm] at f0 f1 f2 g0 g1 g2;have HWM:=Lib.hid hwm;clear hwm hall;go_wp2;go_ret;exact .inr ⟨rfl,⟨HTS.out,HVS.out,HOS.out⟩,by rw [HWM.out];exact jaz HB.out _⟩
  ·have hno:Hid (¬ (⟨ts,vs,os⟩:Tab)=⟨ts',vs',os'⟩):=fun e=>by
    injection e with _ e2 _
    exact hl2 (by rw [hN2,hM2,e2])
   subst hl1;have d1:((N2:Int) != (M2:Int))=true:=bne_iff_ne.2 (by omega);clear h1 h2 hN1 hN2 hN3 hM1 hM2 hM3 hf hb0 hbm e0 HS;go_enter Tryz.func14,Tryz.ntmps14;go_wp2;go_ret;exact ⟨false,rfl,by simp [hno.out],by rw [<- hW0];exact HB.out⟩
 ·have hno:Hid (¬ (⟨ts,vs,os⟩:Tab)=⟨ts',vs',os'⟩):=fun e=>by
   injection e with e1 _ _
   exact hl1 (by rw [hN1,hM1,e1])
  have d1:((N1:Int) != (M1:Int))=true:=bne_iff_ne.2 (by omega);clear h1 h2 hN1 hN2 hN3 hM1 hM2 hM3 hf hb0 hbm e0 HS;go_enter Tryz.func14,Tryz.ntmps14;go_wp2;go_ret;exact ⟨false,rfl,by simp [hno.out],by rw [<- hW0];exact HB.out⟩
theorem jpE (t:Tab) (r:Rc):(jar t r).1≠8:=by
 have h1:(je7 t r).1≠8:=by unfold je7;(repeat' split) <;> simp
 have h2:(jeS t r).1≠8:=by unfold jeS;(repeat' split) <;> simp
 have h3:(jeZ t r).1≠8:=by unfold jeZ;(repeat' split) <;> simp
 have h4:(je4 t r).1≠8:=by unfold je4;(repeat' split) <;> simp
 have h5:(jd0 t r).1≠8:=by unfold jd0;(repeat' split) <;> simp
 have h6:(jga t r).1≠8:=by unfold jga;(repeat' split) <;> simp
 have h7:(jgf t r).1≠8:=by unfold jgf;(repeat' split) <;> simp
 have h8:(jf3 t r).1≠8:=by unfold jf3;(repeat' split) <;> simp
 have h9:(jcs t r).1≠8:=by unfold jcs;(repeat' split) <;> simp
 unfold jar
 (repeat' split) <;> first | assumption | simp
theorem jls:∀ (l:List Rc) (t:Tab),(jaV t l).1≠8
 | [],t=>by unfold jaV;simp
 | r :: l,t=>by
  unfold jaV;split
  ·split
   ·exact jls l _
   ·exact jpE t r
  ·simp
theorem jfS {k:Nat} {A0 A1 A2:Option Addr} {l0 c0 l1 c1 l2 c2:Nat} {z:Int} (h:(#[Value.slice A0 l0 c0,.slice A1 l1 c1,.slice A2 l2 c2]:Array Value)[k]? = some (.int .i64 z)):False:=by
 rcases k with _ | _ | _ | k <;> simp at h
theorem jeL {W:World} {B g:Nat} {V:jat} {t:Tab} {A0 A1 A2:Option Addr} {l0 c0 l1 c1 l2 c2:Nat} {T:TypeId} (h:jao W B V t) (hc:W.heap[g]? = some (.cells #[.slice A0 l0 c0,.slice A1 l1 c1,.slice A2 l2 c2] T (0,0))):jck (fun b=>b=g) V t:=by
 refine ⟨fun h0 b o e hb=>?_,fun h0 b o e hb=>?_,fun h0 b o e hb=>?_⟩
 ·obtain ⟨b',o',e',hl,c,_⟩:=h.ts 0 h0;have:=jcD e e';subst this hb;exact jfS ((cell_of_row _ _ _ _ _ _ hc).symm.trans c)
 ·obtain ⟨b',o',e',hl,c,_⟩:=h.vs 0 h0;have:=jcD e e';subst this hb;exact jfS ((cell_of_row _ _ _ _ _ _ hc).symm.trans c)
 ·obtain ⟨b',o',e',hl,c⟩:=h.os 0 h0;have:=jcD e e';subst this hb;exact jfS ((cell_of_row _ _ _ _ _ _ hc).symm.trans c)
structure jiE (W:World) (N:Nat->Prop) (g:Nat) (V:jat) (t:Tab):Prop where
 cells:W.heap[g]? = some (.cells #[.slice V.A1 t.ts.length V.c1,.slice V.A2 t.vs.length V.c2,.slice V.A3 t.os.length V.c3] 35 (0,0))
 tab:jao W W.heap.size V t
 off:jck N V t
 out:¬ N g
 sound:t.sound
theorem jiE.lt {W:World} {N:Nat->Prop} {g:Nat} {V:jat} {t:Tab} (h:jiE W N g V t):g < W.heap.size:=(Array.getElem?_eq_some_iff.1 h.cells).1
theorem jiE.keep {W X:World} {N N':Nat->Prop} {g:Nat} {V:jat} {t:Tab} (h:jiE W N g V t) (hs:W.heap.size<=X.heap.size) (hk:∀ k,k < W.heap.size->¬ N k->X.heap[k]? = W.heap[k]?) (hN:∀ b,b < W.heap.size->N' b->N b):jiE X N' g V t :=
 ⟨(hk g h.lt h.out).trans h.cells,(h.tab.away h.off hk).more hs,h.off.weak h.tab hN,fun hn=>h.out (hN g h.lt hn),h.sound⟩
theorem jiE.other {W X:World} {N:Nat->Prop} {g k:Nat} {V:jat} {t:Tab} {A0 A1 A2:Option Addr} {l0 c0 l1 c1 l2 c2:Nat} {T:TypeId} (h:jiE W N g V t) (hc:W.heap[k]? = some (.cells #[.slice A0 l0 c0,.slice A1 l1 c1,.slice A2 l2 c2] T (0,0))) (hne:g≠k) (hs:W.heap.size<=X.heap.size) (hk:∀ j,j≠k->X.heap[j]? = W.heap[j]?):jiE X N g V t :=
 ⟨(hk g hne).trans h.cells,(h.tab.away (jeL h.tab hc) fun j _ hj=>hk j hj).more hs,h.off,h.out,h.sound⟩
theorem jiE.take {W X:World} {N:Nat->Prop} {g k:Nat} {V V':jat} {t t':Tab} (h:jiE W N g V t) (h':jiE W N k V' t') (hs:W.heap.size<=X.heap.size) (hk:∀ j,j≠k->X.heap[j]? = W.heap[j]?) (hx:X.heap[k]? = some (.cells #[.slice V.A1 t.ts.length V.c1,.slice V.A2 t.vs.length V.c2,.slice V.A3 t.os.length V.c3] 35 (0,0))):jiE X N k V t :=
 ⟨hx,(h.tab.away (jeL h.tab h'.cells) fun j _ hj=>hk j hj).more hs,h.off,h'.out,h.sound⟩
abbrev jpO:=Nat × jat × Tab
structure PlX (Rep:World->Nat->(Nat->Prop)->Dk->Prop) (w W:World) (p n q:Nat) (dead:Bool) (tv tv':Tab) (K:Int) (ms:List jpO):Prop where
 below:Below w.heap.size w W
 lo:w.heap.size<=q
 los:∀ m∈ms,w.heap.size<=m.1
 n1:1<=n
 n2:n<=64
 all:∃ F s d V v,jdK Rep W p q F s d V v/\(∀ b,F b->w.heap.size<=b)/\((dead=false/\d=some ⟨p,0,none⟩/\jbH s n v K/\v.t=tv/\tv'=tv)∨(dead=true/\d=none/\jn7 s n tv tv' K))/\∀ m∈ms,jiE W (fun b=>F b∨b=q) m.1 m.2.1 m.2.2
structure PlD (Rep:World->Nat->(Nat->Prop)->Dk->Prop) (w W:World) (p n:Nat) (t:Tab) (K:Int) (ms:List jpO):Prop where
 below:Below w.heap.size w W
 los:∀ m∈ms,w.heap.size<=m.1
 n1:1<=n
 n2:n<=64
 all:∃ F s,Rep W p F s/\(∀ b,F b->w.heap.size<=b)/\s.ok/\s.off=false/\s.pend=[]/\384<=s.last.length/\(∃ a g,jcz s.last n t a g K)/\∀ m∈ms,jiE W F m.1 m.2.1 m.2.2
def jqq (dead:Bool) (E:Int) (t t':Tab) (l:List Rc) (dead':Bool) (tv tv':Tab):Prop :=
 (dead=true/\E=8/\dead'=true/\t=tv/\t'=tv')∨(dead=false/\E=(jaV t l).1/\E≠0/\E≠8/\dead'=false/\t=tv/\t'=tv') ∨
  (dead=false/\E=0/\(jaV t l).1=0/\dead'=false/\(jaV t l).2=tv/\tv=tv')∨(dead=false/\E=8/\(jaV t l).1=0/\l.length≠0/\dead'=true/\t=tv/\(jaV t l).2=tv')
section
variable {Rep:World->Nat->(Nat->Prop)->Dk->Prop} {w W X:World} {p n q:Nat} {dead:Bool} {tv tv' t t':Tab} {K:Int} {ms:List jpO}
theorem PlX.cells (h:PlX Rep w W p n q dead tv tv' K ms) {g:Nat} {V:jat} {t:Tab} (hm:(g,V,t)∈ms):W.heap[g]? = some (.cells #[.slice V.A1 t.ts.length V.c1,.slice V.A2 t.vs.length V.c2,.slice V.A3 t.os.length V.c3] 35 (0,0)):=by
 obtain ⟨F,s,d,V,v,_,_,_,h4⟩:=h.all;exact (h4 _ hm).cells
theorem PlX.tab (h:PlX Rep w W p n q dead tv tv' K ms) {g:Nat} {V:jat} {t:Tab} (hm:(g,V,t)∈ms):jao W W.heap.size V t/\t.sound:=by
 obtain ⟨F,s,d,V,v,_,_,_,h4⟩:=h.all;exact ⟨(h4 _ hm).tab,(h4 _ hm).sound⟩
theorem PlX.alive (h:PlX Rep w W p n q false tv tv' K ms):tv'=tv/\tv.sound:=by
 obtain ⟨F,s,d,V,v,_,_,h3,_⟩:=h.all;rcases h3 with ⟨_,_,q1,q2,q3⟩ | ⟨q,_⟩
 ·exact ⟨q3,q2 ▸ q1.sound.1⟩
 ·cases q
theorem PlX.later (L:jbX Rep) (h:PlX Rep w W p n q dead tv tv' K ms) (hb:Below W.heap.size W X):PlX Rep w X p n q dead tv tv' K ms:=by
 obtain ⟨F,s,d,V,v,h1,h2,h3,h4⟩:=h.all;exact ⟨jaa h.below hb,h.lo,h.los,h.n1,h.n2,F,s,d,V,v,h1.later L hb,h2,h3,fun m hm=>(h4 m hm).keep hb.size (fun k hk _=>hb.block k hk) fun _ _ h=>h⟩
theorem PlX.put (L:jbX Rep) (h:PlX Rep w W p n q dead tv tv' K ms) {g k:Nat} {V V':jat} {t t':Tab} (h1:(g,V,t)∈ms) (h2:(k,V',t')∈ms) {ms':List jpO} (hms:∀ m∈ms',m=(k,V,t)∨(m∈ms/\m.1≠k)) :
  PlX Rep w (((W.setCell ⟨k,0,none⟩ (.slice V.A1 t.ts.length V.c1)).setCell ⟨k,1,none⟩ (.slice V.A2 t.vs.length V.c2)).setCell ⟨k,2,none⟩ (.slice V.A3 t.os.length V.c3)) p n q dead tv tv' K ms':=by
 obtain ⟨F,s,d,Vv,v,q1,q2,q3,q4⟩:=h.all;have m1:=q4 _ h1;have m2:=q4 _ h2;obtain ⟨r1,r2⟩:=jd4 (.slice V.A1 t.ts.length V.c1) (.slice V.A2 t.vs.length V.c2) (.slice V.A3 t.os.length V.c3) m2.cells
 have ho:∀ j,j≠k->(((W.setCell ⟨k,0,none⟩ (.slice V.A1 t.ts.length V.c1)).setCell ⟨k,1,none⟩ (.slice V.A2 t.vs.length V.c2)).setCell ⟨k,2,none⟩ (.slice V.A3 t.os.length V.c3)).heap[j]? = W.heap[j]?:=fun j hj=>by
  rw [jah _ _ _ _ _ (Ne.symm hj),jah _ _ _ _ _ (Ne.symm hj),jah _ _ _ _ _ (Ne.symm hj)]
 obtain ⟨Y,hY⟩:∃ Y,Y=(((W.setCell ⟨k,0,none⟩ (.slice V.A1 t.ts.length V.c1)).setCell ⟨k,1,none⟩ (.slice V.A2 t.vs.length V.c2)).setCell ⟨k,2,none⟩ (.slice V.A3 t.os.length V.c3)):=⟨_,rfl⟩;rw [<- hY] at r1 r2 ho ⊢;clear hY;have hlk:=h.los _ h2;have hsz:=r2.size;refine ⟨jae h.below r2 h.below.size hlk,h.lo,fun m hm=>(hms m hm).elim (fun e=>e ▸ hlk) fun q=>h.los m q.1,h.n1,h.n2,F,s,d,Vv,v,⟨?_,q1.nq,(ho q fun e=>m2.out (.inr e.symm)).trans q1.cells,?_,q1.off⟩,q2,q3,fun m hm=>?_⟩
 ·exact (L.d W).keep W Y p F s q1.rep fun b hb=>ho b fun e=>m2.out (.inl (e ▸ hb))
 ·exact (q1.tab.away (jeL q1.tab m2.cells) fun j _ hj=>ho j hj).more hsz
 ·rcases hms m hm with rfl | ⟨r3,r4⟩
  ·exact m1.take m2 hsz ho r1
  ·exact (q4 m r3).other m2.cells r4 hsz ho
theorem jmY (L:jbX Rep) (h:PlX Rep w W p n q dead t t' K ms) (hK:K<=2147483600) (A:Option Addr) (c:Nat) (l:List Rc) (hrec:jax w w.heap.size A l) (hc:l.length<=c) (hok:∀ r∈l,r.ok) (hm:l.length<=140737488355328) :
  Calls Tryz.prog 10 #[.pointer (some ⟨q,0,none⟩),.slice A l.length c] W fun e w'=>∃ E dead' tv tv',e=.returned (.int .i64 E)/\PlX Rep w w' p n q dead' tv tv' (K + 1) ms/\jqq dead E t t' l dead' tv tv':=by
 obtain ⟨F,s,d,V,v,h1,h2,h3,h4⟩:=h.all;have hrW:jax W W.heap.size A l:=(hrec.below h.below).more h.below.size
 have hoff:Off F A l.length:=fun h0 b o e hF=>by
  obtain ⟨b',o',e',hl,_⟩:=hrec 0 h0;have:=jcD e e';have:=h2 b hF;omega
 have stay:∀ w',Below W.heap.size W w'->PlX Rep w w' p n q dead t t' (K + 1) ms:=fun w' hb =>
  ⟨jaa h.below hb,h.lo,h.los,h.n1,h.n2,F,s,d,V,v,h1.later L hb,h2,h3.imp (fun ⟨a,b,c,d⟩=>⟨a,b,c.more (by omega),d⟩) (fun ⟨a,b,c⟩=>⟨a,b,c.more (by omega)⟩),fun m hm=>(h4 m hm).keep hb.size (fun k hk _=>hb.block k hk) fun _ _ h=>h⟩
 rcases h3 with ⟨rfl,rfl,hA,rfl,rfl⟩ | ⟨rfl,rfl,hD⟩
 ·have hs:=hA.sound.1;have e1:=jcV (l:=l) hs;by_cases h0:(jaV v.t l).1=0
  ·by_cases hl:l.length=0
   ·have hl':l=[]:=List.eq_nil_of_length_eq_zero hl;refine (jgt L h1 hs A c l hrW hc hok hm (.inr ⟨by rw [e1];exact h0,hl⟩)).mono fun e w' ⟨q1,q2⟩=>⟨_,false,v.t,v.t,q1,stay w' q2,.inr (.inr (.inl ⟨rfl,by rw [e1];exact h0,h0,rfl,?_,rfl⟩))⟩
    rw [hl'];rfl
   ·have hap:jbR v.t l=(0,(jaV v.t l).2):=by rw [e1];exact Prod.ext h0 rfl
    refine (jfN L n K _ h1 hA hK A c l hrW hc hok hm hoff hap (fun e=>hl (by rw [e];rfl))).mono fun e w' ⟨F',s',E,V',v',d',q1,q2,q3,q4,q5,q6⟩=>?_
    have hmem:∀ m∈ms,jiE w' (fun b=>F' b∨b=q) m.1 m.2.1 m.2.2:=fun m hm=>(h4 m hm).keep q4.size (fun k hk hn=>q4.block k hk hn) fun b hb hN=>hN.elim (fun hF=>(q3 b hF).elim .inl fun hle=>absurd hb (by omega)) .inr
    have hF':∀ b,F' b->w.heap.size<=b:=fun b hb=>(q3 b hb).elim (h2 b) fun hle=>Nat.le_trans h.below.size hle
    have hbl:Below w.heap.size w w':=q4.below (fun k hk=>hk.elim (h2 k) fun e=>e ▸ h.lo) h.below h.below.size;rcases q6 with ⟨rfl,rfl,r1,r2,_⟩ | ⟨rfl,rfl,rfl,r2,_⟩
    ·exact ⟨0,false,_,_,q1,⟨hbl,h.lo,h.los,h.n1,h.n2,F',s',_,V',v',q2,hF',.inl ⟨rfl,rfl,r2,rfl,rfl⟩,hmem⟩,.inr (.inr (.inl ⟨rfl,rfl,h0,rfl,r1.symm,rfl⟩))⟩
    ·exact ⟨8,true,_,_,q1,⟨hbl,h.lo,h.los,h.n1,h.n2,F',s',_,V',_,q2,hF',.inr ⟨rfl,rfl,r2⟩,hmem⟩,.inr (.inr (.inr ⟨rfl,rfl,h0,hl,rfl,rfl,rfl⟩))⟩
  ·exact (jgt L h1 hs A c l hrW hc hok hm (.inl (by rw [e1];exact h0))).mono fun e w' ⟨q1,q2⟩=>⟨_,false,v.t,v.t,q1,stay w' q2,.inr (.inl ⟨rfl,by rw [e1],by rw [e1];exact h0,by rw [e1];exact jls l v.t,rfl,rfl,rfl⟩)⟩
 ·exact (jjm h1 A l.length c).mono fun e w' ⟨q1,q2⟩=>⟨8,true,t,t',q1,stay w' q2,.inl ⟨rfl,rfl,rfl,rfl,rfl⟩⟩
theorem jns (L:jbX Rep) (h:PlX Rep w W p n q dead t t' K ms) {N:Int} (hN:jeI N):Calls Tryz.prog 12 #[.pointer (some ⟨p,0,none⟩),.int .i64 N] W fun e w'=>e=.returned (.tuple #[])/\PlX Rep w w' p n q dead t t' K ms:=by
 obtain ⟨F,s,d,V,v,h1,h2,h3,h4⟩:=h.all;refine (L.limit hN h1.rep).mono fun e w' ⟨F',q1,q2,q3,q4⟩=>⟨q1,q4.below h2 h.below h.below.size,h.lo,h.los,h.n1,h.n2,F',_,d,V,v,⟨q2,fun hq=>?_,(q4.block q (Array.getElem?_eq_some_iff.1 h1.cells).1 h1.nq).trans h1.cells,(h1.tab.away (N:=F) (h1.off.weak h1.tab fun b _ hb=>.inl hb) fun k hk hn=>q4.block k hk hn).more q4.size,h1.off.weak h1.tab fun b hb hN=>hN.elim (fun hF=>(q3 b hF).elim .inl fun hle=>absurd hb (by omega)) .inr⟩,fun b hb=>(q3 b hb).elim (h2 b) fun hle=>Nat.le_trans h.below.size hle,?_,fun m hm=>(h4 m hm).keep q4.size (fun k hk hn=>q4.block k hk fun hF=>hn (.inl hF)) fun b hb hN=>hN.elim (fun hF=>(q3 b hF).elim .inl fun hle=>absurd hb (by omega)) .inr⟩
 ·rcases q3 q hq with r | r
  ·exact h1.nq r
  ·have:=(Array.getElem?_eq_some_iff.1 h1.cells).1;omega
 ·rcases h3 with ⟨a,b,c,d⟩ | ⟨a,b,c⟩
  ·exact .inl ⟨a,b,⟨jke c.ok N,c.on,c.pen,c.len,c.n1,c.n2,c.hold,c.log⟩,d⟩
  ·exact .inr ⟨a,b,⟨jke c.ok N,c.len,c.n1,c.n2,c.any⟩⟩
theorem joe (L:jbX Rep) (h:PlX Rep w W p n q dead t t' K ms) {B:Option Addr} {c:Nat} {l:List Bool} (hb:jdm w w.heap.size B l) (hc:l.length<=c) (hl:l.length<=140737488355328) :
  Calls Tryz.prog 13 #[.pointer (some ⟨p,0,none⟩),.slice B l.length c] W fun e w'=>e=.returned (.tuple #[])/\∃ t2,(t2=t∨t2=t')/\PlD Rep w w' p n t2 K ms:=by
 obtain ⟨F,s,d,V,v,h1,h2,h3,h4⟩:=h.all
 have hoff:Off F B l.length:=fun h0 b o e hF=>by
  obtain ⟨b',o',e',hlt,_⟩:=hb 0 h0;have:=jcD e e';have:=h2 b hF;omega
 have hk:∃ t2,(t2=t∨t2=t')/\(jbZ s l).ok/\384<=(jbZ s l).last.length/\∃ a g,jcz (jbZ s l).last n t2 a g K:=by
  rcases h3 with ⟨_,_,c,rfl,_⟩ | ⟨_,_,c⟩
  ·have e:=jjq c l;exact ⟨v.t,.inl rfl,jgT c.ok l,by rw [e];exact c.len,v.a,v.g,by rw [e];exact c.hold⟩
  ·have e:=(jlZ s l).1;obtain ⟨a,g,q | q⟩:=c.any l
   ·exact ⟨t,.inl rfl,jgT c.ok l,by rw [e];exact c.len,a,g,q⟩
   ·exact ⟨t',.inr rfl,jgT c.ok l,by rw [e];exact c.len,a,g,q⟩
 obtain ⟨t2,k1,k2,k3,k4⟩:=hk;exact (L.crash ((hb.below h.below).more h.below.size) hc hl hoff h1.rep).mono fun e w' ⟨F',q1,q2,q3,q4⟩=>⟨q1,t2,k1,q4.below h2 h.below h.below.size,h.los,h.n1,h.n2,F',_,q2,fun b hb=>(q3 b hb).elim (h2 b) fun hle=>Nat.le_trans h.below.size hle,k2,rfl,rfl,k3,k4,fun m hm=>(h4 m hm).keep q4.size (fun k hk hn=>q4.block k hk fun hF=>hn (.inl hF)) fun b hb hN=>(q3 b hN).elim .inl fun hle=>absurd hb (by omega)⟩
theorem joT (L:jbX Rep) (h:PlD Rep w W p n t K ms):Calls Tryz.prog 8 #[.pointer (some ⟨p,0,none⟩),.int .i64 (n:Int)] W fun e w'=>∃ q,e=.returned (.tuple #[.pointer (some ⟨q,0,none⟩),.int .i64 0])/\PlX Rep w w' p n q false t t K ms:=by
 obtain ⟨F,s,h1,h2,ok,on,pen,len,⟨a,g,hH⟩,h4⟩:=h.all;exact (jjZ L p F s n t a g K W h1 on pen len h.n1 h.n2 hH).mono fun e w' ⟨q,V,q1,q2,q3,q4⟩=>⟨q,q1,jaa h.below q4,Nat.le_trans h.below.size q3,h.los,h.n1,h.n2,F,s,_,V,_,q2,h2,.inl ⟨rfl,rfl,jgw ok on pen len h.n1 h.n2 hH,rfl,rfl⟩,fun m hm=>(h4 m hm).keep q4.size (fun k hk _=>q4.block k hk) fun b hb hN=>hN.elim id fun e=>absurd hb (by omega)⟩
theorem jj1 (L:jbX Rep) (h:PlX Rep w W p n q false t t' K ms):Calls Tryz.prog 15 #[.pointer (some ⟨q,0,none⟩)] W fun e w'=>∃ V',e=.returned (.agg #[.slice V'.A1 t.ts.length V'.c1,.slice V'.A2 t.vs.length V'.c2,.slice V'.A3 t.os.length V'.c3])/\jao w' w'.heap.size V' t/\Below W.heap.size W w':=by
 obtain ⟨F,s,d,V,v,h1,h2,h3,h4⟩:=h.all;rcases h3 with ⟨_,_,c,rfl,_⟩ | ⟨q,_⟩
 ·exact (jir L h1 c.sound.1).mono fun e w' ⟨V',q1,q2,_,q4⟩=>⟨V',q1,q2,q4⟩
 ·cases q
theorem PlX.drew (L:jbX Rep) (h:PlX Rep w W p n q dead tv tv' K ms):PlX Rep w W.drew p n q dead tv tv' K ms:=h.later L (Below.refl _ _).drew
theorem PlX.up (h:PlX Rep w W p n q dead tv tv' K ms) {K':Int} (hK:K<=K'):PlX Rep w W p n q dead tv tv' K' ms:=by
 obtain ⟨F,s,d,V,v,h1,h2,h3,h4⟩:=h.all;exact ⟨h.below,h.lo,h.los,h.n1,h.n2,F,s,d,V,v,h1,h2,h3.imp (fun ⟨a,b,c,d⟩=>⟨a,b,c.more hK,d⟩) (fun ⟨a,b,c⟩=>⟨a,b,c.more hK⟩),h4⟩
theorem PlX.fresh (L:jbX Rep) (h:PlX Rep w W p n q dead tv tv' K ms) (hb:Below W.heap.size W X) {ms':List jpO}
  (hms:∀ m∈ms',m∈ms∨(W.heap.size<=m.1/\X.heap[m.1]? = some (.cells #[.slice m.2.1.A1 m.2.2.ts.length m.2.1.c1,.slice m.2.1.A2 m.2.2.vs.length m.2.1.c2,.slice m.2.1.A3 m.2.2.os.length m.2.1.c3] 35 (0,0))/\jao X X.heap.size m.2.1 m.2.2/\jay W.heap.size m.2.1/\m.2.2.sound)) :
  PlX Rep w X p n q dead tv tv' K ms':=by
 obtain ⟨F,s,d,Vv,v,h1,h2,h3,h4⟩:=h.all;have hq:=(Array.getElem?_eq_some_iff.1 h1.cells).1;have hlt:∀ b,F b∨b=q->b < W.heap.size:=fun b hN=>hN.elim (fun hF=>L.lt h1.rep hF) fun e=>e ▸ hq
 refine ⟨jaa h.below hb,h.lo,fun m hm=>?_,h.n1,h.n2,F,s,d,Vv,v,h1.later L hb,h2,h3,fun m hm=>?_⟩
 ·rcases hms m hm with hm | ⟨q1,_⟩
  ·exact h.los m hm
  ·exact Nat.le_trans h.below.size q1
 ·rcases hms m hm with hm | ⟨q1,q2,q3,q4,q5⟩
  ·exact (h4 m hm).keep hb.size (fun k hk _=>hb.block k hk) fun _ _ h=>h
  ·exact ⟨q2,q3,jck.of q3 q4 fun b hN=>.inl (hlt b hN),fun hN=>by have:=hlt _ hN;omega,q5⟩
theorem jpY {s:Dk} {v:Vt} (h:jiz Rep w W p q s (some ⟨p,0,none⟩) v) (hA:jbH s n v K):PlX Rep w W p n q false v.t v.t K []:=by
 obtain ⟨F,V,h1,h2,h3⟩:=h.vt;exact ⟨h.below,h3,fun m hm=>absurd hm List.not_mem_nil,hA.n1,hA.n2,F,s,_,V,v,h1,h2,.inl ⟨rfl,rfl,hA,rfl,rfl⟩,fun m hm=>absurd hm List.not_mem_nil⟩
end
theorem jje (V1 V2:jat) (t t':Tab) (W:World) (h1:jao W W.heap.size V1 t) (h2:jao W W.heap.size V2 t') (s1:t.sound) (s2:t'.sound) :
  Calls Tryz.prog 14 #[.agg #[.slice V1.A1 t.ts.length V1.c1,.slice V1.A2 t.vs.length V1.c2,.slice V1.A3 t.os.length V1.c3],.agg #[.slice V2.A1 t'.ts.length V2.c1,.slice V2.A2 t'.vs.length V2.c2,.slice V2.A3 t'.os.length V2.c3]] W fun e w'=>∃ b,e=.returned (.bool b)/\(b=true↔t=t')/\Below W.heap.size W w':=by
 obtain ⟨a1,a2,a3⟩:=jam s1;obtain ⟨b1,b2,b3⟩:=jam s2;exact jg2 V1 V2 t t' W h1 h2 (by omega) (by omega) (by omega) (by omega) (by omega)
structure Act17 where
 what:Int
 n:Int
 A:Option Addr
 l:List Rc
 c:Nat
 B:Option Addr
 f:List Bool
 k:Nat
structure Act17.ok (w:World) (z:Act17):Prop where
 n64:jeI z.n
 recs:jax w w.heap.size z.A z.l
 oks:∀ r∈z.l,r.ok
 le:z.l.length<=z.c
 len:z.l.length<=140737488351232
 bools:jdm w w.heap.size z.B z.f
 ble:z.f.length<=z.k
 blen:z.f.length<=140737488351232
def Acts17 (w:World) (A:Option Addr) (acs:List Act17):Prop :=
 ∀ i,(hi:i < acs.length)->∃ b off,A=some ⟨b,off,none⟩/\b < w.heap.size/\w.cell? ⟨b,off + i * 4,none⟩=some (.int .i64 acs[i].what)/\w.cell? ⟨b,off + i * 4 + 1,none⟩=some (.int .i64 acs[i].n) /\
  w.cell? ⟨b,off + i * 4 + 2,none⟩=some (.slice acs[i].A acs[i].l.length acs[i].c)/\w.cell? ⟨b,off + i * 4 + 3,none⟩=some (.slice acs[i].B acs[i].f.length acs[i].k)/\acs[i].ok w
end Go.Proofs.YtbnhkplhmanmoaaGreat
