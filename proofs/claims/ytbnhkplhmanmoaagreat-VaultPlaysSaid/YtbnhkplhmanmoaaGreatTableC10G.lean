/- . -/
import Derived.Test.YtbnhkplhmanmoaaGreatTableC9G
namespace Go.Proofs.YtbnhkplhmanmoaaGreat
open Go.RowKit
set_option maxHeartbeats 6400000
set_option maxRecDepth 20000
theorem jey (A:Option Addr) (c:Nat) (ts:List Vol) (P:Nat->Bool) (r:Int) (fn:FuncId) (cb:Array Value) (w:World) (hN:ts.length<=9223372036854775807) (h:jbc w w.heap.size A ts) (hr:jbk P ts.length r)
  (he:∀ args w,(callFunc fn args).run Tryz.prog w=.ok (.enter fn args) w) (hc:∀ k (hk:k < ts.length) W,Below w.heap.size w W->Calls Tryz.prog fn (#[.agg (jcJ ts[k])] ++ cb) W fun e w'=>e=.returned (.bool (P k))/\Below W.heap.size W w') :
  Calls Tryz.prog 135 #[.slice A ts.length c,.func (.func fn) #[] cb] w fun e w'=>e=.returned (.int .i64 r)/\Below w.heap.size w w':=by
 have HA:Hid (∀ W,Below w.heap.size w W->jbc W w.heap.size A ts):=fun W hb=>h.below hb
 have HC:=Lib.hid hc;have HR:=Lib.hid hr;obtain ⟨N,hNN⟩:∃ N,N=ts.length:=⟨_,rfl⟩;rw [<- hNN] at HR hN ⊢;have HN:=Lib.hid hNN;have eg:=he;clear h hc hNN hr;go_enter Tryz.func135,Tryz.ntmps135;go_wp2
 go_loopw [8] (fun i wr=>∃ k:Nat,k<=N/\i=.int .i64 k/\Hid (∀ j,j < k->P j=false)/\Hid (Below w.heap.size w wr)) (fun i _=>N - (intOf i).toNat)
 case atStart=>exact ⟨0,Nat.zero_le _,rfl,fun j hj=>absurd hj (Nat.not_lt_zero j),Below.refl _ _⟩
 case round =>
  obtain ⟨k,hk,rfl,hall,hB⟩:=hrel;by_cases hlt:k < N
  ·have hkx:k < ts.length:=by have:=HN.out;omega
   obtain ⟨b,o,rfl,_,q0,q1,q2,q3⟩:=HA.out wr hB.out k hkx;have k1:(k:Int) < (N:Int):=by omega
   have k0:(0:Int)<=(k:Int):=by omega
   have hck:=HC.out k hkx wr hB.out
   have hall2:Hid (P k=false->∀ j,j < k + 1->P j=false):=fun q j hj=>by
    rcases Nat.lt_or_ge j k with g | g
    ·exact hall.out j g
    ·rw [show j=k by omega];exact q
   have hy:Hid (P k=true->r=k):=fun q=>HR.out.hit hlt q hall.out
   obtain ⟨p,hp⟩:∃ p,p=P k:=⟨_,rfl⟩;rw [<- hp] at hck hy hall2;obtain ⟨x,hx⟩:∃ x,x=ts[k]:=⟨_,rfl⟩;rw [<- hx] at q0 q1 q2 q3 hck;clear hx;obtain ⟨p0,p1,p2,p3⟩:=x;simp only [jcJ] at hck;simp only at q0 q1 q2 q3;have HCK:=Lib.hid hck;clear hall HA HC hp hck;cases p
   ·have H2:=Lib.hid (hall2.out rfl);clear hall2 hy
    go_wp2_with (go_at_fn fn;with_reducible (refine Calls.mono HCK.out ?_);rintro e w2 ⟨rfl,hb2⟩)
    have R:=Lib.hid (jaa hB.out hb2);clear hB hb2;go_roundw
    case rel=>first | exact ⟨k + 1,by omega,by go_num,H2.out,R⟩ | ((repeat apply Exists.intro);exact ⟨⟨k + 1,by omega,by go_num,H2.out,R⟩,rfl⟩)
    case measure=>simp [intOf];omega
   ·have H2:=Lib.hid (hy.out rfl);clear hall2 hy
    go_wp2_with (go_at_fn fn;with_reducible (refine Calls.mono HCK.out ?_);rintro e w2 ⟨rfl,hb2⟩)
    have R:=Lib.hid (jaa hB.out hb2);clear hB hb2;go_ret;exact ⟨by rw [H2.out];rfl,R.out⟩
  ·have hk8:k=N:=by omega
   subst hk8;have hn:=Lib.hid (HR.out.miss hall.out);clear hall HA HC;have k1:¬ (k:Int) < (k:Int):=by omega
   go_wp2;go_ret;exact ⟨by rw [hn.out];rfl,hB.out⟩
theorem jnt (x:Vol) (id:Int) (q:Nat) (w:World) (hq:w.cell? ⟨q,0,none⟩=some (.int .i64 id)) :
  Calls Tryz.prog 136 (#[.agg (jcJ x)] ++ #[.pointer (some ⟨q,0,none⟩)]) w fun e w'=>e=.returned (.bool (decide (x.id=id)))/\Below w.heap.size w w':=by
 show Calls Tryz.prog 136 #[.agg (jcJ x),.pointer (some ⟨q,0,none⟩)] w _;obtain ⟨p0,p1,p2,p3⟩:=x;simp only [jcJ];have hb:Below w.heap.size w (w.alloc (.cells #[.int .i64 p0,.int .i64 p1,.int .i64 p2,.int .i64 p3] 82)):=(Below.refl _ _).alloc (Nat.le_refl _) _;have hq2:(w.alloc (.cells #[.int .i64 p0,.int .i64 p1,.int .i64 p2,.int .i64 p3] 82)).cell? ⟨q,0,none⟩=some (.int .i64 id):=(hb.cell (p:=⟨q,0,none⟩) (World.block_lt_of_cell? w _ hq)).trans hq;have e:(p0 == id)=decide (p0=id):=by rw [Bool.eq_iff_iff];simp
 go_enter Tryz.func136,Tryz.ntmps136;go_wp2;go_ret;exact ⟨rfl,hb⟩
theorem jk0 {ts:List Vol} {id:Int} {k:Nat} (hk:k < ts.length) (he:ts[k].id=id) (hl:∀ j,(h:j < ts.length)->j < k->ts[j].id≠id):jbk (fun j=>decide (∃ h:j < ts.length,ts[j].id=id)) ts.length k :=
 .inr ⟨k,hk,rfl,decide_eq_true ⟨hk,he⟩,fun j hj=>decide_eq_false fun ⟨h,e⟩=>hl j h hj e⟩
theorem jly {ts:List Vol} {id:Int} (hl:∀ j,(h:j < ts.length)->ts[j].id≠id):jbk (fun j=>decide (∃ h:j < ts.length,ts[j].id=id)) ts.length (-1) :=
 .inl ⟨rfl,fun j _=>decide_eq_false fun ⟨h,e⟩=>hl j h e⟩
theorem jhx (A:Option Addr) (c:Nat) (ts:List Vol) (id r:Int) (w:World) (hN:ts.length<=9223372036854775807) (h:jbc w w.heap.size A ts) (hr:jbk (fun j=>decide (∃ h:j < ts.length,ts[j].id=id)) ts.length r) (q:Nat) (hq:w.cell? ⟨q,0,none⟩=some (.int .i64 id)) :
  Calls Tryz.prog 135 #[.slice A ts.length c,.func (.func 136) #[] #[.pointer (some ⟨q,0,none⟩)]] w fun e w'=>e=.returned (.int .i64 r)/\Below w.heap.size w w':=by
 refine jey A c ts _ r 136 #[.pointer (some ⟨q,0,none⟩)] w hN h hr (fun args w=>by kernel_rfl) fun k hk W hb=>?_
 have h1:=jnt ts[k] id q W ((hb.cell (p:=⟨q,0,none⟩) (World.block_lt_of_cell? w _ hq)).trans hq)
 have e:decide (∃ h:k < ts.length,ts[k].id=id)=decide (ts[k].id=id):=by
  rw [Bool.eq_iff_iff,decide_eq_true_iff,decide_eq_true_iff];exact ⟨fun ⟨_,e⟩=>e,fun e=>⟨hk,e⟩⟩
 rw [e];exact h1
theorem jnS (p:Nat) (b off c:Nat) (ts:List Vol) (id:Int) (k:Nat) (w:World) (hp:w.cell? ⟨p,1,none⟩=some (.slice (some ⟨b,off,none⟩) ts.length c)) (hN:ts.length<=9223372036854775807) (h:jbc w w.heap.size (some ⟨b,off,none⟩) ts)
  (hk:k < ts.length) (he:ts[k].id=id) (hl:∀ j,(h:j < ts.length)->j < k->ts[j].id≠id) :
  Calls Tryz.prog 99 #[.pointer (some ⟨p,0,none⟩),.int .i64 id] w fun e w'=>e=.returned (.pointer (some ⟨b,off + k * 4,none⟩))/\Below w.heap.size w w':=by
 have hb0:Below w.heap.size w (w.alloc (.cells #[.int .i64 id] 3)):=(Below.refl _ _).alloc (Nat.le_refl _) _;have hpl:=World.block_lt_of_cell? w _ hp;have H1:=Lib.hid (jhx (some ⟨b,off,none⟩) c ts id k (w.alloc (.cells #[.int .i64 id] 3)) hN ((h.below hb0).more hb0.size) (jk0 hk he hl) w.heap.size (by rw [cell_of_row _ _ _ _ _ _ (heap_alloc_new w (.cells #[.int .i64 id] 3))];rfl));have HP:Hid (∀ X,Below (w.alloc (.cells #[.int .i64 id] 3)).heap.size (w.alloc (.cells #[.int .i64 id] 3)) X->X.cell? ⟨p,1,none⟩=some (.slice (some ⟨b,off,none⟩) ts.length c)):=fun X hb=>((jaa hb0 hb).cell (p:=⟨p,1,none⟩) hpl).trans hp
 have hp1:=HP.out _ (Below.refl _ _);obtain ⟨N,hNN⟩:∃ N,N=ts.length:=⟨_,rfl⟩;rw [<- hNN] at H1 HP hp1 hN hk;have k1:(k:Int) < (N:Int):=by omega
 have k0:¬ (k:Int) < 0:=by omega
 clear h hl he hp hNN;go_enter Tryz.func99,Tryz.ntmps99
 go_wp2_with (go_at_call 135;with_reducible (refine Calls.mono H1.out ?_);rintro e w2 ⟨rfl,hb2⟩;have hp2:=HP.out _ hb2)
 go_ret;exact ⟨rfl,jaa hb0 hb2⟩
theorem jpx (p:Nat) (A:Option Addr) (c:Nat) (ts:List Vol) (id:Int) (w:World) (hp:w.cell? ⟨p,1,none⟩=some (.slice A ts.length c)) (hN:ts.length<=9223372036854775807) (h:jbc w w.heap.size A ts)
  (hl:∀ j,(h:j < ts.length)->ts[j].id≠id) :
  Calls Tryz.prog 99 #[.pointer (some ⟨p,0,none⟩),.int .i64 id] w fun e w'=>e=.returned (.pointer none)/\Below w.heap.size w w':=by
 have hb0:Below w.heap.size w (w.alloc (.cells #[.int .i64 id] 3)):=(Below.refl _ _).alloc (Nat.le_refl _) _;have hpl:=World.block_lt_of_cell? w _ hp;have H1:=Lib.hid (jhx A c ts id (-1) (w.alloc (.cells #[.int .i64 id] 3)) hN ((h.below hb0).more hb0.size) (jly hl) w.heap.size (by rw [cell_of_row _ _ _ _ _ _ (heap_alloc_new w (.cells #[.int .i64 id] 3))];rfl));have hp1:(w.alloc (.cells #[.int .i64 id] 3)).cell? ⟨p,1,none⟩=some (.slice A ts.length c):=(hb0.cell (p:=⟨p,1,none⟩) hpl).trans hp;obtain ⟨N,hNN⟩:∃ N,N=ts.length:=⟨_,rfl⟩;rw [<- hNN] at H1 hp1 hN;clear h hl hp hNN;go_enter Tryz.func99,Tryz.ntmps99
 go_wp2_with (go_at_call 135;with_reducible (refine Calls.mono H1.out ?_);rintro e w2 ⟨rfl,hb2⟩)
 go_ret;exact ⟨rfl,jaa hb0 hb2⟩
theorem jhb (A:Option Addr) (c:Nat) (ts:List Vol) (P:Nat->Bool) (fn:FuncId) (cb:Array Value) (w:World) (hN:ts.length<=9223372036854775807) (h:jbc w w.heap.size A ts)
  (he:∀ args w,(callFunc fn args).run Tryz.prog w=.ok (.enter fn args) w) (hc:∀ k (hk:k < ts.length) W,Below w.heap.size w W->Calls Tryz.prog fn (#[.agg (jcJ ts[k])] ++ cb) W fun e w'=>e=.returned (.bool (P k))/\Below W.heap.size W w') :
  Calls Tryz.prog 133 #[.slice A ts.length c,.func (.func fn) #[] cb] w fun e w'=>e=.returned (.bool ((List.range ts.length).any P))/\Below w.heap.size w w':=by
 obtain ⟨r,hr⟩:=jfg P ts.length;have HI:=Lib.hid (jey A c ts P r fn cb w hN h hr he hc);rw [<- hr.any];obtain ⟨N,hNN⟩:∃ N,N=ts.length:=⟨_,rfl⟩;rw [<- hNN] at HI ⊢;clear h he hc hNN hr hN;go_enter Tryz.func133,Tryz.ntmps133
 go_wp2_with (go_at_call 135;with_reducible (refine Calls.mono HI.out ?_);rintro e w2 ⟨rfl,hb2⟩)
 go_ret;exact ⟨rfl,hb2⟩
theorem jme (x:Vol) (id:Int) (q:Nat) (w:World) (hq:w.cell? ⟨q,0,none⟩=some (.int .i64 id)) :
  Calls Tryz.prog 134 (#[.agg (jcJ x)] ++ #[.pointer (some ⟨q,0,none⟩)]) w fun e w'=>e=.returned (.bool (decide (x.ten=id)))/\Below w.heap.size w w':=by
 show Calls Tryz.prog 134 #[.agg (jcJ x),.pointer (some ⟨q,0,none⟩)] w _;obtain ⟨p0,p1,p2,p3⟩:=x;simp only [jcJ];have hb:Below w.heap.size w (w.alloc (.cells #[.int .i64 p0,.int .i64 p1,.int .i64 p2,.int .i64 p3] 82)):=(Below.refl _ _).alloc (Nat.le_refl _) _;have hq2:(w.alloc (.cells #[.int .i64 p0,.int .i64 p1,.int .i64 p2,.int .i64 p3] 82)).cell? ⟨q,0,none⟩=some (.int .i64 id):=(hb.cell (p:=⟨q,0,none⟩) (World.block_lt_of_cell? w _ hq)).trans hq;have e:(p1 == id)=decide (p1=id):=by rw [Bool.eq_iff_iff];simp
 go_enter Tryz.func134,Tryz.ntmps134;go_wp2;go_ret;exact ⟨rfl,hb⟩
theorem jnA (p:Nat) (A:Option Addr) (c:Nat) (vs:List Vol) (id:Int) (w:World) (hp:w.cell? ⟨p,1,none⟩=some (.slice A vs.length c)) (hN:vs.length<=9223372036854775807) (h:jbc w w.heap.size A vs) :
  Calls Tryz.prog 96 #[.pointer (some ⟨p,0,none⟩),.int .i64 id] w fun e w'=>e=.returned (.bool (decide (jkC vs id)))/\Below w.heap.size w w':=by
 have hb0:Below w.heap.size w (w.alloc (.cells #[.int .i64 id] 3)):=(Below.refl _ _).alloc (Nat.le_refl _) _;have hpl:=World.block_lt_of_cell? w _ hp;have hq:(w.alloc (.cells #[.int .i64 id] 3)).cell? ⟨w.heap.size,0,none⟩=some (.int .i64 id):=by rw [cell_of_row _ _ _ _ _ _ (heap_alloc_new w (.cells #[.int .i64 id] 3))];rfl
 have H1:=Lib.hid (jhb A c vs (fun k=>decide (∃ h:k < vs.length,vs[k].ten=id)) 134 #[.pointer (some ⟨w.heap.size,0,none⟩)] (w.alloc (.cells #[.int .i64 id] 3)) hN ((h.below hb0).more hb0.size) (fun args w=>by kernel_rfl)
  (fun k hk W hb=>by
   have h1:=jme vs[k] id w.heap.size W ((hb.cell (p:=⟨w.heap.size,0,none⟩) (World.block_lt_of_cell? _ _ hq)).trans hq)
   have e:decide (∃ h:k < vs.length,vs[k].ten=id)=decide (vs[k].ten=id):=by
    rw [Bool.eq_iff_iff,decide_eq_true_iff,decide_eq_true_iff];exact ⟨fun ⟨_,e⟩=>e,fun e=>⟨hk,e⟩⟩
   rw [e];exact h1))
 have e:(List.range vs.length).any (fun k=>decide (∃ h:k < vs.length,vs[k].ten=id))=decide (jkC vs id):=by
  rw [Bool.eq_iff_iff,decide_eq_true_iff,List.any_eq_true];constructor
  ·rintro ⟨k,_,hk⟩;obtain ⟨hk,e⟩:=of_decide_eq_true hk;exact ⟨vs[k],List.getElem_mem hk,e⟩
  ·rintro ⟨v,hv,e⟩;obtain ⟨k,hk,rfl⟩:=List.getElem_of_mem hv;exact ⟨k,List.mem_range.2 hk,decide_eq_true ⟨hk,e⟩⟩
 rw [e] at H1;have hp1:(w.alloc (.cells #[.int .i64 id] 3)).cell? ⟨p,1,none⟩=some (.slice A vs.length c):=(hb0.cell (p:=⟨p,1,none⟩) hpl).trans hp;obtain ⟨N,hNN⟩:∃ N,N=vs.length:=⟨_,rfl⟩;obtain ⟨b,hb⟩:∃ b,b=decide (jkC vs id):=⟨_,rfl⟩;rw [<- hNN] at H1 hp1;rw [<- hb] at H1 ⊢;clear h hp hNN hN e hq hb;go_enter Tryz.func96,Tryz.ntmps96
 go_wp2_with (go_at_call 133;with_reducible (refine Calls.mono H1.out ?_);rintro e w2 ⟨rfl,hb2⟩)
 go_ret;exact ⟨rfl,jaa hb0 hb2⟩
theorem jf5 (p:Nat) (A:Option Addr) (c:Nat) (ts:List Ten) (w:World) (hp:w.cell? ⟨p,0,none⟩=some (.slice A ts.length c)) (h:jbb w w.heap.size A ts) (h64:ts.length<=64) (hq:∀ x∈ts,1<=x.quota/\x.quota<=64) :
  Calls Tryz.prog 92 #[.pointer (some ⟨p,0,none⟩)] w fun e w'=>e=.returned (.int .i64 (jbp ts))/\Below w.heap.size w w':=by
 have HT:Hid (∀ X,Below w.heap.size w X->jbb X w.heap.size A ts):=fun X hb=>h.below hb
 have HQ:=Lib.hid (jb3 hq);have HQ1:Hid (∀ k,(h:k < ts.length)->1<=ts[k].quota/\ts[k].quota<=64):=fun k h=>hq _ (List.getElem_mem h)
 have HST:Hid (∀ k,(h:k < ts.length)->jbp (ts.take (k + 1))=jbp (ts.take k) + ts[k].quota):=fun k hk=>jd6 hk
 have HEN:Hid (jbp (ts.take ts.length)=jbp ts):=by show jbp (ts.take ts.length)=_;rw [List.take_length]
 obtain ⟨N,hN⟩:∃ N,N=ts.length:=⟨_,rfl⟩;have HN:=Lib.hid hN;rw [<- hN] at hp HEN h64;clear h hN hq;go_enter Tryz.func92,Tryz.ntmps92;go_wp2
 go_loopw [3,12] (fun n i wr=>∃ (k:Nat) (c:Int),k<=N/\i=.int .i64 k/\n=.int .i64 c/\Hid (c=jbp (ts.take k))/\Hid (Below w.heap.size w wr)) (fun _ i _=>N - (intOf i).toNat)
 case atStart=>exact ⟨0,0,Nat.zero_le _,rfl,rfl,rfl,Below.refl _ _⟩
 case round =>
  obtain ⟨k,c,hk,rfl,rfl,hc,hB⟩:=hrel;have k0:(0:Int)<=(k:Int):=by omega
  have hck:0<=c/\c<=64 * k:=by rw [hc.out];exact HQ.out k
  obtain ⟨hc0,hc1⟩:=hck;clear hp;by_cases hlt:k < N
  ·have k1:(k:Int) < (N:Int):=by omega
   have hkx:k < ts.length:=by have:=HN.out;omega
   obtain ⟨b,off,rfl,_,q0,q1,q2,q3,q4,q5⟩:=HT.out wr hB.out k hkx;have hst:=HST.out k hkx;have hq1:=HQ1.out k hkx;obtain ⟨x,hx⟩:∃ x,x=ts[k]:=⟨_,rfl⟩;rw [<- hx] at q0 q1 q2 q3 q4 q5 hst hq1;clear hx HT HQ HQ1 HST HEN;obtain ⟨p0,p1,p2,p3,p4,p5⟩:=x;simp only at q0 q1 q2 q3 q4 q5 hst hq1;have HC:Hid (c + p1=jbp (ts.take (k + 1))):=by rw [hst];exact congrArg (· + p1) hc.out
   have v:IntKind.i64.wrap (c + p1)=c + p1:=IntWalk.i64_in _ (by omega);have R:Hid (Below w.heap.size w (wr.alloc (.cells #[.int .i64 p0,.int .i64 p1,.int .i64 p2,.int .i64 p3,.string p4,.bool p5] 52))):=hB.out.alloc hB.out.size _;clear hst hB;go_wp2;go_roundw
   case rel=>exact ⟨k + 1,c + p1,by omega,by go_num,by first | rfl | go_num,HC,R⟩
   case measure=>first | (simp [intOf];done) | (simp [intOf];omega)
  ·have hkN:k=N:=by omega
   have HE:Hid (c=jbp ts):=by rw [hc.out,hkN];exact HEN.out
   have k1:¬ (k:Int) < (N:Int):=by omega
   clear hkN;go_wp2;go_ret;exact ⟨by rw [<- HE.out];rfl,hB.out⟩
theorem jcl {α:Type} (k:α->Int) (f:α->α) {id:Int} : ∀ {l:List α} {i:Nat} (hi:i < l.length),(l.Pairwise fun a b=>k a < k b)->k l[i]=id->jgp k id f l=l.set i (f l[i])
 | x :: l,0,hi,h,he=>by
  obtain ⟨h1,h2⟩:=List.pairwise_cons.1 h;have he':k x=id:=he;unfold jgp;rw [List.map_cons,if_pos he',List.set_cons_zero]
  have e:l.map (fun x=>if k x=id then f x else x)=l:=by
   conv=>rhs;rw [<- List.map_id l]
   refine List.map_congr_left fun y hy=>?_
   rw [if_neg (by have:=h1 y hy;omega)];rfl
  rw [e];rfl
 | x :: l,i + 1,hi,h,he=>by
  obtain ⟨h1,h2⟩:=List.pairwise_cons.1 h;have hi2:i < l.length:=by simpa using hi
  have he':k l[i]=id:=by simpa using he
  have ih:=jcl k f hi2 h2 he';unfold jgp at ih ⊢;have hx:=h1 l[i] (List.getElem_mem hi2);rw [List.map_cons,if_neg (by omega),ih];rfl
theorem jcy (vs:List Vol) (id:Int):(∃ k,∃ h:k < vs.length,vs[k].id=id/\(∀ j,(h:j < vs.length)->j < k->vs[j].id≠id)/\volAt vs id=some vs[k])∨((∀ j,(h:j < vs.length)->vs[j].id≠id)/\volAt vs id=none):=by
 induction vs with
 | nil=>exact .inr ⟨fun j h=>absurd h (Nat.not_lt_zero j),rfl⟩
 | cons x vs ih =>
  by_cases he:x.id=id
  ·refine .inl ⟨0,Nat.zero_lt_succ _,he,fun j _ hj=>absurd hj (Nat.not_lt_zero j),?_⟩;unfold volAt;rw [List.find?_cons_of_pos (by simpa using he)];rfl
  ·have hc:volAt (x :: vs) id=volAt vs id:=by
    unfold volAt;rw [List.find?_cons_of_neg (by simpa using he)]
   rcases ih with ⟨k,h,e,hl,ha⟩ | ⟨hl,ha⟩
   ·refine .inl ⟨k + 1,by simpa using h,by simpa using e,fun j hj hjk=>?_,by rw [hc,ha];simp⟩;cases j with
    | zero=>exact he
    | succ j=>exact hl j (by simpa using hj) (by omega)
   ·refine .inr ⟨fun j hj=>?_,by rw [hc,ha]⟩;cases j with
    | zero=>exact he
    | succ j=>exact hl j (by simpa using hj)
section
variable {lo p:Nat} {w:World} {V:jat} {t:Tab}
theorem jaZ.noT (h:jaZ lo w p V t) (hs:t.sound) {id:Int} (hl:∀ j,(h:j < t.ts.length)->t.ts[j].id≠id):∀ X,Below w.heap.size w X->Calls Tryz.prog 91 #[.pointer (some ⟨p,0,none⟩),.int .i64 id] X fun e w'=>e=.returned (.pointer none)/\Below X.heap.size X w':=fun X hb =>
 jmR p V.A1 V.c1 t.ts id X (h.below hb).cells.1 (by have:=(jam hs).1;omega) (h.below hb).tab.ts hl
theorem jaZ.foundT (h:jaZ lo w p V t) (hs:t.sound) {id:Int} {k:Nat} (hk:k < t.ts.length) (he:t.ts[k].id=id) (hl:∀ j,(h:j < t.ts.length)->j < k->t.ts[j].id≠id) :
  ∃ g,V.A1=some ⟨g,0,none⟩/\lo<=g/\g < w.heap.size /\
   (∀ X,Below w.heap.size w X->(X.cell? ⟨g,k * 6,none⟩=some (.int .i64 t.ts[k].id)/\X.cell? ⟨g,k * 6 + 1,none⟩=some (.int .i64 t.ts[k].quota)/\X.cell? ⟨g,k * 6 + 5,none⟩=some (.bool t.ts[k].dying))/\X.frozen? ⟨g,k * 6 + 1,none⟩=false/\X.frozen? ⟨g,k * 6 + 5,none⟩=false) /\
   ∀ X,Below w.heap.size w X->Calls Tryz.prog 91 #[.pointer (some ⟨p,0,none⟩),.int .i64 id] X fun e w'=>e=.returned (.pointer (some ⟨g,k * 6,none⟩))/\Below X.heap.size X w':=by
 obtain ⟨g,hA,hg,hgl,_,_,_⟩:=jb2 jaF h.rows.ts rfl hk;refine ⟨g,hA,hg,hgl,fun X hb=>?_,fun X hb=>?_⟩
 ·obtain ⟨g2,hA2,_,_,_,hc,hf⟩:=jb2 jaF (h.below hb).rows.ts rfl hk;have:g2=g:=by rw [hA] at hA2;injection hA2 with q;injection q with q;exact q.symm
  subst this;exact ⟨⟨hc 0 _ rfl,hc 1 _ rfl,hc 5 _ rfl⟩,hf _,hf _⟩
 ·have hx:=h.below hb;have hc:=hx.cells.1;have ht:=hx.tab.ts;rw [hA] at hc ht;have:=jj8 p g 0 V.c1 t.ts id k X hc (by have:=(jam hs).1;omega) ht hk he hl
  rwa [Nat.zero_add] at this
theorem jaZ.setT (h:jaZ lo w p V t) {g k j:Nat} (hA:V.A1=some ⟨g,0,none⟩) (hk:k < t.ts.length) (hj:j < 6) (v:Value) (y:Ten) (hy:jbP y=(jbP t.ts[k]).set j v) :
  jaZ lo (w.setCell ⟨g,k * 6 + j,none⟩ v) p V { t with ts:=t.ts.set k y }/\Below lo w (w.setCell ⟨g,k * 6 + j,none⟩ v):=by
 have hg:w.grownBy (w.setCell ⟨g,k * 6 + j,none⟩ v) (some g):=jal w g (k * 6 + j) [v];have hgl:=(ja1 h.rows.ts g (by rw [hA];rfl)).1;exact ⟨h.inT hA (by simp) (jei jaF h.rows.ts hA rfl hk hj y hy) hg,jae (Below.refl _ _) hg h.lo_le hgl⟩
theorem jaZ.noV (h:jaZ lo w p V t) (hs:t.sound) {id:Int} (hl:∀ j,(h:j < t.vs.length)->t.vs[j].id≠id):∀ X,Below w.heap.size w X->Calls Tryz.prog 99 #[.pointer (some ⟨p,0,none⟩),.int .i64 id] X fun e w'=>e=.returned (.pointer none)/\Below X.heap.size X w':=fun X hb =>
 jpx p V.A2 V.c2 t.vs id X (h.below hb).cells.2.1 (by have:=(jam hs).2.1;omega) (h.below hb).tab.vs hl
theorem jaZ.foundV (h:jaZ lo w p V t) (hs:t.sound) {id:Int} {k:Nat} (hk:k < t.vs.length) (he:t.vs[k].id=id) (hl:∀ j,(h:j < t.vs.length)->j < k->t.vs[j].id≠id) :
  ∃ g,V.A2=some ⟨g,0,none⟩/\lo<=g/\g < w.heap.size /\
   (∀ X,Below w.heap.size w X->(X.cell? ⟨g,k * 4 + 2,none⟩=some (.int .i64 t.vs[k].blocks)/\X.cell? ⟨g,k * 4 + 3,none⟩=some (.int .i64 t.vs[k].base))/\X.frozen? ⟨g,k * 4 + 2,none⟩=false/\X.frozen? ⟨g,k * 4 + 3,none⟩=false) /\
   ∀ X,Below w.heap.size w X->Calls Tryz.prog 99 #[.pointer (some ⟨p,0,none⟩),.int .i64 id] X fun e w'=>e=.returned (.pointer (some ⟨g,k * 4,none⟩))/\Below X.heap.size X w':=by
 obtain ⟨g,hA,hg,hgl,_,_,_⟩:=jb2 jaG h.rows.vs rfl hk;refine ⟨g,hA,hg,hgl,fun X hb=>?_,fun X hb=>?_⟩
 ·obtain ⟨g2,hA2,_,_,_,hc,hf⟩:=jb2 jaG (h.below hb).rows.vs rfl hk;have:g2=g:=by rw [hA] at hA2;injection hA2 with q;injection q with q;exact q.symm
  subst this;exact ⟨⟨hc 2 _ rfl,hc 3 _ rfl⟩,hf _,hf _⟩
 ·have hx:=h.below hb;have hc:=hx.cells.2.1;have ht:=hx.tab.vs;rw [hA] at hc ht;have:=jnS p g 0 V.c2 t.vs id k X hc (by have:=(jam hs).2.1;omega) ht hk he hl
  rwa [Nat.zero_add] at this
theorem jaZ.setV (h:jaZ lo w p V t) {g k j:Nat} (hA:V.A2=some ⟨g,0,none⟩) (hk:k < t.vs.length) (hj:j < 4) (v:Value) (y:Vol) (hy:jb1 y=(jb1 t.vs[k]).set j v) :
  jaZ lo (w.setCell ⟨g,k * 4 + j,none⟩ v) p V { t with vs:=t.vs.set k y }/\Below lo w (w.setCell ⟨g,k * 4 + j,none⟩ v):=by
 have hg:w.grownBy (w.setCell ⟨g,k * 4 + j,none⟩ v) (some g):=jal w g (k * 4 + j) [v];have hgl:=(ja1 h.rows.vs g (by rw [hA];rfl)).1;exact ⟨h.inV hA (by simp) (jei jaG h.rows.vs hA rfl hk hj y hy) hg,jae (Below.refl _ _) hg h.lo_le hgl⟩
theorem jaZ.setO (h:jaZ lo w p V t) {g k:Nat} (hA:V.A3=some ⟨g,0,none⟩) (hk:k < t.os.length) (n:Int) :
  jaZ lo (w.setCell ⟨g,k,none⟩ (.int .i64 n)) p V { t with os:=t.os.set k n }/\Below lo w (w.setCell ⟨g,k,none⟩ (.int .i64 n)):=by
 have hg:w.grownBy (w.setCell ⟨g,k,none⟩ (.int .i64 n)) (some g):=jal w g k [.int .i64 n];have hgl:=(ja1 h.rows.os g (by rw [hA];rfl)).1;have hf:=jei (j:=0) (v:=.int .i64 n) jbS h.rows.os hA rfl hk (by decide) n rfl;rw [Nat.mul_one,Nat.add_zero] at hf;exact ⟨h.inO hA (by simp) hf hg,jae (Below.refl _ _) hg h.lo_le hgl⟩
theorem jaZ.foundO (h:jaZ lo w p V t) {k:Nat} (hk:k < t.os.length):∃ g,V.A3=some ⟨g,0,none⟩/\lo<=g/\g < w.heap.size/\∀ X,Below w.heap.size w X->X.cell? ⟨g,k,none⟩=some (.int .i64 t.os[k])/\X.frozen? ⟨g,k,none⟩=false:=by
 obtain ⟨g,hA,hg,hgl,_,_,_⟩:=jb2 jbS h.rows.os rfl hk;refine ⟨g,hA,hg,hgl,fun X hb=>?_⟩;obtain ⟨g2,hA2,_,_,_,hc,hf⟩:=jb2 jbS (h.below hb).rows.os rfl hk;have:g2=g:=by rw [hA] at hA2;injection hA2 with q;injection q with q;exact q.symm
 subst this;have:=hc 0 _ rfl;rw [Nat.mul_one,Nat.add_zero] at this;exact ⟨this,hf _⟩
end
theorem jic {lo p:Nat} {w:World} {V:jat} {t:Tab} (h:jaZ lo w p V t) (hs:t.sound) (r:Rc) :
  Calls Tryz.prog 69 #[.pointer (some ⟨p,0,none⟩),.int .i64 r.a] w fun e w'=>∃ V',e=.returned (.int .i64 (jeZ t r).1)/\jaZ lo w' p V' (jeZ t r).2/\Below lo w w':=by
 have HB:Hid (∀ X,Below w.heap.size w X->jaZ lo X p V t/\Below lo w X):=fun X hb=>⟨h.below hb,hb.mono h.lo_le⟩
 rcases jaX t.ts r.a with ⟨k,hk,he,hl,ha⟩ | ⟨hl,ha⟩
 ·obtain ⟨g,hA,hg,hgl,hX,hC⟩:=h.foundT hs hk he hl;have HX:=Lib.hid hX;have HC:=Lib.hid (hC w (Below.refl _ _));by_cases hd:t.ts[k].dying=true
  ·have H1:Hid (jeZ t r=(5,t)):=by show jeZ t r=_;unfold jeZ;rw [ha];exact if_pos hd
   rw [H1.out];simp only [hd] at HX;clear hX hC hA hl ha he hd H1 h hs;go_enter Tryz.func69,Tryz.ntmps69
   go_wp2_with (go_at_call 91;with_reducible (refine Calls.mono HC.out ?_);rintro e w1 ⟨rfl,hb1⟩;obtain ⟨⟨x0,x1,x5⟩,f1,f5⟩:=HX.out _ hb1)
   go_ret;exact ⟨V,rfl,HB.out _ hb1⟩
  ·have hd2:t.ts[k].dying=false:=by simpa using hd
   have H1:Hid (jeZ t r=(0,{ t with ts:=t.ts.set k { t.ts[k] with dying:=true } })):=by
    show jeZ t r=_;unfold jeZ;rw [ha];show (if t.ts[k].dying=true then _ else _)=_;rw [if_neg hd,jcl Ten.id _ hk hs.up he]
   have HS:Hid (∀ X,Below w.heap.size w X->jaZ lo (X.setCell ⟨g,k * 6 + 5,none⟩ (.bool true)) p V { t with ts:=t.ts.set k { t.ts[k] with dying:=true } }/\Below lo w (X.setCell ⟨g,k * 6 + 5,none⟩ (.bool true))):=fun X hb=>by
    have q:=(h.below hb).setT hA hk (j:=5) (by decide) (.bool true) { t.ts[k] with dying:=true } rfl;exact ⟨q.1,(hb.mono h.lo_le).trans (q.2.mono (Nat.le_refl _))⟩
   rw [H1.out];simp only [hd2] at HX;obtain ⟨T,hT⟩:∃ T,T = { t with ts:=t.ts.set k { t.ts[k] with dying:=true } }:=⟨_,rfl⟩;rw [<- hT] at HS ⊢;clear hX hC hA hl ha he hd hd2 H1 h hs hT HB;go_enter Tryz.func69,Tryz.ntmps69
   go_wp2_with (go_at_call 91;with_reducible (refine Calls.mono HC.out ?_);rintro e w1 ⟨rfl,hb1⟩;obtain ⟨⟨x0,x1,x5⟩,f1,f5⟩:=HX.out _ hb1)
   go_ret;exact ⟨V,rfl,HS.out _ hb1⟩
 ·have H1:Hid (jeZ t r=(4,t)):=by show jeZ t r=_;unfold jeZ;rw [ha]
  have HC:=Lib.hid (h.noT hs hl w (Below.refl _ _));rw [H1.out];clear hl ha H1 h hs;go_enter Tryz.func69,Tryz.ntmps69
  go_wp2_with (go_at_call 91;with_reducible (refine Calls.mono HC.out ?_);rintro e w1 ⟨rfl,hb1⟩)
  go_ret;exact ⟨V,rfl,HB.out _ hb1⟩
end Go.Proofs.YtbnhkplhmanmoaaGreat
