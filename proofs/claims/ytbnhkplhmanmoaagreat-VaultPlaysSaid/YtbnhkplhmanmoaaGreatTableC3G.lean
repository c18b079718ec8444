/- . -/
import Derived.Test.YtbnhkplhmanmoaaGreatTableC1G
import Derived.Test.YtbnhkplhmanmoaaGreatTableAskG
import Derived.Shelf.RegionOpenPlain
namespace Go.Proofs.YtbnhkplhmanmoaaGreat
open Go.RowKit
set_option maxHeartbeats 6400000
theorem jmp (rk ra rb rc rd:Int) (key:ByteArray) (w:World) (hk:¬ inR rk 0 9) :
  Calls Tryz.prog 38 #[.agg #[.int .i64 rk,.int .i64 ra,.int .i64 rb,.int .i64 rc,.int .i64 rd,.string key]] w fun e w'=>e=.returned (.bool false)/\Below w.heap.size w w':=by
 have H0:Hid (∀ W,Calls Tryz.prog 65 #[.agg #[.int .i64 0,.int .i64 9],.int .i64 rk] W fun e w'=>e=.returned (.bool false)/\Below W.heap.size W w'):=fun W=>by
  have h:=jdY 0 9 rk W
  rwa [decide_eq_false hk] at h
 have hb0:Below w.heap.size w (w.alloc (.cells #[.int .i64 rk,.int .i64 ra,.int .i64 rb,.int .i64 rc,.int .i64 rd,.string key] 56)):=(Below.refl _ _).alloc (Nat.le_refl _) _;clear hk;go_enter Tryz.func38,Tryz.ntmps38
 go_wp2_with (go_at_call 65;with_reducible (refine Calls.mono (H0.out _) ?_);rintro e w1 ⟨rfl,hb1⟩)
 go_ret;exact ⟨rfl,jaa hb0 hb1⟩
theorem joN:jlk 0=#[.int .i64 0,.int .i64 0,.int .i64 0,.int .i64 0,.int .i64 0,.int .i64 0,.int .i64 0,.int .i64 0,.int .i64 0]:=rfl
theorem jpI:jlk 1=#[.int .i64 1,.int .i64 7,.int .i64 1,.int .i64 64,.int .i64 0,.int .i64 4294967296,.int .i64 1,.int .i64 64,.int .i64 16]:=rfl
theorem jpo:jlk 2=#[.int .i64 1,.int .i64 7,.int .i64 1,.int .i64 64,.int .i64 0,.int .i64 0,.int .i64 0,.int .i64 0,.int .i64 0]:=rfl
theorem jpn:jlk 3=#[.int .i64 1,.int .i64 7,.int .i64 0,.int .i64 0,.int .i64 0,.int .i64 0,.int .i64 0,.int .i64 0,.int .i64 0]:=rfl
theorem jpb:jlk 4=#[.int .i64 1,.int .i64 7,.int .i64 0,.int .i64 0,.int .i64 0,.int .i64 0,.int .i64 0,.int .i64 0,.int .i64 0]:=rfl
theorem jpe:jlk 5=#[.int .i64 0,.int .i64 7,.int .i64 1,.int .i64 7,.int .i64 0,.int .i64 32,.int .i64 0,.int .i64 0,.int .i64 0]:=rfl
theorem jo5:jlk 6=#[.int .i64 0,.int .i64 7,.int .i64 0,.int .i64 32,.int .i64 0,.int .i64 0,.int .i64 0,.int .i64 0,.int .i64 0]:=rfl
theorem joS:jlk 7=#[.int .i64 0,.int .i64 7,.int .i64 0,.int .i64 0,.int .i64 0,.int .i64 0,.int .i64 0,.int .i64 0,.int .i64 0]:=rfl
theorem jpy:jlk 8=#[.int .i64 0,.int .i64 7,.int .i64 0,.int .i64 1099511627776,.int .i64 0,.int .i64 0,.int .i64 0,.int .i64 0,.int .i64 0]:=rfl
theorem jpq:jlk 9=#[.int .i64 0,.int .i64 63,.int .i64 0,.int .i64 7,.int .i64 0,.int .i64 0,.int .i64 0,.int .i64 0,.int .i64 0]:=rfl
theorem jb7 {A B C D E P:Prop} [Decidable A] [Decidable B] [Decidable C] [Decidable D] [Decidable E] [Decidable P] (h:(A/\B/\C/\D/\E)↔P):(decide A && decide B && decide C && decide D && decide E)=decide P:=by
 rw [Bool.eq_iff_iff];simp only [Bool.and_eq_true,decide_eq_true_eq];rw [<- h];simp only [and_assoc]
theorem jdG (r:Rc) (w:World):Calls Tryz.prog 38 #[.agg (rcV r)] w fun e w'=>e=.returned (.bool (decide (jaf r)))/\Below w.heap.size w w':=by
 obtain ⟨k,a,b,c,d,key⟩:=r;by_cases hk:inR k 0 9
 ·have hk':=hk;unfold inR at hk';rcases (show k=0∨k=1∨k=2∨k=3∨k=4∨k=5∨k=6∨k=7∨k=8∨k=9 by omega) with rfl | rfl | rfl | rfl | rfl | rfl | rfl | rfl | rfl | rfl
  ·have h:=jbi 0 a b c d key 0 0 0 0 0 0 0 0 0 w hk (fun W=>by have h:=jbg 0 W (by decide);rwa [joN] at h)
   rw [jb7 (P:=jaf ⟨0,a,b,c,d,key⟩) (by
    unfold jaf jbo inR;generalize key.size=n;simp
    try omega)] at h
   exact h
  ·have h:=jbi 1 a b c d key 1 7 1 64 0 4294967296 1 64 16 w hk (fun W=>by have h:=jbg 1 W (by decide);rwa [jpI] at h)
   rw [jb7 (P:=jaf ⟨1,a,b,c,d,key⟩) (by
    unfold jaf jbo inR;generalize key.size=n;simp
    try omega)] at h
   exact h
  ·have h:=jbi 2 a b c d key 1 7 1 64 0 0 0 0 0 w hk (fun W=>by have h:=jbg 2 W (by decide);rwa [jpo] at h)
   rw [jb7 (P:=jaf ⟨2,a,b,c,d,key⟩) (by
    unfold jaf jbo inR;generalize key.size=n;simp
    try omega)] at h
   exact h
  ·have h:=jbi 3 a b c d key 1 7 0 0 0 0 0 0 0 w hk (fun W=>by have h:=jbg 3 W (by decide);rwa [jpn] at h)
   rw [jb7 (P:=jaf ⟨3,a,b,c,d,key⟩) (by
    unfold jaf jbo inR;generalize key.size=n;simp
    try omega)] at h
   exact h
  ·have h:=jbi 4 a b c d key 1 7 0 0 0 0 0 0 0 w hk (fun W=>by have h:=jbg 4 W (by decide);rwa [jpb] at h)
   rw [jb7 (P:=jaf ⟨4,a,b,c,d,key⟩) (by
    unfold jaf jbo inR;generalize key.size=n;simp
    try omega)] at h
   exact h
  ·have h:=jbi 5 a b c d key 0 7 1 7 0 32 0 0 0 w hk (fun W=>by have h:=jbg 5 W (by decide);rwa [jpe] at h)
   rw [jb7 (P:=jaf ⟨5,a,b,c,d,key⟩) (by
    unfold jaf jbo inR;generalize key.size=n;simp
    try omega)] at h
   exact h
  ·have h:=jbi 6 a b c d key 0 7 0 32 0 0 0 0 0 w hk (fun W=>by have h:=jbg 6 W (by decide);rwa [jo5] at h)
   rw [jb7 (P:=jaf ⟨6,a,b,c,d,key⟩) (by
    unfold jaf jbo inR;generalize key.size=n;simp
    try omega)] at h
   exact h
  ·have h:=jbi 7 a b c d key 0 7 0 0 0 0 0 0 0 w hk (fun W=>by have h:=jbg 7 W (by decide);rwa [joS] at h)
   rw [jb7 (P:=jaf ⟨7,a,b,c,d,key⟩) (by
    unfold jaf jbo inR;generalize key.size=n;simp
    try omega)] at h
   exact h
  ·have h:=jbi 8 a b c d key 0 7 0 1099511627776 0 0 0 0 0 w hk (fun W=>by have h:=jbg 8 W (by decide);rwa [jpy] at h)
   rw [jb7 (P:=jaf ⟨8,a,b,c,d,key⟩) (by
    unfold jaf jbo inR;generalize key.size=n;simp
    try omega)] at h
   exact h
  ·have h:=jbi 9 a b c d key 0 63 0 7 0 0 0 0 0 w hk (fun W=>by have h:=jbg 9 W (by decide);rwa [jpq] at h)
   rw [jb7 (P:=jaf ⟨9,a,b,c,d,key⟩) (by
    unfold jaf jbo inR;generalize key.size=n;simp
    try omega)] at h
   exact h
 ·have h:=jmp k a b c d key w hk
  rw [decide_eq_false (show ¬ jaf ⟨k,a,b,c,d,key⟩ from fun hf=>hk (by
   unfold jaf jbo inR at hf;unfold inR;simp only at hf
   repeat' split at hf
   all_goals (first | omega | exact hf.elim)))]
  exact h
def jbk (P:Nat->Bool) (N:Nat) (r:Int):Prop:=(r = -1/\∀ j,j < N->P j=false)∨∃ k:Nat,k < N/\r=k/\P k=true/\∀ j,j < k->P j=false
theorem jbk.hit {P:Nat->Bool} {N k:Nat} {r:Int} (h:jbk P N r) (hk:k < N) (hp:P k=true) (hl:∀ j,j < k->P j=false):r=k:=by
 rcases h with ⟨_,h⟩ | ⟨m,hm,rfl,hpm,hlm⟩
 ·rw [h k hk] at hp;cases hp
 ·rcases Nat.lt_trichotomy m k with q | q | q
  ·rw [hl m q] at hpm;cases hpm
  ·rw [q]
  ·rw [hlm k q] at hp;cases hp
theorem jbk.miss {P:Nat->Bool} {N:Nat} {r:Int} (h:jbk P N r) (hl:∀ j,j < N->P j=false):r = -1:=by
 rcases h with ⟨h,_⟩ | ⟨m,hm,rfl,hpm,hlm⟩
 ·exact h
 ·rw [hl m hm] at hpm;cases hpm
theorem jfg (P:Nat->Bool):∀ N:Nat,∃ r:Int,jbk P N r
 | 0=>⟨-1,.inl ⟨rfl,fun j hj=>absurd hj (Nat.not_lt_zero j)⟩⟩
 | N + 1=>by
  obtain ⟨r,h⟩:=jfg P N;rcases h with ⟨rfl,h⟩ | ⟨k,hk,e,hp,hl⟩
  ·by_cases hp:P N=true
   ·exact ⟨N,.inr ⟨N,Nat.lt_succ_self N,rfl,hp,h⟩⟩
   ·refine ⟨-1,.inl ⟨rfl,fun j hj=>?_⟩⟩;rcases Nat.lt_or_ge j N with q | q
    ·exact h j q
    ·rw [show j=N by omega];simpa using hp
  ·exact ⟨r,.inr ⟨k,by omega,e,hp,hl⟩⟩
theorem jbk.any {P:Nat->Bool} {N:Nat} {r:Int} (h:jbk P N r):decide (0<=r)=(List.range N).any P:=by
 rcases h with ⟨rfl,h⟩ | ⟨k,hk,rfl,hp,_⟩
 ·have e:(List.range N).any P=false:=by
   rw [List.any_eq_false];intro x hx;rw [h x (List.mem_range.1 hx)];decide
  rw [e];decide
 ·have e:(List.range N).any P=true:=List.any_eq_true.2 ⟨k,List.mem_range.2 hk,hp⟩;rw [e];simp
theorem jeD (A:Option Addr) (c:Nat) (ts:List Ten) (P:Nat->Bool) (r:Int) (fn:FuncId) (cb:Array Value) (w:World) (hN:ts.length<=9223372036854775807) (h:jbb w w.heap.size A ts) (hr:jbk P ts.length r)
  (he:∀ args w,(callFunc fn args).run Tryz.prog w=.ok (.enter fn args) w) (hc:∀ k (hk:k < ts.length) W,Below w.heap.size w W->Calls Tryz.prog fn (#[.agg (jcQ ts[k])] ++ cb) W fun e w'=>e=.returned (.bool (P k))/\Below W.heap.size W w') :
  Calls Tryz.prog 129 #[.slice A ts.length c,.func (.func fn) #[] cb] w fun e w'=>e=.returned (.int .i64 r)/\Below w.heap.size w w':=by
 have HA:Hid (∀ W,Below w.heap.size w W->jbb W w.heap.size A ts):=fun W hb=>h.below hb
 have HC:=Lib.hid hc;have HR:=Lib.hid hr;obtain ⟨N,hNN⟩:∃ N,N=ts.length:=⟨_,rfl⟩;rw [<- hNN] at HR hN ⊢;have HN:=Lib.hid hNN;have eg:=he;clear h hc hNN hr;go_enter Tryz.func129,Tryz.ntmps129;go_wp2
 go_loopw [8] (fun i wr=>∃ k:Nat,k<=N/\i=.int .i64 k/\Hid (∀ j,j < k->P j=false)/\Hid (Below w.heap.size w wr)) (fun i _=>N - (intOf i).toNat)
 case atStart=>exact ⟨0,Nat.zero_le _,rfl,fun j hj=>absurd hj (Nat.not_lt_zero j),Below.refl _ _⟩
 case round =>
  obtain ⟨k,hk,rfl,hall,hB⟩:=hrel;by_cases hlt:k < N
  ·have hkx:k < ts.length:=by have:=HN.out;omega
   obtain ⟨b,o,rfl,_,q0,q1,q2,q3,q4,q5⟩:=HA.out wr hB.out k hkx;have k1:(k:Int) < (N:Int):=by omega
   have k0:(0:Int)<=(k:Int):=by omega
   have hck:=HC.out k hkx wr hB.out
   have hall2:Hid (P k=false->∀ j,j < k + 1->P j=false):=fun q j hj=>by
    rcases Nat.lt_or_ge j k with g | g
    ·exact hall.out j g
    ·rw [show j=k by omega];exact q
   have hy:Hid (P k=true->r=k):=fun q=>HR.out.hit hlt q hall.out
   obtain ⟨p,hp⟩:∃ p,p=P k:=⟨_,rfl⟩;rw [<- hp] at hck hy hall2;obtain ⟨x,hx⟩:∃ x,x=ts[k]:=⟨_,rfl⟩;rw [<- hx] at q0 q1 q2 q3 q4 q5 hck;clear hx;obtain ⟨p0,p1,p2,p3,p4,p5⟩:=x;simp only [jcQ] at hck;simp only at q0 q1 q2 q3 q4 q5;have HCK:=Lib.hid hck;clear hall HA HC hp hck;cases p
   ·have H2:=Lib.hid (hall2.out rfl);clear hall2 hy
    go_wp2_with (go_at_fn fn;with_reducible (refine Calls.mono HCK.out ?_);rintro e w2 ⟨rfl,hb2⟩)
    have R:=Lib.hid (jaa hB.out hb2);clear hB hb2;go_roundw
    case rel=>first | exact ⟨k + 1,by omega,by go_num,H2.out,R⟩ | ((repeat apply Exists.intro);exact ⟨⟨k + 1,by omega,by go_num,H2.out,R⟩,rfl⟩)
    case measure=>simp [intOf];omega
   ·have H2:=Lib.hid (hy.out rfl);clear hall2 hy
    go_wp2_with (go_at_fn fn;with_reducible (refine Calls.mono HCK.out ?_);rintro e w2 ⟨rfl,hb2⟩)
    have R:=Lib.hid (jaa hB.out hb2);clear hB hb2;go_ret;exact ⟨by rw [H2.out];rfl,R.out⟩
  ·have hk8:k=N:=by omega
   subst hk8;have hn:=Lib.hid (HR.out.miss hall.out);clear hall HA HC;have k1:¬ (k:Int) < (k:Int):=by omega
   go_wp2;go_ret;exact ⟨by rw [hn.out];rfl,hB.out⟩
theorem jnT (x:Ten) (id:Int) (q:Nat) (w:World) (hq:w.cell? ⟨q,0,none⟩=some (.int .i64 id)) :
  Calls Tryz.prog 130 (#[.agg (jcQ x)] ++ #[.pointer (some ⟨q,0,none⟩)]) w fun e w'=>e=.returned (.bool (decide (x.id=id)))/\Below w.heap.size w w':=by
 show Calls Tryz.prog 130 #[.agg (jcQ x),.pointer (some ⟨q,0,none⟩)] w _;obtain ⟨p0,p1,p2,p3,p4,p5⟩:=x;simp only [jcQ];have hb:Below w.heap.size w (w.alloc (.cells #[.int .i64 p0,.int .i64 p1,.int .i64 p2,.int .i64 p3,.string p4,.bool p5] 52)):=(Below.refl _ _).alloc (Nat.le_refl _) _;have hq2:(w.alloc (.cells #[.int .i64 p0,.int .i64 p1,.int .i64 p2,.int .i64 p3,.string p4,.bool p5] 52)).cell? ⟨q,0,none⟩=some (.int .i64 id):=(hb.cell (p:=⟨q,0,none⟩) (World.block_lt_of_cell? w _ hq)).trans hq;have e:(p0 == id)=decide (p0=id):=by rw [Bool.eq_iff_iff];simp
 go_enter Tryz.func130,Tryz.ntmps130;go_wp2;go_ret;exact ⟨rfl,hb⟩
theorem jkl {ts:List Ten} {id:Int} {k:Nat} (hk:k < ts.length) (he:ts[k].id=id) (hl:∀ j,(h:j < ts.length)->j < k->ts[j].id≠id):jbk (fun j=>decide (∃ h:j < ts.length,ts[j].id=id)) ts.length k :=
 .inr ⟨k,hk,rfl,decide_eq_true ⟨hk,he⟩,fun j hj=>decide_eq_false fun ⟨h,e⟩=>hl j h hj e⟩
theorem jmG {ts:List Ten} {id:Int} (hl:∀ j,(h:j < ts.length)->ts[j].id≠id):jbk (fun j=>decide (∃ h:j < ts.length,ts[j].id=id)) ts.length (-1) :=
 .inl ⟨rfl,fun j _=>decide_eq_false fun ⟨h,e⟩=>hl j h e⟩
theorem jhF (A:Option Addr) (c:Nat) (ts:List Ten) (id r:Int) (w:World) (hN:ts.length<=9223372036854775807) (h:jbb w w.heap.size A ts) (hr:jbk (fun j=>decide (∃ h:j < ts.length,ts[j].id=id)) ts.length r) (q:Nat) (hq:w.cell? ⟨q,0,none⟩=some (.int .i64 id)) :
  Calls Tryz.prog 129 #[.slice A ts.length c,.func (.func 130) #[] #[.pointer (some ⟨q,0,none⟩)]] w fun e w'=>e=.returned (.int .i64 r)/\Below w.heap.size w w':=by
 refine jeD A c ts _ r 130 #[.pointer (some ⟨q,0,none⟩)] w hN h hr (fun args w=>by kernel_rfl) fun k hk W hb=>?_
 have h1:=jnT ts[k] id q W ((hb.cell (p:=⟨q,0,none⟩) (World.block_lt_of_cell? w _ hq)).trans hq)
 have e:decide (∃ h:k < ts.length,ts[k].id=id)=decide (ts[k].id=id):=by
  rw [Bool.eq_iff_iff,decide_eq_true_iff,decide_eq_true_iff];exact ⟨fun ⟨_,e⟩=>e,fun e=>⟨hk,e⟩⟩
 rw [e];exact h1
theorem jj8 (p:Nat) (b off c:Nat) (ts:List Ten) (id:Int) (k:Nat) (w:World) (hp:w.cell? ⟨p,0,none⟩=some (.slice (some ⟨b,off,none⟩) ts.length c)) (hN:ts.length<=9223372036854775807) (h:jbb w w.heap.size (some ⟨b,off,none⟩) ts)
  (hk:k < ts.length) (he:ts[k].id=id) (hl:∀ j,(h:j < ts.length)->j < k->ts[j].id≠id) :
  Calls Tryz.prog 91 #[.pointer (some ⟨p,0,none⟩),.int .i64 id] w fun e w'=>e=.returned (.pointer (some ⟨b,off + k * 6,none⟩))/\Below w.heap.size w w':=by
 have hb0:Below w.heap.size w (w.alloc (.cells #[.int .i64 id] 3)):=(Below.refl _ _).alloc (Nat.le_refl _) _;have hpl:=World.block_lt_of_cell? w _ hp;have H1:=Lib.hid (jhF (some ⟨b,off,none⟩) c ts id k (w.alloc (.cells #[.int .i64 id] 3)) hN ((h.below hb0).more hb0.size) (jkl hk he hl) w.heap.size (by rw [cell_of_row _ _ _ _ _ _ (heap_alloc_new w (.cells #[.int .i64 id] 3))];rfl));have HP:Hid (∀ X,Below (w.alloc (.cells #[.int .i64 id] 3)).heap.size (w.alloc (.cells #[.int .i64 id] 3)) X->X.cell? ⟨p,0,none⟩=some (.slice (some ⟨b,off,none⟩) ts.length c)):=fun X hb=>((jaa hb0 hb).cell (p:=⟨p,0,none⟩) hpl).trans hp
 have hp1:=HP.out _ (Below.refl _ _);obtain ⟨N,hNN⟩:∃ N,N=ts.length:=⟨_,rfl⟩;rw [<- hNN] at H1 HP hp1 hN hk;have k1:(k:Int) < (N:Int):=by omega
 have k0:¬ (k:Int) < 0:=by omega
 clear h hl he hp hNN;go_enter Tryz.func91,Tryz.ntmps91
 go_wp2_with (go_at_call 129;with_reducible (refine Calls.mono H1.out ?_);rintro e w2 ⟨rfl,hb2⟩;have hp2:=HP.out _ hb2)
 go_ret;exact ⟨rfl,jaa hb0 hb2⟩
theorem jmR (p:Nat) (A:Option Addr) (c:Nat) (ts:List Ten) (id:Int) (w:World) (hp:w.cell? ⟨p,0,none⟩=some (.slice A ts.length c)) (hN:ts.length<=9223372036854775807) (h:jbb w w.heap.size A ts)
  (hl:∀ j,(h:j < ts.length)->ts[j].id≠id) :
  Calls Tryz.prog 91 #[.pointer (some ⟨p,0,none⟩),.int .i64 id] w fun e w'=>e=.returned (.pointer none)/\Below w.heap.size w w':=by
 have hb0:Below w.heap.size w (w.alloc (.cells #[.int .i64 id] 3)):=(Below.refl _ _).alloc (Nat.le_refl _) _;have hpl:=World.block_lt_of_cell? w _ hp;have H1:=Lib.hid (jhF A c ts id (-1) (w.alloc (.cells #[.int .i64 id] 3)) hN ((h.below hb0).more hb0.size) (jmG hl) w.heap.size (by rw [cell_of_row _ _ _ _ _ _ (heap_alloc_new w (.cells #[.int .i64 id] 3))];rfl));have hp1:(w.alloc (.cells #[.int .i64 id] 3)).cell? ⟨p,0,none⟩=some (.slice A ts.length c):=(hb0.cell (p:=⟨p,0,none⟩) hpl).trans hp;obtain ⟨N,hNN⟩:∃ N,N=ts.length:=⟨_,rfl⟩;rw [<- hNN] at H1 hp1 hN;clear h hl hp hNN;go_enter Tryz.func91,Tryz.ntmps91
 go_wp2_with (go_at_call 129;with_reducible (refine Calls.mono H1.out ?_);rintro e w2 ⟨rfl,hb2⟩)
 go_ret;exact ⟨rfl,jaa hb0 hb2⟩
set_option maxRecDepth 20000
theorem jaX (ts:List Ten) (id:Int):(∃ k,∃ h:k < ts.length,ts[k].id=id/\(∀ j,(h:j < ts.length)->j < k->ts[j].id≠id)/\tenAt ts id=some ts[k])∨((∀ j,(h:j < ts.length)->ts[j].id≠id)/\tenAt ts id=none):=by
 induction ts with
 | nil=>exact .inr ⟨fun j h=>absurd h (Nat.not_lt_zero j),rfl⟩
 | cons x ts ih =>
  by_cases he:x.id=id
  ·refine .inl ⟨0,Nat.zero_lt_succ _,he,fun j _ hj=>absurd hj (Nat.not_lt_zero j),?_⟩;unfold tenAt;rw [List.find?_cons_of_pos (by simpa using he)];rfl
  ·have hc:tenAt (x :: ts) id=tenAt ts id:=by
    unfold tenAt;rw [List.find?_cons_of_neg (by simpa using he)]
   rcases ih with ⟨k,h,e,hl,ha⟩ | ⟨hl,ha⟩
   ·refine .inl ⟨k + 1,by simpa using h,by simpa using e,fun j hj hjk=>?_,by rw [hc,ha];simp⟩;cases j with
    | zero=>exact he
    | succ j=>exact hl j (by simpa using hj) (by omega)
   ·refine .inr ⟨fun j hj=>?_,by rw [hc,ha]⟩;cases j with
    | zero=>exact he
    | succ j=>exact hl j (by simpa using hj)
theorem jhI (V:jat) (t:Tab) (id:Int) (w:World) (h:jao w w.heap.size V t) (hm:t.ts.length<=9223372036854775807) :
  Calls Tryz.prog 124 #[.agg (jan V t),.int .i64 id] w fun e w'=>e=.returned (.bool (tenAt t.ts id).isSome)/\Below w.heap.size w w':=by
 have hb0:Below w.heap.size w (w.alloc (.cells (jan V t) 35)):=(Below.refl _ _).alloc (Nat.le_refl _) _;have hb1:=hb0.alloc hb0.size (.cells (jan V t) 93);have hs1:(w.alloc (.cells (jan V t) 35)).heap.size=w.heap.size + 1:=by simp
 have hn1:=heap_alloc_new (w.alloc (.cells (jan V t) 35)) (.cells (jan V t) 93);rw [hs1] at hn1;have hc:=jai (X:=(w.alloc (.cells (jan V t) 35)).alloc (.cells (jan V t) 93)) (g:=w.heap.size + 1) (T:=93) hn1;have ht:=(h.ts.below hb1).more hb1.size
 have H:∃ v:Option Addr,(v.isSome=(tenAt t.ts id).isSome)/\Calls Tryz.prog 91 #[.pointer (some ⟨w.heap.size + 1,0,none⟩),.int .i64 id] ((w.alloc (.cells (jan V t) 35)).alloc (.cells (jan V t) 93)) fun e w'=>e=.returned (.pointer v)/\Below ((w.alloc (.cells (jan V t) 35)).alloc (.cells (jan V t) 93)).heap.size ((w.alloc (.cells (jan V t) 35)).alloc (.cells (jan V t) 93)) w':=by
  rcases jaX t.ts id with ⟨k,hk,he,hl,ha⟩ | ⟨hl,ha⟩
  ·obtain ⟨b,off,hA,_⟩:=ht k hk;rw [hA] at ht;have hc0:=hc.1;rw [hA] at hc0;exact ⟨_,by rw [ha];rfl,jj8 (w.heap.size + 1) b off V.c1 t.ts id k _ hc0 hm ht hk he hl⟩
  ·exact ⟨_,by rw [ha];rfl,jmR (w.heap.size + 1) V.A1 V.c1 t.ts id _ hc.1 hm ht hl⟩
 obtain ⟨v,hv,H⟩:=H;rw [<- hv];have HC:=Lib.hid H;unfold jan at HC hb1 ⊢;clear H hc hn1 ht hb0 hs1 h hv;cases v with
 | none =>
  go_enter Tryz.func124,Tryz.ntmps124
  go_wp2_with (go_at_call 91;with_reducible (refine Calls.mono HC.out ?_);rintro e w2 ⟨rfl,hb2⟩)
  go_ret;exact ⟨rfl,jaa hb1 hb2⟩
 | some a =>
  go_enter Tryz.func124,Tryz.ntmps124
  go_wp2_with (go_at_call 91;with_reducible (refine Calls.mono HC.out ?_);rintro e w2 ⟨rfl,hb2⟩)
  go_ret;exact ⟨rfl,jaa hb1 hb2⟩
theorem jnH (V:jat) (t:Tab) (id:Int) (w:World) (h:jao w w.heap.size V t) (hm:t.os.length<=9223372036854775807) (h1:¬ id < 1) (h2:¬ id > 7) :
  Calls Tryz.prog 95 #[.agg (jan V t),.int .i64 id] w fun e w'=>e=.returned (.int .i64 (ja0 t.os id:Nat))/\Below w.heap.size w w':=by
 obtain ⟨F0,F1,F2,hb0⟩:=jca w (.slice V.A1 t.ts.length V.c1) (.slice V.A2 t.vs.length V.c2) (.slice V.A3 t.os.length V.c3) 35;have HT:=Lib.hid (h.os.below hb0);have hle:=h.l3;obtain ⟨ts,vs,os⟩:=t;obtain ⟨A1,c1,A2,c2,A3,c3⟩:=V;simp only [jan] at F0 F1 F2 hb0 HT hle hm ⊢;obtain ⟨N1,hN1⟩:∃ N,N=ts.length:=⟨_,rfl⟩;obtain ⟨N2,hN2⟩:∃ N,N=vs.length:=⟨_,rfl⟩;obtain ⟨N,hN⟩:∃ N,N=os.length:=⟨_,rfl⟩;have HN:=Lib.hid hN;have hin:inR id 1 7:=by unfold inR;omega
 have HST:Hid (∀ k,k < N->ja0 (os.take (k + 1)) id=ja0 (os.take k) id + (if os.getD k 0=id then 1 else 0)):=fun k hk=>by
  rw [jia (hN ▸ hk) id];by_cases he:os.getD k 0=id
  ·rw [if_pos ⟨he,hin⟩,if_pos he]
  ·rw [if_neg (fun q=>he q.1),if_neg he]
 have HEN:Hid (ja0 (os.take N) id=ja0 os id):=by rw [hN];show ja0 (os.take os.length) id=_;rw [List.take_length]
 have HLE:Hid (∀ k,ja0 (os.take k) id<=k):=fun k=>Nat.le_trans (jiU _ _) (by rw [List.length_take];omega)
 rw [<- hN1,<- hN2,<- hN] at F0 F1 F2 hb0 ⊢;rw [<- hN] at hm hle;simp only [<- hN1,<- hN2,<- hN] at HT;obtain ⟨W0,hW0⟩:∃ W,W=w.alloc (.cells #[.slice A1 N1 c1,.slice A2 N2 c2,.slice A3 N c3] 35):=⟨_,rfl⟩;rw [<- hW0] at F0 F1 F2 hb0 HT;clear h hN hN1 hN2 hin;go_enter Tryz.func95,Tryz.ntmps95;go_wp2;rw [<- hW0];clear hW0
 go_loopw [5,17] (fun n i wr=>∃ k c:Nat,k<=N/\i=.int .i64 k/\n=.int .i64 c/\Hid (c=ja0 (os.take k) id)/\wr=W0) (fun _ i _=>N - (intOf i).toNat)
 case atStart=>exact ⟨0,0,Nat.zero_le _,rfl,rfl,(jh1 id).symm,rfl⟩
 case round =>
  obtain ⟨k,c,hk,rfl,rfl,hc,rfl⟩:=hrel;have k0:(0:Int)<=(k:Int):=by omega
  have hck:c<=k:=by rw [hc.out];exact HLE.out k
  by_cases hlt:k < N
  ·have k1:(k:Int) < (N:Int):=by omega
   obtain ⟨b,off,rfl,_,q0⟩:=HT.out k (by have:=HN.out;omega);by_cases he:os.getD k 0=id
   ·have HC:Hid (c + 1=ja0 (os.take (k + 1)) id):=by unfold Hid;rw [HST.out k hlt,if_pos he,hc.out]
    have d:(os.getD k 0 == id)=true:=beq_iff_eq.2 he;obtain ⟨p,hp⟩:∃ p,p=os.getD k 0:=⟨_,rfl⟩;rw [<- hp] at q0 d;clear hp he;go_wp2;go_roundw
    case rel=>exact ⟨k + 1,c + 1,by omega,by go_num,by go_num,HC,by first | rfl | trivial⟩
    case measure=>first | (simp [intOf];done) | (simp [intOf];omega)
   ·have HC:Hid (c=ja0 (os.take (k + 1)) id):=by unfold Hid;rw [HST.out k hlt,if_neg he,hc.out];rfl
    have d:(os.getD k 0 == id)=false:=beq_eq_false_iff_ne.2 he;obtain ⟨p,hp⟩:∃ p,p=os.getD k 0:=⟨_,rfl⟩;rw [<- hp] at q0 d;clear hp he;go_wp2;go_roundw
    case rel=>exact ⟨k + 1,c,by omega,by go_num,by first | rfl | go_num,HC,by first | rfl | trivial⟩
    case measure=>first | (simp [intOf];done) | (simp [intOf];omega)
  ·have hkN:k=N:=by omega
   have HE:Hid (c=ja0 os id):=by rw [hc.out,hkN];exact HEN.out
   have k1:¬ (k:Int) < (N:Int):=by omega
   clear hkN;go_wp2;go_ret;exact ⟨by rw [<- HE.out];rfl,hb0⟩
theorem jdu (V:jat) (t:Tab) (id:Int) (w:World) (h:jao w w.heap.size V t) (hm:t.os.length<=9223372036854775807) :
  Calls Tryz.prog 95 #[.agg (jan V t),.int .i64 id] w fun e w'=>e=.returned (.int .i64 (ja0 t.os id:Nat))/\Below w.heap.size w w':=by
 by_cases h1:id < 1
 ·rw [show ja0 t.os id=0 from if_neg (by omega)];have hb0:Below w.heap.size w (w.alloc (.cells (jan V t) 35)):=(Below.refl _ _).alloc (Nat.le_refl _) _;clear h hm;go_enter Tryz.func95,Tryz.ntmps95;go_wp2;go_ret;exact ⟨rfl,hb0⟩
 ·by_cases h2:id > 7
  ·rw [show ja0 t.os id=0 from if_neg (by omega)];have hb0:Below w.heap.size w (w.alloc (.cells (jan V t) 35)):=(Below.refl _ _).alloc (Nat.le_refl _) _;clear h hm;go_enter Tryz.func95,Tryz.ntmps95;go_wp2;go_ret;exact ⟨rfl,hb0⟩
  ·exact jnH V t id w h hm h1 h2
theorem jna (x:Ten):jaf ⟨1,x.id,x.quota,x.rate,x.burst,x.key⟩↔x.plain:=by
 unfold jaf jbo inR;simp only [reduceIte];exact ⟨fun ⟨a,b,c,d,e⟩=>⟨a,b,c,d,e⟩,fun ⟨a,b,c,d,e⟩=>⟨a,b,c,d,e⟩⟩
def jja (ts:List Ten):Nat->Int
 | 0=>0
 | k + 1=>(ts[k]?.map Ten.id).getD 0
def jgd (ts:List Ten) (k:Nat):Prop:=∃ h:k < ts.length,jja ts k < ts[k].id/\ts[k].plain
theorem jev {ts:List Ten} {k:Nat} (h:k < ts.length):jja ts (k + 1)=ts[k].id:=by
 show (ts[k]?.map Ten.id).getD 0=_;rw [List.getElem?_eq_getElem h];rfl
theorem jjh {ts:List Ten} : ∀ k,k<=ts.length->(∀ j,j < k->jgd ts j)->(∀ x∈ts.take k,x.plain/\x.id<=jja ts k)/\(ts.take k).Pairwise (fun x y=>x.id < y.id)
 | 0,_,_=>⟨fun x hx=>absurd hx (by simp),by simp⟩
 | k + 1,hk,h=>by
  obtain ⟨i1,i2⟩:=jjh k (by omega) fun j hj=>h j (by omega)
  obtain ⟨hk2,g1,g2⟩:=h k (by omega);rw [List.take_succ_eq_append_getElem hk2,jev hk2];refine ⟨fun x hx=>?_,List.pairwise_append.2 ⟨i2,by simp,fun x hx y hy=>?_⟩⟩
  ·rcases List.mem_append.1 hx with hx | hx
   ·obtain ⟨a,b⟩:=i1 x hx;exact ⟨a,by omega⟩
   ·rw [List.mem_singleton] at hx;subst hx;exact ⟨g2,Int.le_refl _⟩
  ·rw [List.mem_singleton] at hy;subst hy;have:=(i1 x hx).2;omega
theorem jhH {ts:List Ten} : (∀ j,j < ts.length->jgd ts j)↔(∀ x∈ts,x.plain)/\ts.Pairwise (fun x y=>x.id < y.id):=by
 constructor
 ·intro h;obtain ⟨a,b⟩:=jjh ts.length (Nat.le_refl _) h;rw [List.take_length] at a b;exact ⟨fun x hx=>(a x hx).1,b⟩
 ·rintro ⟨h1,h2⟩ j hj;refine ⟨hj,?_,h1 _ (List.getElem_mem hj)⟩;cases j with
  | zero=>have:=(h1 _ (List.getElem_mem hj)).id;show (0:Int) < _;omega
  | succ j =>
   rw [jev (by omega)];exact List.pairwise_iff_getElem.1 h2 j (j + 1) (by omega) hj (Nat.lt_succ_self j)
theorem jnC {ts:List Ten} {k:Nat} (hk:k<=ts.length) (h:∀ j,j < k->jgd ts j):k<=7/\0<=jbp (ts.take k)/\jbp (ts.take k)<=64 * k:=by
 obtain ⟨a,b⟩:=jjh k hk h;have h1:=jdF Ten.id 7 1 b (fun x hx=>(a x hx).1.id) (by omega);rw [List.length_take,Nat.min_eq_left hk] at h1;have h2:=jb3 (ts:=ts.take k) (fun x hx=>(a x hx).1.quota) k;rw [List.take_take,Nat.min_self] at h2;exact ⟨by omega,h2.1,h2.2⟩
theorem jg9 (V:jat) (t:Tab) (w:World) (h:jao w w.heap.size V t) (hm:t.ts.length<=9223372036854775807) (S:Bool) (hS:S=true↔(∀ j,j < t.ts.length->jgd t.ts j)/\jbp t.ts<=t.os.length) :
  Calls Tryz.prog 88 #[.agg (jan V t)] w fun e w'=>e=.returned (.bool S)/\Below w.heap.size w w':=by
 obtain ⟨F0,F1,F2,hb0⟩:=jca w (.slice V.A1 t.ts.length V.c1) (.slice V.A2 t.vs.length V.c2) (.slice V.A3 t.os.length V.c3) 35;have ht:=h.ts;obtain ⟨ts,vs,os⟩:=t;obtain ⟨A1,c1,A2,c2,A3,c3⟩:=V;simp only [jan] at F0 F1 F2 hb0 ht hm hS ⊢;have HS:=Lib.hid hS;have HFEW:Hid (∀ k,k<=ts.length->(∀ j,j < k->jgd ts j)->k<=7/\0<=jbp (ts.take k)/\jbp (ts.take k)<=64 * k):=fun k a b=>jnC a b
 have HSQ:Hid (∀ k,(h:k < ts.length)->jbp (ts.take (k + 1))=jbp (ts.take k) + ts[k].quota):=fun k h=>jd6 h
 have HEND:Hid (jbp (ts.take ts.length)=jbp ts):=by show jbp (ts.take ts.length)=_;rw [List.take_length]
 have HLT:Hid (∀ k,(h:k < ts.length)->jja ts (k + 1)=ts[k].id):=fun k h=>jev h
 have HGO:Hid (∀ k,(h:k < ts.length)->(jgd ts k↔jja ts k < ts[k].id/\ts[k].plain)):=fun k h=>⟨fun ⟨_,q⟩=>q,fun q=>⟨h,q⟩⟩
 obtain ⟨W0,hW0⟩:∃ W,W=w.alloc (.cells #[.slice A1 ts.length c1,.slice A2 vs.length c2,.slice A3 os.length c3] 35):=⟨_,rfl⟩;rw [<- hW0] at F0 F1 F2 hb0;have HT:Hid (∀ X,Below W0.heap.size W0 X->jbb X W0.heap.size A1 ts):=fun X hb=>((ht.below (jaa hb0 hb)).more hb0.size)
 have hlt0:=World.block_lt_of_cell? W0 _ F0;have HF2:Hid (∀ X,Below W0.heap.size W0 X->X.cell? ⟨w.heap.size,2,none⟩=some (.slice A3 os.length c3)):=fun X hb=>(hb.cell (p:=⟨w.heap.size,2,none⟩) hlt0).trans F2
 have HB0:=Lib.hid hb0;obtain ⟨N,hN⟩:∃ N,N=ts.length:=⟨_,rfl⟩;obtain ⟨N3,hN3⟩:∃ N,N=os.length:=⟨_,rfl⟩;have HN:=Lib.hid hN;rw [<- hN] at F0 hm HS HEND ⊢;rw [<- hN3] at F2 HF2 HS ⊢;rw [<- hN,<- hN3] at hW0;clear h hN hN3 ht hS hlt0 hb0;go_enter Tryz.func88,Tryz.ntmps88
 go_wp2_with fail
 rw [<- hW0];clear hW0
 go_loopw [3,4,10] (fun l q i wr=>∃ k:Nat,∃ z c:Int,k<=N/\i=.int .i64 k/\l=.int .i64 z/\q=.int .i64 c/\Hid (z=jja ts k/\c=jbp (ts.take k)/\∀ j,j < k->jgd ts j)/\Hid (Below W0.heap.size W0 wr)) (fun _ _ i _=>N - (intOf i).toNat)
 case atStart=>exact ⟨0,0,0,Nat.zero_le _,rfl,rfl,rfl,⟨rfl,rfl,fun j hj=>absurd hj (Nat.not_lt_zero j)⟩,Below.refl _ _⟩
 case round =>
  obtain ⟨k,z,c,hk,rfl,rfl,rfl,hI,hB⟩:=hrel;have k0:(0:Int)<=(k:Int):=by omega
  obtain ⟨fw1,fw2,fw3⟩:=HFEW.out k (by have:=HN.out;omega) hI.out.2.2;rw [<- hI.out.2.1] at fw2 fw3;clear F0 F1 F2;by_cases hlt:k < N
  ·have k1:(k:Int) < (N:Int):=by omega
   have hkx:k < ts.length:=by have:=HN.out;omega
   obtain ⟨b,off,rfl,_,q0,q1,q2,q3,q4,q5⟩:=HT.out wr hB.out k hkx;have hgo:=HGO.out k hkx;have hsq:=HSQ.out k hkx;have hls:=HLT.out k hkx;have h1:=fun W=>jgm ts[k] W
   have h2:=fun W=>jdG ⟨1,ts[k].id,ts[k].quota,ts[k].rate,ts[k].burst,ts[k].key⟩ W
   have hfp:=jna ts[k];obtain ⟨x,hx⟩:∃ x,x=ts[k]:=⟨_,rfl⟩;rw [<- hx] at q0 q1 q2 q3 q4 q5 hgo hsq hls h1 h2 hfp;clear hx HT HGO HSQ HLT HEND HFEW;have hq:=fun (h:x.plain)=>h.quota
   obtain ⟨p0,p1,p2,p3,p4,p5⟩:=x;simp only [jcQ,rcV] at h1 h2;simp only at q0 q1 q2 q3 q4 q5 hgo hsq hls hfp hq;by_cases hle:p0<=z
   ·have HNO:Hid (S=false):=by
     cases hs:S with
     | false=>rfl
     | true =>
      have:=(hgo.1 ((HS.out.1 hs).1 k hlt)).1;have:=hI.out.1;omega
    have d:decide (p0<=z)=true:=decide_eq_true hle;clear hgo hsq hls h1 h2 hle hq hfp HS;go_wp2;go_ret;exact ⟨by rw [HNO.out];rfl,jaa HB0.out (hB.out.alloc hB.out.size _)⟩
   ·have d:decide (p0<=z)=false:=decide_eq_false hle;by_cases hf:jaf ⟨1,p0,p1,p2,p3,p4⟩
    ·have hp:=hfp.1 hf;obtain ⟨hq1,hq2⟩:=hq hp;have H1:=Lib.hid h1;have H2:Hid (∀ W,Calls Tryz.prog 38 #[.agg #[.int .i64 1,.int .i64 p0,.int .i64 p1,.int .i64 p2,.int .i64 p3,.string p4]] W fun e w'=>e=.returned (.bool true)/\Below W.heap.size W w'):=fun W=>by have:=h2 W;rwa [decide_eq_true hf] at this
     have HI2:Hid (p0=jja ts (k + 1)/\c + p1=jbp (ts.take (k + 1))/\∀ j,j < k + 1->jgd ts j):=⟨hls.symm,by rw [hsq,<- hI.out.2.1],fun j hj=>by
      rcases Nat.lt_or_ge j k with q | q
      ·exact hI.out.2.2 j q
      ·rw [show j=k by omega];exact hgo.2 ⟨by have:=hI.out.1;omega,hp⟩⟩
     have v:IntKind.i64.wrap (c + p1)=c + p1:=IntWalk.i64_in _ (by omega)
     have HX:Hid (∀ W:World,Below (wr.alloc (.cells #[.int .i64 p0,.int .i64 p1,.int .i64 p2,.int .i64 p3,.string p4,.bool p5] 52)).heap.size (wr.alloc (.cells #[.int .i64 p0,.int .i64 p1,.int .i64 p2,.int .i64 p3,.string p4,.bool p5] 52)) W ->
       (W.cell? ⟨wr.heap.size,0,none⟩=some (.int .i64 p0)/\W.cell? ⟨wr.heap.size,1,none⟩=some (.int .i64 p1)/\W.cell? ⟨wr.heap.size,2,none⟩=some (.int .i64 p2)/\W.cell? ⟨wr.heap.size,3,none⟩=some (.int .i64 p3)/\W.cell? ⟨wr.heap.size,4,none⟩=some (.string p4)/\W.cell? ⟨wr.heap.size,5,none⟩=some (.bool p5))):=fun W hb=>jbz ((hb.block _ (by simp)).trans (heap_alloc_new wr _))
     have hb1:Below wr.heap.size wr (wr.alloc (.cells #[.int .i64 p0,.int .i64 p1,.int .i64 p2,.int .i64 p3,.string p4,.bool p5] 52)):=(Below.refl _ _).alloc (Nat.le_refl _) _;clear hgo hsq hls h1 h2 hle hf hp hfp HS hI hq
     go_wp2_with (first
      | (go_at_call 107;with_reducible (refine Calls.mono (H1.out _) ?_);rintro e w1 ⟨rfl,hb2⟩)
      | (go_at_call 38;with_reducible (refine Calls.mono (H2.out _) ?_);rintro e w2 ⟨rfl,hb3⟩
         have hb4:=jaa hb2 hb3;obtain ⟨x0,x1,x2,x3,x4,x5⟩:=HX.out _ hb4))
     have R:=Lib.hid (jaa hB.out (jaa hb1 hb4));clear hB hb1 hb2 hb3 hb4 x0 x1 x2 x3 x4 x5 HX;go_roundw
     case rel=>exact ⟨k + 1,p0,c + p1,by omega,by go_num,by first | rfl | go_num,by first | rfl | go_num,HI2,R⟩
     case measure=>first | (simp [intOf];done) | (simp [intOf];omega)
    ·have HNO:Hid (S=false):=by
      cases hs:S with
      | false=>rfl
      | true=>exact absurd (hfp.2 (hgo.1 ((HS.out.1 hs).1 k hlt)).2) hf
     have H1:=Lib.hid h1;have H2:Hid (∀ W,Calls Tryz.prog 38 #[.agg #[.int .i64 1,.int .i64 p0,.int .i64 p1,.int .i64 p2,.int .i64 p3,.string p4]] W fun e w'=>e=.returned (.bool false)/\Below W.heap.size W w'):=fun W=>by have:=h2 W;rwa [decide_eq_false hf] at this
     have hb1:Below wr.heap.size wr (wr.alloc (.cells #[.int .i64 p0,.int .i64 p1,.int .i64 p2,.int .i64 p3,.string p4,.bool p5] 52)):=(Below.refl _ _).alloc (Nat.le_refl _) _;clear hgo hsq hls h1 h2 hle hf hfp HS hI hq
     go_wp2_with (first
      | (go_at_call 107;with_reducible (refine Calls.mono (H1.out _) ?_);rintro e w1 ⟨rfl,hb2⟩)
      | (go_at_call 38;with_reducible (refine Calls.mono (H2.out _) ?_);rintro e w2 ⟨rfl,hb3⟩))
     go_ret;exact ⟨by rw [HNO.out];rfl,jaa HB0.out (jaa hB.out (jaa hb1 (jaa hb2 hb3)))⟩
  ·have hkN:k=N:=by omega
   subst hkN;have k1:¬ (k:Int) < (k:Int):=by omega
   have f2:=HF2.out wr hB.out;have hc2:c=jbp ts:=by rw [hI.out.2.1,HEND.out]
   have HE:Hid (S=decide (c<=(N3:Int))):=by
    show S=_;rw [Bool.eq_iff_iff,HS.out,decide_eq_true_iff,<- hc2];exact ⟨fun q=>q.2,fun q=>⟨hI.out.2.2,q⟩⟩
   clear hc2 HT HGO HSQ HLT HEND HFEW;go_wp2;go_ret;exact ⟨by rw [HE.out];rfl,jaa HB0.out hB.out⟩
end Go.Proofs.YtbnhkplhmanmoaaGreat
