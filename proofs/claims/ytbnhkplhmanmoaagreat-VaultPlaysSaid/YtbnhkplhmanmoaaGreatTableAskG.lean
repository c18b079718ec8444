/- . -/
import Derived.Test.YtbnhkplhmanmoaaGreatLineNumsG
import Derived.Test.YtbnhkplhmanmoaaGreatChecked
import Derived.BigQuiet
import Derived.Test.YtbnhkplhmanmoaaGreatTkG
import Derived.Tactics
import Derived.Tactics2
import Derived.LoopTactic
import Derived.OpenShut
import Derived.WalkLawsBesides
import Derived.Test.YtbnhkplhmanmoaaGreatTableBackNG
namespace Go.Proofs.YtbnhkplhmanmoaaGreat
open Go.RowKit
def jbb (w:World) (B:Nat) (A:Option Addr) (ts:List Ten):Prop :=
 ∀ k,(h:k < ts.length)->∃ b off,A=some ⟨b,off,none⟩/\b < B/\w.cell? ⟨b,off + k * 6,none⟩=some (.int .i64 ts[k].id)/\w.cell? ⟨b,off + k * 6 + 1,none⟩=some (.int .i64 ts[k].quota)/\w.cell? ⟨b,off + k * 6 + 2,none⟩=some (.int .i64 ts[k].rate) /\
  w.cell? ⟨b,off + k * 6 + 3,none⟩=some (.int .i64 ts[k].burst)/\w.cell? ⟨b,off + k * 6 + 4,none⟩=some (.string ts[k].key)/\w.cell? ⟨b,off + k * 6 + 5,none⟩=some (.bool ts[k].dying)
def jbc (w:World) (B:Nat) (A:Option Addr) (vs:List Vol):Prop :=
 ∀ k,(h:k < vs.length)->∃ b off,A=some ⟨b,off,none⟩/\b < B/\w.cell? ⟨b,off + k * 4,none⟩=some (.int .i64 vs[k].id)/\w.cell? ⟨b,off + k * 4 + 1,none⟩=some (.int .i64 vs[k].ten)/\w.cell? ⟨b,off + k * 4 + 2,none⟩=some (.int .i64 vs[k].blocks)/\w.cell? ⟨b,off + k * 4 + 3,none⟩=some (.int .i64 vs[k].base)
section
variable {w w':World} {B B':Nat} {A:Option Addr} {ts:List Ten} {vs:List Vol}
theorem jbb.below (h:jbb w B A ts) (hb:Below B w w'):jbb w' B A ts:=fun k hk=>by
 obtain ⟨b,off,e,hl,c0,c1,c2,c3,c4,c5⟩:=h k hk;exact ⟨b,off,e,hl,(hb.cell (p:=⟨b,_,none⟩) hl).trans c0,(hb.cell (p:=⟨b,_,none⟩) hl).trans c1,(hb.cell (p:=⟨b,_,none⟩) hl).trans c2,(hb.cell (p:=⟨b,_,none⟩) hl).trans c3,(hb.cell (p:=⟨b,_,none⟩) hl).trans c4,(hb.cell (p:=⟨b,_,none⟩) hl).trans c5⟩
theorem jbb.more (h:jbb w B A ts) (hB:B<=B'):jbb w B' A ts:=fun k hk=>by
 obtain ⟨b,off,e,hl,h'⟩:=h k hk;exact ⟨b,off,e,by omega,h'⟩
theorem jbb.nil (w:World) (B:Nat) (A:Option Addr):jbb w B A []:=fun _ h=>absurd h (Nat.not_lt_zero _)
theorem jbc.below (h:jbc w B A vs) (hb:Below B w w'):jbc w' B A vs:=fun k hk=>by
 obtain ⟨b,off,e,hl,c0,c1,c2,c3⟩:=h k hk;exact ⟨b,off,e,hl,(hb.cell (p:=⟨b,_,none⟩) hl).trans c0,(hb.cell (p:=⟨b,_,none⟩) hl).trans c1,(hb.cell (p:=⟨b,_,none⟩) hl).trans c2,(hb.cell (p:=⟨b,_,none⟩) hl).trans c3⟩
theorem jbc.more (h:jbc w B A vs) (hB:B<=B'):jbc w B' A vs:=fun k hk=>by
 obtain ⟨b,off,e,hl,h'⟩:=h k hk;exact ⟨b,off,e,by omega,h'⟩
theorem jbc.nil (w:World) (B:Nat) (A:Option Addr):jbc w B A []:=fun _ h=>absurd h (Nat.not_lt_zero _)
end
structure jat where
 A1:Option Addr
 c1:Nat
 A2:Option Addr
 c2:Nat
 A3:Option Addr
 c3:Nat
def jan (V:jat) (t:Tab):Array Value:=#[.slice V.A1 t.ts.length V.c1,.slice V.A2 t.vs.length V.c2,.slice V.A3 t.os.length V.c3]
structure Ten.ok (x:Ten):Prop where
 id:jdD x.id
 quota:jdD x.quota
 rate:jdD x.rate
 burst:jdD x.burst
 key:x.key.size<=9223372036854775807
structure Vol.ok (x:Vol):Prop where
 id:jdD x.id
 ten:jdD x.ten
 blocks:jdD x.blocks
 base:jdD x.base
structure Tab.ok (t:Tab):Prop where
 ts:∀ x∈t.ts,x.ok
 vs:∀ x∈t.vs,x.ok
 os:∀ x∈t.os,jdD x
 nt:t.ts.length<=9223372036854775807
 nv:t.vs.length<=9223372036854775807
 no:t.os.length<=9223372036854775807
structure jao (w:World) (B:Nat) (V:jat) (t:Tab):Prop where
 ts:jbb w B V.A1 t.ts
 vs:jbc w B V.A2 t.vs
 os:jaO w B .i64 V.A3 t.os
 l1:t.ts.length<=V.c1
 l2:t.vs.length<=V.c2
 l3:t.os.length<=V.c3
theorem jao.below {w w':World} {B:Nat} {V:jat} {t:Tab} (h:jao w B V t) (hb:Below B w w'):jao w' B V t:=⟨h.ts.below hb,h.vs.below hb,h.os.below hb,h.l1,h.l2,h.l3⟩
theorem jao.more {w:World} {B B':Nat} {V:jat} {t:Tab} (h:jao w B V t) (hB:B<=B'):jao w B' V t:=⟨h.ts.more hB,h.vs.more hB,h.os.more hB,h.l1,h.l2,h.l3⟩
def jdI (ts:List Ten) (id:Int):Int:=if ts.findIdx (fun x=>decide (x.id=id)) < ts.length then (ts.findIdx fun x=>decide (x.id=id):Nat) else -1
def jhs (vs:List Vol) (id:Int):Int:=if vs.findIdx (fun x=>decide (x.id=id)) < vs.length then (vs.findIdx fun x=>decide (x.id=id):Nat) else -1
theorem jgq {α:Type} {p:α->Bool} {l:List α} {k:Nat} (hk:k < l.length) (hp:p l[k]=true) (hlt:∀ j,(h:j < k)->p (l[j]'(by omega))=false):l.findIdx p=k:=by
 rw [List.findIdx_eq hk];exact ⟨hp,fun j hj=>hlt j hj⟩
theorem jgr {α:Type} {p:α->Bool} {l:List α} (h:∀ j,(h:j < l.length)->p l[j]=false):¬ l.findIdx p < l.length:=fun hlt=>by
 have h1:=List.findIdx_getElem (w:=hlt);rw [h _ hlt] at h1;cases h1
theorem jdX {ts:List Ten} {id:Int} {k:Nat} (hk:k < ts.length) (he:ts[k].id=id) (hlt:∀ j,(h:j < ts.length)->j < k->ts[j].id≠id):jdI ts id=k:=by
 have e:=jgq (p:=fun x:Ten=>decide (x.id=id)) hk (decide_eq_true he) fun j hj=>decide_eq_false (hlt j (by omega) hj)
 unfold jdI;rw [e,if_pos hk]
theorem jdU {ts:List Ten} {id:Int} (h:∀ j,(h:j < ts.length)->ts[j].id≠id):jdI ts id = -1:=by
 have e:=jgr (p:=fun x:Ten=>decide (x.id=id)) (l:=ts) fun j hj=>decide_eq_false (h j hj)
 unfold jdI;rw [if_neg e]
theorem jiI {ts:List Vol} {id:Int} {k:Nat} (hk:k < ts.length) (he:ts[k].id=id) (hlt:∀ j,(h:j < ts.length)->j < k->ts[j].id≠id):jhs ts id=k:=by
 have e:=jgq (p:=fun x:Vol=>decide (x.id=id)) hk (decide_eq_true he) fun j hj=>decide_eq_false (hlt j (by omega) hj)
 unfold jhs;rw [e,if_pos hk]
theorem jiQ {ts:List Vol} {id:Int} (h:∀ j,(h:j < ts.length)->ts[j].id≠id):jhs ts id = -1:=by
 have e:=jgr (p:=fun x:Vol=>decide (x.id=id)) (l:=ts) fun j hj=>decide_eq_false (h j hj)
 unfold jhs;rw [if_neg e]
set_option maxHeartbeats 6400000
set_option maxRecDepth 20000
theorem jca (w:World) (x y z:Value) (T:TypeId):(w.alloc (.cells #[x,y,z] T)).cell? ⟨w.heap.size,0,none⟩=some x/\(w.alloc (.cells #[x,y,z] T)).cell? ⟨w.heap.size,1,none⟩=some y/\(w.alloc (.cells #[x,y,z] T)).cell? ⟨w.heap.size,2,none⟩=some z/\Below w.heap.size w (w.alloc (.cells #[x,y,z] T)):=by
 have h:=heap_alloc_new w (.cells #[x,y,z] T);exact ⟨by rw [cell_of_row _ _ _ _ _ _ h];rfl,by rw [cell_of_row _ _ _ _ _ _ h];rfl,by rw [cell_of_row _ _ _ _ _ _ h];rfl,(Below.refl _ _).alloc (Nat.le_refl _) _⟩
theorem jb5 (V:jat) (t:Tab) (id:Int) (w:World) (h:jao w w.heap.size V t) (hm:t.ts.length<=9223372036854775807) :
  Calls Tryz.prog 46 #[.agg (jan V t),.int .i64 id] w fun e w'=>e=.returned (.int .i64 (jdI t.ts id))/\Below w.heap.size w w':=by
 obtain ⟨F0,F1,F2,hb0⟩:=jca w (.slice V.A1 t.ts.length V.c1) (.slice V.A2 t.vs.length V.c2) (.slice V.A3 t.os.length V.c3) 35;have HT:=Lib.hid (h.ts.below hb0);have hle:=h.l1;obtain ⟨ts,vs,os⟩:=t;obtain ⟨A1,c1,A2,c2,A3,c3⟩:=V;simp only [jan] at F0 F1 F2 hb0 HT hle hm ⊢;obtain ⟨N,hN⟩:∃ N,N=ts.length:=⟨_,rfl⟩;obtain ⟨N2,hN2⟩:∃ N,N=vs.length:=⟨_,rfl⟩;obtain ⟨N3,hN3⟩:∃ N,N=os.length:=⟨_,rfl⟩;rw [<- hN,<- hN2,<- hN3] at F0 F1 F2 hb0 ⊢;rw [<- hN] at hm hle;simp only [<- hN,<- hN2,<- hN3] at HT;have HN:=Lib.hid hN;obtain ⟨W0,hW0⟩:∃ W,W=w.alloc (.cells #[.slice A1 N c1,.slice A2 N2 c2,.slice A3 N3 c3] 35):=⟨_,rfl⟩;have HW:=Lib.hid hW0;rw [<- hW0] at F0 F1 F2 hb0 HT;clear h hN hN2 hN3;go_enter Tryz.func46,Tryz.ntmps46;go_wp2;rw [<- hW0];clear hW0
 go_loopw [5] (fun i wr=>∃ k:Nat,k<=N/\i=.int .i64 k/\Hid (∀ j,(h:j < ts.length)->j < k->ts[j].id≠id)/\wr=W0) (fun i _=>N - (intOf i).toNat)
 case atStart=>exact ⟨0,Nat.zero_le _,rfl,fun j _ hj=>absurd hj (Nat.not_lt_zero j),rfl⟩
 case round =>
  obtain ⟨k,hk,rfl,hall,rfl⟩:=hrel;have k0:(0:Int)<=(k:Int):=by omega
  by_cases hlt:k < N
  ·have hkx:k < ts.length:=by have:=HN.out;omega
   have k1:(k:Int) < (N:Int):=by omega
   obtain ⟨b,off,rfl,_,q0,_⟩:=HT.out k hkx;by_cases he:ts[k].id=id
   ·have HE:=Lib.hid (jdX hkx he hall.out);obtain ⟨p,hp⟩:∃ p,p=ts[k].id:=⟨_,rfl⟩;rw [<- hp] at q0 he;have d:(p == id)=true:=beq_iff_eq.2 he;clear hp he;go_wp2;go_ret;exact ⟨by rw [HE.out];rfl,hb0⟩
   ·have HYES:Hid (∀ j,(h:j < ts.length)->j < k + 1->ts[j].id≠id):=fun j hj hj2=>by
     rcases Nat.lt_or_ge j k with g | g
     ·exact hall.out j hj g
     ·have:j=k:=by omega
      subst this;exact he
    obtain ⟨p,hp⟩:∃ p,p=ts[k].id:=⟨_,rfl⟩;rw [<- hp] at q0 he;have d:(p == id)=false:=beq_eq_false_iff_ne.2 he;clear hp he;go_wp2;go_roundw
    case rel=>exact ⟨k + 1,by omega,by go_num,HYES,by first | rfl | trivial⟩
    case measure=>first | (simp [intOf];done) | (simp [intOf];omega)
  ·have hkN:k=N:=by omega
   have HE:Hid (jdI ts id = -1):=jdU fun j hj=>hall.out j hj (by have:=HN.out;omega)
   have k1:¬ (k:Int) < (N:Int):=by omega
   clear hkN;go_wp2;go_ret;exact ⟨by rw [HE.out];rfl,hb0⟩
theorem jag (n a b:Int) (w:World):Calls Tryz.prog 43 #[.int .i64 n,.int .i64 a,.int .i64 b] w fun e w'=>e=.returned (.bool (decide (inR n a b)))/\w=w':=by
 by_cases h0:a<=n
 ·by_cases h1:n<=b
  ·rw [decide_eq_true (show inR n a b from ⟨h0,h1⟩)];have d0:decide (a<=n)=true:=decide_eq_true h0;have d1:decide (n<=b)=true:=decide_eq_true h1;go_enter Tryz.func43,Tryz.ntmps43;go_wp2;go_ret;exact ⟨rfl,rfl⟩
  ·rw [decide_eq_false (show ¬ inR n a b from fun h=>by unfold inR at h;omega)];have d0:decide (a<=n)=true:=decide_eq_true h0;have d1:decide (n<=b)=false:=decide_eq_false h1;go_enter Tryz.func43,Tryz.ntmps43;go_wp2;go_ret;exact ⟨rfl,rfl⟩
 ·rw [decide_eq_false (show ¬ inR n a b from fun h=>by unfold inR at h;omega)];have d0:decide (a<=n)=false:=decide_eq_false h0;go_enter Tryz.func43,Tryz.ntmps43;go_wp2;go_ret;exact ⟨rfl,rfl⟩
def jcC (id q r b:Int) (s:ByteArray):Prop:=inR id 1 7/\inR q 1 64/\inR r 0 4294967296/\inR b 1 64/\s.size=16
instance (id q r b:Int) (s:ByteArray):Decidable (jcC id q r b s):=by unfold jcC;infer_instance
theorem jeW (id q r b:Int) (s:ByteArray) (w:World):Calls Tryz.prog 44 #[.int .i64 id,.int .i64 q,.int .i64 r,.int .i64 b,.string s] w fun e w'=>e=.returned (.bool (decide (jcC id q r b s)))/\w=w':=by
 have H1:=Lib.hid (fun W=>jag id 1 7 W);have H2:=Lib.hid (fun W=>jag q 1 64 W);have H3:=Lib.hid (fun W=>jag r 0 4294967296 W);have H4:=Lib.hid (fun W=>jag b 1 64 W)
 have he:decide (jcC id q r b s)=(decide (inR id 1 7) && decide (inR q 1 64) && decide (inR r 0 4294967296) && decide (inR b 1 64) && decide (s.size=16)):=by
  rw [Bool.eq_iff_iff,decide_eq_true_iff];simp [jcC,and_assoc]
 have HE:=Lib.hid he;clear he;obtain ⟨P,hP⟩:∃ P,P=decide (jcC id q r b s):=⟨_,rfl⟩;rw [<- hP] at HE ⊢;obtain ⟨p1,hp1⟩:∃ P,P=decide (inR id 1 7):=⟨_,rfl⟩;obtain ⟨p2,hp2⟩:∃ P,P=decide (inR q 1 64):=⟨_,rfl⟩;obtain ⟨p3,hp3⟩:∃ P,P=decide (inR r 0 4294967296):=⟨_,rfl⟩;obtain ⟨p4,hp4⟩:∃ P,P=decide (inR b 1 64):=⟨_,rfl⟩;rw [<- hp1,<- hp2,<- hp3,<- hp4] at HE;simp only [<- hp1] at H1;simp only [<- hp2] at H2;simp only [<- hp3] at H3;simp only [<- hp4] at H4;clear hP hp1 hp2 hp3 hp4;have fin:∀ (e1 e2:Ending) , e1=e2->e1=e2:=fun _ _ h=>h
 by_cases hs:s.size=16
 ·have hs':((s.size:Int) == 16)=true:=by simp [hs]
  have HS:=Lib.hid hs;clear hs;cases p1 <;> cases p2 <;> cases p3 <;> cases p4 <;>
  ·go_enter Tryz.func44,Tryz.ntmps44
   go_wp2_with (first
    | (go_at_call 43;with_reducible (refine Calls.mono (H1.out _) ?_);rintro e w' ⟨rfl,rfl⟩)
    | (go_at_call 43;with_reducible (refine Calls.mono (H2.out _) ?_);rintro e w' ⟨rfl,rfl⟩)
    | (go_at_call 43;with_reducible (refine Calls.mono (H3.out _) ?_);rintro e w' ⟨rfl,rfl⟩)
    | (go_at_call 43;with_reducible (refine Calls.mono (H4.out _) ?_);rintro e w' ⟨rfl,rfl⟩))
   go_ret;exact ⟨by rw [HE.out,HS.out];rfl,rfl⟩
 ·have hs':((s.size:Int) == 16)=false:=by simp;omega
  have HS:Hid (decide (s.size=16)=false):=decide_eq_false hs;clear hs;cases p1 <;> cases p2 <;> cases p3 <;> cases p4 <;>
  ·go_enter Tryz.func44,Tryz.ntmps44
   go_wp2_with (first
    | (go_at_call 43;with_reducible (refine Calls.mono (H1.out _) ?_);rintro e w' ⟨rfl,rfl⟩)
    | (go_at_call 43;with_reducible (refine Calls.mono (H2.out _) ?_);rintro e w' ⟨rfl,rfl⟩)
    | (go_at_call 43;with_reducible (refine Calls.mono (H3.out _) ?_);rintro e w' ⟨rfl,rfl⟩)
    | (go_at_call 43;with_reducible (refine Calls.mono (H4.out _) ?_);rintro e w' ⟨rfl,rfl⟩))
   go_ret;exact ⟨by rw [HE.out,HS.out];rfl,rfl⟩
theorem jh1 (id:Int):ja0 [] id=0:=by unfold ja0;split <;> rfl
theorem jia {os:List Int} {k:Nat} (hk:k < os.length) (id:Int):ja0 (os.take (k + 1)) id=ja0 (os.take k) id + (if os.getD k 0=id/\inR id 1 7 then 1 else 0):=by
 rw [List.take_succ_eq_append_getElem hk];unfold ja0;by_cases h:1<=id/\id<=7
 ·rw [if_pos h,if_pos h,List.countP_append,List.countP_cons,List.countP_nil];have hg:os.getD k 0=os[k]:=by simp [List.getD,hk]
  rw [hg,Nat.zero_add];by_cases he:os[k]=id
  ·rw [if_pos (show os[k]=id/\inR id 1 7 from ⟨he,h⟩),if_pos (decide_eq_true he)]
  ·rw [if_neg (show ¬ (os[k]=id/\inR id 1 7) from fun hh=>he hh.1),if_neg (by simpa using he)]
 ·rw [if_neg h,if_neg h,if_neg (fun hh=>h hh.2)]
theorem jcZ (V:jat) (t:Tab) (id:Int) (w:World) (h:jao w w.heap.size V t) (hm:t.os.length<=9223372036854775807) :
  Calls Tryz.prog 45 #[.agg (jan V t),.int .i64 id] w fun e w'=>e=.returned (.int .i64 (ja0 t.os id:Nat))/\Below w.heap.size w w':=by
 obtain ⟨F0,F1,F2,hb0⟩:=jca w (.slice V.A1 t.ts.length V.c1) (.slice V.A2 t.vs.length V.c2) (.slice V.A3 t.os.length V.c3) 35;have HT:=Lib.hid (h.os.below hb0);have HIN:=Lib.hid (fun W=>jag id 1 7 W);have hle:=h.l3;obtain ⟨ts,vs,os⟩:=t;obtain ⟨A1,c1,A2,c2,A3,c3⟩:=V;simp only [jan] at F0 F1 F2 hb0 HT hle hm ⊢;obtain ⟨N1,hN1⟩:∃ N,N=ts.length:=⟨_,rfl⟩;obtain ⟨N2,hN2⟩:∃ N,N=vs.length:=⟨_,rfl⟩;obtain ⟨N,hN⟩:∃ N,N=os.length:=⟨_,rfl⟩;have HN:=Lib.hid hN;have HST:Hid (∀ k,k < N->ja0 (os.take (k + 1)) id=ja0 (os.take k) id + (if os.getD k 0=id/\inR id 1 7 then 1 else 0)):=fun k hk=>jia (hN ▸ hk) id
 have HEN:Hid (ja0 (os.take N) id=ja0 os id):=by rw [hN];show ja0 (os.take os.length) id=_;rw [List.take_length]
 have HLE:Hid (∀ k,ja0 (os.take k) id<=k):=fun k=>Nat.le_trans (jiU _ _) (by rw [List.length_take];omega)
 obtain ⟨V,hV⟩:∃ V,V=decide (inR id 1 7):=⟨_,rfl⟩;have HV:=Lib.hid hV;simp only [<- hV] at HIN;rw [<- hN1,<- hN2,<- hN] at F0 F1 F2 hb0 ⊢;rw [<- hN] at hm hle;simp only [<- hN1,<- hN2,<- hN] at HT;obtain ⟨W0,hW0⟩:∃ W,W=w.alloc (.cells #[.slice A1 N1 c1,.slice A2 N2 c2,.slice A3 N c3] 35):=⟨_,rfl⟩;rw [<- hW0] at F0 F1 F2 hb0 HT;clear h hN hN1 hN2 hV;go_enter Tryz.func45,Tryz.ntmps45;go_wp2;rw [<- hW0];clear hW0
 go_loopw [5,6] (fun n i wr=>∃ k c:Nat,k<=N/\i=.int .i64 k/\n=.int .i64 c/\Hid (c=ja0 (os.take k) id)/\wr=W0) (fun _ i _=>N - (intOf i).toNat)
 case atStart=>exact ⟨0,0,Nat.zero_le _,rfl,rfl,(jh1 id).symm,rfl⟩
 case round =>
  obtain ⟨k,c,hk,rfl,rfl,hc,rfl⟩:=hrel;have k0:(0:Int)<=(k:Int):=by omega
  have hck:c<=k:=by rw [hc.out];exact HLE.out k
  by_cases hlt:k < N
  ·have k1:(k:Int) < (N:Int):=by omega
   obtain ⟨b,off,rfl,_,q0⟩:=HT.out k (by have:=HN.out;omega);have hst:=HST.out k hlt;obtain ⟨o,ho⟩:∃ o,o=os.getD k 0:=⟨_,rfl⟩;rw [<- ho] at q0 hst;clear ho;by_cases he:o=id
   ·have d:(o == id)=true:=beq_iff_eq.2 he;cases V
    ·have HC:Hid (c=ja0 (os.take (k + 1)) id):=by
      rw [hst,if_neg (fun h=>by have:=HV.out;rw [decide_eq_true h.2] at this;cases this)];exact hc.out
     clear hst he
     go_wp2_with (go_at_call 43;with_reducible (refine Calls.mono (HIN.out _) ?_);rintro e w' ⟨rfl,rfl⟩)
     go_roundw
     case rel=>exact ⟨k + 1,c,by omega,by go_num,rfl,HC,by first | rfl | trivial⟩
     case measure=>first | (simp [intOf];done) | (simp [intOf];omega)
    ·have HC:Hid (c + 1=ja0 (os.take (k + 1)) id):=by
      rw [hst,if_pos ⟨he,of_decide_eq_true HV.out.symm⟩];exact congrArg (· + 1) hc.out
     clear hst he
     go_wp2_with (go_at_call 43;with_reducible (refine Calls.mono (HIN.out _) ?_);rintro e w' ⟨rfl,rfl⟩)
     go_roundw
     case rel=>exact ⟨k + 1,c + 1,by omega,by go_num,by go_num,HC,by first | rfl | trivial⟩
     case measure=>first | (simp [intOf];done) | (simp [intOf];omega)
   ·have d:(o == id)=false:=beq_eq_false_iff_ne.2 he
    have HC:Hid (c=ja0 (os.take (k + 1)) id):=by
     rw [hst,if_neg (fun h=>he h.1)];exact hc.out
    clear hst he;go_wp2;go_roundw
    case rel=>exact ⟨k + 1,c,by omega,by go_num,rfl,HC,by first | rfl | trivial⟩
    case measure=>first | (simp [intOf];done) | (simp [intOf];omega)
  ·have hkN:k=N:=by omega
   have HE:Hid (c=ja0 os id):=by rw [hc.out,hkN];exact HEN.out
   have k1:¬ (k:Int) < (N:Int):=by omega
   clear hkN;go_wp2;go_ret;exact ⟨by rw [<- HE.out];rfl,hb0⟩
theorem jd6 {ts:List Ten} {k:Nat} (hk:k < ts.length):jbp (ts.take (k + 1))=jbp (ts.take k) + ts[k].quota:=by
 rw [List.take_succ_eq_append_getElem hk];unfold jbp;rw [List.map_append,List.sum_append_int];simp
theorem jb3 {ts:List Ten} (h:∀ x∈ts,1<=x.quota/\x.quota<=64):∀ k,0<=jbp (ts.take k)/\jbp (ts.take k)<=64 * k:=fun k=>by
 induction k with
 | zero=>simp [jbp]
 | succ k ih =>
  by_cases hk:k < ts.length
  ·have:=h _ (List.getElem_mem hk);rw [jd6 hk];omega
  ·rw [List.take_of_length_le (by omega)] at ih ⊢;omega
theorem jc9 (V:jat) (t:Tab) (w:World) (h:jao w w.heap.size V t) (hm:t.ts.length<=1000) (hq:∀ x∈t.ts,1<=x.quota/\x.quota<=64) :
  Calls Tryz.prog 47 #[.agg (jan V t)] w fun e w'=>e=.returned (.int .i64 (jbp t.ts))/\Below w.heap.size w w':=by
 obtain ⟨F0,F1,F2,hb0⟩:=jca w (.slice V.A1 t.ts.length V.c1) (.slice V.A2 t.vs.length V.c2) (.slice V.A3 t.os.length V.c3) 35;have HT:=Lib.hid (h.ts.below hb0);have hle:=h.l1;have HQ:=Lib.hid (jb3 hq);have HQ1:Hid (∀ k,(h:k < t.ts.length)->1<=t.ts[k].quota/\t.ts[k].quota<=64):=fun k h=>hq _ (List.getElem_mem h)
 have HST:Hid (∀ k,(h:k < t.ts.length)->jbp (t.ts.take (k + 1))=jbp (t.ts.take k) + t.ts[k].quota):=fun k hk=>jd6 hk
 have HEN:Hid (jbp (t.ts.take t.ts.length)=jbp t.ts):=by show jbp (t.ts.take t.ts.length)=_;rw [List.take_length]
 obtain ⟨ts,vs,os⟩:=t;obtain ⟨A1,c1,A2,c2,A3,c3⟩:=V;simp only [jan] at F0 F1 F2 hb0 HT hle hm HQ HQ1 HST HEN ⊢;obtain ⟨N,hN⟩:∃ N,N=ts.length:=⟨_,rfl⟩;obtain ⟨N2,hN2⟩:∃ N,N=vs.length:=⟨_,rfl⟩;obtain ⟨N3,hN3⟩:∃ N,N=os.length:=⟨_,rfl⟩;rw [<- hN,<- hN2,<- hN3] at F0 F1 F2 hb0 ⊢;rw [<- hN] at hm hle HEN;simp only [<- hN,<- hN2,<- hN3] at HT;have HN:=Lib.hid hN;obtain ⟨W0,hW0⟩:∃ W,W=w.alloc (.cells #[.slice A1 N c1,.slice A2 N2 c2,.slice A3 N3 c3] 35):=⟨_,rfl⟩;rw [<- hW0] at F0 F1 F2 hb0 HT;clear h hN hN2 hN3 hq;go_enter Tryz.func47,Tryz.ntmps47;go_wp2;rw [<- hW0];clear hW0
 go_loopw [3,4] (fun n i wr=>∃ (k:Nat) (c:Int),k<=N/\i=.int .i64 k/\n=.int .i64 c/\Hid (c=jbp (ts.take k))/\wr=W0) (fun _ i _=>N - (intOf i).toNat)
 case atStart=>exact ⟨0,0,Nat.zero_le _,rfl,rfl,rfl,rfl⟩
 case round =>
  obtain ⟨k,c,hk,rfl,rfl,hc,rfl⟩:=hrel;have k0:(0:Int)<=(k:Int):=by omega
  have hck:0<=c/\c<=64 * k:=by rw [hc.out];exact HQ.out k
  obtain ⟨hc0,hc1⟩:=hck;by_cases hlt:k < N
  ·have k1:(k:Int) < (N:Int):=by omega
   have hkx:k < ts.length:=by have:=HN.out;omega
   obtain ⟨b,off,rfl,_,_,q1,_⟩:=HT.out k hkx;have hst:=HST.out k hkx;have hq1:=HQ1.out k hkx;obtain ⟨q,hq⟩:∃ q,q=ts[k].quota:=⟨_,rfl⟩;rw [<- hq] at q1 hst hq1;have HC:Hid (c + q=jbp (ts.take (k + 1))):=by rw [hst];exact congrArg (· + q) hc.out
   have v:IntKind.i64.wrap (c + q)=c + q:=IntWalk.i64_in _ (by omega);clear hst hq;go_wp2;go_roundw
   case rel=>exact ⟨k + 1,c + q,by omega,by go_num,by first | rfl | go_num,HC,by first | rfl | trivial⟩
   case measure=>first | (simp [intOf];done) | (simp [intOf];omega)
  ·have hkN:k=N:=by omega
   have HE:Hid (c=jbp ts):=by rw [hc.out,hkN];exact HEN.out
   have k1:¬ (k:Int) < (N:Int):=by omega
   clear hkN;go_wp2;go_ret;exact ⟨by rw [<- HE.out];rfl,hb0⟩
theorem jfI {P:Program} {t:TypeId} {fs:Array Field} (h:P.underlying t=some (.struct fs)):P.fieldsOf t=fs:=by unfold Program.fieldsOf;rw [h]
theorem jqv (a b:ByteArray):(a.toList == b.toList)=decide (a=b):=by
 rw [Bool.eq_iff_iff,decide_eq_true_eq,beq_iff_eq,ByteArray.toList_eq,ByteArray.toList_eq];constructor
 ·intro h;obtain ⟨⟨x⟩⟩:=a;obtain ⟨⟨y⟩⟩:=b;simp only at h;rw [h]
 ·rintro rfl;rfl
theorem jb8 {P:Program} {w:World} {d:Nat} {xs ys:Array Value} {f:Field} {fs:List Field} {a b:Value} {r:Bool} {R:Result Bool} (hn:f.name ≠ "_") (ha:(part f.type xs f.offset).run P w=.ok a w) (hb:(part f.type ys f.offset).run P w=.ok b w)
  (he:(Op.equalIn d f.type a b).run P w=.ok r w) (h:r=true->(Op.eqFields d xs ys fs).run P w=R) (hf:r=false->R=.ok false w):(Op.eqFields d xs ys (f :: fs)).run P w=R:=by
 unfold Op.eqFields;rw [if_pos hn];simp only [Sem.run_bind,ha,hb,he,Result.andThen_ok];cases r
 ·rw [hf rfl];simp
 ·simp;exact h rfl
theorem jmf {P:Program} {w:World} {d:Nat} {xs ys:Array Value} : (Op.eqFields d xs ys []).run P w=.ok true w:=rfl
theorem eqI {w:World} {d:Nat} (a b:Int):(Op.equalIn (d + 1) 3 (.int .i64 a) (.int .i64 b)).run Tryz.prog w=.ok (decide (a=b)) w:=by
 rw [run_equalIn_int w d 3 .i64 .i64 a b Tryz.underlying3]
 congr 1
theorem eqB {w:World} {d:Nat} (a b:Bool):(Op.equalIn (d + 1) 4 (.bool a) (.bool b)).run Tryz.prog w=.ok (a == b) w:=run_equalIn_bool' w d 4 a b Tryz.underlying4
theorem eqS {w:World} {d:Nat} (a b:ByteArray):(Op.equalIn (d + 1) 9 (.string a) (.string b)).run Tryz.prog w=.ok (decide (a=b)) w:=by
 rw [run_equalIn_string w d 9 a b Tryz.underlying9,jqv]
def jcQ (x:Ten):Array Value:=#[.int .i64 x.id,.int .i64 x.quota,.int .i64 x.rate,.int .i64 x.burst,.string x.key,.bool x.dying]
def jcJ (x:Vol):Array Value:=#[.int .i64 x.id,.int .i64 x.ten,.int .i64 x.blocks,.int .i64 x.base]
theorem jmD (x y:Ten):(x.id=y.id/\x.quota=y.quota/\x.rate=y.rate/\x.burst=y.burst/\x.key=y.key/\x.dying=y.dying)↔x=y:=by
 constructor
 ·obtain ⟨_,_,_,_,_,_⟩:=x;obtain ⟨_,_,_,_,_,_⟩:=y;rintro ⟨h1,h2,h3,h4,h5,h6⟩;simp only at h1 h2 h3 h4 h5 h6;subst h1 h2 h3 h4 h5 h6;rfl
 ·rintro rfl;exact ⟨rfl,rfl,rfl,rfl,rfl,rfl⟩
instance:DecidableEq Ten:=fun x y=>decidable_of_iff _ (jmD x y)
theorem jmN (x y:Vol):(x.id=y.id/\x.ten=y.ten/\x.blocks=y.blocks/\x.base=y.base)↔x=y:=by
 constructor
 ·obtain ⟨_,_,_,_⟩:=x;obtain ⟨_,_,_,_⟩:=y;rintro ⟨h1,h2,h3,h4⟩;simp only at h1 h2 h3 h4;subst h1 h2 h3 h4;rfl
 ·rintro rfl;exact ⟨rfl,rfl,rfl,rfl⟩
instance:DecidableEq Vol:=fun x y=>decidable_of_iff _ (jmN x y)
theorem jpL (x y:Tab):(x.ts=y.ts/\x.vs=y.vs/\x.os=y.os)↔x=y:=by
 constructor
 ·obtain ⟨_,_,_⟩:=x;obtain ⟨_,_,_⟩:=y;rintro ⟨h1,h2,h3⟩;simp only at h1 h2 h3;subst h1 h2 h3;rfl
 ·rintro rfl;exact ⟨rfl,rfl,rfl⟩
instance:DecidableEq Tab:=fun x y=>decidable_of_iff _ (jpL x y)
theorem jmQ (x y:Ten) (w:World):(Op.equalIn 10000 52 (.agg (jcQ x)) (.agg (jcQ y))).run Tryz.prog w=.ok (decide (x=y)) w:=by
 rw [run_equalIn_struct w 9999 52 (jcQ x) (jcQ y) (by kernel_rfl) (by kernel_rfl),jfI Tryz.underlying52];refine jb8 (by decide) (by kernel_rfl) (by kernel_rfl) (eqI x.id y.id) (fun h0=>?_) (fun h=>by rw [decide_eq_false (fun e=>by rw [e,decide_eq_true rfl] at h;cases h)]);refine jb8 (by decide) (by kernel_rfl) (by kernel_rfl) (eqI x.quota y.quota) (fun h1=>?_) (fun h=>by rw [decide_eq_false (fun e=>by rw [e,decide_eq_true rfl] at h;cases h)]);refine jb8 (by decide) (by kernel_rfl) (by kernel_rfl) (eqI x.rate y.rate) (fun h2=>?_) (fun h=>by rw [decide_eq_false (fun e=>by rw [e,decide_eq_true rfl] at h;cases h)]);refine jb8 (by decide) (by kernel_rfl) (by kernel_rfl) (eqI x.burst y.burst) (fun h3=>?_) (fun h=>by rw [decide_eq_false (fun e=>by rw [e,decide_eq_true rfl] at h;cases h)]);refine jb8 (by decide) (by kernel_rfl) (by kernel_rfl) (eqS x.key y.key) (fun h4=>?_) (fun h=>by rw [decide_eq_false (fun e=>by rw [e,decide_eq_true rfl] at h;cases h)]);refine jb8 (by decide) (by kernel_rfl) (by kernel_rfl) (eqB x.dying y.dying) (fun h5=>?_) (fun h=>by rw [decide_eq_false (fun e=>by rw [e,beq_self_eq_true] at h;cases h)]);rw [decide_eq_true ((jmD x y).1 ⟨of_decide_eq_true h0,of_decide_eq_true h1,of_decide_eq_true h2,of_decide_eq_true h3,of_decide_eq_true h4,eq_of_beq h5⟩)];exact jmf
theorem jmi (x y:Vol) (w:World):(Op.equalIn 10000 82 (.agg (jcJ x)) (.agg (jcJ y))).run Tryz.prog w=.ok (decide (x=y)) w:=by
 rw [run_equalIn_struct w 9999 82 (jcJ x) (jcJ y) (by kernel_rfl) (by kernel_rfl),jfI Tryz.underlying82];refine jb8 (by decide) (by kernel_rfl) (by kernel_rfl) (eqI x.id y.id) (fun h0=>?_) (fun h=>by rw [decide_eq_false (fun e=>by rw [e,decide_eq_true rfl] at h;cases h)]);refine jb8 (by decide) (by kernel_rfl) (by kernel_rfl) (eqI x.ten y.ten) (fun h1=>?_) (fun h=>by rw [decide_eq_false (fun e=>by rw [e,decide_eq_true rfl] at h;cases h)]);refine jb8 (by decide) (by kernel_rfl) (by kernel_rfl) (eqI x.blocks y.blocks) (fun h2=>?_) (fun h=>by rw [decide_eq_false (fun e=>by rw [e,decide_eq_true rfl] at h;cases h)]);refine jb8 (by decide) (by kernel_rfl) (by kernel_rfl) (eqI x.base y.base) (fun h3=>?_) (fun h=>by rw [decide_eq_false (fun e=>by rw [e,decide_eq_true rfl] at h;cases h)]);rw [decide_eq_true ((jmN x y).1 ⟨of_decide_eq_true h0,of_decide_eq_true h1,of_decide_eq_true h2,of_decide_eq_true h3⟩)];exact jmf

theorem jpc (w:World) (x y z x' y' z':Value) (T:TypeId):∃ W,W=(w.alloc (.cells #[x,y,z] T)).alloc (.cells #[x',y',z'] T) /\
  (∀ m,(W.drewN m).cell? ⟨w.heap.size,0,none⟩=some x/\(W.drewN m).cell? ⟨w.heap.size,1,none⟩=some y/\(W.drewN m).cell? ⟨w.heap.size,2,none⟩=some z /\
   (W.drewN m).cell? ⟨w.heap.size + 1,0,none⟩=some x'/\(W.drewN m).cell? ⟨w.heap.size + 1,1,none⟩=some y'/\(W.drewN m).cell? ⟨w.heap.size + 1,2,none⟩=some z')/\Below w.heap.size w W/\∀ m,Below w.heap.size w (W.drewN m):=by
 refine ⟨_,rfl,fun m=>?_,?_,fun m=>?_⟩
 ·have h:=(heap_alloc_new w (.cells #[x,y,z] T));have h1:((w.alloc (.cells #[x,y,z] T)).alloc (.cells #[x',y',z'] T)).heap[w.heap.size]? = some (.cells #[x,y,z] T):=(Below.heap_alloc (w.alloc (.cells #[x,y,z] T)) (.cells #[x',y',z'] T) _ (by simp)).trans h;have h2:=heap_alloc_new (w.alloc (.cells #[x,y,z] T)) (.cells #[x',y',z'] T);have e:(w.alloc (.cells #[x,y,z] T)).heap.size=w.heap.size + 1:=by simp
  rw [e] at h2;have q1:∀ i v,(#[x,y,z]:Array Value)[i]? = some v->((w.alloc (.cells #[x,y,z] T)).alloc (.cells #[x',y',z'] T)).cell? ⟨w.heap.size,i,none⟩=some v:=fun i v hv=>by rw [cell_of_row _ _ _ _ _ _ h1,hv]
  have q2:∀ i v,(#[x',y',z']:Array Value)[i]? = some v->((w.alloc (.cells #[x,y,z] T)).alloc (.cells #[x',y',z'] T)).cell? ⟨w.heap.size + 1,i,none⟩=some v:=fun i v hv=>by rw [cell_of_row _ _ _ _ _ _ h2,hv]
  exact ⟨q1 0 x rfl,q1 1 y rfl,q1 2 z rfl,q2 0 x' rfl,q2 1 y' rfl,q2 2 z' rfl⟩
 ·exact ((Below.refl _ _).alloc (Nat.le_refl _) _).alloc (by simp) _
 ·exact jaz (((Below.refl _ _).alloc (Nat.le_refl _) _).alloc (by simp) _) m
def jay (lo:Nat) (V:jat):Prop:=∀ a,V.A1=some a∨V.A2=some a∨V.A3=some a->lo<=a.block
theorem jez {w W:World} {g b off:Nat} (hk:∀ k,k≠g->W.heap[k]? = w.heap[k]?) (hb:b≠g):W.cell? ⟨b,off,none⟩=w.cell? ⟨b,off,none⟩:=by
 unfold World.cell?;simp only [hk b hb]
theorem jao.other {w W:World} {B lo g:Nat} {V:jat} {t:Tab} (h:jao w B V t) (hf:jay lo V) (hg:g < lo) (hk:∀ k,k≠g->W.heap[k]? = w.heap[k]?):jao W B V t:=by
 refine ⟨fun k hk'=>?_,fun k hk'=>?_,fun k hk'=>?_,h.l1,h.l2,h.l3⟩
 ·obtain ⟨b,off,e,hl,c⟩:=h.ts k hk';have hne:b≠g:=by have:lo<=b:=hf ⟨b,off,none⟩ (.inl e);omega
  refine ⟨b,off,e,hl,?_⟩;simp only [jez hk hne];exact c
 ·obtain ⟨b,off,e,hl,c⟩:=h.vs k hk';have hne:b≠g:=by have:lo<=b:=hf ⟨b,off,none⟩ (.inr (.inl e));omega
  refine ⟨b,off,e,hl,?_⟩;simp only [jez hk hne];exact c
 ·obtain ⟨b,off,e,hl,c⟩:=h.os k hk';have hne:b≠g:=by have:lo<=b:=hf ⟨b,off,none⟩ (.inr (.inr e));omega
  refine ⟨b,off,e,hl,?_⟩;rw [jez hk hne];exact c
structure jhR (w0:World):Prop where
 new:∀ (n:Nat) (w:World),Below w0.heap.size w0 w->1<=n->n<=64 ->
  Calls Tryz.prog 19 #[.int .i64 (n:Int)] w fun e w'=>∃ V,e=.returned (.tuple #[.agg (jan V (jbf n)),.int .i64 0])/\jao w' w'.heap.size V (jbf n)/\jay w.heap.size V/\Below w.heap.size w w'
 newNo:∀ (n:Int) (w:World),Below w0.heap.size w0 w->jdD n->¬ inR n 1 64 ->
  Calls Tryz.prog 19 #[.int .i64 n] w fun e w'=>∃ V,e=.returned (.tuple #[.agg (jan V Tab.zero),.int .i64 1])/\Below w.heap.size w w'
 check:∀ (V:jat) (t:Tab) (w:World),Below w0.heap.size w0 w->jao w w.heap.size V t->t.ok->t.sound ->
  Calls Tryz.prog 36 #[.agg (jan V t)] w fun e w'=>e=.returned (.int .i64 0)/\Below w.heap.size w w'
 checkNo:∀ (V:jat) (t:Tab) (w:World),Below w0.heap.size w0 w->jao w w.heap.size V t->t.ok->¬ t.sound ->
  Calls Tryz.prog 36 #[.agg (jan V t)] w fun e w'=>e=.returned (.int .i64 2)/\Below w.heap.size w w'
 owned:∀ (V:jat) (t:Tab) (id:Int) (w:World),Below w0.heap.size w0 w->jao w w.heap.size V t->t.ok->jdD id ->
  Calls Tryz.prog 95 #[.agg (jan V t),.int .i64 id] w fun e w'=>e=.returned (.int .i64 (ja0 t.os id:Nat))/\Below w.heap.size w w'
 apply:∀ (V:jat) (t:Tab) (A:Option Addr) (c:Nat) (l:List Rc) (w:World),Below w0.heap.size w0 w->jao w w.heap.size V t->t.ok->jax w w.heap.size A l->l.length<=c->(∀ r∈l,r.ok)->l.length<=140737488355328 ->
  Calls Tryz.prog 24 #[.agg (jan V t),.slice A l.length c] w fun e w'=>∃ V',e=.returned (.tuple #[.agg (jan V' (jbR t l).2),.int .i64 (jbR t l).1])/\jao w' w'.heap.size V' (jbR t l).2/\jay w.heap.size V'/\Below w.heap.size w w'
 image:∀ (V:jat) (t:Tab) (w:World),Below w0.heap.size w0 w->jao w w.heap.size V t->t.ok->t.sound ->
  Calls Tryz.prog 77 #[.agg (jan V t)] w fun e w'=>∃ A c,e=.returned (.tuple #[.slice A (jcf t).length c,.int .i64 0])/\(jcf t).length<=c/\jax w' w'.heap.size A (jcf t)/\(∀ a,A=some a->w.heap.size<=a.block)/\Below w.heap.size w w'
 imageNo:∀ (V:jat) (t:Tab) (w:World),Below w0.heap.size w0 w->jao w w.heap.size V t->t.ok->¬ t.sound ->
  Calls Tryz.prog 77 #[.agg (jan V t)] w fun e w'=>∃ A c,e=.returned (.tuple #[.slice A 0 c,.int .i64 2])/\Below w.heap.size w w'
def jpP:ByteArray:=⟨#[48,49,50,51,52,53,54,55,56,57,97,98,99,100,101,102]⟩
def jq1:Rc:=⟨1,1,2,0,1,jpP⟩
def jq7:Rc:=⟨9,3,1,0,0,⟨#[]⟩⟩
def jq0:Tab:=⟨[⟨1,2,0,1,jpP,false⟩],[],[0,0,0,1]⟩
theorem joL {n:Nat} (h2:n<=64):(jbf n).ok:=⟨by simp [jbf],by simp [jbf],fun x hx=>by rw [List.eq_of_mem_replicate hx];exact ⟨by decide,by decide⟩,by simp [jbf],by simp [jbf],by show (List.replicate n (0:Int)).length<=_;rw [List.length_replicate];omega⟩
theorem jdF {α:Type} (k:α->Int) (hi:Int):∀ {l:List α} (lo:Int),(l.Pairwise fun a b=>k a < k b)->(∀ x∈l,lo<=k x/\k x<=hi)->lo<=hi + 1->(l.length:Int)<=hi + 1 - lo
 | [],lo,_,_,h=>by simp;omega
 | x :: l,lo,hp,hb,h=>by
  obtain ⟨h1,h2⟩:=List.pairwise_cons.1 hp;have hx:=hb x (by simp);have:=jdF k hi (l:=l) (k x + 1) h2 (fun y hy=>⟨by have:=h1 y hy;omega,(hb y (by simp [hy])).2⟩) (by omega);rw [List.length_cons];omega
theorem jam {t:Tab} (h:t.sound):t.ts.length<=7/\t.vs.length<=8/\t.os.length<=64:=by
 have h1:=jdF Ten.id 7 1 h.up (fun x hx=>(h.ten x hx).1.id) (by omega);have h2:=jdF Vol.id 7 0 h.vup (fun x hx=>(h.vol x hx).1) (by omega);have h3:=h.len;omega
theorem jdg {t:Tab} (h:t.sound):t.ok:=by
 obtain ⟨n1,n2,n3⟩:=jam h;refine ⟨fun x hx=>?_,fun x hx=>?_,fun o ho=>?_,by omega,by omega,by omega⟩
 ·obtain ⟨p1,p2,p3,p4,p5⟩:=(h.ten x hx).1;exact ⟨⟨by omega,by omega⟩,⟨by omega,by omega⟩,⟨by omega,by omega⟩,⟨by omega,by omega⟩,by omega⟩
 ·obtain ⟨q1,q2,q3,q4⟩:=h.vol x hx;obtain ⟨y,hy,hk⟩:=jaH.1 q2;have:=(h.ten y hy).1.id;exact ⟨⟨by omega,by omega⟩,⟨by omega,by omega⟩,⟨by omega,by omega⟩,⟨by omega,by omega⟩⟩
 ·rcases h.own o ho with rfl | h0
  ·exact ⟨by decide,by decide⟩
  ·obtain ⟨y,hy,hk⟩:=jaH.1 h0;have:=(h.ten y hy).1.id;exact ⟨by omega,by omega⟩
end Go.Proofs.YtbnhkplhmanmoaaGreat
