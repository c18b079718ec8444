/- . -/
import Derived.Test.YtbnhkplhmanmoaaGreatTkG
import Derived.Test.YtbnhkplhmanmoaaGreatTableAskG
import Derived.Deep.RegionHeld3
namespace Go.Proofs.YtbnhkplhmanmoaaGreat
open Go.RowKit
set_option maxHeartbeats 12800000
set_option maxRecDepth 20000
def gd1 (t:Tab) (k:Nat):Prop:=∃ h:k < t.ts.length,jcC t.ts[k].id t.ts[k].quota t.ts[k].rate t.ts[k].burst t.ts[k].key/\(∀ h2:0 < k,(t.ts[k - 1]'(by omega)).id < t.ts[k].id)/\(ja0 t.os t.ts[k].id:Int)<=t.ts[k].quota
def gd2 (t:Tab) (k:Nat):Prop:=∃ h:k < t.vs.length,inR t.vs[k].id 0 7/\(∀ h2:0 < k,(t.vs[k - 1]'(by omega)).id < t.vs[k].id)/\(tenAt t.ts t.vs[k].ten).isSome=true/\inR t.vs[k].blocks 0 32/\inR t.vs[k].base 0 1099511627776
def gd3 (t:Tab) (k:Nat):Prop:=t.os.getD k 0=0∨(tenAt t.ts (t.os.getD k 0)).isSome=true
theorem jfR {α:Type} {f:α->Int} {l:List α} (h:∀ k,(h:k < l.length)->∀ h2:0 < k,f (l[k - 1]'(by omega)) < f l[k]):l.Pairwise fun x y=>f x < f y:=by
 rw [List.pairwise_iff_getElem];intro i j hi hj hij
 induction j with
 | zero=>omega
 | succ j ih =>
  have hs:f l[j] < f l[j + 1]:=h (j + 1) hj (Nat.succ_pos j);rcases Nat.lt_or_ge i j with q | q
  ·have:=ih (by omega) q;omega
  ·have:i=j:=by omega
   subst this;exact hs
theorem jfy {α:Type} {f:α->Int} {l:List α} (h:l.Pairwise fun x y=>f x < f y) (k:Nat) (hk:k < l.length) (h2:0 < k):f (l[k - 1]'(by omega)) < f l[k] :=
 List.pairwise_iff_getElem.1 h (k - 1) k (by omega) hk (by omega)
theorem jgC (x:Ten):jcC x.id x.quota x.rate x.burst x.key↔x.plain :=
 ⟨fun ⟨a,b,c,d,e⟩=>⟨a,b,c,d,e⟩,fun ⟨a,b,c,d,e⟩=>⟨a,b,c,d,e⟩⟩
theorem jjv (t:Tab):t.sound↔inR (t.os.length:Int) 1 64/\t.ts.length<=7/\t.vs.length<=8/\(∀ k,k < t.ts.length->gd1 t k)/\(∀ k,k < t.vs.length->gd2 t k)/\(∀ k,k < t.os.length->gd3 t k)/\jbp t.ts<=t.os.length:=by
 constructor
 ·intro h;obtain ⟨n1,n2,n3⟩:=jam h;refine ⟨by have:=h.len;unfold inR;omega,n1,n2,fun k hk=>⟨hk,(jgC _).2 (h.ten _ (List.getElem_mem hk)).1,jfy h.up k hk,(h.ten _ (List.getElem_mem hk)).2⟩,fun k hk=>?_,fun k hk=>h.own _ (jb6 hk),h.sum⟩;obtain ⟨a,b,c,d⟩:=h.vol _ (List.getElem_mem hk);exact ⟨hk,a,jfy h.vup k hk,b,c,d⟩
 ·rintro ⟨a,_,_,b,c,d,e⟩;refine ⟨by unfold inR at a;omega,fun x hx=>?_,jfR fun k hk h2=>by obtain ⟨_,_,q,_⟩:=b k hk;exact q h2,fun v hv=>?_,jfR fun k hk h2=>by obtain ⟨_,_,q,_⟩:=c k hk;exact q h2,fun o ho=>?_,e⟩
  ·obtain ⟨k,hk,rfl⟩:=List.getElem_of_mem hx;obtain ⟨_,p,_,q⟩:=b k hk;exact ⟨(jgC _).1 p,q⟩
  ·obtain ⟨k,hk,rfl⟩:=List.getElem_of_mem hv;obtain ⟨_,p,_,q,r,s⟩:=c k hk;exact ⟨p,q,r,s⟩
  ·obtain ⟨k,hk,rfl⟩:=List.getElem_of_mem ho;have:=d k hk;unfold gd3 at this
   rwa [List.getD_eq_getElem?_getD,List.getElem?_eq_getElem hk,Option.getD_some] at this
theorem jmV (ts:List Ten) (id:Int) (hm:ts.length<=9223372036854775807) : -1<=jdI ts id/\jdI ts id<=9223372036854775807/\(jdI ts id < 0↔(tenAt ts id).isSome=false):=by
 unfold jdI
 have key:(tenAt ts id).isSome=true↔ts.findIdx (fun x=>decide (x.id=id)) < ts.length:=by
  rw [jaH,List.findIdx_lt_length];simp
 by_cases h:ts.findIdx (fun x=>decide (x.id=id)) < ts.length
 ·rw [if_pos h,key.2 h];refine ⟨by omega,by omega,fun q=>by omega,fun q=>by cases q⟩
 ·rw [if_neg h];refine ⟨by omega,by omega,fun _=>?_,fun _=>by omega⟩;cases hs:(tenAt ts id).isSome with
  | false=>rfl
  | true=>exact absurd (key.1 hs) h
theorem jpg {X:World} {g:Nat} {T:TypeId} {v0 v1 v2 v3 v4 v5:Value} (h:X.heap[g]? = some (.cells #[v0,v1,v2,v3,v4,v5] T (0,0))):X.cell? ⟨g,0,none⟩=some v0/\X.cell? ⟨g,1,none⟩=some v1/\X.cell? ⟨g,2,none⟩=some v2/\X.cell? ⟨g,3,none⟩=some v3/\X.cell? ⟨g,4,none⟩=some v4 :=
 ⟨by rw [cell_of_row _ _ _ _ _ _ h];rfl,by rw [cell_of_row _ _ _ _ _ _ h];rfl,by rw [cell_of_row _ _ _ _ _ _ h];rfl,by rw [cell_of_row _ _ _ _ _ _ h];rfl,by rw [cell_of_row _ _ _ _ _ _ h];rfl⟩
theorem jpA {X:World} {g:Nat} {T:TypeId} {v0 v1 v2 v3:Value} (h:X.heap[g]? = some (.cells #[v0,v1,v2,v3] T (0,0))):X.cell? ⟨g,0,none⟩=some v0/\X.cell? ⟨g,1,none⟩=some v1/\X.cell? ⟨g,2,none⟩=some v2/\X.cell? ⟨g,3,none⟩=some v3 :=
 ⟨by rw [cell_of_row _ _ _ _ _ _ h];rfl,by rw [cell_of_row _ _ _ _ _ _ h];rfl,by rw [cell_of_row _ _ _ _ _ _ h];rfl,by rw [cell_of_row _ _ _ _ _ _ h];rfl⟩
theorem jjf {X:World} {g:Nat} {T:TypeId} {v0 v1 v2:Value} (h:X.heap[g]? = some (.cells #[v0,v1,v2] T (0,0))):X.cell? ⟨g,0,none⟩=some v0/\X.cell? ⟨g,1,none⟩=some v1/\X.cell? ⟨g,2,none⟩=some v2 :=
 ⟨by rw [cell_of_row _ _ _ _ _ _ h];rfl,by rw [cell_of_row _ _ _ _ _ _ h];rfl,by rw [cell_of_row _ _ _ _ _ _ h];rfl⟩
open Classical in
theorem jf7 (V:jat) (t:Tab) (w:World) (h:jao w w.heap.size V t) (ho:t.ok) (S:Bool) (hS:S=true↔t.sound) :
  Calls Tryz.prog 27 #[.agg (jan V t)] w fun e w'=>e=.returned (.bool S)/\Below w.heap.size w w':=by
 have hb0:Below w.heap.size w (w.alloc (.cells (jan V t) 35)):=(Below.refl _ _).alloc (Nat.le_refl _) _;have hg0:=heap_alloc_new w (.cells (jan V t) 35);obtain ⟨W0,hW0⟩:∃ W,W=w.alloc (.cells (jan V t) 35):=⟨_,rfl⟩;rw [<- hW0] at hb0 hg0;have HF:∀ X,Below W0.heap.size W0 X->X.cell? ⟨w.heap.size,0,none⟩=some (.slice V.A1 t.ts.length V.c1)/\X.cell? ⟨w.heap.size,1,none⟩=some (.slice V.A2 t.vs.length V.c2)/\X.cell? ⟨w.heap.size,2,none⟩=some (.slice V.A3 t.os.length V.c3):=fun X hb=>jjf ((hb.block _ (Array.getElem?_eq_some_iff.1 hg0).1).trans hg0)
 have HTB:Hid (∀ X,Below W0.heap.size W0 X->jao X W0.heap.size V t):=fun X hb=>(h.below (jaa hb0 hb)).more hb0.size
 have HOW:∀ id X,Below W0.heap.size W0 X->Calls Tryz.prog 45 #[.agg (jan V t),.int .i64 id] X fun e w'=>e=.returned (.int .i64 (ja0 t.os id:Nat))/\Below X.heap.size X w':=fun id X hb=>jcZ V t id X ((h.below (jaa hb0 hb)).more (jaa hb0 hb).size) ho.no
 have HTE:∀ id X,Below W0.heap.size W0 X->Calls Tryz.prog 46 #[.agg (jan V t),.int .i64 id] X fun e w'=>e=.returned (.int .i64 (jdI t.ts id))/\Below X.heap.size X w':=fun id X hb=>jb5 V t id X ((h.below (jaa hb0 hb)).more (jaa hb0 hb).size) ho.nt
 have HQU:t.ts.length<=1000->(∀ x∈t.ts,1<=x.quota/\x.quota<=64)->∀ X,Below W0.heap.size W0 X->Calls Tryz.prog 47 #[.agg (jan V t)] X fun e w'=>e=.returned (.int .i64 (jbp t.ts))/\Below X.heap.size X w':=fun h1 h2 X hb=>jc9 V t X ((h.below (jaa hb0 hb)).more (jaa hb0 hb).size) h1 h2
 have HIN:=Lib.hid (fun n a b W=>jag n a b W);have HPL:=Lib.hid (fun a b c d e W=>jeW a b c d e W);rw [jjv] at hS;have HS:=Lib.hid hS;have HSG:Hid (∀ id,-1<=jdI t.ts id/\jdI t.ts id<=9223372036854775807/\(jdI t.ts id < 0↔(tenAt t.ts id).isSome=false)):=fun id=>jmV _ _ ho.nt
 have HOL:Hid (∀ k,ja0 t.os k<=t.os.length):=fun k=>jiU _ _
 have HM:=Lib.hid ho;unfold jan at HOW HTE HQU hW0 ⊢;obtain ⟨f0,f1,f2⟩:=HF W0 (Below.refl _ _);have HFH:=Lib.hid HF;have HOWH:=Lib.hid HOW;have HTEH:=Lib.hid HTE;have HQUH:=Lib.hid HQU;have HB0:=Lib.hid hb0;obtain ⟨N1,hN1⟩:∃ N,N=t.ts.length:=⟨_,rfl⟩;obtain ⟨N2,hN2⟩:∃ N,N=t.vs.length:=⟨_,rfl⟩;obtain ⟨N3,hN3⟩:∃ N,N=t.os.length:=⟨_,rfl⟩;have HN1:=Lib.hid hN1;have HN2:=Lib.hid hN2;have HN3:=Lib.hid hN3;obtain ⟨q0,hq0⟩:∃ q,q=w.heap.size:=⟨_,rfl⟩;have hnt:=ho.nt;have hnv:=ho.nv;have hno:=ho.no;simp only [<- hN1,<- hN2,<- hN3] at HFH HOWH HTEH HQUH HS HOL hW0 f0 f1 f2 hnt hnv hno ⊢;clear HF HOW HTE HQU hb0 hg0 hS h ho hN1 hN2 hN3;have hin:=fun W=>HIN.out (N3:Int) 1 64 W
 by_cases hlen:inR (N3:Int) 1 64
 ·rw [decide_eq_true hlen] at hin;have hn64:N3<=64:=by unfold inR at hlen;omega
  by_cases h7:N1<=7
  ·by_cases h8:N2<=8
   ·have d1:¬ (N1:Int) > 7:=by omega
    have d2:¬ (N2:Int) > 8:=by omega
    have HL:=Lib.hid hlen;have HIN1:=Lib.hid hin;clear hlen hin;go_enter Tryz.func27,Tryz.ntmps27
    go_wp2_with fail
    rw [<- hW0];clear hW0;rw [<- hq0] at f0 f1 f2 HFH;rw [<- hq0];clear hq0
    go_wp2_with (go_at_call 43;with_reducible (refine Calls.mono (HIN1.out _) ?_);rintro e w1 ⟨rfl,rfl⟩)
    clear f0 f1 f2 d1 d2 HIN1
    go_loopw [3] (fun i wr=>∃ k:Nat,k<=N1/\i=.int .i64 k/\Hid (∀ j,j < k->gd1 t j)/\Hid (Below W0.heap.size W0 wr)) (fun i _=>N1 - (intOf i).toNat)
    case atStart=>exact ⟨0,Nat.zero_le _,rfl,fun j hj=>absurd hj (Nat.not_lt_zero j),Below.refl _ _⟩
    case round =>
     obtain ⟨k,hk,rfl,hI,hB⟩:=hrel;have k0:(0:Int)<=(k:Int):=by omega
     by_cases hlt:k < N1
     ·have k1:(k:Int) < (N1:Int):=by omega
      have hkx:k < t.ts.length:=by have:=HN1.out;omega
      obtain ⟨b,off,hA,hbl,u0,u1,u2,u3,u4,u5⟩:=(HTB.out wr hB.out).ts k hkx;have hpl:=fun W=>HPL.out t.ts[k].id t.ts[k].quota t.ts[k].rate t.ts[k].burst t.ts[k].key W
      have how:=fun X hb=>HOWH.out t.ts[k].id X hb
      obtain ⟨LO,hLO⟩:∃ P:Prop,(P↔∀ h2:0 < k,(t.ts[k - 1]'(by omega)).id < t.ts[k].id):=⟨_,Iff.rfl⟩;have hgd:gd1 t k↔jcC t.ts[k].id t.ts[k].quota t.ts[k].rate t.ts[k].burst t.ts[k].key/\LO/\(ja0 t.os t.ts[k].id:Int)<=t.ts[k].quota:=⟨fun ⟨_,q1,q2,q3⟩=>⟨q1,hLO.2 q2,q3⟩,fun ⟨q1,q2,q3⟩=>⟨hkx,q1,hLO.1 q2,q3⟩⟩;have hmle:=HOL.out t.ts[k].id;obtain ⟨m,hm⟩:∃ m,m=ja0 t.os t.ts[k].id:=⟨_,rfl⟩;simp only [<- hm] at how hgd hmle
      obtain ⟨j,pz,hjk,hlo,hpc⟩:∃ (j:Nat) (pz:Int),(0 < k->k=j + 1)/\(LO↔(0 < k->pz < t.ts[k].id))/\∀ X,Below W0.heap.size W0 X->0 < k->X.cell? ⟨b,off + j * 6,none⟩=some (.int .i64 pz):=by
       by_cases h0:k=0
       ·exact ⟨0,0,fun q=>by omega,⟨fun _ q=>by omega,fun _=>hLO.2 fun q=>by omega⟩,fun _ _ q=>by omega⟩
       ·obtain ⟨j,hj⟩:∃ j,k=j + 1:=⟨k - 1,by omega⟩;have hjx:j < t.ts.length:=by omega
        refine ⟨j,t.ts[j].id,fun _=>hj,?_,fun X hb _=>?_⟩
        ·rw [hLO];simp only [show k - 1=j by omega]
        ·obtain ⟨b2,off2,e,_,c0,_⟩:=(HTB.out X hb).ts j hjx;rw [hA] at e;injection e with e
         injection e with e1 e2
         subst e1 e2;exact c0
      clear hLO;obtain ⟨x,hx⟩:∃ x,x=t.ts[k]:=⟨_,rfl⟩;simp only [<- hx] at u0 u1 u2 u3 u4 u5 hpl how hgd hlo;clear hx hm;obtain ⟨p0,p1,p2,p3,p4,p5⟩:=x;simp only at u0 u1 u2 u3 u4 u5 hpl how hgd hlo;obtain ⟨bp,hbp⟩:∃ b,b=decide (jcC p0 p1 p2 p3 p4):=⟨_,rfl⟩;simp only [<- hbp] at hpl;have HBP:Hid (bp=true↔jcC p0 p1 p2 p3 p4):=by unfold Hid;rw [hbp,decide_eq_true_iff]
      have HLOI:=Lib.hid hlo;have HPC:=Lib.hid hpc;have HJK:=Lib.hid hjk;have HPL1:=Lib.hid hpl;clear hbp hlo hpc hjk hpl;have hb1:Below wr.heap.size wr (wr.alloc (.cells #[.int .i64 p0,.int .i64 p1,.int .i64 p2,.int .i64 p3,.string p4,.bool p5] 52)):=(Below.refl _ _).alloc (Nat.le_refl _) _;have HX:Hid (∀ X,Below (wr.alloc (.cells #[.int .i64 p0,.int .i64 p1,.int .i64 p2,.int .i64 p3,.string p4,.bool p5] 52)).heap.size (wr.alloc (.cells #[.int .i64 p0,.int .i64 p1,.int .i64 p2,.int .i64 p3,.string p4,.bool p5] 52)) X->X.cell? ⟨wr.heap.size,0,none⟩=some (.int .i64 p0)/\X.cell? ⟨wr.heap.size,1,none⟩=some (.int .i64 p1)/\X.cell? ⟨wr.heap.size,2,none⟩=some (.int .i64 p2)/\X.cell? ⟨wr.heap.size,3,none⟩=some (.int .i64 p3)/\X.cell? ⟨wr.heap.size,4,none⟩=some (.string p4)):=fun X hb=>jpg ((hb.block _ (by simp)).trans (heap_alloc_new wr _))
      have HWR:=Lib.hid (jaa hB.out hb1);obtain ⟨A1,c1,A2,c2,A3,c3⟩:=V;simp only at hA;subst hA;simp only at HFH HOWH how;obtain ⟨f0,f1,f2⟩:=HFH.out wr hB.out;have HOWN:=Lib.hid how;have HGD:=Lib.hid hgd
      have HNX:Hid (gd1 t k->∀ j,j < k + 1->gd1 t j):=fun hg j hj=>by
       rcases Nat.lt_or_ge j k with q | q
       ·exact hI.out j q
       ·have:j=k:=by omega
        subst this;exact hg
      have HNO:Hid (¬ gd1 t k->S=false):=fun hg=>by
       cases hs:S with
       | false=>rfl
       | true=>exact absurd ((HS.out.1 hs).2.2.2.1 k hlt) hg
      clear how hgd hI;go_wp2;have hbx:Below (wr.alloc (.cells #[.int .i64 p0,.int .i64 p1,.int .i64 p2,.int .i64 p3,.string p4,.bool p5] 52)).heap.size (wr.alloc (.cells #[.int .i64 p0,.int .i64 p1,.int .i64 p2,.int .i64 p3,.string p4,.bool p5] 52)) (wr.alloc (.cells #[.int .i64 p0,.int .i64 p1,.int .i64 p2,.int .i64 p3,.string p4,.bool p5] 52)).drew:=(Below.refl _ _).drew;obtain ⟨W1,hW1⟩:∃ W,W=(wr.alloc (.cells #[.int .i64 p0,.int .i64 p1,.int .i64 p2,.int .i64 p3,.string p4,.bool p5] 52)):=⟨_,rfl⟩;obtain ⟨q1,hq1⟩:∃ q,q=wr.heap.size:=⟨_,rfl⟩;rw [<- hW1] at HX HWR hbx ⊢;rw [<- hq1] at HX ⊢;clear hW1 hq1 hb1 f0 f1 f2;refine wp_region_held_drew (S:=(fun X=>(X.cell? ⟨q1,0,none⟩=some (.int .i64 p0)/\X.cell? ⟨q1,1,none⟩=some (.int .i64 p1)/\X.cell? ⟨q1,2,none⟩=some (.int .i64 p2)/\X.cell? ⟨q1,3,none⟩=some (.int .i64 p3)/\X.cell? ⟨q1,4,none⟩=some (.string p4))/\(X.cell? ⟨q0,0,none⟩=some (.slice (some ⟨b,off,none⟩) N1 c1)/\X.cell? ⟨q0,1,none⟩=some (.slice A2 N2 c2)/\X.cell? ⟨q0,2,none⟩=some (.slice A3 N3 c3))/\(0 < k->X.cell? ⟨b,off + j * 6,none⟩=some (.int .i64 pz)))) (by kernel_rfl) (⟨HX.out _ hbx,HFH.out _ (jaa HWR.out hbx),HPC.out _ (jaa HWR.out hbx)⟩) (fun hHeld=>?_);refine tk 0 37 ?_
      (try simp only [Act.put,tk1,tk2,tk3])
      refine tkS 1 38 (v:=?_) ?_ ?_
      rotate_left 1
      ·intro w hSw;obtain ⟨⟨s0,s1,s2,s3,s4⟩,⟨s5,s6,s7⟩,s8⟩:=hSw;first | (go_simp;done) | (go_simp;with_reducible rfl)
      (try simp only [Act.put,tk1,tk2,tk3])
      refine tk 2 39 ?_
      (try simp only [Act.put,tk1,tk2,tk3])
      refine tkS 3 40 (v:=?_) ?_ ?_
      rotate_left 1
      ·intro w hSw;obtain ⟨⟨s0,s1,s2,s3,s4⟩,⟨s5,s6,s7⟩,s8⟩:=hSw;first | (go_simp;done) | (go_simp;with_reducible rfl)
      (try simp only [Act.put,tk1,tk2,tk3])
      refine tk 4 41 ?_
      (try simp only [Act.put,tk1,tk2,tk3])
      refine tkS 5 42 (v:=?_) ?_ ?_
      rotate_left 1
      ·intro w hSw;obtain ⟨⟨s0,s1,s2,s3,s4⟩,⟨s5,s6,s7⟩,s8⟩:=hSw;first | (go_simp;done) | (go_simp;with_reducible rfl)
      (try simp only [Act.put,tk1,tk2,tk3])
      refine tk 6 43 ?_
      (try simp only [Act.put,tk1,tk2,tk3])
      refine tkS 7 44 (v:=?_) ?_ ?_
      rotate_left 1
      ·intro w hSw;obtain ⟨⟨s0,s1,s2,s3,s4⟩,⟨s5,s6,s7⟩,s8⟩:=hSw;first | (go_simp;done) | (go_simp;with_reducible rfl)
      (try simp only [Act.put,tk1,tk2,tk3])
      refine tk 8 45 ?_
      (try simp only [Act.put,tk1,tk2,tk3])
      refine tkS 9 46 (v:=?_) ?_ ?_
      rotate_left 1
      ·intro w hSw;obtain ⟨⟨s0,s1,s2,s3,s4⟩,⟨s5,s6,s7⟩,s8⟩:=hSw;first | (go_simp;done) | (go_simp;with_reducible rfl)
      (try simp only [Act.put,tk1,tk2,tk3])
      refine wpAnyH_ready (rs:=[10]) (by kernel_rfl) (by simp) ?_;refine AllReadyH.cons (o:=_) rfl (fun K hK=>?_) AllReadyH.nil
      go_simp
      (go_at_call 44;with_reducible (refine Calls.mono (HPL1.out _) ?_);rintro e w7 ⟨rfl,rfl⟩)
      refine hK.out _ _ (⟨HX.out _ hbx,HFH.out _ (jaa HWR.out hbx),HPC.out _ (jaa HWR.out hbx)⟩) (fun hHeld10=>?_)
      (try simp only [Act.put,tk1,tk2,tk3])
      clear hK K;cases bp
      ·(try simp only [Bool.not_true,Bool.not_false])
       have HF:Hid (S=false):=HNO.out fun hg=>by have:=HBP.out.2 (HGD.out.1 hg).1;cases this
       refine tk 11 48 ?_
       (try simp only [Act.put,tk1,tk2,tk3])
       refine tk 12 49 ?_
       (try simp only [Act.put,tk1,tk2,tk3])
       refine tk 13 50 ?_
       (try simp only [Act.put,tk1,tk2,tk3])
       refine tk 14 51 ?_
       (try simp only [Act.put,tk1,tk2,tk3])
       refine tk 15 52 ?_
       (try simp only [Act.put,tk1,tk2,tk3])
       refine tk 16 53 ?_
       (try simp only [Act.put,tk1,tk2,tk3])
       refine tk 17 54 ?_
       (try simp only [Act.put,tk1,tk2,tk3])
       refine tk 18 55 ?_
       (try simp only [Act.put,tk1,tk2,tk3])
       refine tk 19 56 ?_
       (try simp only [Act.put,tk1,tk2,tk3])
       refine tk 20 57 ?_
       (try simp only [Act.put,tk1,tk2,tk3])
       refine tk 21 58 ?_
       (try simp only [Act.put,tk1,tk2,tk3])
       refine tk 22 59 ?_
       (try simp only [Act.put,tk1,tk2,tk3])
       refine tk 23 60 ?_
       (try simp only [Act.put,tk1,tk2,tk3])
       refine tk 24 61 ?_
       (try simp only [Act.put,tk1,tk2,tk3])
       refine tk 25 62 ?_
       (try simp only [Act.put,tk1,tk2,tk3])
       refine tk 26 63 ?_
       (try simp only [Act.put,tk1,tk2,tk3])
       refine tk 27 64 ?_
       (try simp only [Act.put,tk1,tk2,tk3])
       refine tk 28 65 ?_
       (try simp only [Act.put,tk1,tk2,tk3])
       refine tk 29 66 ?_
       (try simp only [Act.put,tk1,tk2,tk3])
       refine tk 30 67 ?_
       (try simp only [Act.put,tk1,tk2,tk3])
       refine tk 31 68 ?_
       (try simp only [Act.put,tk1,tk2,tk3])
       refine tk 32 69 ?_
       (try simp only [Act.put,tk1,tk2,tk3])
       refine tk 33 70 ?_
       (try simp only [Act.put,tk1,tk2,tk3])
       refine tk 34 71 ?_
       (try simp only [Act.put,tk1,tk2,tk3])
       refine tk 35 72 ?_
       (try simp only [Act.put,tk1,tk2,tk3])
       refine tk 36 73 ?_
       (try simp only [Act.put,tk1,tk2,tk3])
       refine wpAnyH_done (by kernel_rfl) ?_ _;have R:=Lib.hid (jaa HB0.out (jaa HWR.out hbx));go_wp2;go_ret;exact ⟨by rw [HF.out];rfl,R.out⟩
      ·(try simp only [Bool.not_true,Bool.not_false])
       have HP:Hid (jcC p0 p1 p2 p3 p4):=HBP.out.1 rfl;refine tk 11 48 ?_
       (try simp only [Act.put,tk1,tk2,tk3])
       refine tk 12 49 ?_
       (try simp only [Act.put,tk1,tk2,tk3])
       by_cases hk0:k=0
       ·have kp:decide ((0:Int) < (k:Int))=false:=decide_eq_false (by omega);have kp2:decide (0 < k)=false:=decide_eq_false (by omega);have HLO:Hid LO:=HLOI.out.2 fun q=>absurd q (by omega)
        clear hk0;refine tk 13 50 ?_
        (try simp only [Act.put,tk1,tk2,tk3])
        refine tk 14 51 ?_
        (try simp only [Act.put,tk1,tk2,tk3])
        refine tk 15 52 ?_
        (try simp only [Act.put,tk1,tk2,tk3])
        refine tk 16 53 ?_
        (try simp only [Act.put,tk1,tk2,tk3])
        refine tk 17 54 ?_
        (try simp only [Act.put,tk1,tk2,tk3])
        refine tk 18 55 ?_
        (try simp only [Act.put,tk1,tk2,tk3])
        refine tk 19 56 ?_
        (try simp only [Act.put,tk1,tk2,tk3])
        refine tk 20 57 ?_
        (try simp only [Act.put,tk1,tk2,tk3])
        refine tk 21 58 ?_
        (try simp only [Act.put,tk1,tk2,tk3])
        refine tk 22 59 ?_
        (try simp only [Act.put,tk1,tk2,tk3])
        refine tk 23 60 ?_
        (try simp only [Act.put,tk1,tk2,tk3])
        refine tk 24 61 ?_
        (try simp only [Act.put,tk1,tk2,tk3])
        refine tk 25 62 ?_
        (try simp only [Act.put,tk1,tk2,tk3])
        refine tk 26 63 ?_
        (try simp only [Act.put,tk1,tk2,tk3])
        refine tk 27 64 ?_
        (try simp only [Act.put,tk1,tk2,tk3])
        refine tk 28 65 ?_
        (try simp only [Act.put,tk1,tk2,tk3])
        refine tkS 29 66 (v:=?_) ?_ ?_
        rotate_left 1
        ·intro w hSw;obtain ⟨⟨s0,s1,s2,s3,s4⟩,⟨s5,s6,s7⟩,s8⟩:=hSw;first | (go_simp;done) | (go_simp;with_reducible rfl)
        (try simp only [Act.put,tk1,tk2,tk3])
        refine tk 30 67 ?_
        (try simp only [Act.put,tk1,tk2,tk3])
        refine tkS 31 68 (v:=?_) ?_ ?_
        rotate_left 1
        ·intro w hSw;obtain ⟨⟨s0,s1,s2,s3,s4⟩,⟨s5,s6,s7⟩,s8⟩:=hSw;first | (go_simp;done) | (go_simp;with_reducible rfl)
        (try simp only [Act.put,tk1,tk2,tk3])
        refine tk 33 70 ?_
        (try simp only [Act.put,tk1,tk2,tk3])
        refine tkS 34 71 (v:=?_) ?_ ?_
        rotate_left 1
        ·intro w hSw;obtain ⟨⟨s0,s1,s2,s3,s4⟩,⟨s5,s6,s7⟩,s8⟩:=hSw;first | (go_simp;done) | (go_simp;with_reducible rfl)
        (try simp only [Act.put,tk1,tk2,tk3])
        refine wpAnyH_ready (rs:=[32]) (by kernel_rfl) (by simp) ?_;refine AllReadyH.cons (o:=_) rfl (fun K hK=>?_) AllReadyH.nil
        go_simp
        (go_at_call 45;with_reducible (refine Calls.mono (HOWN.out _ (jaa HWR.out hbx)) ?_);rintro e w7 ⟨rfl,hb7⟩;have hbx:=jaa hbx hb7)
        refine hK.out _ _ (⟨HX.out _ hbx,HFH.out _ (jaa HWR.out hbx),HPC.out _ (jaa HWR.out hbx)⟩) (fun hHeld32=>?_)
        (try simp only [Act.put,tk1,tk2,tk3])
        clear hK K;refine tk 35 72 ?_
        (try simp only [Act.put,tk1,tk2,tk3])
        refine tk 36 73 ?_
        (try simp only [Act.put,tk1,tk2,tk3])
        by_cases hom:(m:Int) > p1
        ·have HF:Hid (S=false):=HNO.out fun hg=>by have:=(HGD.out.1 hg).2.2;omega
         refine wpAnyH_done (by kernel_rfl) ?_ _;have R:=Lib.hid (jaa HB0.out (jaa HWR.out hbx));go_wp2;go_ret;exact ⟨by rw [HF.out];rfl,R.out⟩
        ·have hgood:gd1 t k:=HGD.out.2 ⟨HP.out,HLO.out,by omega⟩;have HJ:=Lib.hid (HNX.out hgood);clear hgood;refine wpAnyH_done (by kernel_rfl) ?_ _;have R:=Lib.hid (jaa HWR.out hbx);go_wp2;clear hbx;go_roundw
         case rel=>first | exact ⟨k + 1,by omega,by go_num,HJ,R⟩ | ((repeat apply Exists.intro);exact ⟨⟨k + 1,by omega,by go_num,HJ,R⟩,rfl⟩)
         case measure=>first | (simp [intOf];done) | (simp [intOf];omega)
       ·have hkp:0 < k:=by omega
        have hj:=HJK.out hkp;have j0:(0:Int)<=(j:Int):=by omega
        have j1:(j:Int) < (N1:Int):=by omega
        have v1:IntKind.i64.wrap ((k:Int) - 1)=(j:Int):=by rw [show (k:Int) - 1=(j:Int) by omega];exact IntWalk.i64_in _ (by omega)
        have kp:decide ((0:Int) < (k:Int))=true:=decide_eq_true (by omega);clear hj hk0;refine tk 13 50 ?_
        (try simp only [Act.put,tk1,tk2,tk3])
        refine tk 14 51 ?_
        (try simp only [Act.put,tk1,tk2,tk3])
        refine tk 15 52 ?_
        (try simp only [Act.put,tk1,tk2,tk3])
        refine tk 16 53 ?_
        (try simp only [Act.put,tk1,tk2,tk3])
        refine tkS 17 54 (v:=?_) ?_ ?_
        rotate_left 1
        ·intro w hSw;obtain ⟨⟨s0,s1,s2,s3,s4⟩,⟨s5,s6,s7⟩,s8⟩:=hSw;first | (go_simp;done) | (go_simp;with_reducible rfl)
        (try simp only [Act.put,tk1,tk2,tk3])
        refine tk 18 55 ?_
        (try simp only [Act.put,tk1,tk2,tk3])
        refine tkS 19 56 (v:=?_) ?_ ?_
        rotate_left 1
        ·intro w hSw;obtain ⟨⟨s0,s1,s2,s3,s4⟩,⟨s5,s6,s7⟩,s8⟩:=hSw;first | (go_simp;done) | (go_simp;with_reducible rfl)
        (try simp only [Act.put,tk1,tk2,tk3])
        refine tk 20 57 ?_
        (try simp only [Act.put,tk1,tk2,tk3])
        refine tk 21 58 ?_
        (try simp only [Act.put,tk1,tk2,tk3])
        refine tk 22 59 ?_
        (try simp only [Act.put,tk1,tk2,tk3])
        refine tk 23 60 ?_
        (try simp only [Act.put,tk1,tk2,tk3])
        refine tkS 24 61 (v:=?_) ?_ ?_
        rotate_left 1
        ·intro w hSw;obtain ⟨⟨s0,s1,s2,s3,s4⟩,⟨s5,s6,s7⟩,s8⟩:=hSw;have s9:=s8 hkp;clear s8;first | (go_simp;done) | (go_simp;with_reducible rfl)
        (try simp only [Act.put,tk1,tk2,tk3])
        by_cases hid:p0<=pz
        ·have HF:Hid (S=false):=HNO.out fun hg=>by have:=HLOI.out.1 (HGD.out.1 hg).2.1 hkp;omega
         have d1:decide (p0<=pz)=true:=decide_eq_true hid;clear hid;refine tk 25 62 ?_
         (try simp only [Act.put,tk1,tk2,tk3])
         refine tk 26 63 ?_
         (try simp only [Act.put,tk1,tk2,tk3])
         refine tk 27 64 ?_
         (try simp only [Act.put,tk1,tk2,tk3])
         refine tk 28 65 ?_
         (try simp only [Act.put,tk1,tk2,tk3])
         refine tk 29 66 ?_
         (try simp only [Act.put,tk1,tk2,tk3])
         refine tk 30 67 ?_
         (try simp only [Act.put,tk1,tk2,tk3])
         refine tk 31 68 ?_
         (try simp only [Act.put,tk1,tk2,tk3])
         refine tk 32 69 ?_
         (try simp only [Act.put,tk1,tk2,tk3])
         refine tk 33 70 ?_
         (try simp only [Act.put,tk1,tk2,tk3])
         refine tk 34 71 ?_
         (try simp only [Act.put,tk1,tk2,tk3])
         refine tk 35 72 ?_
         (try simp only [Act.put,tk1,tk2,tk3])
         refine tk 36 73 ?_
         (try simp only [Act.put,tk1,tk2,tk3])
         refine wpAnyH_done (by kernel_rfl) ?_ _;have R:=Lib.hid (jaa HB0.out (jaa HWR.out hbx));go_wp2;go_ret;exact ⟨by rw [HF.out];rfl,R.out⟩
        ·have HLO:Hid LO:=HLOI.out.2 fun _=>by omega
         have d1:decide (p0<=pz)=false:=decide_eq_false hid;clear hid;refine tk 25 62 ?_
         (try simp only [Act.put,tk1,tk2,tk3])
         refine tk 26 63 ?_
         (try simp only [Act.put,tk1,tk2,tk3])
         refine tk 27 64 ?_
         (try simp only [Act.put,tk1,tk2,tk3])
         refine tk 28 65 ?_
         (try simp only [Act.put,tk1,tk2,tk3])
         refine tkS 29 66 (v:=?_) ?_ ?_
         rotate_left 1
         ·intro w hSw;obtain ⟨⟨s0,s1,s2,s3,s4⟩,⟨s5,s6,s7⟩,s8⟩:=hSw;first | (go_simp;done) | (go_simp;with_reducible rfl)
         (try simp only [Act.put,tk1,tk2,tk3])
         refine tk 30 67 ?_
         (try simp only [Act.put,tk1,tk2,tk3])
         refine tkS 31 68 (v:=?_) ?_ ?_
         rotate_left 1
         ·intro w hSw;obtain ⟨⟨s0,s1,s2,s3,s4⟩,⟨s5,s6,s7⟩,s8⟩:=hSw;first | (go_simp;done) | (go_simp;with_reducible rfl)
         (try simp only [Act.put,tk1,tk2,tk3])
         refine tk 33 70 ?_
         (try simp only [Act.put,tk1,tk2,tk3])
         refine tkS 34 71 (v:=?_) ?_ ?_
         rotate_left 1
         ·intro w hSw;obtain ⟨⟨s0,s1,s2,s3,s4⟩,⟨s5,s6,s7⟩,s8⟩:=hSw;first | (go_simp;done) | (go_simp;with_reducible rfl)
         (try simp only [Act.put,tk1,tk2,tk3])
         refine wpAnyH_ready (rs:=[32]) (by kernel_rfl) (by simp) ?_;refine AllReadyH.cons (o:=_) rfl (fun K hK=>?_) AllReadyH.nil
         go_simp
         (go_at_call 45;with_reducible (refine Calls.mono (HOWN.out _ (jaa HWR.out hbx)) ?_);rintro e w7 ⟨rfl,hb7⟩;have hbx:=jaa hbx hb7)
         refine hK.out _ _ (⟨HX.out _ hbx,HFH.out _ (jaa HWR.out hbx),HPC.out _ (jaa HWR.out hbx)⟩) (fun hHeld32=>?_)
         (try simp only [Act.put,tk1,tk2,tk3])
         clear hK K;refine tk 35 72 ?_
         (try simp only [Act.put,tk1,tk2,tk3])
         refine tk 36 73 ?_
         (try simp only [Act.put,tk1,tk2,tk3])
         by_cases hom:(m:Int) > p1
         ·have HF:Hid (S=false):=HNO.out fun hg=>by have:=(HGD.out.1 hg).2.2;omega
          refine wpAnyH_done (by kernel_rfl) ?_ _;have R:=Lib.hid (jaa HB0.out (jaa HWR.out hbx));go_wp2;go_ret;exact ⟨by rw [HF.out];rfl,R.out⟩
         ·have hgood:gd1 t k:=HGD.out.2 ⟨HP.out,HLO.out,by omega⟩;have HJ:=Lib.hid (HNX.out hgood);clear hgood;refine wpAnyH_done (by kernel_rfl) ?_ _;have R:=Lib.hid (jaa HWR.out hbx);go_wp2;clear hbx;go_roundw
          case rel=>first | exact ⟨k + 1,by omega,by go_num,HJ,R⟩ | ((repeat apply Exists.intro);exact ⟨⟨k + 1,by omega,by go_num,HJ,R⟩,rfl⟩)
          case measure=>first | (simp [intOf];done) | (simp [intOf];omega)
     ·have hkN:N1=k:=by omega
      subst hkN;have k1:¬ (N1:Int) < (N1:Int):=by omega
      obtain ⟨f0,f1,f2⟩:=HFH.out wr hB.out;have HG1:=hI;have HB1:=hB;clear hI hB hlt hk k0;go_wp2;clear f0 f1 f2 k1
      go_loopw [5] (fun i wr=>∃ k:Nat,k<=N2/\i=.int .i64 k/\Hid (∀ j,j < k->gd2 t j)/\Hid (Below W0.heap.size W0 wr)) (fun i _=>N2 - (intOf i).toNat)
      case atStart=>exact ⟨0,Nat.zero_le _,rfl,fun j hj=>absurd hj (Nat.not_lt_zero j),HB1.out⟩
      case round =>
       clear HB1;obtain ⟨k,hk,rfl,hI,hB⟩:=hrel;have k0:(0:Int)<=(k:Int):=by omega
       by_cases hlt:k < N2
       ·have k1:(k:Int) < (N2:Int):=by omega
        have hkx:k < t.vs.length:=by have:=HN2.out;omega
        obtain ⟨b,off,hA,hbl,u0,u1,u2,u3⟩:=(HTB.out wr hB.out).vs k hkx;have hia:=fun W=>HIN.out t.vs[k].id 0 7 W
        have hib:=fun W=>HIN.out t.vs[k].blocks 0 32 W
        have hic:=fun W=>HIN.out t.vs[k].base 0 1099511627776 W
        have hte:=fun X hb=>HTEH.out t.vs[k].ten X hb
        obtain ⟨LO,hLO⟩:∃ P:Prop,(P↔∀ h2:0 < k,(t.vs[k - 1]'(by omega)).id < t.vs[k].id):=⟨_,Iff.rfl⟩;have hgd:gd2 t k↔inR t.vs[k].id 0 7/\LO/\(tenAt t.ts t.vs[k].ten).isSome=true/\inR t.vs[k].blocks 0 32/\inR t.vs[k].base 0 1099511627776:=⟨fun ⟨_,q1,q2,q3⟩=>⟨q1,hLO.2 q2,q3⟩,fun ⟨q1,q2,q3⟩=>⟨hkx,q1,hLO.1 q2,q3⟩⟩;have hsg:=HSG.out t.vs[k].ten
        obtain ⟨j,pz,hjk,hlo,hpc⟩:∃ (j:Nat) (pz:Int),(0 < k->k=j + 1)/\(LO↔(0 < k->pz < t.vs[k].id))/\∀ X,Below W0.heap.size W0 X->0 < k->X.cell? ⟨b,off + j * 4,none⟩=some (.int .i64 pz):=by
         by_cases h0:k=0
         ·exact ⟨0,0,fun q=>by omega,⟨fun _ q=>by omega,fun _=>hLO.2 fun q=>by omega⟩,fun _ _ q=>by omega⟩
         ·obtain ⟨j,hj⟩:∃ j,k=j + 1:=⟨k - 1,by omega⟩;have hjx:j < t.vs.length:=by omega
          refine ⟨j,t.vs[j].id,fun _=>hj,?_,fun X hb _=>?_⟩
          ·rw [hLO];simp only [show k - 1=j by omega]
          ·obtain ⟨b2,off2,e,_,c0,_⟩:=(HTB.out X hb).vs j hjx;rw [hA] at e;injection e with e
           injection e with e1 e2
           subst e1 e2;exact c0
        clear hLO;obtain ⟨x,hx⟩:∃ x,x=t.vs[k]:=⟨_,rfl⟩;simp only [<- hx] at u0 u1 u2 u3 hia hib hic hte hgd hsg hlo;clear hx;obtain ⟨p0,p1,p2,p3⟩:=x;simp only at u0 u1 u2 u3 hia hib hic hte hgd hsg hlo;have HLOI:=Lib.hid hlo;have HPC:=Lib.hid hpc;have HJK:=Lib.hid hjk;obtain ⟨ba,hba⟩:∃ b,b=decide (inR p0 0 7):=⟨_,rfl⟩;obtain ⟨bk,hbk⟩:∃ b,b=decide (inR p2 0 32):=⟨_,rfl⟩;obtain ⟨bs,hbs⟩:∃ b,b=decide (inR p3 0 1099511627776):=⟨_,rfl⟩;simp only [<- hba] at hia;simp only [<- hbk] at hib;simp only [<- hbs] at hic;have HBA:Hid (ba=true↔inR p0 0 7):=by unfold Hid;rw [hba,decide_eq_true_iff]
        have HBB:Hid (bk=true↔inR p2 0 32):=by unfold Hid;rw [hbk,decide_eq_true_iff]
        have HBC:Hid (bs=true↔inR p3 0 1099511627776):=by unfold Hid;rw [hbs,decide_eq_true_iff]
        have HA:=Lib.hid hia;have HBK:=Lib.hid hib;have HBS:=Lib.hid hic;clear hlo hpc hjk hba hbk hbs hia hib hic;obtain ⟨c,hc⟩:∃ c,c=jdI t.ts p1:=⟨_,rfl⟩;simp only [<- hc] at hte hsg;obtain ⟨hs1,hs2,hs3⟩:=hsg;have hb1:Below wr.heap.size wr (wr.alloc (.cells #[.int .i64 p0,.int .i64 p1,.int .i64 p2,.int .i64 p3] 82)):=(Below.refl _ _).alloc (Nat.le_refl _) _;have HX:Hid (∀ X,Below (wr.alloc (.cells #[.int .i64 p0,.int .i64 p1,.int .i64 p2,.int .i64 p3] 82)).heap.size (wr.alloc (.cells #[.int .i64 p0,.int .i64 p1,.int .i64 p2,.int .i64 p3] 82)) X->X.cell? ⟨wr.heap.size,0,none⟩=some (.int .i64 p0)/\X.cell? ⟨wr.heap.size,1,none⟩=some (.int .i64 p1)/\X.cell? ⟨wr.heap.size,2,none⟩=some (.int .i64 p2)/\X.cell? ⟨wr.heap.size,3,none⟩=some (.int .i64 p3)):=fun X hb=>jpA ((hb.block _ (by simp)).trans (heap_alloc_new wr _))
        have HWR:=Lib.hid (jaa hB.out hb1);obtain ⟨A1,c1,A2,c2,A3,c3⟩:=V;simp only at hA;subst hA;simp only at HFH hte;obtain ⟨f0,f1,f2⟩:=HFH.out wr hB.out;have HTEN:=Lib.hid hte;have HGD:=Lib.hid hgd
        have HNX:Hid (gd2 t k->∀ j,j < k + 1->gd2 t j):=fun hg j hj=>by
         rcases Nat.lt_or_ge j k with q | q
         ·exact hI.out j q
         ·have:j=k:=by omega
          subst this;exact hg
        have HNO:Hid (¬ gd2 t k->S=false):=fun hg=>by
         cases hs:S with
         | false=>rfl
         | true=>exact absurd ((HS.out.1 hs).2.2.2.2.1 k hlt) hg
        clear hte hgd hI hc;go_wp2;have hbx:Below (wr.alloc (.cells #[.int .i64 p0,.int .i64 p1,.int .i64 p2,.int .i64 p3] 82)).heap.size (wr.alloc (.cells #[.int .i64 p0,.int .i64 p1,.int .i64 p2,.int .i64 p3] 82)) (wr.alloc (.cells #[.int .i64 p0,.int .i64 p1,.int .i64 p2,.int .i64 p3] 82)).drew:=(Below.refl _ _).drew;obtain ⟨W1,hW1⟩:∃ W,W=(wr.alloc (.cells #[.int .i64 p0,.int .i64 p1,.int .i64 p2,.int .i64 p3] 82)):=⟨_,rfl⟩;obtain ⟨q1,hq1⟩:∃ q,q=wr.heap.size:=⟨_,rfl⟩;rw [<- hW1] at HX HWR hbx ⊢;rw [<- hq1] at HX ⊢;clear hW1 hq1 hb1 f0 f1 f2;refine wp_region_held_drew (S:=(fun X=>(X.cell? ⟨q1,0,none⟩=some (.int .i64 p0)/\X.cell? ⟨q1,1,none⟩=some (.int .i64 p1)/\X.cell? ⟨q1,2,none⟩=some (.int .i64 p2)/\X.cell? ⟨q1,3,none⟩=some (.int .i64 p3))/\(X.cell? ⟨q0,0,none⟩=some (.slice A1 N1 c1)/\X.cell? ⟨q0,1,none⟩=some (.slice (some ⟨b,off,none⟩) N2 c2)/\X.cell? ⟨q0,2,none⟩=some (.slice A3 N3 c3))/\(0 < k->X.cell? ⟨b,off + j * 4,none⟩=some (.int .i64 pz)))) (by kernel_rfl) (⟨HX.out _ hbx,HFH.out _ (jaa HWR.out hbx),HPC.out _ (jaa HWR.out hbx)⟩) (fun hHeld=>?_);refine tk 0 86 ?_
        (try simp only [Act.put,tk1,tk2,tk3])
        refine tkS 1 87 (v:=?_) ?_ ?_
        rotate_left 1
        ·intro w hSw;obtain ⟨⟨s0,s1,s2,s3⟩,⟨s5,s6,s7⟩,s8⟩:=hSw;first | (go_simp;done) | (go_simp;with_reducible rfl)
        (try simp only [Act.put,tk1,tk2,tk3])
        refine wpAnyH_ready (rs:=[2]) (by kernel_rfl) (by simp) ?_;refine AllReadyH.cons (o:=_) rfl (fun K hK=>?_) AllReadyH.nil
        go_simp
        (go_at_call 43;with_reducible (refine Calls.mono (HA.out _) ?_);rintro e w7 ⟨rfl,rfl⟩)
        refine hK.out _ _ (⟨HX.out _ hbx,HFH.out _ (jaa HWR.out hbx),HPC.out _ (jaa HWR.out hbx)⟩) (fun hHeld2=>?_)
        (try simp only [Act.put,tk1,tk2,tk3])
        clear hK K;cases ba
        ·(try simp only [Bool.not_true,Bool.not_false])
         have HF:Hid (S=false):=HNO.out fun hg=>by have:=HBA.out.2 (HGD.out.1 hg).1;cases this
         refine tk 3 89 ?_
         (try simp only [Act.put,tk1,tk2,tk3])
         refine tk 4 90 ?_
         (try simp only [Act.put,tk1,tk2,tk3])
         refine tk 5 91 ?_
         (try simp only [Act.put,tk1,tk2,tk3])
         refine tk 6 92 ?_
         (try simp only [Act.put,tk1,tk2,tk3])
         refine tk 7 93 ?_
         (try simp only [Act.put,tk1,tk2,tk3])
         refine tk 8 94 ?_
         (try simp only [Act.put,tk1,tk2,tk3])
         refine tk 9 95 ?_
         (try simp only [Act.put,tk1,tk2,tk3])
         refine tk 10 96 ?_
         (try simp only [Act.put,tk1,tk2,tk3])
         refine tk 11 97 ?_
         (try simp only [Act.put,tk1,tk2,tk3])
         refine tk 12 98 ?_
         (try simp only [Act.put,tk1,tk2,tk3])
         refine tk 13 99 ?_
         (try simp only [Act.put,tk1,tk2,tk3])
         refine tk 14 100 ?_
         (try simp only [Act.put,tk1,tk2,tk3])
         refine tk 15 101 ?_
         (try simp only [Act.put,tk1,tk2,tk3])
         refine tk 16 102 ?_
         (try simp only [Act.put,tk1,tk2,tk3])
         refine tk 17 103 ?_
         (try simp only [Act.put,tk1,tk2,tk3])
         refine tk 18 104 ?_
         (try simp only [Act.put,tk1,tk2,tk3])
         refine tk 19 105 ?_
         (try simp only [Act.put,tk1,tk2,tk3])
         refine tk 20 106 ?_
         (try simp only [Act.put,tk1,tk2,tk3])
         refine tk 21 107 ?_
         (try simp only [Act.put,tk1,tk2,tk3])
         refine tk 22 108 ?_
         (try simp only [Act.put,tk1,tk2,tk3])
         refine tk 23 109 ?_
         (try simp only [Act.put,tk1,tk2,tk3])
         refine tk 24 110 ?_
         (try simp only [Act.put,tk1,tk2,tk3])
         refine tk 25 111 ?_
         (try simp only [Act.put,tk1,tk2,tk3])
         refine tk 26 112 ?_
         (try simp only [Act.put,tk1,tk2,tk3])
         refine tk 27 113 ?_
         (try simp only [Act.put,tk1,tk2,tk3])
         refine tk 28 114 ?_
         (try simp only [Act.put,tk1,tk2,tk3])
         refine tk 29 115 ?_
         (try simp only [Act.put,tk1,tk2,tk3])
         refine tk 30 116 ?_
         (try simp only [Act.put,tk1,tk2,tk3])
         refine tk 31 117 ?_
         (try simp only [Act.put,tk1,tk2,tk3])
         refine tk 32 118 ?_
         (try simp only [Act.put,tk1,tk2,tk3])
         refine tk 33 119 ?_
         (try simp only [Act.put,tk1,tk2,tk3])
         refine tk 34 120 ?_
         (try simp only [Act.put,tk1,tk2,tk3])
         refine tk 35 121 ?_
         (try simp only [Act.put,tk1,tk2,tk3])
         refine tk 36 122 ?_
         (try simp only [Act.put,tk1,tk2,tk3])
         refine tk 37 123 ?_
         (try simp only [Act.put,tk1,tk2,tk3])
         refine tk 38 124 ?_
         (try simp only [Act.put,tk1,tk2,tk3])
         refine wpAnyH_done (by kernel_rfl) ?_ _;have R:=Lib.hid (jaa HB0.out (jaa HWR.out hbx));go_wp2;go_ret;exact ⟨by rw [HF.out];rfl,R.out⟩
        ·(try simp only [Bool.not_true,Bool.not_false])
         have HAA:Hid (inR p0 0 7):=HBA.out.1 rfl;refine tk 3 89 ?_
         (try simp only [Act.put,tk1,tk2,tk3])
         refine tk 4 90 ?_
         (try simp only [Act.put,tk1,tk2,tk3])
         by_cases hk0:k=0
         ·have kp:decide ((0:Int) < (k:Int))=false:=decide_eq_false (by omega);have kp2:decide (0 < k)=false:=decide_eq_false (by omega);have HLO:Hid LO:=HLOI.out.2 fun q=>absurd q (by omega)
          clear hk0;refine tk 5 91 ?_
          (try simp only [Act.put,tk1,tk2,tk3])
          refine tk 6 92 ?_
          (try simp only [Act.put,tk1,tk2,tk3])
          refine tk 7 93 ?_
          (try simp only [Act.put,tk1,tk2,tk3])
          refine tk 8 94 ?_
          (try simp only [Act.put,tk1,tk2,tk3])
          refine tk 9 95 ?_
          (try simp only [Act.put,tk1,tk2,tk3])
          refine tk 10 96 ?_
          (try simp only [Act.put,tk1,tk2,tk3])
          refine tk 11 97 ?_
          (try simp only [Act.put,tk1,tk2,tk3])
          refine tk 12 98 ?_
          (try simp only [Act.put,tk1,tk2,tk3])
          refine tk 13 99 ?_
          (try simp only [Act.put,tk1,tk2,tk3])
          refine tk 14 100 ?_
          (try simp only [Act.put,tk1,tk2,tk3])
          refine tk 15 101 ?_
          (try simp only [Act.put,tk1,tk2,tk3])
          refine tk 16 102 ?_
          (try simp only [Act.put,tk1,tk2,tk3])
          refine tk 17 103 ?_
          (try simp only [Act.put,tk1,tk2,tk3])
          refine tk 18 104 ?_
          (try simp only [Act.put,tk1,tk2,tk3])
          refine tk 19 105 ?_
          (try simp only [Act.put,tk1,tk2,tk3])
          refine tk 20 106 ?_
          (try simp only [Act.put,tk1,tk2,tk3])
          refine tkS 21 107 (v:=?_) ?_ ?_
          rotate_left 1
          ·intro w hSw;obtain ⟨⟨s0,s1,s2,s3⟩,⟨s5,s6,s7⟩,s8⟩:=hSw;first | (go_simp;done) | (go_simp;with_reducible rfl)
          (try simp only [Act.put,tk1,tk2,tk3])
          refine tk 22 108 ?_
          (try simp only [Act.put,tk1,tk2,tk3])
          refine tkS 23 109 (v:=?_) ?_ ?_
          rotate_left 1
          ·intro w hSw;obtain ⟨⟨s0,s1,s2,s3⟩,⟨s5,s6,s7⟩,s8⟩:=hSw;first | (go_simp;done) | (go_simp;with_reducible rfl)
          (try simp only [Act.put,tk1,tk2,tk3])
          refine wpAnyH_ready (rs:=[24]) (by kernel_rfl) (by simp) ?_;refine AllReadyH.cons (o:=_) rfl (fun K hK=>?_) AllReadyH.nil
          go_simp
          (go_at_call 46;with_reducible (refine Calls.mono (HTEN.out _ (jaa HWR.out hbx)) ?_);rintro e w7 ⟨rfl,hb7⟩;have hbx:=jaa hbx hb7)
          refine hK.out _ _ (⟨HX.out _ hbx,HFH.out _ (jaa HWR.out hbx),HPC.out _ (jaa HWR.out hbx)⟩) (fun hHeld24=>?_)
          (try simp only [Act.put,tk1,tk2,tk3])
          clear hK K;by_cases hso:(tenAt t.ts p1).isSome=true
          ·have e1:decide (c < 0)=false:=decide_eq_false fun q=>by have:=hs3.1 q;rw [hso] at this;cases this
           have HSO:=Lib.hid hso;clear hso hs3;refine tk 25 111 ?_
           (try simp only [Act.put,tk1,tk2,tk3])
           refine tk 26 112 ?_
           (try simp only [Act.put,tk1,tk2,tk3])
           refine tk 27 113 ?_
           (try simp only [Act.put,tk1,tk2,tk3])
           refine tk 28 114 ?_
           (try simp only [Act.put,tk1,tk2,tk3])
           refine tkS 29 115 (v:=?_) ?_ ?_
           rotate_left 1
           ·intro w hSw;obtain ⟨⟨s0,s1,s2,s3⟩,⟨s5,s6,s7⟩,s8⟩:=hSw;first | (go_simp;done) | (go_simp;with_reducible rfl)
           (try simp only [Act.put,tk1,tk2,tk3])
           refine wpAnyH_ready (rs:=[30]) (by kernel_rfl) (by simp) ?_;refine AllReadyH.cons (o:=_) rfl (fun K hK=>?_) AllReadyH.nil
           go_simp
           (go_at_call 43;with_reducible (refine Calls.mono (HBK.out _) ?_);rintro e w7 ⟨rfl,rfl⟩)
           refine hK.out _ _ (⟨HX.out _ hbx,HFH.out _ (jaa HWR.out hbx),HPC.out _ (jaa HWR.out hbx)⟩) (fun hHeld30=>?_)
           (try simp only [Act.put,tk1,tk2,tk3])
           clear hK K;cases bk
           ·(try simp only [Bool.not_true,Bool.not_false])
            have HF:Hid (S=false):=HNO.out fun hg=>by have:=HBB.out.2 (HGD.out.1 hg).2.2.2.1;cases this
            refine tk 31 117 ?_
            (try simp only [Act.put,tk1,tk2,tk3])
            refine tk 32 118 ?_
            (try simp only [Act.put,tk1,tk2,tk3])
            refine tk 33 119 ?_
            (try simp only [Act.put,tk1,tk2,tk3])
            refine tk 34 120 ?_
            (try simp only [Act.put,tk1,tk2,tk3])
            refine tk 35 121 ?_
            (try simp only [Act.put,tk1,tk2,tk3])
            refine tk 36 122 ?_
            (try simp only [Act.put,tk1,tk2,tk3])
            refine tk 37 123 ?_
            (try simp only [Act.put,tk1,tk2,tk3])
            refine tk 38 124 ?_
            (try simp only [Act.put,tk1,tk2,tk3])
            refine wpAnyH_done (by kernel_rfl) ?_ _;have R:=Lib.hid (jaa HB0.out (jaa HWR.out hbx));go_wp2;go_ret;exact ⟨by rw [HF.out];rfl,R.out⟩
           ·(try simp only [Bool.not_true,Bool.not_false])
            have HBB2:Hid (inR p2 0 32):=HBB.out.1 rfl;refine tk 31 117 ?_
            (try simp only [Act.put,tk1,tk2,tk3])
            refine tk 32 118 ?_
            (try simp only [Act.put,tk1,tk2,tk3])
            refine tk 33 119 ?_
            (try simp only [Act.put,tk1,tk2,tk3])
            refine tk 34 120 ?_
            (try simp only [Act.put,tk1,tk2,tk3])
            refine tkS 35 121 (v:=?_) ?_ ?_
            rotate_left 1
            ·intro w hSw;obtain ⟨⟨s0,s1,s2,s3⟩,⟨s5,s6,s7⟩,s8⟩:=hSw;first | (go_simp;done) | (go_simp;with_reducible rfl)
            (try simp only [Act.put,tk1,tk2,tk3])
            refine wpAnyH_ready (rs:=[36]) (by kernel_rfl) (by simp) ?_;refine AllReadyH.cons (o:=_) rfl (fun K hK=>?_) AllReadyH.nil
            go_simp
            (go_at_call 43;with_reducible (refine Calls.mono (HBS.out _) ?_);rintro e w7 ⟨rfl,rfl⟩)
            refine hK.out _ _ (⟨HX.out _ hbx,HFH.out _ (jaa HWR.out hbx),HPC.out _ (jaa HWR.out hbx)⟩) (fun hHeld36=>?_)
            (try simp only [Act.put,tk1,tk2,tk3])
            clear hK K;cases bs
            ·(try simp only [Bool.not_true,Bool.not_false])
             have HF:Hid (S=false):=HNO.out fun hg=>by have:=HBC.out.2 (HGD.out.1 hg).2.2.2.2;cases this
             refine tk 37 123 ?_
             (try simp only [Act.put,tk1,tk2,tk3])
             refine tk 38 124 ?_
             (try simp only [Act.put,tk1,tk2,tk3])
             refine wpAnyH_done (by kernel_rfl) ?_ _;have R:=Lib.hid (jaa HB0.out (jaa HWR.out hbx));go_wp2;go_ret;exact ⟨by rw [HF.out];rfl,R.out⟩
            ·(try simp only [Bool.not_true,Bool.not_false])
             have HJ:=Lib.hid (HNX.out (HGD.out.2 ⟨HAA.out,HLO.out,HSO.out,HBB2.out,HBC.out.1 rfl⟩));refine tk 37 123 ?_
             (try simp only [Act.put,tk1,tk2,tk3])
             refine tk 38 124 ?_
             (try simp only [Act.put,tk1,tk2,tk3])
             refine wpAnyH_done (by kernel_rfl) ?_ _;have R:=Lib.hid (jaa HWR.out hbx);go_wp2;clear hbx;go_roundw
             case rel=>first | exact ⟨k + 1,by omega,by go_num,HJ,R⟩ | ((repeat apply Exists.intro);exact ⟨⟨k + 1,by omega,by go_num,HJ,R⟩,rfl⟩)
             case measure=>first | (simp [intOf];done) | (simp [intOf];omega)
          ·have HF:Hid (S=false):=HNO.out fun hg=>by exact hso (HGD.out.1 hg).2.2.1
           have hso2:(tenAt t.ts p1).isSome=false:=by cases hh:(tenAt t.ts p1).isSome with | false=>rfl | true=>exact absurd hh hso
           have e1:decide (c < 0)=true:=decide_eq_true (hs3.2 hso2);clear hso hso2 hs3;refine tk 25 111 ?_
           (try simp only [Act.put,tk1,tk2,tk3])
           refine tk 26 112 ?_
           (try simp only [Act.put,tk1,tk2,tk3])
           refine tk 27 113 ?_
           (try simp only [Act.put,tk1,tk2,tk3])
           refine tk 28 114 ?_
           (try simp only [Act.put,tk1,tk2,tk3])
           refine tk 29 115 ?_
           (try simp only [Act.put,tk1,tk2,tk3])
           refine tk 30 116 ?_
           (try simp only [Act.put,tk1,tk2,tk3])
           refine tk 31 117 ?_
           (try simp only [Act.put,tk1,tk2,tk3])
           refine tk 32 118 ?_
           (try simp only [Act.put,tk1,tk2,tk3])
           refine tk 33 119 ?_
           (try simp only [Act.put,tk1,tk2,tk3])
           refine tk 34 120 ?_
           (try simp only [Act.put,tk1,tk2,tk3])
           refine tk 35 121 ?_
           (try simp only [Act.put,tk1,tk2,tk3])
           refine tk 36 122 ?_
           (try simp only [Act.put,tk1,tk2,tk3])
           refine tk 37 123 ?_
           (try simp only [Act.put,tk1,tk2,tk3])
           refine tk 38 124 ?_
           (try simp only [Act.put,tk1,tk2,tk3])
           refine wpAnyH_done (by kernel_rfl) ?_ _;have R:=Lib.hid (jaa HB0.out (jaa HWR.out hbx));go_wp2;go_ret;exact ⟨by rw [HF.out];rfl,R.out⟩
         ·have hkp:0 < k:=by omega
          have hj:=HJK.out hkp;have j0:(0:Int)<=(j:Int):=by omega
          have j1:(j:Int) < (N2:Int):=by omega
          have v1:IntKind.i64.wrap ((k:Int) - 1)=(j:Int):=by rw [show (k:Int) - 1=(j:Int) by omega];exact IntWalk.i64_in _ (by omega)
          have kp:decide ((0:Int) < (k:Int))=true:=decide_eq_true (by omega);clear hj hk0;refine tk 5 91 ?_
          (try simp only [Act.put,tk1,tk2,tk3])
          refine tk 6 92 ?_
          (try simp only [Act.put,tk1,tk2,tk3])
          refine tk 7 93 ?_
          (try simp only [Act.put,tk1,tk2,tk3])
          refine tk 8 94 ?_
          (try simp only [Act.put,tk1,tk2,tk3])
          refine tkS 9 95 (v:=?_) ?_ ?_
          rotate_left 1
          ·intro w hSw;obtain ⟨⟨s0,s1,s2,s3⟩,⟨s5,s6,s7⟩,s8⟩:=hSw;first | (go_simp;done) | (go_simp;with_reducible rfl)
          (try simp only [Act.put,tk1,tk2,tk3])
          refine tk 10 96 ?_
          (try simp only [Act.put,tk1,tk2,tk3])
          refine tkS 11 97 (v:=?_) ?_ ?_
          rotate_left 1
          ·intro w hSw;obtain ⟨⟨s0,s1,s2,s3⟩,⟨s5,s6,s7⟩,s8⟩:=hSw;first | (go_simp;done) | (go_simp;with_reducible rfl)
          (try simp only [Act.put,tk1,tk2,tk3])
          refine tk 12 98 ?_
          (try simp only [Act.put,tk1,tk2,tk3])
          refine tk 13 99 ?_
          (try simp only [Act.put,tk1,tk2,tk3])
          refine tk 14 100 ?_
          (try simp only [Act.put,tk1,tk2,tk3])
          refine tk 15 101 ?_
          (try simp only [Act.put,tk1,tk2,tk3])
          refine tkS 16 102 (v:=?_) ?_ ?_
          rotate_left 1
          ·intro w hSw;obtain ⟨⟨s0,s1,s2,s3⟩,⟨s5,s6,s7⟩,s8⟩:=hSw;have s9:=s8 hkp;clear s8;first | (go_simp;done) | (go_simp;with_reducible rfl)
          (try simp only [Act.put,tk1,tk2,tk3])
          by_cases hid:p0<=pz
          ·have HF:Hid (S=false):=HNO.out fun hg=>by have:=HLOI.out.1 (HGD.out.1 hg).2.1 hkp;omega
           have d1:decide (p0<=pz)=true:=decide_eq_true hid;clear hid;refine tk 17 103 ?_
           (try simp only [Act.put,tk1,tk2,tk3])
           refine tk 18 104 ?_
           (try simp only [Act.put,tk1,tk2,tk3])
           refine tk 19 105 ?_
           (try simp only [Act.put,tk1,tk2,tk3])
           refine tk 20 106 ?_
           (try simp only [Act.put,tk1,tk2,tk3])
           refine tk 21 107 ?_
           (try simp only [Act.put,tk1,tk2,tk3])
           refine tk 22 108 ?_
           (try simp only [Act.put,tk1,tk2,tk3])
           refine tk 23 109 ?_
           (try simp only [Act.put,tk1,tk2,tk3])
           refine tk 24 110 ?_
           (try simp only [Act.put,tk1,tk2,tk3])
           refine tk 25 111 ?_
           (try simp only [Act.put,tk1,tk2,tk3])
           refine tk 26 112 ?_
           (try simp only [Act.put,tk1,tk2,tk3])
           refine tk 27 113 ?_
           (try simp only [Act.put,tk1,tk2,tk3])
           refine tk 28 114 ?_
           (try simp only [Act.put,tk1,tk2,tk3])
           refine tk 29 115 ?_
           (try simp only [Act.put,tk1,tk2,tk3])
           refine tk 30 116 ?_
           (try simp only [Act.put,tk1,tk2,tk3])
           refine tk 31 117 ?_
           (try simp only [Act.put,tk1,tk2,tk3])
           refine tk 32 118 ?_
           (try simp only [Act.put,tk1,tk2,tk3])
           refine tk 33 119 ?_
           (try simp only [Act.put,tk1,tk2,tk3])
           refine tk 34 120 ?_
           (try simp only [Act.put,tk1,tk2,tk3])
           refine tk 35 121 ?_
           (try simp only [Act.put,tk1,tk2,tk3])
           refine tk 36 122 ?_
           (try simp only [Act.put,tk1,tk2,tk3])
           refine tk 37 123 ?_
           (try simp only [Act.put,tk1,tk2,tk3])
           refine tk 38 124 ?_
           (try simp only [Act.put,tk1,tk2,tk3])
           refine wpAnyH_done (by kernel_rfl) ?_ _;have R:=Lib.hid (jaa HB0.out (jaa HWR.out hbx));go_wp2;go_ret;exact ⟨by rw [HF.out];rfl,R.out⟩
          ·have HLO:Hid LO:=HLOI.out.2 fun _=>by omega
           have d1:decide (p0<=pz)=false:=decide_eq_false hid;clear hid;refine tk 17 103 ?_
           (try simp only [Act.put,tk1,tk2,tk3])
           refine tk 18 104 ?_
           (try simp only [Act.put,tk1,tk2,tk3])
           refine tk 19 105 ?_
           (try simp only [Act.put,tk1,tk2,tk3])
           refine tk 20 106 ?_
           (try simp only [Act.put,tk1,tk2,tk3])
           refine tkS 21 107 (v:=?_) ?_ ?_
           rotate_left 1
           ·intro w hSw;obtain ⟨⟨s0,s1,s2,s3⟩,⟨s5,s6,s7⟩,s8⟩:=hSw;first | (go_simp;done) | (go_simp;with_reducible rfl)
           (try simp only [Act.put,tk1,tk2,tk3])
           refine tk 22 108 ?_
           (try simp only [Act.put,tk1,tk2,tk3])
           refine tkS 23 109 (v:=?_) ?_ ?_
           rotate_left 1
           ·intro w hSw;obtain ⟨⟨s0,s1,s2,s3⟩,⟨s5,s6,s7⟩,s8⟩:=hSw;first | (go_simp;done) | (go_simp;with_reducible rfl)
           (try simp only [Act.put,tk1,tk2,tk3])
           refine wpAnyH_ready (rs:=[24]) (by kernel_rfl) (by simp) ?_;refine AllReadyH.cons (o:=_) rfl (fun K hK=>?_) AllReadyH.nil
           go_simp
           (go_at_call 46;with_reducible (refine Calls.mono (HTEN.out _ (jaa HWR.out hbx)) ?_);rintro e w7 ⟨rfl,hb7⟩;have hbx:=jaa hbx hb7)
           refine hK.out _ _ (⟨HX.out _ hbx,HFH.out _ (jaa HWR.out hbx),HPC.out _ (jaa HWR.out hbx)⟩) (fun hHeld24=>?_)
           (try simp only [Act.put,tk1,tk2,tk3])
           clear hK K;by_cases hso:(tenAt t.ts p1).isSome=true
           ·have e1:decide (c < 0)=false:=decide_eq_false fun q=>by have:=hs3.1 q;rw [hso] at this;cases this
            have HSO:=Lib.hid hso;clear hso hs3;refine tk 25 111 ?_
            (try simp only [Act.put,tk1,tk2,tk3])
            refine tk 26 112 ?_
            (try simp only [Act.put,tk1,tk2,tk3])
            refine tk 27 113 ?_
            (try simp only [Act.put,tk1,tk2,tk3])
            refine tk 28 114 ?_
            (try simp only [Act.put,tk1,tk2,tk3])
            refine tkS 29 115 (v:=?_) ?_ ?_
            rotate_left 1
            ·intro w hSw;obtain ⟨⟨s0,s1,s2,s3⟩,⟨s5,s6,s7⟩,s8⟩:=hSw;first | (go_simp;done) | (go_simp;with_reducible rfl)
            (try simp only [Act.put,tk1,tk2,tk3])
            refine wpAnyH_ready (rs:=[30]) (by kernel_rfl) (by simp) ?_;refine AllReadyH.cons (o:=_) rfl (fun K hK=>?_) AllReadyH.nil
            go_simp
            (go_at_call 43;with_reducible (refine Calls.mono (HBK.out _) ?_);rintro e w7 ⟨rfl,rfl⟩)
            refine hK.out _ _ (⟨HX.out _ hbx,HFH.out _ (jaa HWR.out hbx),HPC.out _ (jaa HWR.out hbx)⟩) (fun hHeld30=>?_)
            (try simp only [Act.put,tk1,tk2,tk3])
            clear hK K;cases bk
            ·(try simp only [Bool.not_true,Bool.not_false])
             have HF:Hid (S=false):=HNO.out fun hg=>by have:=HBB.out.2 (HGD.out.1 hg).2.2.2.1;cases this
             refine tk 31 117 ?_
             (try simp only [Act.put,tk1,tk2,tk3])
             refine tk 32 118 ?_
             (try simp only [Act.put,tk1,tk2,tk3])
             refine tk 33 119 ?_
             (try simp only [Act.put,tk1,tk2,tk3])
             refine tk 34 120 ?_
             (try simp only [Act.put,tk1,tk2,tk3])
             refine tk 35 121 ?_
             (try simp only [Act.put,tk1,tk2,tk3])
             refine tk 36 122 ?_
             (try simp only [Act.put,tk1,tk2,tk3])
             refine tk 37 123 ?_
             (try simp only [Act.put,tk1,tk2,tk3])
             refine tk 38 124 ?_
             (try simp only [Act.put,tk1,tk2,tk3])
             refine wpAnyH_done (by kernel_rfl) ?_ _;have R:=Lib.hid (jaa HB0.out (jaa HWR.out hbx));go_wp2;go_ret;exact ⟨by rw [HF.out];rfl,R.out⟩
            ·(try simp only [Bool.not_true,Bool.not_false])
             have HBB2:Hid (inR p2 0 32):=HBB.out.1 rfl;refine tk 31 117 ?_
             (try simp only [Act.put,tk1,tk2,tk3])
             refine tk 32 118 ?_
             (try simp only [Act.put,tk1,tk2,tk3])
             refine tk 33 119 ?_
             (try simp only [Act.put,tk1,tk2,tk3])
             refine tk 34 120 ?_
             (try simp only [Act.put,tk1,tk2,tk3])
             refine tkS 35 121 (v:=?_) ?_ ?_
             rotate_left 1
             ·intro w hSw;obtain ⟨⟨s0,s1,s2,s3⟩,⟨s5,s6,s7⟩,s8⟩:=hSw;first | (go_simp;done) | (go_simp;with_reducible rfl)
             (try simp only [Act.put,tk1,tk2,tk3])
             refine wpAnyH_ready (rs:=[36]) (by kernel_rfl) (by simp) ?_;refine AllReadyH.cons (o:=_) rfl (fun K hK=>?_) AllReadyH.nil
             go_simp
             (go_at_call 43;with_reducible (refine Calls.mono (HBS.out _) ?_);rintro e w7 ⟨rfl,rfl⟩)
             refine hK.out _ _ (⟨HX.out _ hbx,HFH.out _ (jaa HWR.out hbx),HPC.out _ (jaa HWR.out hbx)⟩) (fun hHeld36=>?_)
             (try simp only [Act.put,tk1,tk2,tk3])
             clear hK K;cases bs
             ·(try simp only [Bool.not_true,Bool.not_false])
              have HF:Hid (S=false):=HNO.out fun hg=>by have:=HBC.out.2 (HGD.out.1 hg).2.2.2.2;cases this
              refine tk 37 123 ?_
              (try simp only [Act.put,tk1,tk2,tk3])
              refine tk 38 124 ?_
              (try simp only [Act.put,tk1,tk2,tk3])
              refine wpAnyH_done (by kernel_rfl) ?_ _;have R:=Lib.hid (jaa HB0.out (jaa HWR.out hbx));go_wp2;go_ret;exact ⟨by rw [HF.out];rfl,R.out⟩
             ·(try simp only [Bool.not_true,Bool.not_false])
              have HJ:=Lib.hid (HNX.out (HGD.out.2 ⟨HAA.out,HLO.out,HSO.out,HBB2.out,HBC.out.1 rfl⟩));refine tk 37 123 ?_
              (try simp only [Act.put,tk1,tk2,tk3])
              refine tk 38 124 ?_
              (try simp only [Act.put,tk1,tk2,tk3])
              refine wpAnyH_done (by kernel_rfl) ?_ _;have R:=Lib.hid (jaa HWR.out hbx);go_wp2;clear hbx;go_roundw
              case rel=>first | exact ⟨k + 1,by omega,by go_num,HJ,R⟩ | ((repeat apply Exists.intro);exact ⟨⟨k + 1,by omega,by go_num,HJ,R⟩,rfl⟩)
              case measure=>first | (simp [intOf];done) | (simp [intOf];omega)
           ·have HF:Hid (S=false):=HNO.out fun hg=>by exact hso (HGD.out.1 hg).2.2.1
            have hso2:(tenAt t.ts p1).isSome=false:=by cases hh:(tenAt t.ts p1).isSome with | false=>rfl | true=>exact absurd hh hso
            have e1:decide (c < 0)=true:=decide_eq_true (hs3.2 hso2);clear hso hso2 hs3;refine tk 25 111 ?_
            (try simp only [Act.put,tk1,tk2,tk3])
            refine tk 26 112 ?_
            (try simp only [Act.put,tk1,tk2,tk3])
            refine tk 27 113 ?_
            (try simp only [Act.put,tk1,tk2,tk3])
            refine tk 28 114 ?_
            (try simp only [Act.put,tk1,tk2,tk3])
            refine tk 29 115 ?_
            (try simp only [Act.put,tk1,tk2,tk3])
            refine tk 30 116 ?_
            (try simp only [Act.put,tk1,tk2,tk3])
            refine tk 31 117 ?_
            (try simp only [Act.put,tk1,tk2,tk3])
            refine tk 32 118 ?_
            (try simp only [Act.put,tk1,tk2,tk3])
            refine tk 33 119 ?_
            (try simp only [Act.put,tk1,tk2,tk3])
            refine tk 34 120 ?_
            (try simp only [Act.put,tk1,tk2,tk3])
            refine tk 35 121 ?_
            (try simp only [Act.put,tk1,tk2,tk3])
            refine tk 36 122 ?_
            (try simp only [Act.put,tk1,tk2,tk3])
            refine tk 37 123 ?_
            (try simp only [Act.put,tk1,tk2,tk3])
            refine tk 38 124 ?_
            (try simp only [Act.put,tk1,tk2,tk3])
            refine wpAnyH_done (by kernel_rfl) ?_ _;have R:=Lib.hid (jaa HB0.out (jaa HWR.out hbx));go_wp2;go_ret;exact ⟨by rw [HF.out];rfl,R.out⟩
       ·have hkN:N2=k:=by omega
        subst hkN;have k1:¬ (N2:Int) < (N2:Int):=by omega
        obtain ⟨f0,f1,f2⟩:=HFH.out wr hB.out;have HG2:=hI;have HB1:=hB;clear hI hB hlt hk k0;go_wp2;clear f0 f1 f2 k1
        go_loopw [7] (fun i wr=>∃ k:Nat,k<=N3/\i=.int .i64 k/\Hid (∀ j,j < k->gd3 t j)/\Hid (Below W0.heap.size W0 wr)) (fun i _=>N3 - (intOf i).toNat)
        case atStart=>exact ⟨0,Nat.zero_le _,rfl,fun j hj=>absurd hj (Nat.not_lt_zero j),HB1.out⟩
        case round =>
         clear HB1;obtain ⟨k,hk,rfl,hI,hB⟩:=hrel;have k0:(0:Int)<=(k:Int):=by omega
         by_cases hlt:k < N3
         ·have k1:(k:Int) < (N3:Int):=by omega
          have hkx:k < t.os.length:=by have:=HN3.out;omega
          obtain ⟨b,off,hA,hbl,u0⟩:=(HTB.out wr hB.out).os k hkx
          have hoc:∀ X,Below W0.heap.size W0 X->X.cell? ⟨b,off + k,none⟩=some (.int .i64 (t.os.getD k 0)):=fun X hb=>by
           obtain ⟨b2,off2,e,_,c0⟩:=(HTB.out X hb).os k hkx;rw [hA] at e;injection e with e
           injection e with e1 e2
           subst e1 e2;exact c0
          have hgd:gd3 t k↔t.os.getD k 0=0∨(tenAt t.ts (t.os.getD k 0)).isSome=true:=Iff.rfl;have hsg:=HSG.out (t.os.getD k 0);have hte:=fun X hb=>HTEH.out (t.os.getD k 0) X hb
          obtain ⟨o,ho⟩:∃ o,o=t.os.getD k 0:=⟨_,rfl⟩;simp only [<- ho] at u0 hoc hgd hsg hte;obtain ⟨c,hc⟩:∃ c,c=jdI t.ts o:=⟨_,rfl⟩;simp only [<- hc] at hte hsg;obtain ⟨hs1,hs2,hs3⟩:=hsg;obtain ⟨A1,c1,A2,c2,A3,c3⟩:=V;simp only at hA;subst hA;simp only at HFH hte;obtain ⟨f0,f1,f2⟩:=HFH.out wr hB.out;have HTEN:=Lib.hid hte;have HOC:=Lib.hid hoc;have HWR:=hB
          have HNX:Hid (gd3 t k->∀ j,j < k + 1->gd3 t j):=fun hg j hj=>by
           rcases Nat.lt_or_ge j k with q | q
           ·exact hI.out j q
           ·have:j=k:=by omega
            subst this;exact hg
          have HNO:Hid (¬ gd3 t k->S=false):=fun hg=>by
           cases hs:S with
           | false=>rfl
           | true=>exact absurd ((HS.out.1 hs).2.2.2.2.2.1 k hlt) hg
          clear hte hoc hI hc ho u0 hB;go_wp2;have hbx:Below wr.heap.size wr wr.drew:=(Below.refl _ _).drew;clear f0 f1 f2;refine wp_region_held_drew (S:=(fun X=>(X.cell? ⟨q0,0,none⟩=some (.slice A1 N1 c1)/\X.cell? ⟨q0,1,none⟩=some (.slice A2 N2 c2)/\X.cell? ⟨q0,2,none⟩=some (.slice (some ⟨b,off,none⟩) N3 c3))/\X.cell? ⟨b,off + k,none⟩=some (.int .i64 o))) (by kernel_rfl) (⟨HFH.out _ (jaa HWR.out hbx),HOC.out _ (jaa HWR.out hbx)⟩) (fun hHeld=>?_);refine tk 0 132 ?_
          (try simp only [Act.put,tk1,tk2,tk3])
          refine tkS 1 133 (v:=?_) ?_ ?_
          rotate_left 1
          ·intro w hSw;obtain ⟨⟨s5,s6,s7⟩,s8⟩:=hSw;first | (go_simp;done) | (go_simp;with_reducible rfl)
          (try simp only [Act.put,tk1,tk2,tk3])
          refine tk 2 134 ?_
          (try simp only [Act.put,tk1,tk2,tk3])
          refine tk 3 135 ?_
          (try simp only [Act.put,tk1,tk2,tk3])
          refine tkS 4 136 (v:=?_) ?_ ?_
          rotate_left 1
          ·intro w hSw;obtain ⟨⟨s5,s6,s7⟩,s8⟩:=hSw;first | (go_simp;done) | (go_simp;with_reducible rfl)
          (try simp only [Act.put,tk1,tk2,tk3])
          by_cases h0:o=0
          ·have d1:(o != 0)=false:=by rw [h0];rfl
           have d2:(o == 0)=true:=by rw [h0];rfl
           have HJ:=Lib.hid (HNX.out (hgd.2 (.inl h0)));clear h0 hgd;refine tk 5 137 ?_
           (try simp only [Act.put,tk1,tk2,tk3])
           refine tk 6 138 ?_
           (try simp only [Act.put,tk1,tk2,tk3])
           refine tk 7 139 ?_
           (try simp only [Act.put,tk1,tk2,tk3])
           refine tk 8 140 ?_
           (try simp only [Act.put,tk1,tk2,tk3])
           refine tk 9 141 ?_
           (try simp only [Act.put,tk1,tk2,tk3])
           refine tk 10 142 ?_
           (try simp only [Act.put,tk1,tk2,tk3])
           refine tk 11 143 ?_
           (try simp only [Act.put,tk1,tk2,tk3])
           refine tk 12 144 ?_
           (try simp only [Act.put,tk1,tk2,tk3])
           refine tk 13 145 ?_
           (try simp only [Act.put,tk1,tk2,tk3])
           refine tk 14 146 ?_
           (try simp only [Act.put,tk1,tk2,tk3])
           refine tk 15 147 ?_
           (try simp only [Act.put,tk1,tk2,tk3])
           refine wpAnyH_done (by kernel_rfl) ?_ _;have R:=Lib.hid (jaa HWR.out hbx);go_wp2;clear hbx;go_roundw
           case rel=>first | exact ⟨k + 1,by omega,by go_num,HJ,R⟩ | ((repeat apply Exists.intro);exact ⟨⟨k + 1,by omega,by go_num,HJ,R⟩,rfl⟩)
           case measure=>first | (simp [intOf];done) | (simp [intOf];omega)
          ·have d1:(o != 0)=true:=bne_iff_ne.2 h0;have d2:(o == 0)=false:=beq_eq_false_iff_ne.2 h0;refine tk 5 137 ?_
           (try simp only [Act.put,tk1,tk2,tk3])
           refine tk 6 138 ?_
           (try simp only [Act.put,tk1,tk2,tk3])
           refine tkS 7 139 (v:=?_) ?_ ?_
           rotate_left 1
           ·intro w hSw;obtain ⟨⟨s5,s6,s7⟩,s8⟩:=hSw;first | (go_simp;done) | (go_simp;with_reducible rfl)
           (try simp only [Act.put,tk1,tk2,tk3])
           refine tk 8 140 ?_
           (try simp only [Act.put,tk1,tk2,tk3])
           refine tkS 9 141 (v:=?_) ?_ ?_
           rotate_left 1
           ·intro w hSw;obtain ⟨⟨s5,s6,s7⟩,s8⟩:=hSw;first | (go_simp;done) | (go_simp;with_reducible rfl)
           (try simp only [Act.put,tk1,tk2,tk3])
           refine tk 10 142 ?_
           (try simp only [Act.put,tk1,tk2,tk3])
           refine tk 11 143 ?_
           (try simp only [Act.put,tk1,tk2,tk3])
           refine tkS 12 144 (v:=?_) ?_ ?_
           rotate_left 1
           ·intro w hSw;obtain ⟨⟨s5,s6,s7⟩,s8⟩:=hSw;first | (go_simp;done) | (go_simp;with_reducible rfl)
           (try simp only [Act.put,tk1,tk2,tk3])
           refine wpAnyH_ready (rs:=[13]) (by kernel_rfl) (by simp) ?_;refine AllReadyH.cons (o:=_) rfl (fun K hK=>?_) AllReadyH.nil
           go_simp
           (go_at_call 46;with_reducible (refine Calls.mono (HTEN.out _ (jaa HWR.out hbx)) ?_);rintro e w7 ⟨rfl,hb7⟩;have hbx:=jaa hbx hb7)
           refine hK.out _ _ (⟨HFH.out _ (jaa HWR.out hbx),HOC.out _ (jaa HWR.out hbx)⟩) (fun hHeld13=>?_)
           (try simp only [Act.put,tk1,tk2,tk3])
           clear hK K;by_cases hso:(tenAt t.ts o).isSome=true
           ·have e1:decide (c < 0)=false:=decide_eq_false fun q=>by have:=hs3.1 q;rw [hso] at this;cases this
            have HJ:=Lib.hid (HNX.out (hgd.2 (.inr hso)));clear h0 hgd hso hs3;refine tk 14 146 ?_
            (try simp only [Act.put,tk1,tk2,tk3])
            refine tk 15 147 ?_
            (try simp only [Act.put,tk1,tk2,tk3])
            refine wpAnyH_done (by kernel_rfl) ?_ _;have R:=Lib.hid (jaa HWR.out hbx);go_wp2;clear hbx;go_roundw
            case rel=>first | exact ⟨k + 1,by omega,by go_num,HJ,R⟩ | ((repeat apply Exists.intro);exact ⟨⟨k + 1,by omega,by go_num,HJ,R⟩,rfl⟩)
            case measure=>first | (simp [intOf];done) | (simp [intOf];omega)
           ·have HF:Hid (S=false):=HNO.out fun hg=>by
             rcases hgd.1 hg with q | q
             ·exact h0 q
             ·exact hso q
            have hso2:(tenAt t.ts o).isSome=false:=by cases hh:(tenAt t.ts o).isSome with | false=>rfl | true=>exact absurd hh hso
            have e1:decide (c < 0)=true:=decide_eq_true (hs3.2 hso2);clear h0 hgd hso hso2 hs3;refine tk 14 146 ?_
            (try simp only [Act.put,tk1,tk2,tk3])
            refine tk 15 147 ?_
            (try simp only [Act.put,tk1,tk2,tk3])
            refine wpAnyH_done (by kernel_rfl) ?_ _;have R:=Lib.hid (jaa HB0.out (jaa HWR.out hbx));go_wp2;go_ret;exact ⟨by rw [HF.out];rfl,R.out⟩
         ·have hkN:N3=k:=by omega
          subst hkN;have k1:¬ (N3:Int) < (N3:Int):=by omega
          obtain ⟨f0,f1,f2⟩:=HFH.out wr hB.out
          have hq:=HQUH.out (by omega) fun x hx=>by
           obtain ⟨j,hj,rfl⟩:=List.getElem_of_mem hx;obtain ⟨_,hp,_⟩:=HG1.out j (by have:=HN1.out;omega);exact hp.2.1
          obtain ⟨Q,hQ⟩:∃ Q,Q=jbp t.ts:=⟨_,rfl⟩;simp only [<- hQ] at hq
          have HF:Hid (S=decide (Q<=(N3:Int))):=by
           unfold Hid;rw [Bool.eq_iff_iff,decide_eq_true_iff,HS.out,hQ];exact ⟨fun q=>q.2.2.2.2.2.2,fun q=>⟨HL.out,h7,h8,HG1.out,HG2.out,hI.out,q⟩⟩
          have HQC:=Lib.hid hq;have HWR:=hB;clear hq hQ hI hB hlt hk k0;go_wp2;have hbx:Below wr.heap.size wr wr.drew:=(Below.refl _ _).drew;clear f0 f1 f2 k1
          go_region_held3 (fun X=>X.cell? ⟨q0,0,none⟩=some (.slice V.A1 N1 V.c1)/\X.cell? ⟨q0,1,none⟩=some (.slice V.A2 N2 V.c2)/\X.cell? ⟨q0,2,none⟩=some (.slice V.A3 N3 V.c3))
           (exact HFH.out _ (jaa HWR.out hbx))
           (first
            | (go_at_call 47;with_reducible (refine Calls.mono (HQC.out _ (jaa HWR.out hbx)) ?_);rintro e w7 ⟨rfl,hb7⟩;have hbx:=jaa hbx hb7)
            | fail)
          have R:=Lib.hid (jaa HB0.out (jaa HWR.out hbx));clear hbx;go_wp2;go_ret;exact ⟨by rw [HF.out];rfl,R.out⟩
   ·have d1:¬ (N1:Int) > 7:=by omega
    have d2:(N2:Int) > 8:=by omega
    have HNO:Hid (S=false):=by
     cases hs:S with
     | false=>rfl
     | true=>have:=(HS.out.1 hs).2.2.1;omega
    rw [HNO.out];have HIN1:=Lib.hid hin;clear hlen hin h7 h8;go_enter Tryz.func27,Tryz.ntmps27
    go_wp2_with fail
    rw [<- hW0];clear hW0
    go_wp2_with (go_at_call 43;with_reducible (refine Calls.mono (HIN1.out _) ?_);rintro e w1 ⟨rfl,rfl⟩)
    go_ret;exact ⟨rfl,HB0.out⟩
  ·have d1:(N1:Int) > 7:=by omega
   have HNO:Hid (S=false):=by
    cases hs:S with
    | false=>rfl
    | true=>have:=(HS.out.1 hs).2.1;omega
   rw [HNO.out];have HIN1:=Lib.hid hin;clear hlen hin h7;go_enter Tryz.func27,Tryz.ntmps27
   go_wp2_with fail
   rw [<- hW0];clear hW0
   go_wp2_with (go_at_call 43;with_reducible (refine Calls.mono (HIN1.out _) ?_);rintro e w1 ⟨rfl,rfl⟩)
   go_ret;exact ⟨rfl,HB0.out⟩
 ·rw [decide_eq_false hlen] at hin
  have HNO:Hid (S=false):=by
   cases hs:S with
   | false=>rfl
   | true=>exact absurd (HS.out.1 hs).1 hlen
  rw [HNO.out];have HIN1:=Lib.hid hin;clear hlen hin;go_enter Tryz.func27,Tryz.ntmps27
  go_wp2_with fail
  rw [<- hW0];clear hW0
  go_wp2_with (go_at_call 43;with_reducible (refine Calls.mono (HIN1.out _) ?_);rintro e w1 ⟨rfl,rfl⟩)
  go_ret;exact ⟨rfl,HB0.out⟩
end Go.Proofs.YtbnhkplhmanmoaaGreat
