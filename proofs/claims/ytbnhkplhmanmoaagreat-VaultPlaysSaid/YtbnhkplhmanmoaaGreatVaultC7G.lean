/- . -/
import Derived.Test.YtbnhkplhmanmoaaGreatVaultC5G
import Derived.Test.YtbnhkplhmanmoaaGreatVaultC6G
namespace Go.Proofs.YtbnhkplhmanmoaaGreat
open Go.RowKit
set_option maxHeartbeats 6400000
set_option maxRecDepth 20000
theorem jax.away {F:Nat->Prop} {w w':World} {B:Nat} {A:Option Addr} {rs:List Rc} (h:jax w B A rs) (ha:jaM F w w') (hB:B<=w.heap.size) (hn:Off F A rs.length):jax w' B A rs:=fun k hk=>by
 obtain ⟨b,off,e,hl,c0,c1,c2,c3,c4,c5⟩:=h k hk;have hb:=ha.block b (by omega) (hn (by omega) b off e);exact ⟨b,off,e,hl,by rw [World.cell?_of_block hb];exact c0,by rw [World.cell?_of_block hb];exact c1,by rw [World.cell?_of_block hb];exact c2,by rw [World.cell?_of_block hb];exact c3,by rw [World.cell?_of_block hb];exact c4,by rw [World.cell?_of_block hb];exact c5⟩
theorem jot {r:Rc} (h:jpQ r):r.ok:=by
 obtain ⟨k1,k2,k3,k4,k5,k6⟩:=h;simp only [jfB] at k1 k2 k3 k4 k5;exact ⟨by unfold jdD;omega,by unfold jdD;omega,by unfold jdD;omega,by unfold jdD;omega,by unfold jdD;omega,by omega⟩
theorem jkx {s:Dk} (ho:s.off=false) {i:Nat} (hi:i < s.last.length) {t:List Nat} (ht:Sec t) :
  (s.lim≠some 0->ja5 s (i:Int) t=0/\jbl s (i:Int) t=⟨s.last,s.pend ++ [(i,t)],s.lim.map (· - 1),false⟩)/\(s.lim=some 0->ja5 s (i:Int) t=8/\jbl s (i:Int) t=⟨s.last,s.pend,s.lim,true⟩):=by
 have hz:¬ (t.length≠64):=by rw [ht.1];simp
 have hin:=jlO hi;unfold ja5 jbl;rw [ho,if_neg hz,if_neg hz,if_neg hin,if_neg hin,if_neg (by decide),if_neg (by decide)];unfold jbV jaT;constructor
 ·intro h;rw [if_neg h,if_neg h,if_pos rfl,ho,Int.toNat_natCast];exact ⟨rfl,rfl⟩
 ·intro h;rw [if_pos h,if_pos h,if_neg (by decide)];exact ⟨rfl,rfl⟩
theorem jky {s:Dk} (ho:s.off=false):(s.lim≠some 0->jbu s=0/\jbD s=⟨jdl s.pend s.last,[],s.lim.map (· - 1),false⟩)/\(s.lim=some 0->jbu s=8/\jbD s=⟨s.last,s.pend,s.lim,true⟩):=by
 unfold jbu jbD;rw [ho,if_neg (by decide),if_neg (by decide)];unfold jbV jaT;constructor
 ·intro h;rw [if_neg h,if_neg h,if_pos rfl,ho];exact ⟨rfl,rfl⟩
 ·intro h;rw [if_pos h,if_pos h,if_neg (by decide)];exact ⟨rfl,rfl⟩
structure AdS (Rep:World->Nat->(Nat->Prop)->Dk->Prop) (w:World) (p:Nat) (F:Nat->Prop) (s:Dk) (a:Nat) (g:Int) (u:Nat) (l:List Rc) (k j:Nat) (wr:World):Prop where
 lt:∀ b,F b->b < w.heap.size
 away:jaM F w wr
 size:w.heap.size + 2<=wr.heap.size
 log:wr.heap[w.heap.size]? = some (.cells #[.int .i64 (a:Int),.int .i64 g,.int .i64 ((u + j:Nat):Int)] 66 (0,0))
 res:wr.heap[w.heap.size + 1]? = some (.cells #[.int .i64 0,.int .i64 0,.int .i64 0] 66 (0,0))
 disk:∃ F' s',Rep wr p F' s'/\jcx F F' (w.heap.size + 2)/\s'.last=s.last/\s'.pend=s.pend ++ (jdZ a g u l).take k/\s'.off=false/\(s.lim=none->s'.lim=none)
section
variable {Rep:World->Nat->(Nat->Prop)->Dk->Prop} {w:World} {p:Nat} {F:Nat->Prop} {s:Dk} {a:Nat} {g:Int} {u:Nat} {l:List Rc} {k j:Nat} {wr:World}
theorem jbN {F F':Nat->Prop} {n:Nat} {a b c:World} (h1:jaM F a b) (h2:jaM F' b c) (hm:jcx F F' n) (hn:a.heap.size<=n):jaM F a c :=
 ⟨h2.os.trans h1.os,h2.tape.trans h1.tape,h2.output.trans h1.output,Nat.le_trans h1.size h2.size,fun k hk hF=>(h2.block k (Nat.lt_of_lt_of_le hk h1.size) (fun q=>(hm k q).elim hF (fun q=>by omega))).trans (h1.block k hk hF)⟩
theorem AdS.later (L:jbX Rep) (h:AdS Rep w p F s a g u l k j wr) {X:World} (hb:Below wr.heap.size wr X):AdS Rep w p F s a g u l k j X:=by
 obtain ⟨F',s',h1,h2⟩:=h.disk;exact ⟨h.lt,jbN h.away (jaM.of_below (F:=F) hb) (fun b hb=>.inl hb) (Nat.le_refl _),Nat.le_trans h.size hb.size,(hb.block _ (Array.getElem?_eq_some_iff.1 h.log).1).trans h.log,(hb.block _ (Array.getElem?_eq_some_iff.1 h.res).1).trans h.res,F',s',L.keep h1 hb,h2⟩
theorem AdS.cells (h:AdS Rep w p F s a g u l k j wr):(wr.cell? ⟨w.heap.size,0,none⟩=some (.int .i64 (a:Int))/\wr.cell? ⟨w.heap.size,1,none⟩=some (.int .i64 g)/\wr.cell? ⟨w.heap.size,2,none⟩=some (.int .i64 ((u + j:Nat):Int)))/\wr.frozen? ⟨w.heap.size,2,none⟩=false /\
  (wr.cell? ⟨w.heap.size + 1,0,none⟩=some (.int .i64 0)/\wr.cell? ⟨w.heap.size + 1,1,none⟩=some (.int .i64 0)/\wr.cell? ⟨w.heap.size + 1,2,none⟩=some (.int .i64 0))/\wr.frozen? ⟨w.heap.size + 1,0,none⟩=false/\wr.frozen? ⟨w.heap.size + 1,1,none⟩=false/\wr.frozen? ⟨w.heap.size + 1,2,none⟩=false :=
 ⟨jai h.log,frozen_of_row _ _ _ _ _ h.log,jai h.res,frozen_of_row _ _ _ _ _ h.res,frozen_of_row _ _ _ _ _ h.res,frozen_of_row _ _ _ _ _ h.res⟩
theorem AdS.off (h:AdS Rep w p F s a g u l k j wr) {F':Nat->Prop} (hm:jcx F F' (w.heap.size + 2)):¬ F' w.heap.size/\¬ F' (w.heap.size + 1):=by
 refine ⟨fun q=>?_,fun q=>?_⟩ <;>
  (rcases hm _ q with q | q
   ·have:=h.lt _ q;omega
   ·omega)
theorem AdS.used (L:jbX Rep) (h:AdS Rep w p F s a g u l k j wr):AdS Rep w p F s a g u l k (j + 1) (wr.setCell ⟨w.heap.size,2,none⟩ (.int .i64 ((u + (j + 1):Nat):Int))):=by
 obtain ⟨F',s',h1,h2,h3⟩:=h.disk;have hs:=jaC wr w.heap.size 2 (.int .i64 ((u + (j + 1):Nat):Int)) _ _ h.log;have hz:(wr.setCell ⟨w.heap.size,2,none⟩ (.int .i64 ((u + (j + 1):Nat):Int))).heap.size=wr.heap.size:=by simp [World.setCell]
 have ho:∀ k,k≠w.heap.size->(wr.setCell ⟨w.heap.size,2,none⟩ (.int .i64 ((u + (j + 1):Nat):Int))).heap[k]? = wr.heap[k]?:=fun k hk=>jah _ _ _ _ _ (Ne.symm hk)
 refine ⟨h.lt,⟨h.away.os,h.away.tape,h.away.output,by rw [hz];exact h.away.size,fun k hk hF=>(ho k (by omega)).trans (h.away.block k hk hF)⟩,by rw [hz];exact h.size,hs,(ho _ (by omega)).trans h.res,F',s',(L.d wr).keep wr _ p F' s' h1 fun b hb=>ho b (fun e=>?_),h2,h3⟩;subst e;exact (h.off h2).1 hb
theorem AdS.wrote (h:AdS Rep w p F s a g u l k j wr) {F' F2:Nat->Prop} {s2:Dk} {X w3:World} (hb:Below wr.heap.size wr X) (hm:jcx F F' (w.heap.size + 2)) (hr:Rep w3 p F2 s2) (hm2:jcx F' F2 X.heap.size) (ha:jaM F' X w3)
  (q1:s2.last=s.last) (q2:s2.pend=s.pend ++ (jdZ a g u l).take (k + 1)) (q3:s2.off=false) (q4:s.lim=none->s2.lim=none):AdS Rep w p F s a g u l (k + 1) j w3:=by
 have hX:w.heap.size + 2<=X.heap.size:=Nat.le_trans h.size hb.size;have hoff:=h.off hm;refine ⟨h.lt,jbN (jbN h.away (jaM.of_below (F:=F) hb) (fun b hb=>.inl hb) (Nat.le_refl _)) ha hm (by omega),Nat.le_trans hX ha.size,(ha.block _ (by omega) hoff.1).trans ((hb.block _ (by have:=h.size;omega)).trans h.log),(ha.block _ (by omega) hoff.2).trans ((hb.block _ (by have:=h.size;omega)).trans h.res),F2,s2,hr,fun b q=>?_,q1,q2,q3,q4⟩;rcases hm2 b q with q | q
 ·exact hm b q
 ·exact .inr (by omega)
end
def jlD (Rep:World->Nat->(Nat->Prop)->Dk->Prop) (p:Nat) (F:Nat->Prop) (s:Dk) (a:Nat) (g:Int) (u:Nat) (l:List Rc) (w:World) (e:Ending) (w':World):Prop :=
 ∃ F' s' E x y z,e=.returned (.tuple #[.agg #[.int .i64 x,.int .i64 y,.int .i64 z],.int .i64 E])/\(E=0->x=(a:Int)/\y=g/\z=((u + l.length:Nat):Int))/\Rep w' p F' s'/\WrR s (jdZ a g u l) s' E/\jcx F F' w.heap.size/\jaM F w w'
theorem joA {Rep:World->Nat->(Nat->Prop)->Dk->Prop} (L:jbX Rep) {w wr:World} {p:Nat} {F F':Nat->Prop} {s s':Dk} {a:Nat} {g:Int} {u:Nat} {l:List Rc} {E x y z:Int} (lt:∀ b,F b->b < w.heap.size) (away:jaM F w wr)
  (res:wr.heap[w.heap.size + 1]? = some (.cells #[.int .i64 0,.int .i64 0,.int .i64 0] 66 (0,0))) (hr:Rep wr p F' s') (hm:jcx F F' (w.heap.size + 2)) (hW:WrR s (jdZ a g u l) s' E) (hx:E=0->x=(a:Int)/\y=g/\z=((u + l.length:Nat):Int)) :
  (((wr.setCell ⟨w.heap.size + 1,0,none⟩ (.int .i64 x)).setCell ⟨w.heap.size + 1,1,none⟩ (.int .i64 y)).setCell ⟨w.heap.size + 1,2,none⟩ (.int .i64 z)).heap[w.heap.size + 1]? = some (.cells #[.int .i64 x,.int .i64 y,.int .i64 z] 66 (0,0)) /\
  jlD Rep p F s a g u l w (.returned (.tuple #[.agg #[.int .i64 x,.int .i64 y,.int .i64 z],.int .i64 E])) (((wr.setCell ⟨w.heap.size + 1,0,none⟩ (.int .i64 x)).setCell ⟨w.heap.size + 1,1,none⟩ (.int .i64 y)).setCell ⟨w.heap.size + 1,2,none⟩ (.int .i64 z)):=by
 have hs:=jd4 (.int .i64 x) (.int .i64 y) (.int .i64 z) res;have ho:∀ k,k≠w.heap.size + 1->(((wr.setCell ⟨w.heap.size + 1,0,none⟩ (.int .i64 x)).setCell ⟨w.heap.size + 1,1,none⟩ (.int .i64 y)).setCell ⟨w.heap.size + 1,2,none⟩ (.int .i64 z)).heap[k]? = wr.heap[k]?:=fun k hk=>jaq (w.heap.size + 1) k hk [.int .i64 x,.int .i64 y,.int .i64 z] 0 wr
 refine ⟨hs.1,F',s',E,x,y,z,rfl,hx,(L.d wr).keep wr _ p F' s' hr fun b hb=>ho b fun e=>?_,hW,fun b q=>?_,⟨away.os,away.tape,away.output,Nat.le_trans away.size hs.2.size,fun k hk hF=>(ho k (by omega)).trans (away.block k hk hF)⟩⟩
 ·subst e;rcases hm _ hb with q | q
  ·have:=lt _ q;omega
  ·omega
 ·rcases hm b q with q | q
  ·exact .inl q
  ·exact .inr (by omega)
section
variable {Rep:World->Nat->(Nat->Prop)->Dk->Prop} (L:jbX Rep)
include L
theorem jj4 (p:Nat) (F:Nat->Prop) (s:Dk) (a:Nat) (g:Int) (u:Nat) (A:Option Addr) (c:Nat) (l:List Rc) (w:World) (h:Rep w p F s) (ho:s.off=false) (hpe:s.pend=[]) (hl:384<=s.last.length) (ha:a < 2) (hf:jhV g u l) (hrec:jax w w.heap.size A l) (hoff:Off F A l.length) :
  Calls Tryz.prog 42 #[.agg (lgV a g u),.pointer (some ⟨p,0,none⟩),.slice A l.length c] w (jlD Rep p F s a g u l w):=by
 have hb0:Below w.heap.size w (w.alloc (.cells (lgV a g u) 66)):=(Below.refl _ _).alloc (Nat.le_refl _) _;have hb1:=hb0.alloc hb0.size (.cells (lgV 0 0 0) 66)
 have hg0:((w.alloc (.cells (lgV a g u) 66)).alloc (.cells (lgV 0 0 0) 66)).heap[w.heap.size]? = some (.cells (lgV a g u) 66 (0,0)):=by
  rw [Below.heap_alloc _ _ _ (by simp)];exact heap_alloc_new _ _
 have hg1:=heap_alloc_new (w.alloc (.cells (lgV a g u) 66)) (.cells (lgV 0 0 0) 66);have hs1:(w.alloc (.cells (lgV a g u) 66)).heap.size=w.heap.size + 1:=by simp
 rw [hs1] at hg1;have hsz:((w.alloc (.cells (lgV a g u) 66)).alloc (.cells (lgV 0 0 0) 66)).heap.size=w.heap.size + 2:=by simp
 unfold lgV at hb1 hg0 hg1 hsz;obtain ⟨W0,hW0⟩:∃ W,W=(w.alloc (.cells #[.int .i64 (a:Int),.int .i64 g,.int .i64 (u:Int)] 66)).alloc (.cells #[.int .i64 0,.int .i64 0,.int .i64 0] 66):=⟨_,rfl⟩;rw [<- hW0] at hb1 hg0 hg1 hsz;have hST:AdS Rep w p F s a g u l 0 0 W0:=⟨fun b hb=>L.lt h hb,jaM.of_below hb1,by omega,hg0,hg1,F,s,L.keep h hb1,fun b hb=>.inl hb,rfl,by simp,ho,fun q=>q⟩;obtain ⟨N,hN⟩:∃ N,N=l.length:=⟨_,rfl⟩;have hN192:u + N<=192:=by rw [hN];exact hf.u1
 have HN:=Lib.hid hN;have HRE:Hid (∀ k j wr,AdS Rep w p F s a g u l k j wr->jax wr w.heap.size A l):=fun k j wr hS=>hrec.away hS.away (Nat.le_refl _) hoff
 have HEN:Hid (∀ (k:Nat) (W:World),k < l.length->Calls Tryz.prog 80 #[.agg (lnV (jbv g u l k))] W fun e w'=>∃ A c,e=.returned (.tuple #[.slice A 64 c,.int .i64 0])/\64<=c/\jov W w' A (jcA (jbv g u l k))/\Below W.heap.size W w'):=fun k W hk=>by
  refine L.enc ⟨?_,?_,jot (hf.rs _ (jjW hk))⟩ (hf.enc hk)
  ·have:=hf.g0;have:=hf.g1;show -9223372036854775808<=g/\g<=9223372036854775807;omega
  ·have:=hf.u1;unfold jdD jbv;show -9223372036854775808<=((u + k:Nat):Int)/\((u + k:Nat):Int)<=9223372036854775807;omega
 have HSEC:Hid (∀ k,k < l.length->Sec (jfM g u l k)/\up (jfM g u l k)=jcA (jbv g u l k)/\a * 192 + (u + k) < s.last.length/\(jdZ a g u l).take (k + 1)=(jdZ a g u l).take k ++ [(a * 192 + (u + k),jfM g u l k)]):=fun k hk=>by
  refine ⟨hf.sec hk,jlx _ _ _ _,by have:=hf.u1;omega,?_⟩;rw [jmy _ _ _ _ hk,Nat.add_assoc]
 have HPN:Hid (s.pend=[]):=hpe;have HWL:Hid (∀ k,((jdZ a g u l).take k).length<=192):=fun k=>by rw [List.length_take,jgO];have:=hf.u1;omega
 have HAL:Hid ((jdZ a g u l).take l.length=jdZ a g u l):=by unfold Hid;rw [<- jgO a g u l,List.take_length]
 have HLL:=Lib.hid L;have HPL:Hid (∀ (k:Nat) (W:World),u + k < 193->Calls Tryz.prog 82 #[.int .i64 (a:Int),.int .i64 ((u + k:Nat):Int)] W fun e w'=>e=.returned (.int .i64 ((a * 192 + (u + k):Nat):Int))/\W=w'):=fun k W hk=>jhS a (u + k) W ha hk
 rw [<- hN] at HSEC HEN HAL;rw [<- hN];have HST:=Lib.hid hST;have HZ:Hid (lgV 0 0 0=#[.int .i64 0,.int .i64 0,.int .i64 0]):=rfl;have h384:=hl;unfold lgV;clear h hb0 hb1 hg0 hg1 hs1 hsz hpe hl ho hf hrec hoff hST L hN;go_enter Tryz.func42,Tryz.ntmps42
 go_wp2_with fail
 rw [<- hW0];clear hW0;go_wp2
 go_loopw [15] (fun i wr=>∃ k:Nat,k<=N/\i=.int .i64 k/\Hid (AdS Rep w p F s a g u l k k wr)) (fun i _=>N - (intOf i).toNat)
 case atStart=>exact ⟨0,Nat.zero_le _,rfl,HST⟩
 case round =>
  clear HST;obtain ⟨k,hk,rfl,hR⟩:=hrel;by_cases hlt:k < N
  ·have k1:(k:Int) < (N:Int):=by omega
   have k0:(0:Int)<=(k:Int):=by omega
   have hkl:k < l.length:=by have:=HN.out;omega
   obtain ⟨b,off,rfl,_,q0,q1,q2,q3,q4,q5⟩:=jjM (HRE.out _ _ _ hR.out) hkl;have hxe:l.getD k jor=l[k]:=by rw [List.getD_eq_getElem?_getD,List.getElem?_eq_getElem hkl];rfl
   obtain ⟨x,hx⟩:∃ x,x=l[k]:=⟨_,rfl⟩;rw [<- hx] at q0 q1 q2 q3 q4 q5 hxe;have HE:=HEN.out k;obtain ⟨e1,e2,e3,e4⟩:=HSEC.out k hlt;have HP:=Lib.hid (HPL.out k);obtain ⟨F1,s1,d1,d2,d3,d4,d5,d6⟩:=hR.out.disk
   have hLB:((k:Int) == (N:Int) - 1)=decide (k + 1=N):=by
    by_cases e:k + 1=N
    ·rw [decide_eq_true e,beq_iff_eq];omega
    ·rw [decide_eq_false e,beq_eq_false_iff_ne];omega
   have hln:lnV (jbv g u l k)=#[.int .i64 g,.int .i64 ((u + k:Nat):Int),.bool (decide (k + 1=N)),.int .i64 x.k,.int .i64 x.a,.int .i64 x.b,.int .i64 x.c,.int .i64 x.d,.string x.key]:=by
    unfold jbv lnV;rw [hxe,HN.out]
   rw [hln] at HE;obtain ⟨LB,hlb⟩:∃ b,b=decide (k + 1=N):=⟨_,rfl⟩;rw [<- hlb] at HE hLB;obtain ⟨U,hU⟩:∃ U:Int,U=((u + k:Nat):Int):=⟨_,rfl⟩;have hU1:U + 1=((u + (k + 1):Nat):Int):=by omega
   have hU2:0<=U/\U<=192:=by omega
   obtain ⟨hU3,hU4⟩:=hU2;obtain ⟨PK,hPK⟩:∃ P:Int,P=((a * 192 + (u + k):Nat):Int):=⟨_,rfl⟩;obtain ⟨TX,hTX⟩:∃ T,T=jfM g u l k:=⟨_,rfl⟩;rw [<- hTX] at e1 e2 e4;have hpk64:jeI PK:=by rw [hPK];unfold jeI;omega
   have hpl:s1.pend.length<=2147483647:=by rw [d4,HPN.out,List.nil_append];have:=HWL.out k;omega
   have hin:a * 192 + (u + k) < s1.last.length:=by rw [d3];exact e3
   obtain ⟨g1,g2⟩:=jkx d5 hin e1;rw [<- hPK] at g1 g2
   have HWRI:Hid (∀ W w2 A c,Below wr.heap.size wr W->Below W.heap.size W w2->jov W w2 A (up TX)->64<=c->Calls Tryz.prog 81 #[.pointer (some ⟨p,0,none⟩),.int .i64 PK,.slice A 64 c] w2 fun e w'=>∃ F',e=.returned (.int .i64 (ja5 s1 PK TX))/\Rep w' p F' (jbl s1 PK TX)/\jcx F1 F' w2.heap.size/\jaM F1 w2 w'):=fun W w2 A c h1 h2 h3 h4=>by
    have hlt2:∀ b,F1 b->b < wr.heap.size:=fun b hb=>HLL.out.lt d1 hb
    refine HLL.out.write hpk64 h3.ints e1 h4 (fun _ b o e hF=>?_) hpl (HLL.out.keep d1 (jaa h1 h2));obtain ⟨g,o',e',hg,_⟩:=h3;rw [e'] at e;injection e with e
    injection e with e _
    have:=hlt2 b hF;have:=h1.size;omega
   have HEN1:Hid (∀ W,Calls Tryz.prog 80 #[.agg #[.int .i64 g,.int .i64 U,.bool LB,.int .i64 x.k,.int .i64 x.a,.int .i64 x.b,.int .i64 x.c,.int .i64 x.d,.string x.key]] W fun e w'=>∃ A c,e=.returned (.tuple #[.slice A 64 c,.int .i64 0])/\64<=c/\jov W w' A (up TX)/\Below W.heap.size W w'):=fun W=>by rw [e2,hU];exact HE W hlt
   have HPL1:Hid (∀ W,Calls Tryz.prog 82 #[.int .i64 (a:Int),.int .i64 U] W fun e w'=>e=.returned (.int .i64 PK)/\W=w'):=fun W=>by rw [hU,hPK];exact HP.out W (by omega)
   have HCE:Hid (∀ X,Below wr.heap.size wr X->(X.cell? ⟨w.heap.size,0,none⟩=some (.int .i64 (a:Int))/\X.cell? ⟨w.heap.size,1,none⟩=some (.int .i64 g)/\X.cell? ⟨w.heap.size,2,none⟩=some (.int .i64 U))):=fun X hb=>by
    rw [hU];exact (hR.out.later HLL.out hb).cells.1
   have HSZ:Hid (∀ X,Below wr.heap.size wr X->w.heap.size + 1 < X.heap.size/\wr.heap.size<=X.heap.size):=fun X hb=>⟨by have:=hR.out.size;have:=hb.size;omega,hb.size⟩
   have hbA:Below wr.heap.size wr (wr.alloc (.cells #[.int .i64 x.k,.int .i64 x.a,.int .i64 x.b,.int .i64 x.c,.int .i64 x.d,.string x.key] 56)):=(Below.refl _ _).alloc (Nat.le_refl _) _;have HXA:=Lib.hid (heap_alloc_new wr (.cells #[.int .i64 x.k,.int .i64 x.a,.int .i64 x.b,.int .i64 x.c,.int .i64 x.d,.string x.key] 56))
   have HXC:Hid (∀ X:World,X.heap[wr.heap.size]? = some (.cells #[.int .i64 x.k,.int .i64 x.a,.int .i64 x.b,.int .i64 x.c,.int .i64 x.d,.string x.key] 56 (0,0))->X.cell? ⟨wr.heap.size,0,none⟩=some (.int .i64 x.k)/\X.cell? ⟨wr.heap.size,1,none⟩=some (.int .i64 x.a)/\X.cell? ⟨wr.heap.size,2,none⟩=some (.int .i64 x.b)/\X.cell? ⟨wr.heap.size,3,none⟩=some (.int .i64 x.c)/\X.cell? ⟨wr.heap.size,4,none⟩=some (.int .i64 x.d)/\X.cell? ⟨wr.heap.size,5,none⟩=some (.string x.key)):=fun X hg=>by
    refine ⟨?_,?_,?_,?_,?_,?_⟩ <;> (rw [cell_of_row _ _ _ _ _ _ hg];rfl)
   obtain ⟨y0,y1,y2⟩:=HCE.out _ hbA;obtain ⟨m0,m1,m2,m3,m4,m5⟩:=HXC.out _ HXA.out;have HBA:=Lib.hid hbA;by_cases hlim:s1.lim=some 0
   ·obtain ⟨z1,z2⟩:=g2 hlim
    have HWR:Hid (∀ w2 w3 F2,Below (wr.alloc (.cells #[.int .i64 x.k,.int .i64 x.a,.int .i64 x.b,.int .i64 x.c,.int .i64 x.d,.string x.key] 56)).heap.size (wr.alloc (.cells #[.int .i64 x.k,.int .i64 x.a,.int .i64 x.b,.int .i64 x.c,.int .i64 x.d,.string x.key] 56)) w2->Rep w3 p F2 (jbl s1 PK TX)->jcx F1 F2 w2.heap.size->jaM F1 w2 w3 ->
      w3.heap[w.heap.size + 1]? = some (.cells #[.int .i64 0,.int .i64 0,.int .i64 0] 66 (0,0))/\jaM F w w3/\jcx F F2 (w.heap.size + 2)/\WrR s (jdZ a g u l) (jbl s1 PK TX) 8):=fun w2 w3 F2 h1 h2 h3 h4=>by
     have hb:=jaa HBA.out h1;have hX:w.heap.size + 2<=w2.heap.size:=Nat.le_trans hR.out.size hb.size;have ho:=hR.out.off d2;have hs:=(hR.out.later HLL.out hb);refine ⟨(h4.block _ (by omega) ho.2).trans hs.res,jbN hs.away h4 d2 (by omega),fun b q=>?_,?_⟩
     ·rcases h3 b q with q | q
      ·exact d2 b q
      ·exact .inr (by omega)
     ·have hok:=(HLL.out.d w3).ok _ _ _ _ h2;rw [z2] at hok ⊢;refine ⟨hok,.inr ⟨rfl,fun q=>?_,d3,rfl,k,d4⟩,fun q=>d6 q⟩;rw [d6 q] at hlim;exact absurd hlim (by simp)
    have HLT:=Lib.hid hR.out.lt;rw [z1] at HWRI;clear hU1 z1 z2 g1 g2 hlim hin hpl hpk64 hTX hPK e1 e2 e3 e4 hln hlb HE hxe d2 d3 d4 d5 d6 hx hU HEN HPL HSEC
    go_wp2_with (first
     | (go_at_call 80;with_reducible (refine Calls.mono (HEN1.out _) ?_);rintro e w2 ⟨A2,c2,rfl,hc2,hg2,hb2⟩
        have HG2:=Lib.hid hg2;have HB2:=Lib.hid hb2;have HC2:=Lib.hid hc2;obtain ⟨x0,x1,x2⟩:=HCE.out _ (jaa HBA.out hb2);clear hg2 hb2 hc2 y0 y1 y2 m0 m1 m2 m3 m4 m5)
     | (go_at_call 82;with_reducible (refine Calls.mono (HPL1.out _) ?_);rintro e w4 ⟨rfl,rfl⟩)
     | (go_at_call 81;with_reducible (refine Calls.mono (HWRI.out _ _ _ _ HBA.out HB2.out HG2.out HC2.out) ?_);rintro e w3 ⟨F2,rfl,hr3,hm3,ha3⟩
        have HS3:=Lib.hid (HWR.out _ _ _ HB2.out hr3 hm3 ha3);have HR3:=Lib.hid hr3;obtain ⟨v0,v1,v2⟩:=jai HS3.out.1;have v3:=frozen_of_row _ _ 0 _ _ HS3.out.1;have v4:=frozen_of_row _ _ 1 _ _ HS3.out.1;have v5:=frozen_of_row _ _ 2 _ _ HS3.out.1;clear hr3 hm3 ha3 x0 x1 x2))
    have hr:=joA HLL.out HLT.out HS3.out.2.1 HS3.out.1 HR3.out HS3.out.2.2.1 HS3.out.2.2.2 (x:=0) (y:=0) (z:=0) (fun q=>absurd q (by decide));refine bodyPost_ret (jab rfl _ _ (w.heap.size + 1) 66 _ (0,0) _ rfl hr.1 Tryz.underlying66 rfl (by kernel_rfl)) rfl ?_;exact hr.2
   ·obtain ⟨z1,z2⟩:=g1 hlim
    have HWR:Hid (∀ w2 w3 F2,Below (wr.alloc (.cells #[.int .i64 x.k,.int .i64 x.a,.int .i64 x.b,.int .i64 x.c,.int .i64 x.d,.string x.key] 56)).heap.size (wr.alloc (.cells #[.int .i64 x.k,.int .i64 x.a,.int .i64 x.b,.int .i64 x.c,.int .i64 x.d,.string x.key] 56)) w2->Rep w3 p F2 (jbl s1 PK TX)->jcx F1 F2 w2.heap.size->jaM F1 w2 w3->AdS Rep w p F s a g u l (k + 1) k w3):=fun w2 w3 F2 h1 h2 h3 h4=>by
     refine hR.out.wrote (jaa HBA.out h1) d2 h2 h3 h4 ?_ ?_ ?_ ?_
     ·rw [z2];exact d3
     ·rw [z2,e4,<- List.append_assoc,<- d4]
     ·rw [z2]
     ·intro q;rw [z2];show s1.lim.map (· - 1)=none;rw [d6 q];rfl
    have HV:Hid (∀ X,AdS Rep w p F s a g u l (k + 1) k X->((X.cell? ⟨w.heap.size,0,none⟩=some (.int .i64 (a:Int))/\X.cell? ⟨w.heap.size,1,none⟩=some (.int .i64 g)/\X.cell? ⟨w.heap.size,2,none⟩=some (.int .i64 U))/\X.frozen? ⟨w.heap.size,2,none⟩=false)/\AdS Rep w p F s a g u l (k + 1) (k + 1) (X.setCell ⟨w.heap.size,2,none⟩ (.int .i64 (U + 1)))):=fun X hX=>by
     rw [hU1,hU];exact ⟨⟨hX.cells.1,hX.cells.2.1⟩,hX.used HLL.out⟩
    rw [z1] at HWRI;clear hU1 z1 z2 g1 g2 hlim hin hpl hpk64 hTX hPK e1 e2 e3 e4 hln hlb HE hxe d2 d3 d4 d5 d6 hx hU HEN HPL HSEC
    go_wp2_with (first
     | (go_at_call 80;with_reducible (refine Calls.mono (HEN1.out _) ?_);rintro e w2 ⟨A2,c2,rfl,hc2,hg2,hb2⟩
        have HG2:=Lib.hid hg2;have HB2:=Lib.hid hb2;have HC2:=Lib.hid hc2;obtain ⟨x0,x1,x2⟩:=HCE.out _ (jaa HBA.out hb2);clear hg2 hb2 hc2 y0 y1 y2 m0 m1 m2 m3 m4 m5)
     | (go_at_call 82;with_reducible (refine Calls.mono (HPL1.out _) ?_);rintro e w4 ⟨rfl,rfl⟩)
     | (go_at_call 81;with_reducible (refine Calls.mono (HWRI.out _ _ _ _ HBA.out HB2.out HG2.out HC2.out) ?_);rintro e w3 ⟨F2,rfl,hr3,hm3,ha3⟩
        have HS3:=Lib.hid (HWR.out _ _ _ HB2.out hr3 hm3 ha3);obtain ⟨⟨⟨v0,v1,v2⟩,v3⟩,hR9⟩:=HV.out _ HS3.out;have R9:=Lib.hid hR9;clear hr3 hm3 ha3 x0 x1 x2 hR9))
    clear v0 v1 v2 v3 HV HS3 HB2 HG2 HC2 HBA HXC HXA HCE HSZ HPL1 HEN1 HWRI HWR hR;go_roundw
    case rel=>first | exact ⟨k + 1,by omega,by go_num,R9⟩ | ((repeat apply Exists.intro);exact ⟨⟨k + 1,by omega,by go_num,R9⟩,rfl⟩)
    case measure=>first | (simp [intOf];done) | (simp [intOf];omega)
  ·have hkn:k=N:=by omega
   subst hkn;have k1:¬ (k:Int) < (k:Int):=by omega
   obtain ⟨F1,s1,d1,d2,d3,d4,d5,d6⟩:=hR.out.disk;obtain ⟨⟨c0,c1,c2⟩,_,⟨c3,c4,c5⟩,c6,c7,c8⟩:=hR.out.cells;have HFL:Hid (∀ X,Below wr.heap.size wr X->Calls Tryz.prog 83 #[.pointer (some ⟨p,0,none⟩)] X fun e w'=>∃ F',e=.returned (.int .i64 (jbu s1))/\Rep w' p F' (jbD s1)/\jcx F1 F' X.heap.size/\jaM F1 X w'):=fun X hb=>HLL.out.flush (HLL.out.keep d1 hb)
   have HROW:Hid (∀ X w4 F2,Below wr.heap.size wr X->jcx F1 F2 X.heap.size->jaM F1 X w4->w4.heap[w.heap.size]? = some (.cells #[.int .i64 (a:Int),.int .i64 g,.int .i64 ((u + k:Nat):Int)] 66 (0,0))/\w4.heap[w.heap.size + 1]? = some (.cells #[.int .i64 0,.int .i64 0,.int .i64 0] 66 (0,0))/\jaM F w w4/\jcx F F2 (w.heap.size + 2)):=fun X w4 F2 hb hm ha=>by
    have hX:w.heap.size + 2<=X.heap.size:=Nat.le_trans hR.out.size hb.size;have ho:=hR.out.off d2;have hs:=(hR.out.later HLL.out hb);refine ⟨(ha.block _ (by omega) ho.1).trans hs.log,(ha.block _ (by omega) ho.2).trans hs.res,jbN hs.away ha d2 (by omega),fun b q=>?_⟩;rcases hm b q with q | q
    ·exact d2 b q
    ·exact .inr (by omega)
   have HWR:Hid (WrR s (jdZ a g u l) (jbD s1) (jbu s1)):=by
    obtain ⟨f1,f2⟩:=jky d5;have hok:=jnL ((HLL.out.d wr).ok wr p F1 s1 d1);have hpw:s1.pend=s.pend ++ jdZ a g u l:=by rw [d4,HAL.out]
    by_cases hlim:s1.lim=some 0
    ·obtain ⟨r1,r2⟩:=f2 hlim;rw [r1,r2];rw [r2] at hok;refine ⟨hok,.inr ⟨rfl,fun q=>?_,d3,rfl,l.length,?_⟩,fun q=>d6 q⟩
     ·rw [d6 q] at hlim;exact absurd hlim (by simp)
     ·show s1.pend=_;rw [d4,HN.out]
    ·obtain ⟨r1,r2⟩:=f1 hlim;rw [r1,r2];rw [r2] at hok;refine ⟨hok,.inl ⟨rfl,?_,rfl,rfl⟩,fun q=>?_⟩
     ·show jdl s1.pend s1.last=_;rw [hpw,d3]
     ·show s1.lim.map (· - 1)=none;rw [d6 q];rfl
   have HLT:=Lib.hid hR.out.lt;obtain ⟨E,hE⟩:∃ E,E=jbu s1:=⟨_,rfl⟩;obtain ⟨s2,hs2⟩:∃ x,x=jbD s1:=⟨_,rfl⟩;simp only [<- hE,<- hs2] at HFL HWR;obtain ⟨U,hU⟩:∃ U:Int,U=((u + k:Nat):Int):=⟨_,rfl⟩;have HU:Hid (U=((u + l.length:Nat):Int)):=by rw [hU,HN.out];exact rfl
   rw [<- hU] at c2;simp only [<- hU] at HROW;have HS0:Hid (∀ X,Below wr.heap.size wr X->X.cell? ⟨w.heap.size,0,none⟩=some (.int .i64 (a:Int))/\X.cell? ⟨w.heap.size,1,none⟩=some (.int .i64 g)/\X.cell? ⟨w.heap.size,2,none⟩=some (.int .i64 U)):=fun X hb=>by rw [hU];exact (hR.out.later HLL.out hb).cells.1
   have HS4:Hid (∀ X:World,X.heap[w.heap.size]? = some (.cells #[.int .i64 (a:Int),.int .i64 g,.int .i64 U] 66 (0,0))->X.cell? ⟨w.heap.size,0,none⟩=some (.int .i64 (a:Int))/\X.cell? ⟨w.heap.size,1,none⟩=some (.int .i64 g)/\X.cell? ⟨w.heap.size,2,none⟩=some (.int .i64 U)):=fun X h=>jai h
   have HS5:Hid (∀ (X:World) (x y z:Value),X.heap[w.heap.size]? = some (.cells #[.int .i64 (a:Int),.int .i64 g,.int .i64 U] 66 (0,0))->(((X.setCell ⟨w.heap.size + 1,0,none⟩ x).setCell ⟨w.heap.size + 1,1,none⟩ y).setCell ⟨w.heap.size + 1,2,none⟩ z).cell? ⟨w.heap.size,0,none⟩=some (.int .i64 (a:Int))/\(((X.setCell ⟨w.heap.size + 1,0,none⟩ x).setCell ⟨w.heap.size + 1,1,none⟩ y).setCell ⟨w.heap.size + 1,2,none⟩ z).cell? ⟨w.heap.size,1,none⟩=some (.int .i64 g)/\(((X.setCell ⟨w.heap.size + 1,0,none⟩ x).setCell ⟨w.heap.size + 1,1,none⟩ y).setCell ⟨w.heap.size + 1,2,none⟩ z).cell? ⟨w.heap.size,2,none⟩=some (.int .i64 U)):=fun X x y z h =>
    jai ((jaq (w.heap.size + 1) w.heap.size (Nat.ne_of_lt (Nat.lt_succ_self _)) [x,y,z] 0 X).trans h)
   have HB0:Hid (Below wr.heap.size wr wr):=Below.refl _ _;clear d1 d2 d3 d4 d5 d6 hE hs2 hU hR HSEC HEN HRE HPL HAL HWL HPN;go_wp2;have hbx:Below wr.heap.size wr wr.drew:=(Below.refl _ _).drew
   go_region_held3 (fun X=>X.cell? ⟨w.heap.size,0,none⟩=some (.int .i64 (a:Int))/\X.cell? ⟨w.heap.size,1,none⟩=some (.int .i64 g)/\X.cell? ⟨w.heap.size,2,none⟩=some (.int .i64 U))
    (first | exact HS0.out _ hbx | exact HS4.out _ h4.1 | exact HS5.out _ _ _ _ h4.1)
    (first
     | (go_at_call 83;with_reducible (refine Calls.mono (HFL.out _ hbx) ?_);rintro e w4 ⟨F2,rfl,hr4,hm4,ha4⟩;have h4:=HROW.out _ _ _ hbx hm4 ha4;obtain ⟨g0,g1,g2⟩:=jai h4.2.1;have g3:=frozen_of_row _ _ 0 _ _ h4.2.1;have g4:=frozen_of_row _ _ 1 _ _ h4.2.1;have g5:=frozen_of_row _ _ 2 _ _ h4.2.1)
     | fail)
   go_wp2;have hr:=joA HLL.out HLT.out h4.2.2.1 h4.2.1 hr4 h4.2.2.2 HWR.out (x:=(a:Int)) (y:=g) (z:=U) (fun _=>⟨rfl,rfl,HU.out⟩);refine bodyPost_ret (jab rfl _ _ (w.heap.size + 1) 66 _ (0,0) _ rfl hr.1 Tryz.underlying66 rfl (by kernel_rfl)) rfl ?_;exact hr.2
end
end Go.Proofs.YtbnhkplhmanmoaaGreat
