/- . -/
import Derived.Test.YtbnhkplhmanmoaaGreatVaultC12G
namespace Go.Proofs.YtbnhkplhmanmoaaGreat
open Go.RowKit
set_option maxHeartbeats 6400000
set_option maxRecDepth 20000
theorem jqT {X:World} {g:Nat} {T:TypeId} {v0 v1 v2 v3 v4 v5 v6:Value} (a:Value) (h:X.heap[g]? = some (.cells #[v0,v1,v2,v3,v4,v5,v6] T (0,0))):(X.setCell ⟨g,0,none⟩ a).heap[g]? = some (.cells #[a,v1,v2,v3,v4,v5,v6] T (0,0)):=by
 rw [jaC _ _ _ _ _ _ h];rfl
theorem jck.weak {N N':Nat->Prop} {w:World} {B:Nat} {V:jat} {t:Tab} (h:jck N V t) (ht:jao w B V t) (hN:∀ b,b < B->N' b->N b):jck N' V t:=by
 refine ⟨fun h0 b o e hb=>?_,fun h0 b o e hb=>?_,fun h0 b o e hb=>?_⟩
 ·obtain ⟨b',o',e',hl,_⟩:=ht.ts 0 h0;have:=jcD e e';subst this;exact h.1 h0 _ o e (hN _ hl hb)
 ·obtain ⟨b',o',e',hl,_⟩:=ht.vs 0 h0;have:=jcD e e';subst this;exact h.2.1 h0 _ o e (hN _ hl hb)
 ·obtain ⟨b',o',e',hl,_⟩:=ht.os 0 h0;have:=jcD e e';subst this;exact h.2.2 h0 _ o e (hN _ hl hb)
def jp0 (Rep:World->Nat->(Nat->Prop)->Dk->Prop) (p q:Nat) (F:Nat->Prop) (s:Dk) (n:Nat) (v:Vt) (K:Int) (t:Tab) (w:World) (e:Ending) (w':World):Prop :=
 ∃ F' s' E V' v' d,e=.returned (.int .i64 E)/\jdK Rep w' p q F' s' d V' v'/\jcx F F' w.heap.size/\jaM (fun b=>F b∨b=q) w w'/\(s.lim=none->s'.lim=none) /\
  ((E=0/\d=some ⟨p,0,none⟩/\v'.t=t/\jbH s' n v' (K + 1)/\v.g<=v'.g)∨(E=8/\d=none/\v'=v/\jn7 s' n v.t t (K + 1)/\s.lim≠none))
section
variable {Rep:World->Nat->(Nat->Prop)->Dk->Prop} {w X:World} {p q m B lo:Nat} {F F6:Nat->Prop} {s6:Dk} {d:Option Addr} {V V2:jat} {T:Tab}
theorem jpH (L:jbX Rep) (v':Vt) (hA:jaM (fun b=>F b∨b=q) w X) (hrep:Rep X p F6 s6) (hm:jcx F F6 m) (hmw:w.heap.size + 2<=m) (hq:q < w.heap.size) (hnq:¬ F q) (hlt:∀ b,F b->b < w.heap.size) {c1 c2 c3 c4 c5 c6:Value}
  (hc:X.heap[q]? = some (.cells #[.pointer d,c1,c2,c3,c4,c5,c6] 68 (0,0))) (hT:jao X B V2 v'.t) (hB:B<=m) (hBX:B<=X.heap.size) (hF:jay lo V2) (hlo:w.heap.size + 2<=lo) {e0:Int} (hre:X.heap[w.heap.size + 1]? = some (.cells #[.int .i64 e0] 24 (0,0))) :
  jdK Rep (((((((X.setCell ⟨q,1,none⟩ (.slice V2.A1 v'.t.ts.length V2.c1)).setCell ⟨q,2,none⟩ (.slice V2.A2 v'.t.vs.length V2.c2)).setCell ⟨q,3,none⟩ (.slice V2.A3 v'.t.os.length V2.c3)).setCell ⟨q,4,none⟩ (.int .i64 (v'.a:Int))).setCell ⟨q,5,none⟩ (.int .i64 v'.g)).setCell ⟨q,6,none⟩ (.int .i64 (v'.u:Int))).drew.setCell ⟨w.heap.size + 1,0,none⟩ (.int .i64 0)) p q F6 s6 d V2 v' /\
  jaM (fun b=>F b∨b=q) w (((((((X.setCell ⟨q,1,none⟩ (.slice V2.A1 v'.t.ts.length V2.c1)).setCell ⟨q,2,none⟩ (.slice V2.A2 v'.t.vs.length V2.c2)).setCell ⟨q,3,none⟩ (.slice V2.A3 v'.t.os.length V2.c3)).setCell ⟨q,4,none⟩ (.int .i64 (v'.a:Int))).setCell ⟨q,5,none⟩ (.int .i64 v'.g)).setCell ⟨q,6,none⟩ (.int .i64 (v'.u:Int))).drew.setCell ⟨w.heap.size + 1,0,none⟩ (.int .i64 0))/\(((((((X.setCell ⟨q,1,none⟩ (.slice V2.A1 v'.t.ts.length V2.c1)).setCell ⟨q,2,none⟩ (.slice V2.A2 v'.t.vs.length V2.c2)).setCell ⟨q,3,none⟩ (.slice V2.A3 v'.t.os.length V2.c3)).setCell ⟨q,4,none⟩ (.int .i64 (v'.a:Int))).setCell ⟨q,5,none⟩ (.int .i64 v'.g)).setCell ⟨q,6,none⟩ (.int .i64 (v'.u:Int))).drew.setCell ⟨w.heap.size + 1,0,none⟩ (.int .i64 0)).heap[w.heap.size + 1]? = some (.cells #[.int .i64 0] 24 (0,0)):=by
 have hs:=jqO (.slice V2.A1 v'.t.ts.length V2.c1) (.slice V2.A2 v'.t.vs.length V2.c2) (.slice V2.A3 v'.t.os.length V2.c3) (.int .i64 (v'.a:Int)) (.int .i64 v'.g) (.int .i64 (v'.u:Int)) hc;have ho:∀ k,k≠q->((((((X.setCell ⟨q,1,none⟩ (.slice V2.A1 v'.t.ts.length V2.c1)).setCell ⟨q,2,none⟩ (.slice V2.A2 v'.t.vs.length V2.c2)).setCell ⟨q,3,none⟩ (.slice V2.A3 v'.t.os.length V2.c3)).setCell ⟨q,4,none⟩ (.int .i64 (v'.a:Int))).setCell ⟨q,5,none⟩ (.int .i64 v'.g)).setCell ⟨q,6,none⟩ (.int .i64 (v'.u:Int))).heap[k]? = X.heap[k]?:=fun k hk=>jaq q k hk [.slice V2.A1 v'.t.ts.length V2.c1,.slice V2.A2 v'.t.vs.length V2.c2,.slice V2.A3 v'.t.os.length V2.c3,.int .i64 (v'.a:Int),.int .i64 v'.g,.int .i64 (v'.u:Int)] 1 X
 obtain ⟨Z,hZ⟩:∃ Z,Z=((((((X.setCell ⟨q,1,none⟩ (.slice V2.A1 v'.t.ts.length V2.c1)).setCell ⟨q,2,none⟩ (.slice V2.A2 v'.t.vs.length V2.c2)).setCell ⟨q,3,none⟩ (.slice V2.A3 v'.t.os.length V2.c3)).setCell ⟨q,4,none⟩ (.int .i64 (v'.a:Int))).setCell ⟨q,5,none⟩ (.int .i64 v'.g)).setCell ⟨q,6,none⟩ (.int .i64 (v'.u:Int))):=⟨_,rfl⟩;rw [<- hZ] at hs ho ⊢;clear hZ;have hos:Z.os=X.os/\Z.tape=X.tape/\Z.output=X.output:=⟨hs.2.os,hs.2.tape,hs.2.output⟩;have hzs:=hs.2.size;obtain ⟨Y,hY⟩:∃ Y,Y=Z.drew.setCell ⟨w.heap.size + 1,0,none⟩ (.int .i64 0):=⟨_,rfl⟩;have hy:∀ k,k≠w.heap.size + 1->Y.heap[k]? = Z.heap[k]?:=fun k hk=>by rw [hY];exact jah _ _ _ _ _ (Ne.symm hk)
 have hye:Y.heap[w.heap.size + 1]? = some (.cells #[.int .i64 0] 24 (0,0)):=by rw [hY];exact jaC _ _ _ _ _ _ (show Z.drew.heap[w.heap.size + 1]? = _ from (ho _ (by omega)).trans hre)
 have hyo:Y.os=Z.os/\Y.tape=Z.tape/\Y.output=Z.output/\Y.heap.size=Z.heap.size:=by rw [hY];exact ⟨rfl,rfl,rfl,by show (Z.drew.heap.modify _ _).size=_;rw [Array.size_modify];rfl⟩
 rw [<- hY];have hyx:∀ k,k≠q->k≠w.heap.size + 1->Y.heap[k]? = X.heap[k]?:=fun k h1 h2=>(hy k h2).trans (ho k h1)
 have hF6:∀ b,F6 b->b < w.heap.size/\F b∨m<=b:=fun b hb=>(hm b hb).imp (fun h=>⟨hlt b h,h⟩) id
 have hTo:jck (fun b=>b=q∨b=w.heap.size + 1) V2 v'.t:=jck.of hT hF fun b hN=>.inl (by rcases hN with rfl | rfl <;> omega)
 refine ⟨⟨(L.d X).keep X Y p F6 s6 hrep fun b hb=>hyx b (fun e=>?_) (fun e=>?_),fun h=>?_,(hy q (by omega)).trans hs.1,?_,jck.of hT hF fun b hN=>?_⟩,⟨hyo.1.trans (hos.1.trans hA.os),hyo.2.1.trans (hos.2.1.trans hA.tape),hyo.2.2.1.trans (hos.2.2.trans hA.output),by rw [hyo.2.2.2];exact Nat.le_trans hA.size hzs,fun k hk hn=>(hyx k (fun e=>hn (.inr e)) (by omega)).trans (hA.block k hk hn)⟩,hye⟩
 ·subst e;rcases hF6 _ hb with h | h
  ·exact hnq h.2
  ·omega
 ·subst e;rcases hF6 _ hb with h | h
  ·omega
  ·omega
 ·rcases hF6 _ h with h | h
  ·exact hnq h.2
  ·omega
 ·exact (hT.away hTo fun k _ hn=>hyx k (fun e=>hn (.inl e)) (fun e=>hn (.inr e))).more (by rw [hyo.2.2.2];omega)
 ·rcases hN with hN | hN
  ·rcases hF6 _ hN with h | h
   ·exact .inl (by omega)
   ·exact .inr (by omega)
  ·exact .inl (by omega)
theorem jqa (L:jbX Rep) {v:Vt} {s:Dk} (h:jdK Rep w p q F s d V v) (hA:jaM (fun b=>F b∨b=q) w X) (hrep:Rep X p F6 s6) (hm:jcx F F6 m) (hmw:w.heap.size + 2<=m) (hc:X.heap[q]? = some (.cells (vtC d V v.t v.a v.g v.u) 68 (0,0))) :
  jdK Rep ((X.setCell ⟨w.heap.size + 1,0,none⟩ (.int .i64 8)).setCell ⟨q,0,none⟩ (.pointer none)) p q F6 s6 none V v/\jaM (fun b=>F b∨b=q) w ((X.setCell ⟨w.heap.size + 1,0,none⟩ (.int .i64 8)).setCell ⟨q,0,none⟩ (.pointer none)):=by
 have hq:=(Array.getElem?_eq_some_iff.1 h.cells).1;have hlt:∀ b,F b->b < w.heap.size:=fun b hb=>L.lt h.rep hb
 obtain ⟨Z,hZ⟩:∃ Z,Z=X.setCell ⟨w.heap.size + 1,0,none⟩ (.int .i64 8):=⟨_,rfl⟩;have hz:∀ k,k≠w.heap.size + 1->Z.heap[k]? = X.heap[k]?:=fun k hk=>by rw [hZ];exact jah _ _ _ _ _ (Ne.symm hk)
 have hzo:Z.os=X.os/\Z.tape=X.tape/\Z.output=X.output/\Z.heap.size=X.heap.size:=by rw [hZ];exact ⟨rfl,rfl,rfl,by simp [World.setCell]⟩
 rw [<- hZ];have hc2:=(hz q (by omega)).trans hc;unfold vtC at hc2;have hs:=jqT (.pointer none) hc2;obtain ⟨Y,hY⟩:∃ Y,Y=Z.setCell ⟨q,0,none⟩ (.pointer none):=⟨_,rfl⟩;have hy:∀ k,k≠q->Y.heap[k]? = Z.heap[k]?:=fun k hk=>by rw [hY];exact jah _ _ _ _ _ (Ne.symm hk)
 have hyo:Y.os=Z.os/\Y.tape=Z.tape/\Y.output=Z.output/\Y.heap.size=Z.heap.size:=by rw [hY];exact ⟨rfl,rfl,rfl,by simp [World.setCell]⟩
 rw [<- hY] at hs ⊢;have hyx:∀ k,k≠q->k≠w.heap.size + 1->Y.heap[k]? = X.heap[k]?:=fun k h1 h2=>(hy k h1).trans (hz k h2)
 have hF6:∀ b,F6 b->b < w.heap.size/\F b∨m<=b:=fun b hb=>(hm b hb).imp (fun h=>⟨hlt b h,h⟩) id
 refine ⟨⟨(L.d X).keep X Y p F6 s6 hrep fun b hb=>hyx b (fun e=>?_) (fun e=>?_),fun hF=>?_,hs,?_,h.off.weak h.tab fun b hb hN=>?_⟩,⟨hyo.1.trans (hzo.1.trans hA.os),hyo.2.1.trans (hzo.2.1.trans hA.tape),hyo.2.2.1.trans (hzo.2.2.1.trans hA.output),by rw [hyo.2.2.2,hzo.2.2.2];exact hA.size,fun k hk hn=>(hyx k (fun e=>hn (.inr e)) (by omega)).trans (hA.block k hk hn)⟩⟩
 ·subst e;rcases hF6 _ hb with h' | h'
  ·exact h.nq h'.2
  ·omega
 ·subst e;rcases hF6 _ hb with h' | h'
  ·omega
  ·omega
 ·rcases hF6 _ hF with h' | h'
  ·exact h.nq h'.2
  ·omega
 ·exact (h.tab.away h.off fun k hk hn=>(hyx k (fun e=>hn (.inr e)) (by omega)).trans (hA.block k hk hn)).more (by rw [hyo.2.2.2,hzo.2.2.2];exact hA.size)
 ·rcases hN with hN | hN
  ·rcases hF6 _ hN with h' | h'
   ·exact .inl h'.2
   ·omega
  ·exact .inr hN
end
structure jmn (Rep:World->Nat->(Nat->Prop)->Dk->Prop) (w X7:World) (p q bT bL B m:Nat) (F F6:Nat->Prop) (s6:Dk) (V V1:jat) (v:Vt) (T:Tab) (x y z E:Int):Prop where
 co:CoS w X7 q E
 tab:X7.heap[bT]? = some (.cells #[.slice V1.A1 T.ts.length V1.c1,.slice V1.A2 T.vs.length V1.c2,.slice V1.A3 T.os.length V1.c3] 35 (0,0))
 cells:X7.heap[q]? = some (.cells (vtC (some ⟨p,0,none⟩) V v.t v.a v.g v.u) 68 (0,0))
 log:X7.heap[bL]? = some (.cells #[.int .i64 x,.int .i64 y,.int .i64 z] 66 (0,0))
 rep:Rep X7 p F6 s6
 away:jaM (fun b=>F b∨b=q) w X7
 rows:jao X7 B V1 T
 big:B<=X7.heap.size
 ne:q < bT/\q < bL/\q < w.heap.size
theorem jqB {Rep:World->Nat->(Nat->Prop)->Dk->Prop} (L:jbX Rep) {w X5 w6:World} {p q bT B:Nat} {F F6:Nat->Prop} {s s6:Dk} {V V1:jat} {v:Vt} {T:Tab} {x y z E:Int} (h:jdK Rep w p q F s (some ⟨p,0,none⟩) V v) (co:CoS w X5 q 0) (hb:Below w.heap.size w X5) (hT:jao X5 B V1 T) (hF:jay (w.heap.size + 2) V1)
  (ht:X5.heap[bT]? = some (.cells #[.slice V1.A1 T.ts.length V1.c1,.slice V1.A2 T.vs.length V1.c2,.slice V1.A3 T.os.length V1.c3] 35 (0,0))) (hbT:w.heap.size + 2<=bT) (hB:B<=X5.heap.size) (hr:Rep w6 p F6 s6) (hm:jcx F F6 X5.heap.size) (ha:jaM F X5 w6) :
  jmn Rep w ((w6.alloc (.cells #[.int .i64 x,.int .i64 y,.int .i64 z] 66)).setCell ⟨w.heap.size + 1,0,none⟩ (.int .i64 E)) p q bT w6.heap.size B X5.heap.size F F6 s6 V V1 v T x y z E:=by
 have hlt:∀ b,F b->b < w.heap.size:=fun b hb=>L.lt h.rep hb
 have hq:=(Array.getElem?_eq_some_iff.1 h.cells).1;have hba:Below w6.heap.size w6 (w6.alloc (.cells #[.int .i64 x,.int .i64 y,.int .i64 z] 66)):=(Below.refl _ _).alloc (Nat.le_refl _) _;have hbt:=(Array.getElem?_eq_some_iff.1 ht).1;have h6:=ha.size;have h5:=hb.size;have ho:∀ k,k≠w.heap.size + 1->((w6.alloc (.cells #[.int .i64 x,.int .i64 y,.int .i64 z] 66)).setCell ⟨w.heap.size + 1,0,none⟩ (.int .i64 E)).heap[k]? = (w6.alloc (.cells #[.int .i64 x,.int .i64 y,.int .i64 z] 66)).heap[k]?:=fun k hk=>jah _ _ _ _ _ (Ne.symm hk)
 have hk6:∀ k,k < w6.heap.size->(w6.alloc (.cells #[.int .i64 x,.int .i64 y,.int .i64 z] 66)).heap[k]? = w6.heap[k]?:=fun k hk=>hba.block k hk
 have key:∀ k,k < X5.heap.size->¬ F k->k≠w.heap.size + 1->((w6.alloc (.cells #[.int .i64 x,.int .i64 y,.int .i64 z] 66)).setCell ⟨w.heap.size + 1,0,none⟩ (.int .i64 E)).heap[k]? = X5.heap[k]?:=fun k h1 h2 h3=>(ho k h3).trans ((hk6 k (by omega)).trans (ha.block k h1 h2))
 have nf:∀ k,w.heap.size<=k->¬ F k:=fun k hk hF=>by have:=hlt k hF;omega
 have hsz:((w6.alloc (.cells #[.int .i64 x,.int .i64 y,.int .i64 z] 66)).setCell ⟨w.heap.size + 1,0,none⟩ (.int .i64 E)).heap.size=w6.heap.size + 1:=by simp [World.setCell]
 have hcc:=co.away ha hlt;refine ⟨(hcc.later hba).setE E,(key bT hbt (nf _ (by omega)) (by omega)).trans ht,(key q (by omega) h.nq (by omega)).trans ((hb.block q hq).trans h.cells),(ho _ (by omega)).trans (heap_alloc_new w6 _),?_,?_,?_,by rw [hsz];omega,by omega,by omega,hq⟩
 ·refine (L.d w6).keep _ _ p F6 s6 (L.keep hr hba) fun b hbF=>ho b fun e=>?_
  subst e;rcases hm _ hbF with q' | q'
  ·have:=hlt _ q';omega
  ·have:=(Array.getElem?_eq_some_iff.1 co.re).1;omega
 ·refine ⟨ha.os.trans hb.os,ha.tape.trans hb.tape,ha.output.trans hb.output,by rw [hsz];omega,fun k hk hn=>(key k (by omega) (fun hF=>hn (.inl hF)) (by omega)).trans (hb.block k hk)⟩
 ·refine (hT.away (N:=fun b=>F b∨b=w.heap.size + 1) (jck.of hT hF fun b hN=>.inl ?_) fun k hk hn=>key k (by omega) (fun hF=>hn (.inl hF)) (fun e=>hn (.inr e)));rcases hN with hN | hN
  ·have:=hlt b hN;omega
  ·omega
section
variable {Rep:World->Nat->(Nat->Prop)->Dk->Prop} {w X7:World} {p q bT bL B m:Nat} {F F6:Nat->Prop} {s s6:Dk} {V V1:jat} {v v':Vt} {x y z:Int}
theorem jhJ (Z:World) (a:Addr) (u:Value):Z.drew.setCell a u=(Z.setCell a u).drew:=rfl
theorem jmn.done (L:jbX Rep) (hV:jdK Rep w p q F s (some ⟨p,0,none⟩) V v) (h:jmn Rep w X7 p q bT bL B m F F6 s6 V V1 v v'.t x y z 0) (hm:jcx F F6 m) (hmw:w.heap.size + 2<=m) (hB:B<=m) (hF:jay (w.heap.size + 2) V1) :
  jdK Rep (((((((X7.setCell ⟨q,1,none⟩ (.slice V1.A1 v'.t.ts.length V1.c1)).setCell ⟨q,2,none⟩ (.slice V1.A2 v'.t.vs.length V1.c2)).setCell ⟨q,3,none⟩ (.slice V1.A3 v'.t.os.length V1.c3)).setCell ⟨q,4,none⟩ (.int .i64 (v'.a:Int))).setCell ⟨q,5,none⟩ (.int .i64 v'.g)).setCell ⟨q,6,none⟩ (.int .i64 (v'.u:Int))).setCell ⟨w.heap.size + 1,0,none⟩ (.int .i64 0)).drew p q F6 s6 (some ⟨p,0,none⟩) V1 v'/\jaM (fun b=>F b∨b=q) w (((((((X7.setCell ⟨q,1,none⟩ (.slice V1.A1 v'.t.ts.length V1.c1)).setCell ⟨q,2,none⟩ (.slice V1.A2 v'.t.vs.length V1.c2)).setCell ⟨q,3,none⟩ (.slice V1.A3 v'.t.os.length V1.c3)).setCell ⟨q,4,none⟩ (.int .i64 (v'.a:Int))).setCell ⟨q,5,none⟩ (.int .i64 v'.g)).setCell ⟨q,6,none⟩ (.int .i64 (v'.u:Int))).setCell ⟨w.heap.size + 1,0,none⟩ (.int .i64 0)).drew/\(((((((X7.setCell ⟨q,1,none⟩ (.slice V1.A1 v'.t.ts.length V1.c1)).setCell ⟨q,2,none⟩ (.slice V1.A2 v'.t.vs.length V1.c2)).setCell ⟨q,3,none⟩ (.slice V1.A3 v'.t.os.length V1.c3)).setCell ⟨q,4,none⟩ (.int .i64 (v'.a:Int))).setCell ⟨q,5,none⟩ (.int .i64 v'.g)).setCell ⟨q,6,none⟩ (.int .i64 (v'.u:Int))).setCell ⟨w.heap.size + 1,0,none⟩ (.int .i64 0)).drew.cell? ⟨w.heap.size + 1,0,none⟩=some (.int .i64 0):=by
 have hc:=h.cells;unfold vtC at hc;obtain ⟨r1,r2,r3⟩:=jpH L v' h.away h.rep hm hmw h.ne.2.2 hV.nq (fun b hb=>L.lt hV.rep hb) hc h.rows hB h.big hF (Nat.le_refl _) h.co.re;rw [jhJ] at r1 r2 r3;exact ⟨r1,r2,by rw [cell_of_row _ _ _ _ _ _ r3];rfl⟩
theorem jmn.cut (L:jbX Rep) {T:Tab} (hV:jdK Rep w p q F s (some ⟨p,0,none⟩) V v) (h:jmn Rep w X7 p q bT bL B m F F6 s6 V V1 v T x y z 8) (hm:jcx F F6 m) (hmw:w.heap.size + 2<=m) :
  (jdK Rep ((X7.setCell ⟨w.heap.size + 1,0,none⟩ (.int .i64 8)).setCell ⟨q,0,none⟩ (.pointer none)) p q F6 s6 none V v/\jaM (fun b=>F b∨b=q) w ((X7.setCell ⟨w.heap.size + 1,0,none⟩ (.int .i64 8)).setCell ⟨q,0,none⟩ (.pointer none))) /\
  ((X7.setCell ⟨w.heap.size + 1,0,none⟩ (.int .i64 8)).setCell ⟨q,0,none⟩ (.pointer none)).cell? ⟨w.heap.size + 1,0,none⟩=some (.int .i64 8) /\
  CallsD Tryz.prog 21 #[.pointer (some ⟨w.heap.size + 1,0,none⟩),.func (.func 25) #[] #[.pointer (some ⟨w.heap.size,0,none⟩)]] .returning (X7.setCell ⟨w.heap.size + 1,0,none⟩ (.int .i64 8)) fun e u' w'=>u'=.returning/\e=.returned (.tuple #[])/\w'=(X7.setCell ⟨w.heap.size + 1,0,none⟩ (.int .i64 8)).setCell ⟨q,0,none⟩ (.pointer none):=by
 have hr:=jqa L hV h.away h.rep hm hmw h.cells;have hco:=h.co.setE 8;obtain ⟨d0,d1,_⟩:=hco.cells;obtain ⟨_,_,n3⟩:=h.ne;have hqc:=(jah X7 (w.heap.size + 1) q 0 (.int .i64 8) (by omega)).trans h.cells;unfold vtC at hqc;obtain ⟨u0,_⟩:=jdJ hqc;have f0:=frozen_of_row _ _ 0 _ _ hqc;have hrow:=(jah (X7.setCell ⟨w.heap.size + 1,0,none⟩ (.int .i64 8)) q (w.heap.size + 1) 0 (.pointer none) (by omega)).trans hco.re;exact ⟨hr,by rw [cell_of_row _ _ _ _ _ _ hrow];rfl,jlK ⟨w.heap.size + 1,0,none⟩ 8 w.heap.size q (.pointer (some ⟨p,0,none⟩)) _ d1 (by decide) d0 u0 f0⟩
end
section
variable {Rep:World->Nat->(Nat->Prop)->Dk->Prop} (L:jbX Rep)
include L
theorem jfN {w:World} {p q:Nat} {F:Nat->Prop} {s:Dk} {V:jat} {v:Vt} (n:Nat) (K:Int) (T:Tab) (h:jdK Rep w p q F s (some ⟨p,0,none⟩) V v) (hA:jbH s n v K) (hK:K<=2147483600) (A:Option Addr) (c:Nat) (l:List Rc) (hrec:jax w w.heap.size A l) (hc:l.length<=c) (hok:∀ r∈l,r.ok) (hm:l.length<=140737488355328) (hoff:Off F A l.length) (happ:jbR v.t l=(0,T)) (hne:l≠[]) :
  Calls Tryz.prog 10 #[.pointer (some ⟨q,0,none⟩),.slice A l.length c] w (jp0 Rep p q F s n v K T w):=by
 have hsn:=hA.sound;have hrun:jaV v.t l=(0,T):=by rw [<- jcV hsn.1];exact happ
 have hb0:Below w.heap.size w (w.alloc (.cells #[.pointer (some ⟨q,0,none⟩)] 27)):=(Below.refl _ _).alloc (Nat.le_refl _) _;have hb1:=hb0.alloc hb0.size (.cells #[.int .i64 0] 24);have hvc:=(hb1.block _ (Array.getElem?_eq_some_iff.1 h.cells).1).trans h.cells;unfold vtC at hvc;obtain ⟨c0,c1,c2,c3,_⟩:=jdJ hvc;have HO:=CoS.start w q;obtain ⟨y0,y1,y2⟩:=HO.cells;obtain ⟨W0,hW0⟩:∃ W,W=(w.alloc (.cells #[.pointer (some ⟨q,0,none⟩)] 27)).alloc (.cells #[.int .i64 0] 24):=⟨_,rfl⟩;rw [<- hW0] at HO hb1;have hs0:W0.heap.size=w.heap.size + 2:=by rw [hW0];simp
 have HO:=Lib.hid HO;have HW0:=Lib.hid hW0;have HB0:=Lib.hid hb1;have hlt:Hid (∀ b,F b->b < w.heap.size):=fun b hb=>L.lt h.rep hb
 have hq:=(Array.getElem?_eq_some_iff.1 h.cells).1
 have HA:Hid (Calls Tryz.prog 24 #[.agg #[.slice V.A1 v.t.ts.length V.c1,.slice V.A2 v.t.vs.length V.c2,.slice V.A3 v.t.os.length V.c3],.slice A l.length c] W0 fun e w'=>∃ V':jat,e=.returned (.tuple #[.agg #[.slice V'.A1 T.ts.length V'.c1,.slice V'.A2 T.vs.length V'.c2,.slice V'.A3 T.os.length V'.c3],.int .i64 0])/\jao w' w'.heap.size V' T/\jay (w.heap.size + 2) V'/\Below W0.heap.size W0 w'):=by
  have:=(L.t W0).apply V v.t A c l W0 (Below.refl _ _) ((h.tab.below hb1).more hb1.size) (jdg hsn.1) ((hrec.below hb1).more hb1.size) hc hok hm;rw [happ] at this;exact this.mono fun e w' ⟨V',a1,a2,a3,a4⟩=>⟨V',a1,a2,by rw [<- hs0];exact a3,a4⟩
 -- the state ahead of the write,and behind it
 have HX:Hid (∀ (V1:jat) (w1:World),jao w1 w1.heap.size V1 T->jay (w.heap.size + 2) V1->Below W0.heap.size W0 w1->CoS w ((w1.alloc (.cells #[.slice V1.A1 T.ts.length V1.c1,.slice V1.A2 T.vs.length V1.c2,.slice V1.A3 T.os.length V1.c3] 35)).setCell ⟨w.heap.size + 1,0,none⟩ (.int .i64 0)) q 0/\Below w.heap.size w ((w1.alloc (.cells #[.slice V1.A1 T.ts.length V1.c1,.slice V1.A2 T.vs.length V1.c2,.slice V1.A3 T.os.length V1.c3] 35)).setCell ⟨w.heap.size + 1,0,none⟩ (.int .i64 0))/\jdK Rep ((w1.alloc (.cells #[.slice V1.A1 T.ts.length V1.c1,.slice V1.A2 T.vs.length V1.c2,.slice V1.A3 T.os.length V1.c3] 35)).setCell ⟨w.heap.size + 1,0,none⟩ (.int .i64 0)) p q F s (some ⟨p,0,none⟩) V v /\
   ((w1.alloc (.cells #[.slice V1.A1 T.ts.length V1.c1,.slice V1.A2 T.vs.length V1.c2,.slice V1.A3 T.os.length V1.c3] 35)).setCell ⟨w.heap.size + 1,0,none⟩ (.int .i64 0)).heap[w1.heap.size]? = some (.cells #[.slice V1.A1 T.ts.length V1.c1,.slice V1.A2 T.vs.length V1.c2,.slice V1.A3 T.os.length V1.c3] 35 (0,0))/\jao ((w1.alloc (.cells #[.slice V1.A1 T.ts.length V1.c1,.slice V1.A2 T.vs.length V1.c2,.slice V1.A3 T.os.length V1.c3] 35)).setCell ⟨w.heap.size + 1,0,none⟩ (.int .i64 0)) w1.heap.size V1 T/\w.heap.size + 2<=w1.heap.size/\((w1.alloc (.cells #[.slice V1.A1 T.ts.length V1.c1,.slice V1.A2 T.vs.length V1.c2,.slice V1.A3 T.os.length V1.c3] 35)).setCell ⟨w.heap.size + 1,0,none⟩ (.int .i64 0)).heap.size=w1.heap.size + 1):=fun V1 w1 q1 q2 q3=>by
  have hw1:w.heap.size + 2<=w1.heap.size:=by rw [<- hs0];exact q3.size
  have hba:Below w1.heap.size w1 (w1.alloc (.cells #[.slice V1.A1 T.ts.length V1.c1,.slice V1.A2 T.vs.length V1.c2,.slice V1.A3 T.os.length V1.c3] 35)):=(Below.refl _ _).alloc (Nat.le_refl _) _;have hbb:=((jaa hb1 (jaa q3 hba)).setCell (p:=⟨w.heap.size + 1,0,none⟩) (Nat.le_succ _) (.int .i64 0));have hT:jao ((w1.alloc (.cells #[.slice V1.A1 T.ts.length V1.c1,.slice V1.A2 T.vs.length V1.c2,.slice V1.A3 T.os.length V1.c3] 35)).setCell ⟨w.heap.size + 1,0,none⟩ (.int .i64 0)) w1.heap.size V1 T:=(q1.below hba).other q2 (Nat.lt_succ_self _) fun k hk=>jah _ _ _ _ _ (Ne.symm hk)
  exact ⟨((HO.out.later q3).later hba).setE 0,hbb,h.later L hbb,(jah _ _ _ _ _ (by omega)).trans (heap_alloc_new w1 _),hT,hw1,by simp [World.setCell]⟩
 have HWR:Hid (∀ (V1:jat) (B:Nat) (X:World),jdK Rep X p q F s (some ⟨p,0,none⟩) V v->Below w.heap.size w X->jao X B V1 T->B<=X.heap.size->Calls Tryz.prog 26 #[.pointer (some ⟨q,0,none⟩),.agg #[.slice V1.A1 T.ts.length V1.c1,.slice V1.A2 T.vs.length V1.c2,.slice V1.A3 T.os.length V1.c3],.slice A l.length c] X (jio Rep p F s n v K T X)):=fun V1 B X q1 q2 q3 q4 =>
  jmz L p q F s n v K V V1 T A c l X q1 hA hK (q3.more q4) hrun hne hm ((hrec.below q2).more q2.size) hoff
 have hnl:((l.length:Int) == 0)=false:=by
  have:=List.length_pos_iff.2 hne;rw [beq_eq_false_iff_ne];omega
 obtain ⟨NL,hNL⟩:∃ x,x=l.length:=⟨_,rfl⟩;rw [<- hNL] at HA HWR hnl ⊢;have HVT:=Lib.hid h;have HLL:=Lib.hid L;have hmf:∀ (fn:Fn) (first cap:Array Value) (w:World),(Instr.makeFunc fn first cap).run Tryz.prog w=.ok (.func fn first cap) w:=fun _ _ _ _=>rfl
 clear hvc hb0 hb1 h L hrec hc hok hm happ hne hrun hW0 hs0 hNL hoff hsn hA
 go_enter_defers Tryz.func10,Tryz.ntmps10
 go_wp2_with (go_at_call 24;rw [<- HW0.out];with_reducible (refine Calls.mono HA.out ?_);rintro e w1 ⟨V1,rfl,hT1,hF1,hb1⟩
              have HO1:=Lib.hid ((HO.out.later hb1).later ((Below.refl w1.heap.size w1).alloc (Nat.le_refl _) (.cells #[.slice V1.A1 T.ts.length V1.c1,.slice V1.A2 T.vs.length V1.c2,.slice V1.A3 T.os.length V1.c3] 35)));have HX1:=Lib.hid (HX.out _ _ hT1 hF1 hb1);have HF1:=Lib.hid hF1;obtain ⟨x0,x1,x2⟩:=HO1.out.cells;obtain ⟨z0,z1,z2⟩:=HX1.out.1.cells;obtain ⟨t0,t1,t2⟩:=jai HX1.out.2.2.2.1;clear hb1 hT1 hF1 y0 y1 y2 c0 c1 c2 c3)
 obtain ⟨X5,hX5⟩:∃ X,X=(w1.alloc (.cells #[.slice V1.A1 T.ts.length V1.c1,.slice V1.A2 T.vs.length V1.c2,.slice V1.A3 T.os.length V1.c3] 35)).setCell ⟨w.heap.size + 1,0,none⟩ (.int .i64 0):=⟨_,rfl⟩;obtain ⟨bT,hbT⟩:∃ b,b=w1.heap.size:=⟨_,rfl⟩;rw [<- hX5,<- hbT] at HX1;rw [<- hX5,<- hbT];have HW5:=Lib.hid (HWR.out V1 bT X5 HX1.out.2.2.1 HX1.out.2.1 HX1.out.2.2.2.2.1 (by rw [HX1.out.2.2.2.2.2.2];exact Nat.le_succ _));clear hX5 hbT x0 x1 x2 z0 z1 z2 t0 t1 t2 HO1 HWR HX HA
 go_at_call 26
 with_reducible (refine Calls.mono HW5.out ?_)
 rintro e w6 ⟨F6,s6,E,x,y,z,rfl,hr6,hm6,ha6,hl6,hor⟩;have HM:=Lib.hid (jqB (x:=x) (y:=y) (z:=z) (E:=E) HLL.out HVT.out HX1.out.1 HX1.out.2.1 HX1.out.2.2.2.2.1 HF1.out HX1.out.2.2.2.1 HX1.out.2.2.2.2.2.1 (by rw [HX1.out.2.2.2.2.2.2];exact Nat.le_succ _) hr6 hm6 ha6);have HAL:=Lib.hid (heap_alloc_new w6 (.cells #[.int .i64 x,.int .i64 y,.int .i64 z] 66));have HC6:=Lib.hid ((HX1.out.1.away ha6 hlt.out).later ((Below.refl w6.heap.size w6).alloc (Nat.le_refl _) (.cells #[.int .i64 x,.int .i64 y,.int .i64 z] 66)));have HS5:Hid (X5.heap.size=bT + 1/\w.heap.size + 2<=bT):=⟨HX1.out.2.2.2.2.2.2,HX1.out.2.2.2.2.2.1⟩;have HMO:=Lib.hid hm6;have HLI:=Lib.hid hl6;clear hr6 hm6 ha6 hl6 HW5 HX1;obtain ⟨a0,a1,a2⟩:=HC6.out.cells;obtain ⟨b0,b1,b2⟩:=HM.out.co.cells;rcases hor with ⟨rfl,v',rfl,rfl,rfl,rfl,hal,hge⟩ | ⟨rfl,hdn,hlim⟩
 ·obtain ⟨x0,x1,x2⟩:=jai HM.out.tab;obtain ⟨l0,l1,l2⟩:=jai HM.out.log;have hqc:=HM.out.cells;unfold vtC at hqc;obtain ⟨u0,u1,u2,u3,u4,u5,u6⟩:=jdJ hqc;have f1:=frozen_of_row _ _ 1 _ _ hqc;have f2:=frozen_of_row _ _ 2 _ _ hqc;have f3:=frozen_of_row _ _ 3 _ _ hqc;have f4:=frozen_of_row _ _ 4 _ _ hqc;have f5:=frozen_of_row _ _ 5 _ _ hqc;have f6:=frozen_of_row _ _ 6 _ _ hqc;obtain ⟨n1,n2,n3⟩:=HM.out.ne;have m1:¬ q=bT:=by omega
  have m2:¬ bT=q:=by omega
  have m3:¬ q=w6.heap.size:=by omega
  have m4:¬ w6.heap.size=q:=by omega
  have m5:¬ q=w.heap.size:=by omega
  have m6:¬ w.heap.size=q:=by omega
  have m7:¬ q=w.heap.size + 1:=by omega
  have m8:¬ w.heap.size + 1=q:=by omega
  have HAV:=Lib.hid (And.intro hal hge);have hmw:w.heap.size + 2<=X5.heap.size:=by have:=HS5.out;omega
  have hB5:bT<=X5.heap.size:=by have:=HS5.out;omega
  obtain ⟨r1,r2,hz⟩:=HM.out.done HLL.out HVT.out HMO.out hmw hB5 HF1.out;have HR:=Lib.hid (And.intro r1 r2);clear hal hge hqc n1 n2 n3 r1 r2 hmw hB5;go_wp2;go_region;go_wp2;refine leaves_cons (f:=21) (args:=#[.pointer (some ⟨w.heap.size + 1,0,none⟩),.func (.func 25) #[] #[.pointer (some ⟨w.heap.size,0,none⟩)]]) (by simp) (by simp [go_sem]) ?_;refine (jh7 ⟨w.heap.size + 1,0,none⟩ _ _ hz).mono ?_;rintro e u' w'' ⟨rfl,rfl,rfl⟩;simp [Leaves,settle,results,Tryz.results10,go_sem,hz];exact ⟨F6,s6,0,V1,v',some ⟨p,0,none⟩,rfl,HR.out.1,fun b hb=>(HMO.out b hb).imp id fun h=>by have:=HS5.out;omega,HR.out.2,HLI.out,.inl ⟨rfl,rfl,rfl,HAV.out.1,HAV.out.2⟩⟩
 ·have hmw:w.heap.size + 2<=X5.heap.size:=by have:=HS5.out;omega
  obtain ⟨hr,hz,hcn⟩:=HM.out.cut HLL.out HVT.out HMO.out hmw;have HR:=Lib.hid hr;have HCN:=Lib.hid hcn;have HDN:=Lib.hid (And.intro hdn hlim);have HZ:=Lib.hid hz;clear hr hcn hmw hdn hlim hz;go_wp2;refine leaves_cons (f:=21) (args:=#[.pointer (some ⟨w.heap.size + 1,0,none⟩),.func (.func 25) #[] #[.pointer (some ⟨w.heap.size,0,none⟩)]]) (by simp) (by simp [go_sem]) ?_;refine HCN.out.mono ?_;rintro e u' w'' ⟨rfl,rfl,rfl⟩;have hz:=HZ.out;simp [Leaves,settle,results,Tryz.results10,go_sem,hz];exact ⟨F6,s6,8,V,v,none,rfl,HR.out.1,fun b hb=>(HMO.out b hb).imp id fun h=>by have:=HS5.out;omega,HR.out.2,HLI.out,.inr ⟨rfl,rfl,rfl,HDN.out.1,HDN.out.2⟩⟩
end
structure jiz (Rep:World->Nat->(Nat->Prop)->Dk->Prop) (w W:World) (p q:Nat) (s:Dk) (d:Option Addr) (v:Vt):Prop where
 below:Below w.heap.size w W
 vt:∃ F V,jdK Rep W p q F s d V v/\(∀ b,F b->w.heap.size<=b)/\w.heap.size<=q
theorem jin {N n:Nat} (h1:384<=N) (h2:N<=4096) (n1:1<=n) (n2:n<=64):jbH (jeU N) n ⟨jbf n,1,0,192⟩ 0 :=
 jgw (jlM (by omega) h2) rfl rfl (by simp [jeU];omega) n1 n2 (jfv h1)
theorem jpz (W:World) (r:Rc) (T:TypeId):jax (W.alloc (.cells (rcV r) T)) (W.alloc (.cells (rcV r) T)).heap.size (some ⟨W.heap.size,0,none⟩) [r]:=fun k hk=>by
 have h:=heap_alloc_new W (.cells (rcV r) T);have hk2:k=0:=by simpa using hk
 subst hk2;refine ⟨W.heap.size,0,rfl,by simp,?_,?_,?_,?_,?_,?_⟩ <;> (rw [cell_of_row _ _ _ _ _ _ h];rfl)
section
variable {Rep:World->Nat->(Nat->Prop)->Dk->Prop} {w W X:World} {p q:Nat} {s:Dk} {d:Option Addr} {v:Vt}
theorem jiz.later (L:jbX Rep) (h:jiz Rep w W p q s d v) (hb:Below W.heap.size W X):jiz Rep w X p q s d v:=by
 obtain ⟨F,V,h1,h2⟩:=h.vt;exact ⟨jaa h.below hb,F,V,h1.later L hb,h2⟩
theorem jkd (L:jbX Rep) {N:Nat} (hb:Below w.heap.size w W) (h1:1<=N) (h2:N<=4096):Calls Tryz.prog 7 #[.int .i64 (N:Int)] W fun e w'=>∃ p,e=.returned (.tuple #[.pointer (some ⟨p,0,none⟩),.int .i64 0])/\jqe Rep w w' p (jeU N) :=
 joo (L.d w) hb h1 h2
theorem jjR (L:jbX Rep) {n:Nat} {t:Tab} {a:Nat} {g K:Int} (h:jqe Rep w W p s) (ho:s.off=false) (hpe:s.pend=[]) (hl:384<=s.last.length) (n1:1<=n) (n2:n<=64) (hH:jcz s.last n t a g K) :
  Calls Tryz.prog 8 #[.pointer (some ⟨p,0,none⟩),.int .i64 (n:Int)] W fun e w'=>∃ q,e=.returned (.tuple #[.pointer (some ⟨q,0,none⟩),.int .i64 0])/\jiz Rep w w' p q s (some ⟨p,0,none⟩) ⟨t,a,g,192⟩:=by
 obtain ⟨F,hr,hF,hb⟩:=h;exact (jjZ L p F s n t a g K W hr ho hpe hl n1 n2 hH).mono fun e w' ⟨q,V,q1,q2,q3,q4⟩=>⟨q,q1,jaa hb q4,F,V,q2,hF,Nat.le_trans hb.size q3⟩
theorem jlB (L:jbX Rep) (h:jiz Rep w W p q s d v) (hs:v.t.sound) :
  Calls Tryz.prog 15 #[.pointer (some ⟨q,0,none⟩)] W fun e w'=>∃ V':jat,e=.returned (.agg #[.slice V'.A1 v.t.ts.length V'.c1,.slice V'.A2 v.t.vs.length V'.c2,.slice V'.A3 v.t.os.length V'.c3])/\jao w' w'.heap.size V' v.t/\jay W.heap.size V'/\Below W.heap.size W w':=by
 obtain ⟨F,V,h1,_⟩:=h.vt;exact jir L h1 hs
theorem jqw {F:Nat->Prop} {n:Nat} {K:Int} {T:Tab} (h:jiz Rep w W p q s d v) {e:Ending} {w':World} (hF:∀ b,F b->w.heap.size<=b) (hq:w.heap.size<=q) (hc:jp0 Rep p q F s n v K T W e w') :
  ∃ s' v' d' E,e=.returned (.int .i64 E)/\jiz Rep w w' p q s' d' v'/\(s.lim=none->s'.lim=none)/\((E=0/\d'=some ⟨p,0,none⟩/\v'.t=T/\jbH s' n v' (K + 1)/\v.g<=v'.g)∨(E=8/\d'=none/\v'=v/\jn7 s' n v.t T (K + 1)/\s.lim≠none)):=by
 obtain ⟨F',s',E,V',v',d',q1,q2,q3,q4,q5,q6⟩:=hc;refine ⟨s',v',d',E,q1,⟨q4.below (fun k hk=>hk.elim (hF k) fun e=>e ▸ hq) h.below h.below.size,F',V',q2,fun b hb=>(q3 b hb).elim (hF b) fun hb=>Nat.le_trans h.below.size hb,hq⟩,q5,q6⟩
theorem jpF (L : jbX Rep) {n : Nat} {K : Int} {T : Tab} {r : Rc} (h : jiz Rep w W p q s (some ⟨p, 0, none⟩) v) (hA : jbH s n v K) (hK : K <= 2147483600) (hl : s.lim = none) (ho : r.ok) (happ : jbR v.t [r] = (0, T)) :
    Calls Tryz.prog 10 #[.pointer (some ⟨q, 0, none⟩), .slice (some ⟨W.heap.size, 0, none⟩) 1 1] (W.alloc (.cells (rcV r) 56)) fun e w' => ∃ s' v', e = .returned (.int .i64 0) /\ jiz Rep w w' p q s' (some ⟨p, 0, none⟩) v' /\ v'.t = T /\ jbH s' n v' (K + 1) /\ v.g <= v'.g /\ s'.lim = none := by
  have hba : Below W.heap.size W (W.alloc (.cells (rcV r) 56)) := (Below.refl _ _).alloc (Nat.le_refl _) _;have h2 := h.later L hba;obtain ⟨F, V, h1, hF, hq⟩ := h.vt;have hlt : ∀ b, F b -> b < W.heap.size := fun b hb => L.lt h1.rep hb
  have hc := jfN L n K T (h1.later L hba) hA hK (some ⟨W.heap.size, 0, none⟩) 1 [r] (jpz W r _) (Nat.le_refl _) (fun x hx => by rw [(by simpa using hx : x = r)]; exact ho) (by simp) (fun _ b o e hb => by
    injection e with e
    injection e with e _
    have := hlt b hb; omega) happ (List.cons_ne_nil _ _)
  refine hc.mono fun e w' hcm => ?_
  obtain ⟨s', v', d', E, q1, q2, q3, q4⟩ := jqw h2 hF hq hcm;rcases q4 with ⟨rfl, rfl, r1, r2, r3⟩ | ⟨_, _, _, _, r5⟩
  · exact ⟨s', v', q1, q2, r1, r2, r3, q3 hl⟩
  · exact absurd hl r5
end
def jpN (id q:Int):Rc:=⟨1,id,q,0,1,jpP⟩
def jqC (id q:Int) (n:Nat):Tab:=⟨[⟨id,q,0,1,jpP,false⟩],[],List.replicate n 0⟩
theorem joX {id q:Int} (h1:inR id 1 7) (h2:inR q 1 64):(jpN id q).ok:=by
 unfold inR at h1 h2;refine ⟨show jdD 1 from ⟨by decide,by decide⟩,?_,?_,show jdD 0 from ⟨by decide,by decide⟩,show jdD 1 from ⟨by decide,by decide⟩,show jpP.size<=_ from by decide +kernel⟩
 ·show -9223372036854775808<=id/\id<=9223372036854775807;omega
 ·show -9223372036854775808<=q/\q<=9223372036854775807;omega
theorem jpR {id q:Int} {n:Nat} (h1:inR id 1 7) (h2:inR q 1 64) (n1:1<=n) (n2:n<=64) (hq:q<=n):jbR (jbf n) [jpN id q]=(0,jqC id q n):=by
 rw [jcV (jej n1 n2),jdB (t':=jqC id q n)]
 ·rfl
 ·unfold jaf;rw [if_pos (show (jpN id q).k=1 from rfl)];exact ⟨h1,h2,show inR 0 0 4294967296 from by decide,show inR 1 1 64 from by decide,show jpP.size=16 from by decide +kernel⟩
 ·unfold jar;rw [if_pos (show (jpN id q).k=1 from rfl)];unfold je7;rw [if_neg (by simp [tenAt,jbf]),if_neg (by unfold jbp jbf jpN;simp;omega)];rfl
theorem jpD (A1 A2 A3:Option Addr) (n1 c1 n2 c2 n3 c3:Nat) (w:World):(Instr.field 35 (.agg #[.slice A1 n1 c1,.slice A2 n2 c2,.slice A3 n3 c3]) 0).run Tryz.prog w=.ok (.slice A1 n1 c1) w:=by kernel_rfl
section
variable {Rep:World->Nat->(Nat->Prop)->Dk->Prop} (L:jbX Rep)
include L
theorem jkG (w:World):Calls Tryz.prog 9 #[] w fun e w'=>e=.returned (.bool true)/\Below w.heap.size w w':=by
 have H1:=Lib.hid (jkd L (Below.refl w.heap.size w) (N:=384) (by decide) (by decide))
 have H2:Hid (∀ p W,jqe Rep w W p (jeU 384)->Calls Tryz.prog 8 #[.pointer (some ⟨p,0,none⟩),.int .i64 3] W fun e w'=>∃ q,e=.returned (.tuple #[.pointer (some ⟨q,0,none⟩),.int .i64 0])/\jiz Rep w w' p q (jeU 384) (some ⟨p,0,none⟩) ⟨jbf 3,1,0,192⟩):=fun p W h =>
  jjR L (n:=3) h rfl rfl (by simp [jeU]) (by decide) (by decide) (jfv (Nat.le_refl _))
 have H3:Hid (∀ p q W,jiz Rep w W p q (jeU 384) (some ⟨p,0,none⟩) ⟨jbf 3,1,0,192⟩->Calls Tryz.prog 10 #[.pointer (some ⟨q,0,none⟩),.slice (some ⟨W.heap.size,0,none⟩) 1 1] (W.alloc (.cells #[.int .i64 1,.int .i64 2,.int .i64 1,.int .i64 0,.int .i64 1,.string ⟨#[48,49,50,51,52,53,54,55,56,57,97,98,99,100,101,102]⟩] 56)) fun e w'=>e=.returned (.int .i64 0)/\∃ s' v',jiz Rep w w' p q s' (some ⟨p,0,none⟩) v'/\v'.t=jqC 2 1 3/\v'.t.sound):=fun p q W h =>
  (jpF L (r:=jpN 2 1) h (jin (Nat.le_refl _) (by decide) (by decide) (by decide)) (by decide) rfl (joX ⟨by decide,by decide⟩ ⟨by decide,by decide⟩) (jpR (n:=3) ⟨by decide,by decide⟩ ⟨by decide,by decide⟩ (by decide) (by decide) (by decide))).mono fun e w' ⟨s',v',q1,q2,q3,q4,_,_⟩=>⟨q1,s',v',q2,q3,q4.sound.1⟩
 have H4:Hid (∀ p q s v W,jiz Rep w W p q s (some ⟨p,0,none⟩) v->v.t=jqC 2 1 3->v.t.sound->Calls Tryz.prog 15 #[.pointer (some ⟨q,0,none⟩)] W fun e w'=>∃ (V':jat) (b off:Nat),e=.returned (.agg #[.slice V'.A1 1 V'.c1,.slice V'.A2 0 V'.c2,.slice V'.A3 3 V'.c3])/\V'.A1=some ⟨b,off,none⟩/\w'.cell? ⟨b,off,none⟩=some (.int .i64 2)/\Below W.heap.size W w'):=fun p q s v W h hv hs=>by
  refine (jlB L h hs).mono fun e w' ⟨V',q1,q2,_,q4⟩=>?_
  rw [hv] at q1 q2;obtain ⟨b,off,e1,_,c0,_⟩:=q2.ts 0 (by decide);exact ⟨V',b,off,q1,e1,c0,q4⟩
 have HL:Hid (∀ p q s v W X,jiz Rep w W p q s (some ⟨p,0,none⟩) v->Below W.heap.size W X->jiz Rep w X p q s (some ⟨p,0,none⟩) v):=fun p q s v W X h hb=>h.later L hb
 have hf0:=jpD;clear L;go_enter Tryz.func9,Tryz.ntmps9
 go_wp2_with (first
  | (go_at_call 7;with_reducible (refine Calls.mono H1.out ?_);rintro e w1 ⟨p,rfl,ho1⟩)
  | (go_at_call 8;with_reducible (refine Calls.mono (H2.out _ _ ho1) ?_);rintro e w2 ⟨q,rfl,ho2⟩;clear ho1)
  | (go_at_call 10;with_reducible (refine Calls.mono (H3.out _ _ _ ho2) ?_);rintro e w3 ⟨rfl,s3,v3,ho3,hv3,hs3⟩;clear ho2;have HV3:=Lib.hid hv3;have HS3:=Lib.hid hs3;clear hv3 hs3)
  | (go_at_call 15;with_reducible (refine Calls.mono (H4.out _ _ _ _ _ ho3 HV3.out HS3.out) ?_);rintro e w4 ⟨V4,b4,o4,rfl,_,_,hb4⟩;have ho4:=Lib.hid (HL.out _ _ _ _ _ _ ho3 hb4);clear ho3 hb4)
  | (go_at_call 15;with_reducible (refine Calls.mono (H4.out _ _ _ _ _ ho4.out HV3.out HS3.out) ?_);rintro e w5 ⟨V5,b5,o5,rfl,ha5,hc5,hb5⟩;have hx5:=Lib.hid (jaa ho4.out.below hb5);clear hb5))
 go_ret;exact ⟨rfl,hx5.out⟩
end
end Go.Proofs.YtbnhkplhmanmoaaGreat
