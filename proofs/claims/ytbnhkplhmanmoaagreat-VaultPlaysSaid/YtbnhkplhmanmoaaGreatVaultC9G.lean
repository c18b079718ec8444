/- . -/
import Derived.Test.YtbnhkplhmanmoaaGreatVaultC8G
namespace Go.Proofs.YtbnhkplhmanmoaaGreat
open Go.RowKit
set_option maxHeartbeats 6400000
set_option maxRecDepth 20000
theorem jn7.more {s:Dk} {n:Nat} {t t':Tab} {K K':Int} (h:jn7 s n t t' K) (hK:K<=K'):jn7 s n t t' K':=⟨h.ok,h.len,h.n1,h.n2,fun keep=>by
 obtain ⟨a,g,q | q⟩:=h.any keep
 ·exact ⟨a,g,.inl (q.more hK)⟩
 ·exact ⟨a,g,.inr (q.more hK)⟩⟩
theorem jbH.more {s:Dk} {n:Nat} {v:Vt} {K K':Int} (h:jbH s n v K) (hK:K<=K'):jbH s n v K':=⟨h.ok,h.on,h.pen,h.len,h.n1,h.n2,h.hold.more hK,h.log⟩
def jck (N:Nat->Prop) (V:jat) (t:Tab):Prop :=
 (0 < t.ts.length->∀ b o,V.A1=some ⟨b,o,none⟩->¬ N b)/\(0 < t.vs.length->∀ b o,V.A2=some ⟨b,o,none⟩->¬ N b)/\(0 < t.os.length->∀ b o,V.A3=some ⟨b,o,none⟩->¬ N b)
theorem jcD {A:Option Addr} {b o b' o':Nat} (h:A=some ⟨b,o,none⟩) (h':A=some ⟨b',o',none⟩):b'=b:=by
 rw [h] at h';injection h' with h'
 injection h' with h' _
 exact h'.symm
theorem jck.of {w:World} {B lo:Nat} {N:Nat->Prop} {V:jat} {t:Tab} (h:jao w B V t) (hf:jay lo V) (hN:∀ b,N b->b < lo∨B<=b):jck N V t:=by
 refine ⟨fun h0 b o e hb=>?_,fun h0 b o e hb=>?_,fun h0 b o e hb=>?_⟩
 ·obtain ⟨b',o',e',hl,_⟩:=h.ts 0 h0;have:=jcD e e';have h1:lo<=b:=hf ⟨b,o,none⟩ (.inl e);have:=hN b hb;omega
 ·obtain ⟨b',o',e',hl,_⟩:=h.vs 0 h0;have:=jcD e e';have h1:lo<=b:=hf ⟨b,o,none⟩ (.inr (.inl e));have:=hN b hb;omega
 ·obtain ⟨b',o',e',hl,_⟩:=h.os 0 h0;have:=jcD e e';have h1:lo<=b:=hf ⟨b,o,none⟩ (.inr (.inr e));have:=hN b hb;omega
theorem jao.away {w w':World} {B:Nat} {N:Nat->Prop} {V:jat} {t:Tab} (h:jao w B V t) (ho:jck N V t) (hk:∀ k,k < B->¬ N k->w'.heap[k]? = w.heap[k]?):jao w' B V t:=by
 refine ⟨fun k hk'=>?_,fun k hk'=>?_,fun k hk'=>?_,h.l1,h.l2,h.l3⟩
 ·obtain ⟨b,off,e,hl,c0,c1,c2,c3,c4,c5⟩:=h.ts k hk';have hb:=hk b hl (ho.1 (by omega) b off e);exact ⟨b,off,e,hl,by rw [World.cell?_of_block hb];exact c0,by rw [World.cell?_of_block hb];exact c1,by rw [World.cell?_of_block hb];exact c2,by rw [World.cell?_of_block hb];exact c3,by rw [World.cell?_of_block hb];exact c4,by rw [World.cell?_of_block hb];exact c5⟩
 ·obtain ⟨b,off,e,hl,c0,c1,c2,c3⟩:=h.vs k hk';have hb:=hk b hl (ho.2.1 (by omega) b off e);exact ⟨b,off,e,hl,by rw [World.cell?_of_block hb];exact c0,by rw [World.cell?_of_block hb];exact c1,by rw [World.cell?_of_block hb];exact c2,by rw [World.cell?_of_block hb];exact c3⟩
 ·obtain ⟨b,off,e,hl,c⟩:=h.os k hk';have hb:=hk b hl (ho.2.2 (by omega) b off e);exact ⟨b,off,e,hl,by rw [World.cell?_of_block hb];exact c⟩
structure jdK (Rep:World->Nat->(Nat->Prop)->Dk->Prop) (W:World) (p q:Nat) (F:Nat->Prop) (s:Dk) (d:Option Addr) (V:jat) (v:Vt):Prop where
 rep:Rep W p F s
 nq:¬ F q
 cells:W.heap[q]? = some (.cells (vtC d V v.t v.a v.g v.u) 68 (0,0))
 tab:jao W W.heap.size V v.t
 off:jck (fun b=>F b∨b=q) V v.t
theorem jdJ {X:World} {g:Nat} {T:TypeId} {v0 v1 v2 v3 v4 v5 v6:Value} (h:X.heap[g]? = some (.cells #[v0,v1,v2,v3,v4,v5,v6] T (0,0))) :
  X.cell? ⟨g,0,none⟩=some v0/\X.cell? ⟨g,1,none⟩=some v1/\X.cell? ⟨g,2,none⟩=some v2/\X.cell? ⟨g,3,none⟩=some v3/\X.cell? ⟨g,4,none⟩=some v4/\X.cell? ⟨g,5,none⟩=some v5/\X.cell? ⟨g,6,none⟩=some v6:=by
 refine ⟨?_,?_,?_,?_,?_,?_,?_⟩ <;> (rw [cell_of_row _ _ _ _ _ _ h];rfl)
theorem jdK.later {Rep:World->Nat->(Nat->Prop)->Dk->Prop} (L:jbX Rep) {W X:World} {p q:Nat} {F:Nat->Prop} {s:Dk} {d:Option Addr} {V:jat} {v:Vt} (h:jdK Rep W p q F s d V v) (hb:Below W.heap.size W X):jdK Rep X p q F s d V v :=
 ⟨L.keep h.rep hb,h.nq,(hb.block _ (Array.getElem?_eq_some_iff.1 h.cells).1).trans h.cells,(h.tab.below hb).more hb.size,h.off⟩
abbrev jio (Rep:World->Nat->(Nat->Prop)->Dk->Prop) (p:Nat) (F:Nat->Prop) (s:Dk) (n:Nat) (v:Vt) (K:Int) (t:Tab) (w:World) (e:Ending) (w':World):Prop :=
 ∃ F' s' E x y z,e=.returned (.tuple #[.agg #[.int .i64 x,.int .i64 y,.int .i64 z],.int .i64 E])/\Rep w' p F' s'/\jcx F F' w.heap.size/\jaM F w w'/\(s.lim=none->s'.lim=none) /\
  ((E=0/\∃ v':Vt,v'.t=t/\x=(v'.a:Int)/\y=v'.g/\z=(v'.u:Int)/\jbH s' n v' (K + 1)/\v.g<=v'.g)∨(E=8/\jn7 s' n v.t t (K + 1)/\s.lim≠none))
section
variable {Rep:World->Nat->(Nat->Prop)->Dk->Prop} {p:Nat} {F:Nat->Prop} {s:Dk} {n:Nat} {v:Vt} {K:Int} {t:Tab} {w:World}
theorem jpS {l:List Rc} (hA:jbH s n v K) (hK:K<=2147483600) (hr:jaV v.t l=(0,t)) (hne:l≠[]) (hroom:v.u + l.length<=192) {e:Ending} {w':World} (h:jlD Rep p F s v.a v.g v.u l w e w'):jio Rep p F s n v K t w e w':=by
 obtain ⟨F',s',E,x,y,z,h1,h2,h3,h4,h5,h6⟩:=h;refine ⟨F',s',E,x,y,z,h1,h3,h5,h6,h4.lim,?_⟩;rcases h4.out with ⟨q,_⟩ | ⟨q,q2,_⟩
 ·left;subst q;obtain ⟨r1,r2,r3⟩:=h2 rfl;exact ⟨rfl,⟨t,v.a,v.g,v.u + l.length⟩,rfl,r1,r2,r3,(jn9 hA (by omega) hr hne hroom h4).more (by omega),Int.le_refl _⟩
 ·right;subst q;exact ⟨rfl,(joM hA (by omega) hr hne hroom h4).more (by omega),q2⟩
theorem jpj (hA:jbH s n v K) {e:Ending} {w':World} (h:jpt Rep p F s n v K t w e w'):jio Rep p F s n v K t w e w':=by
 obtain ⟨F',s',E,g',x,y,z,h1,h2,h3,hm,h4,h5,h6⟩:=h;refine ⟨F',s',E,x,y,z,h1,h3,h5,h6,h4.lim,?_⟩;rcases h4.out with ⟨q,_⟩ | ⟨q,q2,_⟩
 ·left;subst q;obtain ⟨r1,r2,r3⟩:=h2 rfl;exact ⟨rfl,⟨t,1 - v.a,g',(jeq t).length⟩,rfl,r1,r2,r3,jk5 hA hm h4,by have:=hm.g1;show v.g<=g';omega⟩
 ·right;subst q;exact ⟨rfl,jok hA hm h4,q2⟩
theorem joF (L:jbX Rep) {wr X:World} {q:Nat} {x y z E:Int} (lt:∀ b,F b->b < w.heap.size) (hX:Below w.heap.size w X) (hXs:q < X.heap.size) (hq:w.heap.size<=q) (hres:X.heap[q]? = some (.cells #[.int .i64 0,.int .i64 0,.int .i64 0] 66 (0,0)))
  (h:jio Rep p F s n v K t X (.returned (.tuple #[.agg #[.int .i64 x,.int .i64 y,.int .i64 z],.int .i64 E])) wr) :
  wr.heap[q]? = some (.cells #[.int .i64 0,.int .i64 0,.int .i64 0] 66 (0,0)) /\
  (((wr.setCell ⟨q,0,none⟩ (.int .i64 x)).setCell ⟨q,1,none⟩ (.int .i64 y)).setCell ⟨q,2,none⟩ (.int .i64 z)).heap[q]? = some (.cells #[.int .i64 x,.int .i64 y,.int .i64 z] 66 (0,0)) /\
  jio Rep p F s n v K t w (.returned (.tuple #[.agg #[.int .i64 x,.int .i64 y,.int .i64 z],.int .i64 E])) (((wr.setCell ⟨q,0,none⟩ (.int .i64 x)).setCell ⟨q,1,none⟩ (.int .i64 y)).setCell ⟨q,2,none⟩ (.int .i64 z)):=by
 obtain ⟨F',s',E',x',y',z',h1,h2,h3,h4,h5,h6⟩:=h;have nf:¬ F q:=fun hF=>by have:=lt _ hF;omega
 have hr0:=(h4.block q hXs nf).trans hres;obtain ⟨e1,e2,e3,e4⟩:=jmW (x:=x) (y:=y) (z:=z) L lt (jbN (jaM.of_below (F:=F) hX) h4 (fun b hb=>.inl hb) (Nat.le_refl _)) hq hr0 h2 (fun b q=>(h3 b q).imp id fun q=>by omega);exact ⟨hr0,e1,F',s',E',x',y',z',h1,e2,e3,e4,h5,h6⟩
end
section
variable {Rep:World->Nat->(Nat->Prop)->Dk->Prop} (L:jbX Rep)
include L
theorem jmz (p q:Nat) (F:Nat->Prop) (s:Dk) (n:Nat) (v:Vt) (K:Int) (V V2:jat) (t:Tab) (A:Option Addr) (c:Nat) (l:List Rc) (w:World) (h:jdK Rep w p q F s (some ⟨p,0,none⟩) V v) (hA:jbH s n v K) (hK:K<=2147483600) (hT:jao w w.heap.size V2 t) (hr:jaV v.t l=(0,t)) (hne:l≠[]) (hm:l.length<=140737488355328) (hrec:jax w w.heap.size A l) (hoff:Off F A l.length) :
  Calls Tryz.prog 26 #[.pointer (some ⟨q,0,none⟩),.agg (jan V2 t),.slice A l.length c] w (jio Rep p F s n v K t w):=by
 have hsn:=hA.sound;have hts:=jea hsn.1 (by rw [hr]);rw [hr] at hts;have hs:t.sound:=hts.1;have hn:t.os.length=n:=hts.2.trans hsn.2;have hb0:Below w.heap.size w (w.alloc (.cells (jan V2 t) 35)):=(Below.refl _ _).alloc (Nat.le_refl _) _;have hb2:=hb0.alloc hb0.size (.cells #[.int .i64 0,.int .i64 0,.int .i64 0] 66);obtain ⟨W0,hW0⟩:∃ W,W=(w.alloc (.cells (jan V2 t) 35)).alloc (.cells #[.int .i64 0,.int .i64 0,.int .i64 0] 66):=⟨_,rfl⟩
 have hg0:W0.heap[w.heap.size]? = some (.cells (jan V2 t) 35 (0,0)):=by
  rw [hW0,Below.heap_alloc _ _ _ (by simp)];exact heap_alloc_new _ _
 have hg1:W0.heap[w.heap.size + 1]? = some (.cells #[.int .i64 0,.int .i64 0,.int .i64 0] 66 (0,0)):=by
  rw [hW0];have:=heap_alloc_new (w.alloc (.cells (jan V2 t) 35)) (.cells #[.int .i64 0,.int .i64 0,.int .i64 0] 66)
  rwa [show (w.alloc (.cells (jan V2 t) 35)).heap.size=w.heap.size + 1 by simp] at this
 rw [<- hW0] at hb2;have hlt:∀ b,F b->b < w.heap.size:=fun b hb=>L.lt h.rep hb
 have hu:v.u<=192:=by
  rcases hA.log with e | ⟨e,_⟩
  ·omega
  ·exact e.le
 have HRM:=Lib.hid (fun W=>jnf v.a v.g v.u W (by omega) (by omega));obtain ⟨a,ha⟩:∃ a:Int,a=(v.a:Int):=⟨_,rfl⟩;obtain ⟨G,hG⟩:∃ G:Int,G=v.g:=⟨_,rfl⟩;obtain ⟨u,huu⟩:∃ u:Int,u=(v.u:Int):=⟨_,rfl⟩;have hvc:=h.cells;unfold vtC at hvc;rw [<- ha,<- hG,<- huu] at hvc;obtain ⟨CV,hCV⟩:∃ C:Array Value,C=#[.pointer (some ⟨p,0,none⟩),.slice V.A1 v.t.ts.length V.c1,.slice V.A2 v.t.vs.length V.c2,.slice V.A3 v.t.os.length V.c3,.int .i64 a,.int .i64 G,.int .i64 u]:=⟨_,rfl⟩;rw [<- hCV] at hvc
 have HVC:Hid (∀ X:World,X.heap[q]? = some (.cells CV 68 (0,0))->X.heap[w.heap.size]? = some (.cells (jan V2 t) 35 (0,0))->(X.cell? ⟨q,0,none⟩=some (.pointer (some ⟨p,0,none⟩))/\X.cell? ⟨q,4,none⟩=some (.int .i64 a)/\X.cell? ⟨q,5,none⟩=some (.int .i64 G)/\X.cell? ⟨q,6,none⟩=some (.int .i64 u))/\X.cell? ⟨w.heap.size,0,none⟩=some (.slice V2.A1 t.ts.length V2.c1)/\X.cell? ⟨w.heap.size,1,none⟩=some (.slice V2.A2 t.vs.length V2.c2)/\X.cell? ⟨w.heap.size,2,none⟩=some (.slice V2.A3 t.os.length V2.c3)):=fun X hX hY=>by
  rw [hCV] at hX;obtain ⟨c0,_,_,_,c4,c5,c6⟩:=jdJ hX;exact ⟨⟨c0,c4,c5,c6⟩,jai hY⟩
 have hq:=(Array.getElem?_eq_some_iff.1 hvc).1;have hsz:W0.heap.size=w.heap.size + 2:=by rw [hW0];simp
 have HROW:Hid (∀ X,Below W0.heap.size W0 X->X.heap[q]? = some (.cells CV 68 (0,0))/\X.heap[w.heap.size]? = some (.cells (jan V2 t) 35 (0,0))/\X.heap[w.heap.size + 1]? = some (.cells #[.int .i64 0,.int .i64 0,.int .i64 0] 66 (0,0))):=fun X hb =>
  ⟨((jaa hb2 hb).block _ hq).trans hvc,(hb.block _ (by omega)).trans hg0,(hb.block _ (by omega)).trans hg1⟩
 have HX0:Hid (∀ X,Below W0.heap.size W0 X->(X.cell? ⟨q,0,none⟩=some (.pointer (some ⟨p,0,none⟩))/\X.cell? ⟨q,4,none⟩=some (.int .i64 a)/\X.cell? ⟨q,5,none⟩=some (.int .i64 G)/\X.cell? ⟨q,6,none⟩=some (.int .i64 u))/\X.cell? ⟨w.heap.size,0,none⟩=some (.slice V2.A1 t.ts.length V2.c1)/\X.cell? ⟨w.heap.size,1,none⟩=some (.slice V2.A2 t.vs.length V2.c2)/\X.cell? ⟨w.heap.size,2,none⟩=some (.slice V2.A3 t.os.length V2.c3)):=fun X hb=>HVC.out X (HROW.out X hb).1 (HROW.out X hb).2.1
 have HX4:Hid (∀ X w4:World,Below W0.heap.size W0 X->jaM F X w4->((w4.cell? ⟨q,0,none⟩=some (.pointer (some ⟨p,0,none⟩))/\w4.cell? ⟨q,4,none⟩=some (.int .i64 a)/\w4.cell? ⟨q,5,none⟩=some (.int .i64 G)/\w4.cell? ⟨q,6,none⟩=some (.int .i64 u))/\w4.cell? ⟨w.heap.size,0,none⟩=some (.slice V2.A1 t.ts.length V2.c1)/\w4.cell? ⟨w.heap.size,1,none⟩=some (.slice V2.A2 t.vs.length V2.c2)/\w4.cell? ⟨w.heap.size,2,none⟩=some (.slice V2.A3 t.os.length V2.c3))/\(w4.heap[q]? = some (.cells CV 68 (0,0))/\w4.heap[w.heap.size]? = some (.cells (jan V2 t) 35 (0,0)))/\w4.heap[w.heap.size + 1]? = some (.cells #[.int .i64 0,.int .i64 0,.int .i64 0] 66 (0,0))):=fun X w4 hb ha4=>by
  have hXs:w.heap.size + 2<=X.heap.size:=by rw [<- hsz];exact hb.size
  obtain ⟨r0,r1,r2⟩:=HROW.out X hb;have e0:=(ha4.block q (by omega) h.nq).trans r0;have e1:=(ha4.block w.heap.size (by omega) (fun hF=>by have:=hlt _ hF;omega)).trans r1;have e2:=(ha4.block (w.heap.size + 1) (by omega) (fun hF=>by have:=hlt _ hF;omega)).trans r2;exact ⟨HVC.out w4 e0 e1,⟨e0,e1⟩,e2⟩
 have HX5:Hid (∀ (W:World) (x y z:Value),(W.heap[q]? = some (.cells CV 68 (0,0))/\W.heap[w.heap.size]? = some (.cells (jan V2 t) 35 (0,0)))/\W.heap[w.heap.size + 1]? = some (.cells #[.int .i64 0,.int .i64 0,.int .i64 0] 66 (0,0))->((((W.setCell ⟨w.heap.size + 1,0,none⟩ x).setCell ⟨w.heap.size + 1,1,none⟩ y).setCell ⟨w.heap.size + 1,2,none⟩ z).cell? ⟨q,0,none⟩=some (.pointer (some ⟨p,0,none⟩))/\(((W.setCell ⟨w.heap.size + 1,0,none⟩ x).setCell ⟨w.heap.size + 1,1,none⟩ y).setCell ⟨w.heap.size + 1,2,none⟩ z).cell? ⟨q,4,none⟩=some (.int .i64 a)/\(((W.setCell ⟨w.heap.size + 1,0,none⟩ x).setCell ⟨w.heap.size + 1,1,none⟩ y).setCell ⟨w.heap.size + 1,2,none⟩ z).cell? ⟨q,5,none⟩=some (.int .i64 G)/\(((W.setCell ⟨w.heap.size + 1,0,none⟩ x).setCell ⟨w.heap.size + 1,1,none⟩ y).setCell ⟨w.heap.size + 1,2,none⟩ z).cell? ⟨q,6,none⟩=some (.int .i64 u))/\(((W.setCell ⟨w.heap.size + 1,0,none⟩ x).setCell ⟨w.heap.size + 1,1,none⟩ y).setCell ⟨w.heap.size + 1,2,none⟩ z).cell? ⟨w.heap.size,0,none⟩=some (.slice V2.A1 t.ts.length V2.c1)/\(((W.setCell ⟨w.heap.size + 1,0,none⟩ x).setCell ⟨w.heap.size + 1,1,none⟩ y).setCell ⟨w.heap.size + 1,2,none⟩ z).cell? ⟨w.heap.size,1,none⟩=some (.slice V2.A2 t.vs.length V2.c2)/\(((W.setCell ⟨w.heap.size + 1,0,none⟩ x).setCell ⟨w.heap.size + 1,1,none⟩ y).setCell ⟨w.heap.size + 1,2,none⟩ z).cell? ⟨w.heap.size,2,none⟩=some (.slice V2.A3 t.os.length V2.c3)):=fun W x y z hW=>by
  refine HVC.out _ ((jaq (w.heap.size + 1) q (by omega) [x,y,z] 0 W).trans hW.1.1) ((jaq (w.heap.size + 1) w.heap.size (by omega) [x,y,z] 0 W).trans hW.1.2)
 have HX6:Hid (∀ W:World,W.heap[w.heap.size + 1]? = some (.cells #[.int .i64 0,.int .i64 0,.int .i64 0] 66 (0,0))->(W.cell? ⟨w.heap.size + 1,0,none⟩=some (.int .i64 0)/\W.cell? ⟨w.heap.size + 1,1,none⟩=some (.int .i64 0)/\W.cell? ⟨w.heap.size + 1,2,none⟩=some (.int .i64 0))/\W.frozen? ⟨w.heap.size + 1,0,none⟩=false/\W.frozen? ⟨w.heap.size + 1,1,none⟩=false/\W.frozen? ⟨w.heap.size + 1,2,none⟩=false):=fun W r=>⟨jai r,frozen_of_row _ _ _ _ _ r,frozen_of_row _ _ _ _ _ r,frozen_of_row _ _ _ _ _ r⟩
 have HX7:Hid (∀ X,Below W0.heap.size W0 X->w.heap.size + 1 < X.heap.size):=fun X hb=>by have:=hb.size;omega
 have HX8:Hid (∀ X,Below W0.heap.size W0 X->X.heap[w.heap.size + 1]? = some (.cells #[.int .i64 0,.int .i64 0,.int .i64 0] 66 (0,0))):=fun X hb=>(HROW.out X hb).2.2
 have HMV:Hid (∀ X,Below W0.heap.size W0 X->Calls Tryz.prog 41 #[.agg #[.int .i64 a,.int .i64 G,.int .i64 u],.pointer (some ⟨p,0,none⟩),.agg #[.slice V2.A1 t.ts.length V2.c1,.slice V2.A2 t.vs.length V2.c2,.slice V2.A3 t.os.length V2.c3]] X (jio Rep p F s n v K t X)):=fun X hb=>by
  rw [ha,hG,huu];exact (jnr L p F s n v K V2 t X (L.keep h.rep (jaa hb2 hb)) hA hK ((hT.below (jaa hb2 hb)).more (jaa hb2 hb).size) hs hn).mono fun e w' q=>jpj hA q
 have HAD:Hid (v.u + l.length<=192->∀ X,Below W0.heap.size W0 X->Calls Tryz.prog 42 #[.agg #[.int .i64 a,.int .i64 G,.int .i64 u],.pointer (some ⟨p,0,none⟩),.slice A l.length c] X (jio Rep p F s n v K t X)):=fun hroom X hb=>by
  rw [ha,hG,huu];exact (jj4 L p F s v.a v.g v.u A c l X (L.keep h.rep (jaa hb2 hb)) hA.on hA.pen hA.len hA.hold.a2 (hA.fits (by omega) hr hroom) ((hrec.below (jaa hb2 hb)).more (jaa hb2 hb).size) hoff).mono fun e w' q=>jpS hA hK hr hne hroom q
 have HRM:Hid (∀ W,Calls Tryz.prog 40 #[.agg #[.int .i64 a,.int .i64 G,.int .i64 u]] W fun e w'=>e=.returned (.int .i64 (192 - u))/\Below W.heap.size W w'):=fun W=>by rw [ha,hG,huu];exact HRM.out W
 have HLT:=Lib.hid hlt;have HBW:=Lib.hid hb2;have HLL:=Lib.hid L;have u0:0<=u:=by omega
 have u1:u<=192:=by omega
 have hiff:v.u + l.length<=192↔¬ (192 - u < (l.length:Int)):=by omega
 have hm2:(l.length:Int)<=140737488355328:=by omega
 obtain ⟨NL,hNL⟩:∃ x,x=l.length:=⟨_,rfl⟩;rw [<- hNL] at HAD hiff hm2 ⊢;obtain ⟨⟨m0,m4,m5,m6⟩,m1,m2,m3⟩:=HX0.out W0 (Below.refl _ _);unfold jan at hW0 ⊢;rw [hW0] at m0 m1 m2 m3 m4 m5 m6;have HW0:=Lib.hid hW0;clear hW0 h hT hrec hoff hm hb0 hb2 hg0 hg1 hlt hvc hCV hq hsz hs hn hts hsn hr hne ha hG huu HROW HVC hu hA hK L hNL;by_cases hroom:v.u + NL<=192
 ·have hc:¬ (192 - u < (NL:Int)):=hiff.1 hroom;have HADD:=Lib.hid (HAD.out hroom);clear hiff HAD HMV hroom;go_enter Tryz.func26,Tryz.ntmps26
  go_wp2_with (first
   | (go_at_call 40;with_reducible (refine Calls.mono (HRM.out _) ?_);rintro e w1 ⟨rfl,hb1⟩;rw [<- HW0.out] at hb1;have HB1:=Lib.hid hb1;clear hb1))
  clear m0 m1 m2 m3 m4 m5 m6;have hbx:Below W0.heap.size W0 w1.drew:=jaa HB1.out ((Below.refl _ _).drew)
  go_region_held3 (fun X=>(X.cell? ⟨q,0,none⟩=some (.pointer (some ⟨p,0,none⟩))/\X.cell? ⟨q,4,none⟩=some (.int .i64 a)/\X.cell? ⟨q,5,none⟩=some (.int .i64 G)/\X.cell? ⟨q,6,none⟩=some (.int .i64 u))/\X.cell? ⟨w.heap.size,0,none⟩=some (.slice V2.A1 t.ts.length V2.c1)/\X.cell? ⟨w.heap.size,1,none⟩=some (.slice V2.A2 t.vs.length V2.c2)/\X.cell? ⟨w.heap.size,2,none⟩=some (.slice V2.A3 t.os.length V2.c3))
   (first | exact HX0.out _ hbx | exact h4.1 | exact HX5.out _ _ _ _ h4.2)
   (first
    | (go_at_call 42;with_reducible (refine Calls.mono (HADD.out _ hbx) ?_);rintro e w4 ⟨F4,s4,E4,x4,y4,z4,rfl,hw4b,hw4c,hw4d,hw4e⟩;have h4:=HX4.out _ _ hbx hw4d;obtain ⟨⟨g0,g1,g2⟩,g3,g4,g5⟩:=HX6.out _ h4.2.2)
    | fail)
  all_goals
   go_wp2;have hr:=joF (E:=E4) (x:=x4) (y:=y4) (z:=z4) HLL.out HLT.out (jaa HBW.out hbx) (HX7.out _ hbx) (Nat.le_succ _) (HX8.out _ hbx) ⟨F4,s4,E4,x4,y4,z4,rfl,hw4b,hw4c,hw4d,hw4e⟩;refine bodyPost_ret (jab rfl _ _ (w.heap.size + 1) 66 _ (0,0) _ rfl hr.2.1 Tryz.underlying66 rfl (by kernel_rfl)) rfl ?_;exact hr.2.2
 ·have hc:192 - u < (NL:Int):=Decidable.not_not.1 fun q=>hroom (hiff.2 q)
  clear hiff HAD hroom;go_enter Tryz.func26,Tryz.ntmps26
  go_wp2_with (first
   | (go_at_call 40;with_reducible (refine Calls.mono (HRM.out _) ?_);rintro e w1 ⟨rfl,hb1⟩;rw [<- HW0.out] at hb1;have HB1:=Lib.hid hb1;clear hb1))
  clear m0 m1 m2 m3 m4 m5 m6;have hbx:Below W0.heap.size W0 w1.drew:=jaa HB1.out ((Below.refl _ _).drew)
  go_region_held3 (fun X=>(X.cell? ⟨q,0,none⟩=some (.pointer (some ⟨p,0,none⟩))/\X.cell? ⟨q,4,none⟩=some (.int .i64 a)/\X.cell? ⟨q,5,none⟩=some (.int .i64 G)/\X.cell? ⟨q,6,none⟩=some (.int .i64 u))/\X.cell? ⟨w.heap.size,0,none⟩=some (.slice V2.A1 t.ts.length V2.c1)/\X.cell? ⟨w.heap.size,1,none⟩=some (.slice V2.A2 t.vs.length V2.c2)/\X.cell? ⟨w.heap.size,2,none⟩=some (.slice V2.A3 t.os.length V2.c3))
   (first | exact HX0.out _ hbx | exact h4.1 | exact HX5.out _ _ _ _ h4.2)
   (first
    | (go_at_call 41;with_reducible (refine Calls.mono (HMV.out _ hbx) ?_);rintro e w4 ⟨F4,s4,E4,x4,y4,z4,rfl,hw4b,hw4c,hw4d,hw4e⟩;have h4:=HX4.out _ _ hbx hw4d;obtain ⟨⟨g0,g1,g2⟩,g3,g4,g5⟩:=HX6.out _ h4.2.2)
    | fail)
  all_goals
   go_wp2;have hr:=joF (E:=E4) (x:=x4) (y:=y4) (z:=z4) HLL.out HLT.out (jaa HBW.out hbx) (HX7.out _ hbx) (Nat.le_succ _) (HX8.out _ hbx) ⟨F4,s4,E4,x4,y4,z4,rfl,hw4b,hw4c,hw4d,hw4e⟩;refine bodyPost_ret (jab rfl _ _ (w.heap.size + 1) 66 _ (0,0) _ rfl hr.2.1 Tryz.underlying66 rfl (by kernel_rfl)) rfl ?_;exact hr.2.2
end
end Go.Proofs.YtbnhkplhmanmoaaGreat
