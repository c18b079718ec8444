/- . -/
import Derived.Test.YtbnhkplhmanmoaaGreatVaultC7G
namespace Go.Proofs.YtbnhkplhmanmoaaGreat
open Go.RowKit
set_option maxHeartbeats 6400000
set_option maxRecDepth 20000
theorem jdp.more {w:World} {B B':Nat} {A:Option Addr} {T:List (List Int)} (h:jdp w B A T) (hB:B<=B'):jdp w B' A T:=fun k hk=>by
 obtain ⟨b,off,Ak,ck,e,h1,h2,h3,h4⟩:=h k hk;exact ⟨b,off,Ak,ck,e,Nat.lt_of_lt_of_le h1 hB,h2,h3.more hB,h4⟩
theorem jmv {t:Tab} (hs:t.sound):(jcf t).length<=192:=by
 obtain ⟨n1,n2,n3⟩:=jam hs;have h1:(t.ts.map jeE).length<=7:=by rw [List.length_map];exact n1
 have h2:(t.vs.flatMap jeV).length<=16:=Nat.le_trans (jbM jjp _) (by omega);have h3:((List.range t.os.length).flatMap (jhr t.os)).length<=64:=Nat.le_trans (jbM (jk7 t.os) _) (by rw [List.length_range];omega);have h4:(t.ts.flatMap jjU).length<=7:=Nat.le_trans (jbM jlc _) (by omega);unfold jcf;rw [List.length_append,List.length_append,List.length_append];omega
theorem jnw {t:Tab} (hs:t.sound):(jeq t).length<=192:=by
 unfold jeq;split
 ·decide
 ·exact jmv hs
def jpt (Rep:World->Nat->(Nat->Prop)->Dk->Prop) (p:Nat) (F:Nat->Prop) (s:Dk) (n:Nat) (v:Vt) (K:Int) (t:Tab) (w:World) (e:Ending) (w':World):Prop :=
 ∃ F' s' E g' x y z,e=.returned (.tuple #[.agg #[.int .i64 x,.int .i64 y,.int .i64 z],.int .i64 E])/\(E=0->x=((1 - v.a:Nat):Int)/\y=g'/\z=(((jeq t).length:Nat):Int))/\Rep w' p F' s'/\jha s n v K (K + 1) g' (jeq t) t/\WrR s (jdZ (1 - v.a) g' 0 (jeq t)) s' E/\jcx F F' w.heap.size/\jaM F w w'
theorem jmW {Rep:World->Nat->(Nat->Prop)->Dk->Prop} (L:jbX Rep) {w wr:World} {q p:Nat} {F F':Nat->Prop} {s':Dk} {x y z:Int} (lt:∀ b,F b->b < w.heap.size) (away:jaM F w wr) (hq:w.heap.size<=q)
  (res:wr.heap[q]? = some (.cells #[.int .i64 0,.int .i64 0,.int .i64 0] 66 (0,0))) (hr:Rep wr p F' s') (hm:jcx F F' (q + 1)) :
  (((wr.setCell ⟨q,0,none⟩ (.int .i64 x)).setCell ⟨q,1,none⟩ (.int .i64 y)).setCell ⟨q,2,none⟩ (.int .i64 z)).heap[q]? = some (.cells #[.int .i64 x,.int .i64 y,.int .i64 z] 66 (0,0)) /\
  Rep (((wr.setCell ⟨q,0,none⟩ (.int .i64 x)).setCell ⟨q,1,none⟩ (.int .i64 y)).setCell ⟨q,2,none⟩ (.int .i64 z)) p F' s'/\jcx F F' w.heap.size/\jaM F w (((wr.setCell ⟨q,0,none⟩ (.int .i64 x)).setCell ⟨q,1,none⟩ (.int .i64 y)).setCell ⟨q,2,none⟩ (.int .i64 z)):=by
 have hs:=jd4 (.int .i64 x) (.int .i64 y) (.int .i64 z) res;have ho:∀ k,k≠q->(((wr.setCell ⟨q,0,none⟩ (.int .i64 x)).setCell ⟨q,1,none⟩ (.int .i64 y)).setCell ⟨q,2,none⟩ (.int .i64 z)).heap[k]? = wr.heap[k]?:=fun k hk=>jaq q k hk [.int .i64 x,.int .i64 y,.int .i64 z] 0 wr
 refine ⟨hs.1,(L.d wr).keep wr _ p F' s' hr fun b hb=>ho b fun e=>?_,fun b h=>?_,⟨away.os,away.tape,away.output,Nat.le_trans away.size hs.2.size,fun k hk hF=>(ho k (by omega)).trans (away.block k hk hF)⟩⟩
 ·subst e;rcases hm _ hb with h | h
  ·have:=lt _ h;omega
  ·omega
 ·rcases hm b h with h | h
  ·exact .inl h
  ·exact .inr (by omega)
section
variable {Rep:World->Nat->(Nat->Prop)->Dk->Prop} (L:jbX Rep)
include L
theorem jnr (p:Nat) (F:Nat->Prop) (s:Dk) (n:Nat) (v:Vt) (K:Int) (V:jat) (t:Tab) (w:World) (h:Rep w p F s) (hA:jbH s n v K) (hK:K<=2147483600) (hT:jao w w.heap.size V t) (hs:t.sound) (hn:t.os.length=n) :
  Calls Tryz.prog 41 #[.agg (lgV v.a v.g v.u),.pointer (some ⟨p,0,none⟩),.agg (jan V t)] w (jpt Rep p F s n v K t w):=by
 have hb0:Below w.heap.size w (w.alloc (.cells (lgV v.a v.g v.u) 66)):=(Below.refl _ _).alloc (Nat.le_refl _) _;have hb1:=hb0.alloc hb0.size (.cells (jan V t) 35);have hb2:=hb1.alloc hb1.size (.cells #[.int .i64 0,.int .i64 0,.int .i64 0] 66);obtain ⟨W0,hW0⟩:∃ W,W=((w.alloc (.cells (lgV v.a v.g v.u) 66)).alloc (.cells (jan V t) 35)).alloc (.cells #[.int .i64 0,.int .i64 0,.int .i64 0] 66):=⟨_,rfl⟩
 have hg0:W0.heap[w.heap.size]? = some (.cells (lgV v.a v.g v.u) 66 (0,0)):=by
  rw [hW0,Below.heap_alloc _ _ _ (by simp;omega),Below.heap_alloc _ _ _ (by simp)];exact heap_alloc_new _ _
 have hg1:W0.heap[w.heap.size + 1]? = some (.cells (jan V t) 35 (0,0)):=by
  rw [hW0,Below.heap_alloc _ _ _ (by simp)];have:=heap_alloc_new (w.alloc (.cells (lgV v.a v.g v.u) 66)) (.cells (jan V t) 35)
  rwa [show (w.alloc (.cells (lgV v.a v.g v.u) 66)).heap.size=w.heap.size + 1 by simp] at this
 have hg2:W0.heap[w.heap.size + 2]? = some (.cells #[.int .i64 0,.int .i64 0,.int .i64 0] 66 (0,0)):=by
  have:=heap_alloc_new ((w.alloc (.cells (lgV v.a v.g v.u) 66)).alloc (.cells (jan V t) 35)) (.cells #[.int .i64 0,.int .i64 0,.int .i64 0] 66)
  rwa [<- hW0,show ((w.alloc (.cells (lgV v.a v.g v.u) 66)).alloc (.cells (jan V t) 35)).heap.size=w.heap.size + 2 by simp] at this
 rw [<- hW0] at hb2;have ha2:=hA.hold.a2;have hlt:∀ b,F b->b < w.heap.size:=fun b hb=>L.lt h hb
 obtain ⟨b,hb⟩:∃ b,b=1 - v.a:=⟨_,rfl⟩;have hbi:(b:Int)=1 - (v.a:Int):=by omega
 have H1:=Lib.hid (fun (W:World) (hbW:Below W0.heap.size W0 W)=>jf1 L p F s b W (L.keep h (jaa hb2 hbW)) hA.on hA.pen hA.len (by omega));have hok:=hA.ok;have hlen:=jj0 hok hA.len (a:=b) (by omega);have HIM:=Lib.hid (fun (W:World) (hbW:Below W0.heap.size W0 W)=>(L.t W).image V t W (Below.refl _ _) ((hT.below (jaa hb2 hbW)).more (jaa hb2 hbW).size) (jdg hs) hs);have HUN:Hid (∀ (A:Option Addr) (c:Nat) (W:World),jdp W W.heap.size A (jaj s.last b)->Calls Tryz.prog 78 #[.slice A 192 c,.int .i64 v.g] W fun e w'=>∃ g':Int,e=.returned (.int .i64 g')/\v.g < g'/\g'<=K + 1/\jef (jaj s.last b) g'/\Below W.heap.size W w'):=fun A c W q=>jkv L A c _ v.g K W q hA.hold.g0 hA.hold.gK hK (hA.hold.le b (by omega))
 have HAR:Hid (∀ (A:Option Addr) (ps:List jer) (w1:World),jiB w1 w1.heap.size A ps->ps.length=192->jaS ps=jaj s.last b->jdp w1 w1.heap.size A (jaj s.last b)):=fun A ps w1 q1 q2 q3=>jmH q1 q2 q3 hlen
 have hrun:=jm3 hs hn;have HMV:Hid (∀ g',v.g < g'->g'<=K + 1->jef (jaj s.last b) g'->jha s n v K (K + 1) g' (jeq t) t):=fun g' q1 q2 q3=>⟨q1,q2,by omega,by omega,by rw [hb] at q3;exact q3,jpa t,jnw hs,jgK hrun,hrun⟩
 have HAD:Hid (∀ g' A c W,jha s n v K (K + 1) g' (jeq t) t->Below w.heap.size w W->jax W W.heap.size A (jeq t)->(∀ a,A=some a->w.heap.size<=a.block)->Calls Tryz.prog 42 #[.agg #[.int .i64 (b:Int),.int .i64 g',.int .i64 0],.pointer (some ⟨p,0,none⟩),.slice A (jeq t).length c] W (jlD Rep p F s b g' 0 (jeq t) W)):=fun g' A c W q1 q2 q3 q4 =>
  jj4 L p F s b g' 0 A c (jeq t) W (L.keep h q2) hA.on hA.pen hA.len (by omega) (q1.fits hA) q3 fun _ bb o e hF=>by
   have h1:=hlt bb hF;have h2:w.heap.size<=bb:=q4 _ e;omega
 have H1:Hid (∀ (W:World),Below W0.heap.size W0 W->Calls Tryz.prog 76 #[.pointer (some ⟨p,0,none⟩),.int .i64 (1 - (v.a:Int))] W fun e w'=>∃ A c,e=.returned (.tuple #[.slice A 192 c,.int .i64 0])/\192<=c/\∃ ps,ps.length=192/\jiB w' w'.heap.size A ps/\jaS ps=jaj s.last b/\Below W.heap.size W w'):=fun W hbW=>by rw [<- hbi];exact H1.out W hbW
 have HAD:Hid (∀ g' A c W,jha s n v K (K + 1) g' (jeq t) t->Below w.heap.size w W->jax W W.heap.size A (jeq t)->(∀ a,A=some a->w.heap.size<=a.block)->Calls Tryz.prog 42 #[.agg #[.int .i64 (1 - (v.a:Int)),.int .i64 g',.int .i64 0],.pointer (some ⟨p,0,none⟩),.slice A (jeq t).length c] W (jlD Rep p F s b g' 0 (jeq t) W)):=fun g' A c W q1 q2 q3 q4=>by rw [<- hbi];exact HAD.out g' A c W q1 q2 q3 q4
 have HC:Hid (∀ X,Below W0.heap.size W0 X->(X.cell? ⟨w.heap.size,0,none⟩=some (.int .i64 (v.a:Int))/\X.cell? ⟨w.heap.size,1,none⟩=some (.int .i64 v.g)/\X.cell? ⟨w.heap.size,2,none⟩=some (.int .i64 (v.u:Int)))/\(X.cell? ⟨w.heap.size + 1,0,none⟩=some (.slice V.A1 t.ts.length V.c1)/\X.cell? ⟨w.heap.size + 1,1,none⟩=some (.slice V.A2 t.vs.length V.c2)/\X.cell? ⟨w.heap.size + 1,2,none⟩=some (.slice V.A3 t.os.length V.c3))/\True):=fun X hb =>
  ⟨jai ((hb.block _ (Array.getElem?_eq_some_iff.1 hg0).1).trans hg0),jai ((hb.block _ (Array.getElem?_eq_some_iff.1 hg1).1).trans hg1),trivial⟩
 have HLT:=Lib.hid hlt;have HBW:=Lib.hid hb2;have HBR:Hid (Below W0.heap.size W0 W0):=Below.refl _ _;have hs3:W0.heap.size=w.heap.size + 3:=by rw [hW0];simp
 have HQ:Hid (∀ (W w6:World),Below W0.heap.size W0 W->jaM F W w6->(∀ F',jcx F F' W.heap.size->jcx F F' (w.heap.size + 3))/\∀ X,Below w6.heap.size w6 X->(jaM F w X/\X.heap[w.heap.size + 2]? = some (.cells #[.int .i64 0,.int .i64 0,.int .i64 0] 66 (0,0)))/\(X.cell? ⟨w.heap.size,0,none⟩=some (.int .i64 (v.a:Int))/\X.cell? ⟨w.heap.size,1,none⟩=some (.int .i64 v.g)/\X.cell? ⟨w.heap.size,2,none⟩=some (.int .i64 (v.u:Int))) /\
   (X.cell? ⟨w.heap.size + 2,0,none⟩=some (.int .i64 0)/\X.cell? ⟨w.heap.size + 2,1,none⟩=some (.int .i64 0)/\X.cell? ⟨w.heap.size + 2,2,none⟩=some (.int .i64 0))/\X.frozen? ⟨w.heap.size + 2,0,none⟩=false/\X.frozen? ⟨w.heap.size + 2,1,none⟩=false/\X.frozen? ⟨w.heap.size + 2,2,none⟩=false):=fun W w6 hbW hA6=>by
  have hWs:w.heap.size + 3<=W.heap.size:=by rw [<- hs3];exact hbW.size
  refine ⟨fun F' hm q hq=>(hm q hq).imp id fun h=>by omega,fun X hX=>?_⟩;have nf:∀ i,¬ F (w.heap.size + i):=fun i hF=>by have:=hlt _ hF;omega
  have r0:=(hX.block _ (by have:=hA6.size;omega)).trans ((hA6.block _ (by omega) (nf 0)).trans ((hbW.block _ (by omega)).trans hg0));have r2:=(hX.block _ (by have:=hA6.size;omega)).trans ((hA6.block _ (by omega) (nf 2)).trans ((hbW.block _ (by omega)).trans hg2));exact ⟨⟨jbN (jbN (jaM.of_below (F:=F) (jaa hb2 hbW)) hA6 (fun b hb=>.inl hb) (Nat.le_refl _)) (jaM.of_below (F:=F) hX) (fun b hb=>.inl hb) (Nat.le_refl _),r2⟩,jai r0,jai r2,frozen_of_row _ _ _ _ _ r2,frozen_of_row _ _ _ _ _ r2,frozen_of_row _ _ _ _ _ r2⟩
 have HANS:Hid (∀ (g' E x y z:Int) (s6:Dk),jha s n v K (K + 1) g' (jeq t) t->(E=0->x=(b:Int)/\y=g'/\z=((0 + (jeq t).length:Nat):Int))->WrR s (jdZ b g' 0 (jeq t)) s6 E->∀ (F6:Nat->Prop) (X:World),Rep X p F6 s6->jcx F F6 w.heap.size->jaM F w X->jpt Rep p F s n v K t w (.returned (.tuple #[.agg #[.int .i64 x,.int .i64 y,.int .i64 z],.int .i64 E])) X):=fun g' E x y z s6 q1 q2 q3 F6 X q4 q5 q6 =>
  ⟨F6,s6,E,g',x,y,z,rfl,fun e=>by obtain ⟨r1,r2,r3⟩:=q2 e;exact ⟨by rw [<- hb];exact r1,r2,by rw [r3,Nat.zero_add]⟩,q4,q1,by rw [<- hb];exact q3,q5,q6⟩
 obtain ⟨G,hG⟩:∃ G,G=v.g:=⟨_,rfl⟩;have va0:(0:Int)<=(v.a:Int):=by omega
 have va1:(v.a:Int)<=1:=by omega
 have HLL:=Lib.hid L;rw [<- hG] at HUN;simp only [<- hG] at HMV HC HQ;unfold lgV at hW0 ⊢;unfold jan at hW0 HIM ⊢;rw [<- hG] at hW0 ⊢;clear h hT hs hn hb0 hb1 hb2 hg0 hg1 hg2 ha2 hlt hok hlen hrun hs3 hG L hA hK hb hbi;by_cases hz:(jcf t).length=0
 ·have hw:jeq t=[jor]:=if_pos hz;rw [hz] at HIM
  have HRN:Hid (∀ W:World,jax (W.alloc (.cells #[.int .i64 0,.int .i64 0,.int .i64 0,.int .i64 0,.int .i64 0,.string ⟨#[]⟩] 56)) (W.alloc (.cells #[.int .i64 0,.int .i64 0,.int .i64 0,.int .i64 0,.int .i64 0,.string ⟨#[]⟩] 56)).heap.size (some ⟨W.heap.size,0,none⟩) (jeq t)):=fun W=>by
   rw [hw];intro k hk;have hk0:k=0:=by simpa using hk
   subst hk0;have hg:=heap_alloc_new W (.cells #[.int .i64 0,.int .i64 0,.int .i64 0,.int .i64 0,.int .i64 0,.string ⟨#[]⟩] 56);refine ⟨W.heap.size,0,rfl,by simp,?_,?_,?_,?_,?_,?_⟩ <;> (rw [cell_of_row _ _ _ _ _ _ hg];rfl)
  have hbR:=Lib.hid (fun (W:World)=>(Below.refl W.heap.size W).alloc (Nat.le_refl _) (.cells #[.int .i64 0,.int .i64 0,.int .i64 0,.int .i64 0,.int .i64 0,.string ⟨#[]⟩] 56));have hnl:(jeq t).length=1:=by rw [hw];rfl
  rw [hnl] at HAD;clear hw hz hnl;go_enter Tryz.func41,Tryz.ntmps41
  go_wp2_with fail
  rw [<- hW0];clear hW0
  go_wp2_with (first
   | (go_at_call 76;with_reducible (refine Calls.mono (H1.out _ HBR.out) ?_);rintro e w1 ⟨A1,c1,rfl,_,ps,hp1,hp2,hp3,hb1⟩
      have HA1:=Lib.hid (HAR.out _ _ _ hp2 hp1 hp3);have HB1:=Lib.hid hb1;obtain ⟨⟨f0,f1,f2⟩,⟨j0,j1,j2⟩,_⟩:=HC.out _ hb1;clear hp1 hp2 hp3 hb1 H1 HAR)
   | (go_at_call 77;with_reducible (refine Calls.mono (HIM.out _ HB1.out) ?_);rintro e w2 ⟨A2,c2,rfl,_,_,_,hb2⟩
      have HB3:=Lib.hid (jaa (jaa HB1.out hb2) (hbR.out w2));have HR3:=Lib.hid (HRN.out w2);have HL3:Hid (w.heap.size<=w2.heap.size):=(jaa HBW.out (jaa HB1.out hb2)).size;have HA3:=Lib.hid ((HA1.out.below (jaa hb2 (hbR.out w2))).more (jaa hb2 (hbR.out w2)).size);obtain ⟨⟨x0,x1,x2⟩,_⟩:=HC.out _ HB3.out;clear hb2 f0 f1 f2 j0 j1 j2)
   | (go_at_call 78;with_reducible (refine Calls.mono (HUN.out _ _ _ HA3.out) ?_);rintro e w5 ⟨g',rfl,hg1,hg2,hg3,hb5⟩
      have HM:=Lib.hid (HMV.out g' hg1 hg2 hg3);have HB5:=Lib.hid (jaa HB3.out hb5);have HR5:=Lib.hid ((HR3.out.below hb5).more hb5.size);have hgl:¬ g' < G:=by omega
      clear hg1 hg2 hg3 hb5 x0 x1 x2))
  have HAD5:=Lib.hid (HAD.out g' _ 1 w5 HM.out (jaa HBW.out HB5.out) HR5.out (fun a e=>by injection e with e;subst e;exact HL3.out));clear HR3 HA3 HA1 HL3 HMV HUN HAD HR5 HIM HB1
  go_at_call 42
  with_reducible (refine Calls.mono HAD5.out ?_)
  rintro e w6 ⟨F6,s6,E,x,y,z,rfl,hx,hr6,hw6,hm6,ha6⟩;have hE:E=0∨E=8:=by rcases hw6.out with ⟨q,_⟩ | ⟨q,_⟩ <;> simp [q]
  have HQ6:=Lib.hid (HQ.out _ _ HB5.out ha6);have HAN:=Lib.hid (HANS.out g' E x y z s6 HM.out hx hw6);have hba:Below w6.heap.size w6 (w6.alloc (.cells #[.int .i64 x,.int .i64 y,.int .i64 z] 66)):=(Below.refl _ _).alloc (Nat.le_refl _) _;have HR7:=Lib.hid (HLL.out.keep hr6 hba);obtain ⟨HQA,⟨y0,y1,y2⟩,⟨z0,z1,z2⟩,z3,z4,z5⟩:=HQ6.out.2 _ hba;have hn7:=heap_alloc_new w6 (.cells #[.int .i64 x,.int .i64 y,.int .i64 z] 66);obtain ⟨n0,n1,n2⟩:=jai hn7;have HM6:Hid (jcx F F6 (w.heap.size + 3)):=HQ6.out.1 _ hm6;have HMO:=Lib.hid (jmW (x:=x) (y:=y) (z:=z) HLL.out HLT.out HQA.1 (by omega:w.heap.size<=w.heap.size + 2) HQA.2 HR7.out HM6.out);clear hr6 hm6 ha6 hba hn7 HQA HQ6 HAD5 HB5 HB3;rcases hE with rfl | rfl
  ·obtain ⟨-,rfl,-⟩:=hx rfl;clear hx;go_wp2;refine bodyPost_ret (jab rfl _ _ (w.heap.size + 2) 66 _ (0,0) _ rfl HMO.out.1 Tryz.underlying66 rfl (by kernel_rfl)) rfl ?_;exact HAN.out _ _ HMO.out.2.1 HMO.out.2.2.1 HMO.out.2.2.2
  ·clear hx;go_wp2;refine bodyPost_ret (jab rfl _ _ (w.heap.size + 2) 66 _ (0,0) _ rfl HMO.out.1 Tryz.underlying66 rfl (by kernel_rfl)) rfl ?_;exact HAN.out _ _ HMO.out.2.1 HMO.out.2.2.1 HMO.out.2.2.2
 ·have hw:jeq t=jcf t:=if_neg hz;rw [<- hw] at HIM hz;have hnz:(((jeq t).length:Int) == 0)=false:=by rw [beq_eq_false_iff_ne];omega
  clear hw hz;go_enter Tryz.func41,Tryz.ntmps41
  go_wp2_with fail
  rw [<- hW0];clear hW0
  go_wp2_with (first
   | (go_at_call 76;with_reducible (refine Calls.mono (H1.out _ HBR.out) ?_);rintro e w1 ⟨A1,c1,rfl,_,ps,hp1,hp2,hp3,hb1⟩
      have HA1:=Lib.hid (HAR.out _ _ _ hp2 hp1 hp3);have HB1:=Lib.hid hb1;obtain ⟨⟨f0,f1,f2⟩,⟨j0,j1,j2⟩,_⟩:=HC.out _ hb1;clear hp1 hp2 hp3 hb1 H1 HAR)
   | (go_at_call 77;with_reducible (refine Calls.mono (HIM.out _ HB1.out) ?_);rintro e w2 ⟨A2,c2,rfl,_,hr2,hn2,hb2⟩
      have HB3:=Lib.hid (jaa HB1.out hb2);have HR3:=Lib.hid hr2;have HL3:=Lib.hid hn2;have HL4:Hid (w.heap.size<=w1.heap.size):=(jaa HBW.out HB1.out).size;have HA3:=Lib.hid ((HA1.out.below hb2).more hb2.size);obtain ⟨⟨x0,x1,x2⟩,_⟩:=HC.out _ HB3.out;clear hr2 hn2 hb2 f0 f1 f2 j0 j1 j2)
   | (go_at_call 78;with_reducible (refine Calls.mono (HUN.out _ _ _ HA3.out) ?_);rintro e w5 ⟨g',rfl,hg1,hg2,hg3,hb5⟩
      have HM:=Lib.hid (HMV.out g' hg1 hg2 hg3);have HB5:=Lib.hid (jaa HB3.out hb5);have HR5:=Lib.hid ((HR3.out.below hb5).more hb5.size);have hgl:¬ g' < G:=by omega
      clear hg1 hg2 hg3 hb5 x0 x1 x2))
  have HAD5:=Lib.hid (HAD.out g' _ c2 w5 HM.out (jaa HBW.out HB5.out) HR5.out (fun a e=>Nat.le_trans HL4.out (HL3.out a e)));clear HR3 HA3 HA1 HL3 HMV HUN HAD HR5 HIM HB1
  go_at_call 42
  with_reducible (refine Calls.mono HAD5.out ?_)
  rintro e w6 ⟨F6,s6,E,x,y,z,rfl,hx,hr6,hw6,hm6,ha6⟩;have hE:E=0∨E=8:=by rcases hw6.out with ⟨q,_⟩ | ⟨q,_⟩ <;> simp [q]
  have HQ6:=Lib.hid (HQ.out _ _ HB5.out ha6);have HAN:=Lib.hid (HANS.out g' E x y z s6 HM.out hx hw6);have hba:Below w6.heap.size w6 (w6.alloc (.cells #[.int .i64 x,.int .i64 y,.int .i64 z] 66)):=(Below.refl _ _).alloc (Nat.le_refl _) _;have HR7:=Lib.hid (HLL.out.keep hr6 hba);obtain ⟨HQA,⟨y0,y1,y2⟩,⟨z0,z1,z2⟩,z3,z4,z5⟩:=HQ6.out.2 _ hba;have hn7:=heap_alloc_new w6 (.cells #[.int .i64 x,.int .i64 y,.int .i64 z] 66);obtain ⟨n0,n1,n2⟩:=jai hn7;have HM6:Hid (jcx F F6 (w.heap.size + 3)):=HQ6.out.1 _ hm6;have HMO:=Lib.hid (jmW (x:=x) (y:=y) (z:=z) HLL.out HLT.out HQA.1 (by omega:w.heap.size<=w.heap.size + 2) HQA.2 HR7.out HM6.out);clear hr6 hm6 ha6 hba hn7 HQA HQ6 HAD5 HB5 HB3;rcases hE with rfl | rfl
  ·obtain ⟨-,rfl,-⟩:=hx rfl;clear hx;go_wp2;refine bodyPost_ret (jab rfl _ _ (w.heap.size + 2) 66 _ (0,0) _ rfl HMO.out.1 Tryz.underlying66 rfl (by kernel_rfl)) rfl ?_;exact HAN.out _ _ HMO.out.2.1 HMO.out.2.2.1 HMO.out.2.2.2
  ·clear hx;go_wp2;refine bodyPost_ret (jab rfl _ _ (w.heap.size + 2) 66 _ (0,0) _ rfl HMO.out.1 Tryz.underlying66 rfl (by kernel_rfl)) rfl ?_;exact HAN.out _ _ HMO.out.2.1 HMO.out.2.2.1 HMO.out.2.2.2
end
end Go.Proofs.YtbnhkplhmanmoaaGreat
