/- . -/
import Derived.Test.YtbnhkplhmanmoaaGreatTkG
import Derived.Test.YtbnhkplhmanmoaaGreatChecked
import Derived.ProofKit
import Derived.OpenShut
import Derived.ShutString
import Derived.ChangeOld
import Derived.ChangeSame
import Derived.Deep.Slices
import Derived.Test.YtbnhkplhmanmoaaGreatVaultHoldG
import Derived.Deep.Matrix
import Derived.WalkKit
import Derived.SizedLaws
import Derived.Test.YtbnhkplhmanmoaaGreatVaultSameG
import Derived.Maps.OwnSet
namespace Go.Proofs.YtbnhkplhmanmoaaGreat
open Go.ChangeShapes Go.WideShapes Go.ChangeAt Go.RowKit
open Go.ChangeMaps (open_string shut_string)
theorem jfn {n:Int} (h:(Lit.int .i64 n).wf=true):jdD n:=jpw h
section
variable {H:Type} {enc:TypeId × Value->H} {P:Program} {w:World} {base:Nat} {spare:Nat->Bool} {held:Bool}
structure jhg (P:Program) (t:TypeId) (f0 f1 f2 f3 f4 f5:Field):Prop where
 ty:P.underlying t=some (.struct #[f0,f1,f2,f3,f4,f5])
 cells:P.cellsOf t=6
 off:f0.offset=0/\f1.offset=1/\f2.offset=2/\f3.offset=3/\f4.offset=4/\f5.offset=5
 one:P.cellsOf f0.type=1/\P.cellsOf f1.type=1/\P.cellsOf f2.type=1/\P.cellsOf f3.type=1/\P.cellsOf f4.type=1/\P.cellsOf f5.type=1
 int:P.underlying f0.type=some (.int .i64)/\P.underlying f1.type=some (.int .i64)/\P.underlying f2.type=some (.int .i64)/\P.underlying f3.type=some (.int .i64)/\P.underlying f4.type=some (.int .i64)
 str:P.underlying f5.type=some .string
variable {t:TypeId} {f0 f1 f2 f3 f4 f5:Field}
def rcD (r:Rc):DataW H:=.agg [.lit (.int .i64 r.k),.lit (.int .i64 r.a),.lit (.int .i64 r.b),.lit (.int .i64 r.c),.lit (.int .i64 r.d),.lit (.string r.key.data.toList)]
structure Rc.wf (r:Rc):Prop where
 k:(Lit.int .i64 r.k).wf=true
 a:(Lit.int .i64 r.a).wf=true
 b:(Lit.int .i64 r.b).wf=true
 c:(Lit.int .i64 r.c).wf=true
 d:(Lit.int .i64 r.d).wf=true
 key:r.key.size<=maxLen
theorem Rc.wf.ok {r:Rc} (h:r.wf):r.ok:=⟨jfn h.k,jfn h.a,jfn h.b,jfn h.c,jfn h.d,by have:=h.key;unfold maxLen at this;omega⟩
theorem jn6 {fuel:Nat} {cs:List Value} {x:DataW H × List MemPlace} (T:jhg P t f0 f1 f2 f3 f4 f5) (hf:DataW.trod enc P w base spare held fuel t cs=some x):∃ r:Rc,cs=(rcV r).toList/\x=(rcD r,[])/\r.wf:=by
 obtain ⟨xs,n,_,hx,hcl,hlen,hp⟩:=DataW.trod_struct T.ty hf;rw [T.cells] at hcl
 match cs,hcl with
 | [v0,v1,v2,v3,v4,v5],_ =>
  obtain ⟨o0,o1,o2,o3,o4,o5⟩:=T.off;obtain ⟨e0,e1,e2,e3,e4,e5⟩:=T.one;obtain ⟨i0,i1,i2,i3,i4⟩:=T.int;have g0:=hp 0 f0 rfl;have g1:=hp 1 f1 rfl;have g2:=hp 2 f2 rfl;have g3:=hp 3 f3 rfl;have g4:=hp 4 f4 rfl;have g5:=hp 5 f5 rfl;rw [o0,e0] at g0;rw [o1,e1] at g1;rw [o2,e2] at g2;rw [o3,e3] at g3;rw [o4,e4] at g4;rw [o5,e5] at g5;simp only [List.size_toArray,List.length_cons,List.length_nil] at hlen
  match xs,hlen with
  | [y0,y1,y2,y3,y4,y5],_ =>
   simp only [List.drop_zero,List.drop_succ_cons,List.take_succ_cons,List.take_zero,List.getElem?_cons_zero,List.getElem?_cons_succ] at g0 g1 g2 g3 g4 g5;obtain ⟨n0,q0,z0,w0⟩:=DataW.trod_int i0 g0;obtain ⟨n1,q1,z1,w1⟩:=DataW.trod_int i1 g1;obtain ⟨n2,q2,z2,w2⟩:=DataW.trod_int i2 g2;obtain ⟨n3,q3,z3,w3⟩:=DataW.trod_int i3 g3;obtain ⟨n4,q4,z4,w4⟩:=DataW.trod_int i4 g4;obtain ⟨s,q5,z5,w5⟩:=DataW.trod_string T.str g5;simp only [List.cons.injEq,and_true] at q0 q1 q2 q3 q4 q5;subst q0 q1 q2 q3 q4 q5 z0 z1 z2 z3 z4 z5;simp only [List.map_cons,List.map_nil,List.flatMap_cons,List.flatMap_nil,List.append_nil] at hx;exact ⟨⟨n0,n1,n2,n3,n4,s⟩,rfl,hx,⟨w0,w1,w2,w3,w4,w5⟩⟩
end
section
variable {H:Type} {enc:TypeId × Value->H} {P:Program} {w:World} {base:Nat} {held:Bool}
variable {t u e:TypeId} {f0 f1 f2 f3 f4 f5:Field}
theorem jqW (b off i:Nat):(⟨b,off,none⟩:Addr).add i=⟨b,off + i,none⟩:=by unfold Addr.add;split <;> simp_all
instance:Inhabited Rc:=⟨⟨0,0,0,0,0,⟨#[]⟩⟩⟩
theorem jmq (hu:P.underlying u=some (.slice e)) (T:jhg P e f0 f1 f2 f3 f4 f5) (hb:P.bytesOf e=56) {fuel:Nat} {v:Value} {x:DataW H × List MemPlace} (h:DataW.trod enc P w base (fun _=>true) held fuel u [v]=some x) :
  ∃ (A:Option Addr) (c:Nat) (rs:List Rc),v=.slice A rs.length c/\rs.length<=c/\jax w w.heap.size A rs/\(∀ r∈rs,r.ok)/\((∀ n∈(x.1).weights P u,n<=reachBytes)->rs.length * 56<=140737488351232):=by
 rcases Go.Deep.open_slice hu h with ⟨h0,_⟩ | ⟨a,len,cap,m,n,D,Pl,hcs,_,hl,_,hmm,rfl,hx⟩
 ·simp only [List.cons.injEq,and_true] at h0;exact ⟨none,0,[],h0,Nat.le_refl _,jax.nil _ _ _,by simp,fun _=>by simp⟩
 ·simp only [List.cons.injEq,and_true] at hcs;subst hcs;simp only [if_true] at hmm;rw [T.cells] at hx
  have each:∀ i,i < len->∃ r:Rc,r.ok/\w.cells? base (a.add (i * 6)) 6=some (rcV r).toList:=fun i hi=>by
   obtain ⟨cs',hc,htr⟩:=hx i (by omega);obtain ⟨r,rfl,_,hw⟩:=jn6 T htr;exact ⟨r,hw.ok,hc⟩
  obtain ⟨y,hy⟩:=Go.Deep.choose_lt each;refine ⟨some a,cap,(List.range len).map y,by simp,by simpa using hl,fun k hk=>?_,fun r hr=>?_,fun hwt=>?_⟩
  ·have hk':k < len:=by simpa using hk
   obtain ⟨_,hc⟩:=hy k hk';obtain ⟨_,_,hcell⟩:=World.cells?_some hc;have k0:=hcell 0 (by decide);have k1:=hcell 1 (by decide);have k2:=hcell 2 (by decide);have k3:=hcell 3 (by decide);have k4:=hcell 4 (by decide);have k5:=hcell 5 (by decide);rw [Go.Deep.add_add] at k0 k1 k2 k3 k4 k5;obtain ⟨b,off,spot⟩:=a
   have hspot:spot=none:=by
    obtain ⟨_,hc9⟩:=hy 0 (by omega);have k9:=World.cell?_spot ((World.cells?_some hc9).2.2 0 (by decide));simpa [Addr.add] using k9
   subst hspot;rw [jqW] at k0 k1 k2 k3 k4 k5;simp only [List.getElem_map,List.getElem_range];rw [Nat.mul_comm k 6] at k0 k1 k2 k3 k4 k5;exact ⟨b,off,rfl,World.block_lt_of_cell? w _ k0,k0,k1,k2,k3,k4,k5⟩
  ·obtain ⟨i,hi,rfl⟩:=List.mem_map.1 hr;exact (hy i (List.mem_range.1 hi)).1
  ·have:=hwt (cap * 56) (by
    simp only [DataW.weights,hu,hb,List.mem_cons,List.length_map,List.length_range];left;rw [hmm];congr 1;omega)
   simp only [List.length_map,List.length_range];unfold reachBytes at this;omega
end
theorem jpC:∃ f0 f1 f2 f3 f4 f5,jhg Tryz.prog 56 f0 f1 f2 f3 f4 f5 :=
 ⟨_,_,_,_,_,_,⟨Tryz.underlying56,by kernel_rfl,⟨rfl,rfl,rfl,rfl,rfl,rfl⟩,⟨by kernel_rfl,by kernel_rfl,by kernel_rfl,by kernel_rfl,by kernel_rfl,by kernel_rfl⟩,⟨by kernel_rfl,by kernel_rfl,by kernel_rfl,by kernel_rfl,by kernel_rfl⟩,by kernel_rfl⟩⟩
end Go.Proofs.YtbnhkplhmanmoaaGreat
namespace Go.Proofs.YtbnhkplhmanmoaaGreat
open Go.ChangeShapes Go.WideShapes Go.ChangeAt Go.RowKit
section
variable {H:Type} {enc:TypeId × Value->H} {P:Program} {w:World} {base:Nat} {held:Bool}
theorem jki {t e:TypeId} (ht:P.underlying t=some (.slice e)) (he:P.underlying e=some .bool) (hc:P.cellsOf e=1) {fuel:Nat} {cs:List Value} {x:DataW H × List MemPlace} (h:DataW.trod enc P w base (fun _=>true) held fuel t cs=some x) :
  cs=[.slice none 0 0]∨∃ (a:Addr) (len cap:Nat) (zs:List Bool) (D:Nat->DataW H),cs=[.slice (some a) len cap]/\len<=cap/\cap<=maxLen/\zs.length=len/\x.1=.slice ((List.range len).map D) ((List.range (cap - len)).map fun j=>D (len + j))/\jdm w w.heap.size (some a) zs:=by
 rcases Go.Deep.open_slice ht h with ⟨h0,_⟩ | ⟨a,len,cap,m,n,D,Pl,rfl,_,hl,hm,hmm,rfl,hx⟩
 ·exact .inl h0
 right;simp only [if_true] at hmm;rw [hc] at hx
 have each:∀ r,r < len->∃ b:Bool,w.cell? (a.add r)=some (.bool b):=by
  intro r hr;obtain ⟨cs',hcs,htr⟩:=hx r (by omega);obtain ⟨b,rfl,_⟩:=DataW.trod_bool he htr;rw [Nat.mul_one] at hcs;exact ⟨b,cell_of_cells?_one hcs⟩
 obtain ⟨y,hy⟩:=Go.Deep.choose_lt each;refine ⟨a,len,cap,(List.range len).map y,D,rfl,hl,hm,by simp,by rw [hmm],fun i hi=>?_⟩;have hi':i < len:=by simpa using hi
 have hc0:=hy i hi';obtain ⟨b,off,spot⟩:=a
 have hspot:spot=none:=by
  have h0:=hy 0 (by omega);have:=World.cell?_spot h0;simpa [Addr.add] using this
 subst hspot;have hadd:(⟨b,off,none⟩:Addr).add i=⟨b,off + i,none⟩:=by unfold Addr.add;split <;> simp_all
 rw [hadd] at hc0;exact ⟨b,off,rfl,World.block_lt_of_cell? w _ hc0,by rw [hc0];simp [List.getD_eq_getElem?_getD,hi']⟩
end
end Go.Proofs.YtbnhkplhmanmoaaGreat
namespace Go.Proofs.YtbnhkplhmanmoaaGreat
open Go.ChangeShapes Go.WideShapes Go.ChangeAt Go.RowKit
section
variable {H:Type} {enc:TypeId × Value->H} {P:Program} {w:World} {base:Nat} {held:Bool}
structure jfJ (P:Program) (t q r:TypeId) (f0 f1 f2 f3:Field):Prop where
 ty:P.underlying t=some (.struct #[f0,f1,f2,f3])
 cells:P.cellsOf t=4
 off:f0.offset=0/\f1.offset=1/\f2.offset=2/\f3.offset=3
 one:P.cellsOf f0.type=1/\P.cellsOf f1.type=1/\P.cellsOf f2.type=1/\P.cellsOf f3.type=1
 int:P.underlying f0.type=some (.int .i64)/\P.underlying f1.type=some (.int .i64)
 sl:P.underlying f2.type=some (.slice q)
 qi:∃ g0 g1 g2 g3 g4 g5,jhg P q g0 g1 g2 g3 g4 g5
 qb:P.bytesOf q=56
 bl:P.underlying f3.type=some (.slice r)
 ri:P.underlying r=some .bool
 rc:P.cellsOf r=1
 rb:P.bytesOf r=1
variable {t e q r:TypeId} {f0 f1 f2 f3:Field}
structure jow (w:World) (P:Program) (e:TypeId) (cs:List Value) (d:DataW H) (z:Act17):Prop where
 cs4:cs=[.int .i64 z.what,.int .i64 z.n,.slice z.A z.l.length z.c,.slice z.B z.f.length z.k]
 n64:jeI z.n
 recs:jax w w.heap.size z.A z.l
 oks:∀ r∈z.l,r.ok
 le:z.l.length<=z.c
 len:(∀ n∈d.weights P e,n<=reachBytes)->z.l.length<=140737488351232
 bools:jdm w w.heap.size z.B z.f
 ble:z.f.length<=z.k
 blen:(∀ n∈d.weights P e,n<=reachBytes)->z.f.length<=140737488351232
theorem jkj (T:jfJ P e q r f0 f1 f2 f3) {fuel:Nat} {cs:List Value} {x:DataW H × List MemPlace} (h:DataW.trod enc P w base (fun _=>true) held fuel e cs=some x):∃ z:Act17,jow w P e cs x.1 z:=by
 obtain ⟨xs,n,_,hx,hcl,hlen,hp⟩:=DataW.trod_struct T.ty h;rw [T.cells] at hcl
 match cs,hcl with
 | [v0,v1,v2,v3],_ =>
  obtain ⟨o0,o1,o2,o3⟩:=T.off;obtain ⟨e0,e1,e2,e3⟩:=T.one;obtain ⟨i0,i1⟩:=T.int;have g0:=hp 0 f0 rfl;have g1:=hp 1 f1 rfl;have g2:=hp 2 f2 rfl;have g3:=hp 3 f3 rfl;rw [o0,e0] at g0;rw [o1,e1] at g1;rw [o2,e2] at g2;rw [o3,e3] at g3;simp only [List.size_toArray,List.length_cons,List.length_nil] at hlen
  match xs,hlen with
  | [y0,y1,y2,y3],_ =>
   simp only [List.drop_zero,List.drop_succ_cons,List.take_succ_cons,List.take_zero,List.getElem?_cons_zero,List.getElem?_cons_succ] at g0 g1 g2 g3;obtain ⟨n0,q0,z0,w0⟩:=DataW.trod_int i0 g0;obtain ⟨n1,q1,z1,w1⟩:=DataW.trod_int i1 g1;simp only [List.cons.injEq,and_true] at q0 q1;subst q0 q1 z0 z1;have hb1:jeI n1:=bounds_i64 w1
   have hT:∃ (A:Option Addr) (c:Nat) (tt:List Rc),v2=.slice A tt.length c/\jax w w.heap.size A tt/\(∀ r∈tt,r.ok)/\tt.length<=c/\((∀ n∈(y2.1).weights P f2.type,n<=reachBytes)->tt.length<=140737488351232):=by
    obtain ⟨_,_,_,_,_,_,TR⟩:=T.qi;obtain ⟨A,c,rs,h1,h2,h3,h4,h5⟩:=jmq T.sl TR T.qb g2;exact ⟨A,c,rs,h1,h3,h4,h2,fun h=>by have:=h5 h;omega⟩
   have hB:∃ (A:Option Addr) (c:Nat) (ll:List Bool),v3=.slice A ll.length c/\jdm w w.heap.size A ll/\ll.length<=c/\((∀ n∈(y3.1).weights P f3.type,n<=reachBytes)->ll.length<=140737488351232):=by
    rcases jki T.bl T.ri T.rc g3 with hcs | ⟨a',len',cap',zs,D,hcs,hl',_,hz,hy,hBB⟩
    ·simp only [List.cons.injEq,and_true] at hcs;exact ⟨none,0,[],hcs,jdm.none _ _ _,Nat.le_refl _,fun _=>Nat.zero_le _⟩
    ·simp only [List.cons.injEq,and_true] at hcs;refine ⟨some a',cap',zs,by rw [hcs,hz],hBB,by omega,fun hwt=>?_⟩
     have:=hwt (cap' * 1) (by
      rw [hy];simp only [DataW.weights,T.bl,T.rb,List.mem_cons,List.length_map,List.length_range];left
      omega)
     unfold reachBytes at this;omega
   obtain ⟨A,c,tt,rfl,t1,t2,t3,t5⟩:=hT;obtain ⟨B,k,ll,rfl,b1,b2,b3⟩:=hB
   have hwe:∀ n,(n∈(y2.1).weights P f2.type∨n∈(y3.1).weights P f3.type)->n∈(x.1).weights P e:=fun n hn=>by
    rw [hx];simp only [DataW.weights,T.ty,List.map_cons,List.map_nil,DataW.weightsEach,List.mem_append];rcases hn with h | h <;> simp [h]
   exact ⟨⟨n0,n1,A,tt,c,B,ll,k⟩,rfl,hb1,t1,t2,t3,fun hr=>t5 fun n hn=>hr n (hwe n (.inl hn)),b1,b2,fun hr=>b3 fun n hn=>hr n (hwe n (.inr hn))⟩
theorem jd3 {e:TypeId} : ∀ {ds:List (DataW H)} {d:DataW H},d∈ds->∀ n∈d.weights P e,n∈DataW.weightsAll P e ds
 | d0 :: ds,d,hd,n,hn=>by
  simp only [DataW.weightsAll,List.mem_append];rcases List.mem_cons.1 hd with h | h
  ·exact .inl (h ▸ hn)
  ·exact .inr (jd3 h n hn)
 | [],_,hd,_,_=>absurd hd (by simp)
instance:Inhabited Act17:=⟨⟨0,0,none,[],0,none,[],0⟩⟩
theorem open_acts17 (ht:P.underlying t=some (.slice e)) (T:jfJ P e q r f0 f1 f2 f3) {fuel:Nat} {cs:List Value} {x:DataW H × List MemPlace} (h:DataW.trod enc P w base (fun _=>true) held fuel t cs=some x)
  (hsz:∀ d,x.1=d->∀ n∈d.weights P t,n<=reachBytes) :
  cs=[.slice none 0 0]∨∃ (a:Addr) (len cap:Nat) (zs:List Act17),cs=[.slice (some a) len cap]/\zs.length=len/\Acts17 w (some a) zs:=by
 rcases Go.Deep.open_slice ht h with ⟨h0,_⟩ | ⟨a,len,cap,m,n,D,Pl,rfl,_,hl,_,hmm,rfl,hx⟩
 ·exact .inl h0
 right;simp only [if_true] at hmm;rw [T.cells] at hx
 have each:∀ i,i < len->∃ z:Act17,∃ cs',w.cells? base (a.add (i * 4)) 4=some cs'/\jow w P e cs' (D i) z:=fun i hi=>by
  obtain ⟨cs',hc,htr⟩:=hx i (by omega);obtain ⟨z,hz⟩:=jkj T htr;exact ⟨z,cs',hc,hz⟩
 obtain ⟨y,hy⟩:=Go.Deep.choose_lt each;refine ⟨a,len,cap,(List.range len).map y,rfl,by simp,fun i hi=>?_⟩;have hi':i < len:=by simpa using hi
 obtain ⟨cs',hc,hz⟩:=hy i hi';obtain ⟨_,_,hcell⟩:=World.cells?_some hc;have hc4:=hz.cs4;subst hc4;have k0:=hcell 0 (by decide);have k1:=hcell 1 (by decide);have k2:=hcell 2 (by decide);have k3:=hcell 3 (by decide);rw [Go.Deep.add_add] at k0 k1 k2 k3;obtain ⟨b,off,spot⟩:=a
 have hspot:spot=none:=by
  obtain ⟨cs0,hc0,hz0⟩:=hy 0 (by omega);obtain ⟨_,_,hcell0⟩:=World.cells?_some hc0;have h4:=hz0.cs4;subst h4;have k9:=World.cell?_spot (hcell0 0 (by decide));rw [Nat.zero_mul] at k9;simpa [Addr.add] using k9
 subst hspot;have hadd:∀ (b off i:Nat),(⟨b,off,none⟩:Addr).add i=⟨b,off + i,none⟩:=fun b off i=>by unfold Addr.add;split <;> simp_all
 rw [hadd] at k0 k1 k2 k3
 have hw:∀ n∈(D i).weights P e,n<=reachBytes:=fun n hn=>by
  refine hsz _ rfl _ ?_;simp only [DataW.weights,ht,List.mem_cons,List.mem_append];exact .inr (.inl (jd3 (d:=D i) (List.mem_map.2 ⟨i,List.mem_range.2 hi',rfl⟩) _ hn))
 simp only [List.getElem_map,List.getElem_range];exact ⟨b,off,rfl,World.block_lt_of_cell? w _ k0,k0,k1,k2,k3,⟨hz.n64,hz.recs,hz.oks,hz.le,hz.len hw,hz.bools,hz.ble,hz.blen hw⟩⟩
end
theorem actType17:∃ f0 f1 f2 f3,jfJ Tryz.prog 39 56 4 f0 f1 f2 f3 :=
 ⟨_,_,_,_,⟨Tryz.underlying39,by kernel_rfl,⟨rfl,rfl,rfl,rfl⟩,⟨by kernel_rfl,by kernel_rfl,by kernel_rfl,by kernel_rfl⟩,⟨by kernel_rfl,by kernel_rfl⟩,by kernel_rfl,jpC,by kernel_rfl,by kernel_rfl,by kernel_rfl,by kernel_rfl,by kernel_rfl⟩⟩
end Go.Proofs.YtbnhkplhmanmoaaGreat
namespace Go.Proofs.YtbnhkplhmanmoaaGreat
open Go.RowKit
open Go.Maps (IsMap Tidy atKey_put_same atKey_put_other has_put_same has_put_other atKey_del_same atKey_del_other has_del_same has_del_other)
def jfc (t:List Nat):Value:=.agg (BA t)
def wrV (q:Nat × List Nat):List Value:=(BA q.2).toList ++ [.int .i64 (q.1:Int)]
def je0 (ps:List (Nat × List Nat)):List Value:=ps.flatMap wrV
theorem jlX (ps:List (Nat × List Nat)) (q:Nat × List Nat):je0 (ps ++ [q])=je0 ps ++ wrV q:=by simp [je0]
def jc8 (v:Value):Option (DataW Value × List MemPlace):=some (.held v,[])
theorem jpJ (x:Int):WideAt.IsKeyLit (.int .i64 x):=by first | trivial | simp [WideAt.IsKeyLit]
theorem jmB {x y:Int} (h:x≠y):(Lit.int .i64 x)≠.int .i64 y:=fun e=>by injection e with _ e;exact h e
theorem jmU:∀ (N:Nat) (l:List Int),l.Nodup->(∀ x∈l,0<=x/\x < (N:Int))->l.length<=N
 | 0,[],_,_=>Nat.le_refl _
 | 0,x :: l,_,h=>by have:=h x (List.mem_cons_self ..);omega
 | N + 1,l,hn,h=>by
  by_cases hm:(N:Int)∈l
  ·have h1:=jmU N (l.erase (N:Int)) (hn.erase _) (fun x hx=>by
    have hx1:=(hn.mem_erase_iff).1 hx;have:=h x hx1.2;have h3:=hx1.1
    omega)
   rw [List.length_erase_of_mem hm] at h1;omega
  ·have h1:=jmU N l hn (fun x hx=>by
    have:=h x hx;have h3:x≠(N:Int):=fun e=>hm (e ▸ hx)
    omega)
   omega
def jj3:Lit->Int
 | .int _ x=>x
 | _=>0
def jkM (N:Nat):Lit->Bool
 | .int .i64 x=>decide (0<=x/\x < (N:Int))
 | _=>false
theorem jhp {N:Nat} {k:Lit} (h:jkM N k=true):k=.int .i64 (jj3 k)/\0<=jj3 k/\jj3 k < (N:Int):=by
 unfold jkM at h;split at h
 ·exact ⟨rfl,of_decide_eq_true h⟩
 ·cases h
def jem (N:Nat):DataW Value->Prop
 | .map es=>es.any (fun p=>!jkM N p.1)=false
 | _=>False
theorem jem.put {N:Nat} {D:DataW Value} (h:jem N D) {k:Lit} (hk:jkM N k=true) (d:DataW Value):jem N (D.put k d):=by
 cases D with
 | map es =>
  show (DataW.insert (k,d) (es.filter fun p=>!p.1.sameKey k)).any _=false;rw [Maps.any_insert]
  have h1:(es.filter fun p=>!p.1.sameKey k).any (fun p=>!jkM N p.1)=false:=by
   rw [List.any_eq_false] at *
   exact fun p hp=>(List.any_eq_false.1 h) p (List.mem_filter.1 hp).1
  rw [h1];simp [hk]
 | _=>exact h.elim
theorem jem.del {N:Nat} {D:DataW Value} (h:jem N D) (k:Lit):jem N (D.del k):=by
 cases D with
 | map es =>
  show (es.filter fun p=>!p.1.sameKey k).any _=false;rw [List.any_eq_false];exact fun p hp=>(List.any_eq_false.1 h) p (List.mem_filter.1 hp).1
 | _=>exact h.elim
theorem jem.size {N:Nat} {D:DataW Value} (h:jem N D) (hD:Tidy D):Maps.size D<=N:=by
 obtain ⟨es,rfl,hp⟩:=hD
 have hk:∀ p∈es,jkM N p.1=true:=fun p hpm=>by
  have:=(List.any_eq_false.1 h) p hpm;simpa using this
 have h1:=jmU N (es.map fun p=>jj3 p.1) (by
  show List.Pairwise _ _;rw [List.pairwise_map];refine List.Pairwise.imp_of_mem ?_ hp;intro a b ha hb hne e;exact hne (by rw [(jhp (hk a ha)).1,(jhp (hk b hb)).1,e])) (fun x hx=>by
  obtain ⟨p,hp1,rfl⟩:=List.mem_map.1 hx;exact (jhp (hk p hp1)).2)
 rw [List.length_map] at h1;exact h1
structure jel (D:DataW Value) (l:List (List Nat)):Prop where
 here:∀ i,i < l.length->D.atKey (.int .i64 (i:Int)) (.held (jfc jas))=.held (jfc (l.getD i []))
 keys:jem l.length D
theorem ji9 (n:Nat):jel (.map []) (List.replicate n jas):=⟨fun i hi=>by
 have:i < n:=by simpa using hi
 rw [List.getD_eq_getElem?_getD,List.getElem?_replicate,if_pos this];rfl,rfl⟩
section
variable {D:DataW Value} {l:List (List Nat)}
theorem jel.put (h:jel D l) (hD:IsMap D) {i:Nat} (hi:i < l.length) (t:List Nat):jel (D.put (.int .i64 (i:Int)) (.held (jfc t))) (l.set i t):=by
 refine ⟨fun j hj=>?_,by rw [List.length_set];exact h.keys.put (by show decide _=true;exact decide_eq_true ⟨by omega,by omega⟩) _⟩;rw [List.length_set] at hj;rw [jd9 _ _ _ _ hj];by_cases e:i=j
 ·subst e;rw [if_pos rfl];exact atKey_put_same hD (jpJ _) _ _
 ·rw [if_neg e,atKey_put_other (jmB (by omega))];exact h.here j hj
theorem jel.del (h:jel D l) {i:Nat} : jel (D.del (.int .i64 (i:Int))) (l.set i jas):=by
 refine ⟨fun j hj=>?_,by rw [List.length_set];exact h.keys.del _⟩;rw [List.length_set] at hj;rw [jd9 _ _ _ _ hj];by_cases e:i=j
 ·subst e;rw [if_pos rfl];exact atKey_del_same _
 ·rw [if_neg e,atKey_del_other (jmB (by omega))];exact h.here j hj
end
def jgy (D:DataW Unit) (ps:List (Nat × List Nat)):Prop:=∀ i:Nat,
 (Maps.has D (.int .i64 (i:Int))=false/\∀ t,jdM i ps t=t) ∨
 ∃ j,j < ps.length/\Maps.has D (.int .i64 (i:Int))=true/\D.atKey (.int .i64 (i:Int)) (.lit (.int .i64 0))=.lit (.int .i64 (j:Int))/\∀ t,jdM i ps t=(ps.getD j (0,[])).2
theorem jfK:jgy (.map []) []:=fun _=>.inl ⟨rfl,fun _=>rfl⟩
theorem jgy.put {D:DataW Unit} {ps:List (Nat × List Nat)} (h:jgy D ps) (hD:IsMap D) (n:Nat) (t:List Nat):jgy (D.put (.int .i64 (n:Int)) (.lit (.int .i64 (ps.length:Int)))) (ps ++ [(n,t)]):=fun i=>by
 by_cases e:n=i
 ·subst e;refine .inr ⟨ps.length,by simp,has_put_same hD (jpJ _) _,atKey_put_same hD (jpJ _) _ _,fun u=>?_⟩;rw [jdt,if_pos rfl,List.getD_eq_getElem?_getD,List.getElem?_append_right (Nat.le_refl _)];simp
 ·have hne:=jmB (x:=(i:Int)) (y:=(n:Int)) (by omega);rw [has_put_other hne,atKey_put_other hne];rcases h i with ⟨h1,h2⟩ | ⟨j,hj,h1,h2,h3⟩
  ·exact .inl ⟨h1,fun u=>by rw [jdt,if_neg e];exact h2 u⟩
  ·refine .inr ⟨j,by rw [List.length_append];omega,h1,h2,fun u=>?_⟩;rw [jdt,if_neg e,h3 u,List.getD_eq_getElem?_getD,List.getD_eq_getElem?_getD,List.getElem?_append_left hj]
theorem Tryz.undMapN : Tryz.prog.underlying 59 = some (.map 3 3):=by kernel_rfl
theorem Tryz.undMapL : Tryz.prog.underlying 58 = some (.map 3 103):=by kernel_rfl
theorem Tryz.undIntD : Tryz.prog.underlying 3 = some (.int .i64):=by kernel_rfl
theorem joK:Maps.Keyed Tryz.prog 3:=Maps.int_keyed Tryz.undIntD
theorem jp8 (w:World):(zeroValue 3).run Tryz.prog w=.ok (.int .i64 0) w:=by kernel_rfl
theorem Tryz.infoSec:(Tryz.prog.info? 103).map (fun i=>(i.zero,i.size))=some (some (jfc jas),64):=by kernel_rfl
theorem jlh (w:World):(zeroValue 103).run Tryz.prog w=.ok (jfc jas) w:=(zero_of_info Tryz.infoSec).1 w
theorem jjN {x:Int} (h:jeI x):keyOf Tryz.prog 3 (.int .i64 x)=some (.int .i64 x):=Maps.keyOf_int_mk Tryz.undIntD (by unfold jeI at h;simp [Lit.wf,IntKind.min,IntKind.max,IntKind.signed,IntKind.bits];omega)
structure jak (w:World) (p gl gn:Nat) (V:Value) (z:Int) (DL:DataW Value) (DN:DataW Unit) (s:Dk):Prop where
 ok:s.ok
 box:w.heap[p]? = some (.cells #[.int .i64 (s.last.length:Int),.map (some gl),V,.map (some gn),.int .i64 z,.bool s.off] 62 (0,0))
 last:w.ownsMap Tryz.prog 3 jc8 gl (Maps.size DL) DL
 lsays:jel DL s.last
 new:w.ownsMap Tryz.prog 3 (plainElem Tryz.prog 3) gn s.pend.length DN
 nsays:jgy DN s.pend
 pend:w.ownsRow 0 105 65 V s.pend.length (je0 s.pend)
 lim:(s.lim=none/\z < 0)∨∃ m:Nat,s.lim=some m/\z=(m:Int)
 zi:jeI z
 a1:p≠gl/\p≠gn/\gl≠gn
 a2:V.ownBlock≠some p/\V.ownBlock≠some gl/\V.ownBlock≠some gn
def jbh (p gl gn:Nat) (V:Value) (b:Nat):Prop:=b=p∨b=gl∨b=gn∨V.ownBlock=some b
def jbq (w:World) (p:Nat) (F:Nat->Prop) (s:Dk):Prop:=∃ gl gn V z DL DN,F=jbh p gl gn V/\jak w p gl gn V z DL DN s
theorem jn3 {H:Type} {k:TypeId} {R:Value->Option (DataW H × List MemPlace)} {w:World} {P:Program} {b n:Nat} {D:DataW H} (h:w.ownsMap P k R b n D):w.ownsMap P k R b (Maps.size D) D:=by
 obtain ⟨es,clock,hb,F,hs,rfl⟩:=h;exact ⟨es,clock,hb,F,by simp [Maps.size,length_sorted],rfl⟩
theorem jdf {H:Type} {k:TypeId} {R:Value->Option (DataW H × List MemPlace)} {w w':World} {P:Program} {b n:Nat} {D:DataW H} (h:w.ownsMap P k R b n D) (he:w'.heap[b]? = w.heap[b]?):w'.ownsMap P k R b n D:=by
 obtain ⟨es,clock,hb,r⟩:=h;exact ⟨es,clock,he.trans hb,r⟩
section
variable {w w':World} {p gl gn:Nat} {V:Value} {z:Int} {DL:DataW Value} {DN:DataW Unit} {s:Dk}
theorem jdL:jbh p gl gn V p:=.inl rfl
theorem jkg:jbh p gl gn V gl:=.inr (.inl rfl)
theorem jma:jbh p gl gn V gn:=.inr (.inr (.inl rfl))
theorem jak.keep (h:jak w p gl gn V z DL DN s) (hk:∀ b,jbh p gl gn V b->w'.heap[b]? = w.heap[b]?):jak w' p gl gn V z DL DN s :=
 ⟨h.ok,(hk p jdL).trans h.box,jdf h.last (hk gl jkg),h.lsays,jdf h.new (hk gn jma),h.nsays,jek h.pend (fun g e=>hk g (.inr (.inr (.inr e)))),h.lim,h.zi,h.a1,h.a2⟩
theorem jak.lt (h:jak w p gl gn V z DL DN s) (b:Nat) (hb:jbh p gl gn V b):b < w.heap.size:=by
 rcases hb with e | e | e | e
 ·rw [e];exact (Array.getElem?_eq_some_iff.1 h.box).1
 ·rw [e];exact h.last.lt
 ·rw [e];exact h.new.lt
 ·exact (h.pend.lt b e).2
theorem jak.later (h:jak w p gl gn V z DL DN s) (hb:Below w.heap.size w w'):jak w' p gl gn V z DL DN s:=h.keep fun b q=>hb.block b (h.lt b q)
theorem jlQ (w w':World) (p:Nat) (F:Nat->Prop) (s:Dk) (h:jbq w p F s) (hk:∀ b,F b->w'.heap[b]? = w.heap[b]?):jbq w' p F s:=by
 obtain ⟨gl,gn,V,z,DL,DN,e,hi⟩:=h;exact ⟨gl,gn,V,z,DL,DN,e,hi.keep (fun b q=>hk b (by rw [e];exact q))⟩
theorem jpp (w:World) (p:Nat) (F:Nat->Prop) (s:Dk) (h:jbq w p F s) (b:Nat) (hb:F b):b < w.heap.size:=by
 obtain ⟨gl,gn,V,z,DL,DN,e,hi⟩:=h;exact hi.lt b (by rw [<- e];exact hb)
theorem jak.cells (h:jak w p gl gn V z DL DN s):w.cell? ⟨p,0,none⟩=some (.int .i64 (s.last.length:Int))/\w.cell? ⟨p,1,none⟩=some (.map (some gl))/\w.cell? ⟨p,2,none⟩=some V/\w.cell? ⟨p,3,none⟩=some (.map (some gn))/\w.cell? ⟨p,4,none⟩=some (.int .i64 z)/\w.cell? ⟨p,5,none⟩=some (.bool s.off) :=
 ⟨cell_of_row _ _ _ _ _ _ h.box,cell_of_row _ _ _ _ _ _ h.box,cell_of_row _ _ _ _ _ _ h.box,cell_of_row _ _ _ _ _ _ h.box,cell_of_row _ _ _ _ _ _ h.box,cell_of_row _ _ _ _ _ _ h.box⟩
theorem jak.thaw (h:jak w p gl gn V z DL DN s) (i:Nat):w.frozen? ⟨p,i,none⟩=false:=frozen_of_row _ _ _ _ _ h.box
theorem jak.len (h:jak w p gl gn V z DL DN s):∃ A c,V=.slice A s.pend.length c/\s.pend.length<=c/\c<=maxLen:=by
 rcases h.pend.2 with ⟨e,h0⟩ | ⟨g,cap,cur,e,_,_,h1,h2,_⟩
 ·exact ⟨none,0,by rw [h0];exact e,by omega,Nat.zero_le _⟩
 ·exact ⟨_,cap,e,h1,h2⟩
theorem jak.turn (h:jak w p gl gn V z DL DN s) (z':Int) (o:Bool) (l':Option Nat) (hl:(l'=none/\z' < 0)∨∃ m:Nat,l'=some m/\z'=(m:Int)) (hz:jeI z') (hb:w'.heap[p]? = some (.cells #[.int .i64 (s.last.length:Int),.map (some gl),V,.map (some gn),.int .i64 z',.bool o] 62 (0,0))) (hk:∀ b,b≠p->w'.heap[b]? = w.heap[b]?) :
  jak w' p gl gn V z' DL DN ⟨s.last,s.pend,l',o⟩ :=
 ⟨⟨h.ok.pos,h.ok.le,h.ok.sec,h.ok.pen⟩,hb,jdf h.last (hk gl (Ne.symm h.a1.1)),h.lsays,jdf h.new (hk gn (Ne.symm h.a1.2.1)),h.nsays,jek h.pend (fun g e=>hk g (fun e2=>h.a2.1 (e2 ▸ e))),hl,hz,h.a1,h.a2⟩
end
end Go.Proofs.YtbnhkplhmanmoaaGreat
