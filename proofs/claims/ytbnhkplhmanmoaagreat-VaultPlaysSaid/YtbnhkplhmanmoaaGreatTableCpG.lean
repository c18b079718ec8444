/- . -/
import Derived.Test.YtbnhkplhmanmoaaGreatTableByG
namespace Go.Proofs.YtbnhkplhmanmoaaGreat
open Go.RowKit
theorem jiN (w:World) (lo:Nat) (e:TypeId) (size:Nat):jaP w lo e size none 0 0 []:=.of (World.ownsRow_nil w lo e size)
theorem jdE {w:World} {lo lo':Nat} {e:TypeId} {size:Nat} {A:Option Addr} {n c:Nat} {xs:List Value} (h:jaP w lo e size A n c xs) (hl:lo'<=lo):jaP w lo' e size A n c xs:=by
 obtain ⟨h1,d,h2,h⟩:=h;exact ⟨h1,d,h2,jcB h hl⟩
structure Cp (w0:World) (X:World) (V:jat) (t:Tab):Prop where
 rows:jaw w0.heap.size X V t
 below:Below w0.heap.size w0 X
section
variable {w0 X X':World} {A1 A2 A3 A':Option Addr} {c1 c2 c3 c' n:Nat} {ts:List Ten} {vs:List Vol} {os:List Int}
theorem Cp.start (w0:World):Cp w0 w0 ⟨none,0,none,0,none,0⟩ ⟨[],[],[]⟩ :=
 ⟨⟨jiN _ _ _ _,jiN _ _ _ _,jiN _ _ _ _,fun _ h=>(by cases h),fun _ h=>(by cases h),fun _ h=>(by cases h)⟩,Below.refl _ _⟩
theorem Cp.le {V:jat} {t:Tab} (h:Cp w0 X V t):w0.heap.size<=X.heap.size:=h.below.size
theorem Cp.bT (h:Cp w0 X ⟨none,0,A2,c2,A3,c3⟩ ⟨[],vs,os⟩):Cp w0 (X.alloc (.cells #[] 52)) ⟨some ⟨X.heap.size,0,none⟩,0,A2,c2,A3,c3⟩ ⟨[],vs,os⟩:=by
 have hb:Below X.heap.size X (X.alloc (.cells #[] 52)):=(Below.refl _ _).alloc (Nat.le_refl _) _;refine ⟨⟨.of (World.ownsRow_made X #[] 0 h.le (Nat.zero_le _) rfl),jc6 h.rows.vs hb,jc6 h.rows.os hb,?_,?_,h.rows.a23⟩,jaa h.below hb⟩
 ·intro b hb1 hb2;injection hb1 with hb1
  have q:=(jaU h.rows.vs b hb2).2;have:b=X.heap.size:=hb1.symm;omega
 ·intro b hb1 hb2;injection hb1 with hb1
  have q:=(jaU h.rows.os b hb2).2;have:b=X.heap.size:=hb1.symm;omega
theorem Cp.bV (h:Cp w0 X ⟨A1,c1,none,0,A3,c3⟩ ⟨ts,[],os⟩):Cp w0 (X.alloc (.cells #[] 82)) ⟨A1,c1,some ⟨X.heap.size,0,none⟩,0,A3,c3⟩ ⟨ts,[],os⟩:=by
 have hb:Below X.heap.size X (X.alloc (.cells #[] 82)):=(Below.refl _ _).alloc (Nat.le_refl _) _;refine ⟨⟨jc6 h.rows.ts hb,.of (World.ownsRow_made X #[] 0 h.le (Nat.zero_le _) rfl),jc6 h.rows.os hb,?_,h.rows.a13,?_⟩,jaa h.below hb⟩
 ·intro b hb1 hb2;injection hb2 with hb2
  have q:=(jaU h.rows.ts b hb1).2;have:b=X.heap.size:=hb2.symm;omega
 ·intro b hb1 hb2;injection hb1 with hb1
  have q:=(jaU h.rows.os b hb2).2;have:b=X.heap.size:=hb1.symm;omega
theorem Cp.bO (h:Cp w0 X ⟨A1,c1,A2,c2,none,0⟩ ⟨ts,vs,[]⟩):Cp w0 (X.alloc (.cells #[] 3)) ⟨A1,c1,A2,c2,some ⟨X.heap.size,0,none⟩,0⟩ ⟨ts,vs,[]⟩:=by
 have hb:Below X.heap.size X (X.alloc (.cells #[] 3)):=(Below.refl _ _).alloc (Nat.le_refl _) _;refine ⟨⟨jc6 h.rows.ts hb,jc6 h.rows.vs hb,.of (World.ownsRow_made X #[] 0 h.le (Nat.zero_le _) rfl),h.rows.a12,?_,?_⟩,jaa h.below hb⟩
 ·intro b hb1 hb2;injection hb2 with hb2
  have q:=(jaU h.rows.ts b hb1).2;have:b=X.heap.size:=hb2.symm;omega
 ·intro b hb1 hb2;injection hb2 with hb2
  have q:=(jaU h.rows.vs b hb1).2;have:b=X.heap.size:=hb2.symm;omega
theorem Cp.aT {l:List Ten} (h:Cp w0 X ⟨A1,c1,A2,c2,A3,c3⟩ ⟨[],vs,os⟩) (hrow:jaP X' w0.heap.size 52 6 A' n c' (jaE jbP l)) (hn:l.length=n) (hg:X.grownBy X' (ob A1)) (hA:ob A'=ob A1∨ob A'=some X.heap.size):Cp w0 X' ⟨A',c',A2,c2,A3,c3⟩ ⟨l,vs,os⟩:=by
 subst hn;have h2:∀ b,ob A2=some b->ob A1≠some b:=fun b q q2=>h.rows.a12 b q2 q
 have h3:∀ b,ob A3=some b->ob A1≠some b:=fun b q q2=>h.rows.a13 b q2 q
 refine ⟨⟨hrow,jaK h.rows.vs hg h2,jaK h.rows.os hg h3,?_,?_,h.rows.a23⟩,h.below.grown hg h.le fun b hb=>(jaU h.rows.ts b hb).1⟩
 ·intro b hb1 hb2;rcases hA with q | q
  ·exact h.rows.a12 b (q ▸ hb1) hb2
  ·have e:b=X.heap.size:=by
    have e:=hb1.symm.trans q;injection e
   have:=(jaU h.rows.vs b hb2).2;omega
 ·intro b hb1 hb2;rcases hA with q | q
  ·exact h.rows.a13 b (q ▸ hb1) hb2
  ·have e:b=X.heap.size:=by
    have e:=hb1.symm.trans q;injection e
   have:=(jaU h.rows.os b hb2).2;omega
theorem Cp.aV {l:List Vol} (h:Cp w0 X ⟨A1,c1,A2,c2,A3,c3⟩ ⟨ts,[],os⟩) (hrow:jaP X' w0.heap.size 82 4 A' n c' (jaE jb1 l)) (hn:l.length=n) (hg:X.grownBy X' (ob A2)) (hA:ob A'=ob A2∨ob A'=some X.heap.size):Cp w0 X' ⟨A1,c1,A',c',A3,c3⟩ ⟨ts,l,os⟩:=by
 subst hn;have h1:∀ b,ob A1=some b->ob A2≠some b:=fun b q q2=>h.rows.a12 b q q2
 have h3:∀ b,ob A3=some b->ob A2≠some b:=fun b q q2=>h.rows.a23 b q2 q
 refine ⟨⟨jaK h.rows.ts hg h1,hrow,jaK h.rows.os hg h3,?_,h.rows.a13,?_⟩,h.below.grown hg h.le fun b hb=>(jaU h.rows.vs b hb).1⟩
 ·intro b hb1 hb2;rcases hA with q | q
  ·exact h.rows.a12 b hb1 (q ▸ hb2)
  ·have e:b=X.heap.size:=by
    have e:=hb2.symm.trans q;injection e
   have:=(jaU h.rows.ts b hb1).2;omega
 ·intro b hb1 hb2;rcases hA with q | q
  ·exact h.rows.a23 b (q ▸ hb1) hb2
  ·have e:b=X.heap.size:=by
    have e:=hb1.symm.trans q;injection e
   have:=(jaU h.rows.os b hb2).2;omega
theorem Cp.aO {l:List Int} (h:Cp w0 X ⟨A1,c1,A2,c2,A3,c3⟩ ⟨ts,vs,[]⟩) (hrow:jaP X' w0.heap.size 3 1 A' n c' (jaE jiy l)) (hn:l.length=n) (hg:X.grownBy X' (ob A3)) (hA:ob A'=ob A3∨ob A'=some X.heap.size):Cp w0 X' ⟨A1,c1,A2,c2,A',c'⟩ ⟨ts,vs,l⟩:=by
 subst hn;have h1:∀ b,ob A1=some b->ob A3≠some b:=fun b q q2=>h.rows.a13 b q q2
 have h2:∀ b,ob A2=some b->ob A3≠some b:=fun b q q2=>h.rows.a23 b q q2
 refine ⟨⟨jaK h.rows.ts hg h1,jaK h.rows.vs hg h2,hrow,h.rows.a12,?_,?_⟩,h.below.grown hg h.le fun b hb=>(jaU h.rows.os b hb).1⟩
 ·intro b hb1 hb2;rcases hA with q | q
  ·exact h.rows.a13 b hb1 (q ▸ hb2)
  ·have e:b=X.heap.size:=by
    have e:=hb2.symm.trans q;injection e
   have:=(jaU h.rows.ts b hb1).2;omega
 ·intro b hb1 hb2;rcases hA with q | q
  ·exact h.rows.a23 b hb1 (q ▸ hb2)
  ·have e:b=X.heap.size:=by
    have e:=hb2.symm.trans q;injection e
   have:=(jaU h.rows.vs b hb1).2;omega
end
def Src (X:World) (A:Option Addr) (m:Nat) (news:List Value):Prop:=(∃ ad,A=some ad/\∀ j u,news[j]? = some u->X.cell? (ad.add j)=some u)∨(A=none/\news=[]/\m=0)
section
variable {P:Program} (w:World)
theorem jac {ops:Array Oper} {o:Oper} {a:Act} {K:Act->World->Prop} {Q:Exit->Act->World->Prop} {E:Prop} (hgd:o.guard=none) (s x:Operand) (t:TypeId)
  (ho:o.op=.call { callee:=.builtin .append,args:=#[s,x],argTypes:=#[t,t] })
  (base:Nat) (e:TypeId) (i:TypeInfo) (z:Value) (size bytes:Nat) (ht:P.underlying t=some (.slice e)) (hi:P.info? e=some i) (hz:i.zero=some z)
  (hsize:i.size=size) (hby:i.bytes=bytes) (hzs:z.cells.size=size) (hsz:0 < size)
  (b:Nat) (hs:a.eval s=.slice (some ⟨b,0,none⟩) 0 0) (h:jaP w base e size (some ⟨b,0,none⟩) 0 0 [])
  (A:Option Addr) (m c2:Nat) (news:List Value) (hx:a.eval x=.slice A m c2) (hl:news.length=m * size) (hnews:Src w A m news) (h1:∀ u∈news,u.oneCell'=true)
  (h63:m<=maxLen) (hbytes:m * bytes<=140737488355328) (hbase:base<=w.heap.size)
  (hK:∀ A' c' w',jaP w' base e size A' m c' news->w.grownBy w' (ob (some ⟨b,0,none⟩))->(ob A'=ob (some ⟨b,0,none⟩)∨ob A'=some w.heap.size)->K (a.put o.dst (.slice A' m c')) w') :
  if Region.wanted o (yielded ops a.tmps)=true then Oper.wp P o a w K Q else E:=by
 rcases hnews with ⟨ad,rfl,hn⟩ | ⟨rfl,rfl,rfl⟩
 ·refine jcK w hgd s x t ho base e i z size bytes ht hi hz hsize hby hzs hsz (some ⟨b,0,none⟩) 0 0 [] hs h ad m c2 news hx hl hn h1 (by omega) (by rw [Nat.zero_add];exact hbytes) hbase ?_;intro A' c' w' q1 q2 q3;rw [Nat.zero_add] at q1 ⊢;exact hK A' c' w' q1 q2 q3
 ·rw [if_pos (by simp [Region.wanted,hgd])]
  have hr:(Builtin.append_ #[t,t] o.type #[.slice (some ⟨b,0,none⟩) 0 0,.slice none 0 c2]).run P w=.ok (.slice (some ⟨b,0,none⟩) 0 0) w:=by
   simp [Builtin.append_,run_underlying ht,sizeOf,typeInfo,hi,Builtin.lenOf,Builtin.firstCells,loadCells,loadCellsFrom,storeCells]
  unfold Oper.wp execOp;simp only [ho,resolve,invoke,builtin,Sem.run_bind,Sem.run_pure,Result.andThen_ok,List.map_toArray,List.map_cons,List.map_nil,hs,hx,hr];exact hK _ _ _ h (jcP _ _) (.inl rfl)
end
theorem jnb {X:World} {B:Nat} {A:Option Addr} {l:List Ten} (h:jbb X B A l):Src X A l.length (jaE jbP l):=by
 cases A with
 | some ad=>exact .inl ⟨ad,rfl,jfp h⟩
 | none =>
  cases l with
  | nil=>exact .inr ⟨rfl,rfl,rfl⟩
  | cons x l=>obtain ⟨b,off,e,_⟩:=h 0 (Nat.zero_lt_succ _);cases e
theorem jm9 {X:World} {B:Nat} {A:Option Addr} {l:List Vol} (h:jbc X B A l):Src X A l.length (jaE jb1 l):=by
 cases A with
 | some ad=>exact .inl ⟨ad,rfl,jfZ h⟩
 | none =>
  cases l with
  | nil=>exact .inr ⟨rfl,rfl,rfl⟩
  | cons x l=>obtain ⟨b,off,e,_⟩:=h 0 (Nat.zero_lt_succ _);cases e
theorem jnY {X:World} {B:Nat} {A:Option Addr} {l:List Int} (h:jaO X B .i64 A l):Src X A l.length (jaE jiy l):=by
 cases A with
 | some ad=>exact .inl ⟨ad,rfl,jhz h⟩
 | none =>
  cases l with
  | nil=>exact .inr ⟨rfl,rfl,rfl⟩
  | cons x l=>obtain ⟨b,off,e,_⟩:=h 0 (Nat.zero_lt_succ _);cases e
end Go.Proofs.YtbnhkplhmanmoaaGreat
