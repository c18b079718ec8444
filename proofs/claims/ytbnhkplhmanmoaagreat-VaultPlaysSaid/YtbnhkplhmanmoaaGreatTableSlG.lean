/- . -/
import Derived.Test.YtbnhkplhmanmoaaGreatTableSortVG
import Derived.Test.YtbnhkplhmanmoaaGreatTableC10G
import Derived.Test.YtbnhkplhmanmoaaGreatTableC8G
import Derived.Test.YtbnhkplhmanmoaaGreatTableSoundG
import Derived.Test.YtbnhkplhmanmoaaGreatTableAskG
namespace Go.Proofs.YtbnhkplhmanmoaaGreat
open Go.RowKit
def jaP (w:World) (lo:Nat) (e:TypeId) (size:Nat) (A:Option Addr) (n c:Nat) (xs:List Value):Prop:=n<=c/\∃ d,c<=d/\w.ownsRow lo e size (.slice A n d) n xs
theorem jaP.of {w:World} {lo:Nat} {e:TypeId} {size:Nat} {A:Option Addr} {n c:Nat} {xs:List Value} (h:w.ownsRow lo e size (.slice A n c) n xs):jaP w lo e size A n c xs:=⟨jfD h,c,Nat.le_refl _,h⟩
theorem jqp {w:World} {lo:Nat} {e:TypeId} {size:Nat} {A:Option Addr} {n c:Nat} {xs:List Value} (h:jaP w lo e size A n c xs):n<=c:=h.1
theorem jaU {w:World} {lo:Nat} {e:TypeId} {size:Nat} {A:Option Addr} {n c:Nat} {xs:List Value} (h:jaP w lo e size A n c xs):∀ b,ob A=some b->lo<=b/\b < w.heap.size:=by
 obtain ⟨_,d,_,h⟩:=h;exact ja1 h
theorem jaK {w w':World} {lo:Nat} {e:TypeId} {size:Nat} {A:Option Addr} {n c:Nat} {xs:List Value} {row:Option Nat} (h:jaP w lo e size A n c xs) (hg:w.grownBy w' row) (hne:∀ b,ob A=some b->row≠some b):jaP w' lo e size A n c xs:=by
 obtain ⟨h1,d,h2,h⟩:=h;exact ⟨h1,d,h2,jaA h hg fun b hb=>hne b (by rw [<- jaB];exact hb)⟩
theorem jc6 {w w':World} {lo:Nat} {e:TypeId} {size:Nat} {A:Option Addr} {n c:Nat} {xs:List Value} (h:jaP w lo e size A n c xs) (hb:Below w.heap.size w w'):jaP w' lo e size A n c xs:=by
 obtain ⟨h1,d,h2,h⟩:=h;exact ⟨h1,d,h2,jcn h hb⟩
theorem jg7 {α:Type} {E:α->List Value} {e:Nat} {w:World} {base t n g c k j:Nat} {A:Option Addr} {l:List α} {v:Value} (hE:∀ x,(E x).length=e) (h:jaP w base t e A n c (jaE E l)) (hA:A=some ⟨g,0,none⟩) (hn:n=l.length) (hk:k < l.length) (hj:j < e) (y:α)
  (hy:E y=(E l[k]).set j v):jaP (w.setCell ⟨g,k * e + j,none⟩ v) base t e A n c (jaE E (l.set k y)):=by
 obtain ⟨h1,d,h2,h⟩:=h;exact ⟨h1,d,h2,jei hE h hA hn hk hj y hy⟩
theorem jgg {α:Type} {E:α->List Value} {e:Nat} {w:World} {base t n c k:Nat} {A:Option Addr} {l:List α} (hE:∀ x,(E x).length=e) (h:jaP w base t e A n c (jaE E l)) (hn:n=l.length) (hk:k < l.length) :
  ∃ g,A=some ⟨g,0,none⟩/\base<=g/\g < w.heap.size/\n<=c/\(∀ j v,(E l[k])[j]? = some v->w.cell? ⟨g,k * e + j,none⟩=some v)/\∀ i,w.frozen? ⟨g,i,none⟩=false:=by
 obtain ⟨h1,d,h2,h⟩:=h;obtain ⟨g,q1,q2,q3,_,q5,q6⟩:=jb2 hE h hn hk;exact ⟨g,q1,q2,q3,h1,q5,q6⟩
theorem joC {α:Type} {E:α->List Value} {e:Nat} {w:World} {base t n c m:Nat} {A:Option Addr} {l:List α} (hE:∀ x,(E x).length=e) (h:jaP w base t e A n c (jaE E l)) (hn:n=l.length) (hm:m<=n):jaP w base t e A m m (jaE E (l.take m)):=by
 obtain ⟨h1,d,h2,h⟩:=h;exact ⟨Nat.le_refl _,d,by omega,jg3 hE h hn hm⟩
section
variable {P:Program} (w:World)
theorem jgV (t ty:TypeId) (base:Nat) (e:TypeId) (i:TypeInfo) (z:Value) (size bytes:Nat) (ht:P.underlying t=some (.slice e)) (hi:P.info? e=some i) (hz:i.zero=some z)
  (hsize:i.size=size) (hby:i.bytes=bytes) (hzs:z.cells.size=size) (hsz:0 < size)
  (A:Option Addr) (n c:Nat) (xs:List Value) (h:jaP w base e size A n c xs)
  (ad:Addr) (m c2:Nat) (news:List Value) (hl:news.length=m * size) (hnews:∀ j u,news[j]? = some u->w.cell? (ad.add j)=some u) (h1:∀ u∈news,u.oneCell'=true)
  (h63:n + m<=maxLen) (hbytes:(n + m) * bytes<=140737488355328) (hbase:base<=w.heap.size) :
  ∃ A' c' w',(Builtin.append_ #[t,t] ty #[.slice A n c,.slice (some ad) m c2]).run P w=.ok (.slice A' (n + m) c') w'/\jaP w' base e size A' (n + m) c' (xs ++ news)/\w.grownBy w' (ob A)/\(ob A'=ob A∨ob A'=some w.heap.size):=by
 obtain ⟨hnc,d,hcd,hown⟩:=h;have hall:=run_append_own_at (P:=P) w base t ty e i z size bytes ht hi hz hsize hby hzs hsz _ n xs hown ad m c2 news hl hnews h1 h63 hbytes hbase;obtain ⟨v',w',hr,h2,h3,_,h5⟩:=hall;rcases hown.2 with ⟨hv,h0⟩ | ⟨g,cap,cur,hv,hbg,hg,hle,hmax,hcs,htake⟩
 ·injection hv with e1 e2 e3
  have hc:c=d:=by omega
  subst hc;obtain ⟨A',c',rfl⟩:=jfu h2;rw [jaB] at h3 h5;rw [jaB] at h5;exact ⟨A',c',w',hr,jaP.of h2,h3,h5⟩
 ·injection hv with e1 e2 e3
  subst e1 e3;by_cases hroom:n + m<=c
  ·have hfit:n * i.size + news.length<=cur.size:=by rw [hl,hcs,hsize,<- Nat.add_mul];exact Nat.mul_le_mul_right _ (by omega)
   have r1:=run_append_room (P:=P) w t ty e i ht hi g n d cur hg ad m c2 news (by rw [hsize];exact hl) hnews h1 (by omega) hfit;have r2:=run_append_room (P:=P) w t ty e i ht hi g n c cur hg ad m c2 news (by rw [hsize];exact hl) hnews h1 hroom hfit;rw [r1] at hr;injection hr with hr1 hr2
   subst hr1 hr2;exact ⟨_,_,_,r2,⟨hroom,d,hcd,h2⟩,h3,.inl rfl⟩
  ·have holds:∀ j u,xs[j]? = some u->w.cell? ((⟨g,0,none⟩:Addr).add j)=some u:=hown.cells (g:=g) rfl;have r:=run_append_grow (P:=P) w t ty e i z ht hi hz ⟨g,0,none⟩ n c xs (by rw [hsize];exact hown.1) holds ad m c2 news (by rw [hsize];exact hl) hnews (by omega) (by simp only [maxLen] at h63;omega) (growslice_fits (by omega) (by rw [hby];exact hbytes));have hge:=grownCap_ge w (n + m) c e;have hcm:grownCap w (n + m) c e<=maxLen:=grownCap_le_maxLen w (n + m) c e h63;have hlen:(xs ++ news).length=(n + m) * size:=by rw [List.length_append,hown.1,hl,Nat.add_mul]
   refine ⟨_,_,_,r,jaP.of ⟨hlen,.inr ⟨w.heap.size,_,_,rfl,hbase,heap_alloc_new w.drew _,hge,hcm,?_,?_⟩⟩,⟨rfl,rfl,rfl,by simp,fun k hk _=>heap_alloc_old w.drew _ hk⟩,.inr rfl⟩
   ·simp only [Array.size_append,List.size_toArray,size_zeroCells,hzs,hown.1,hl,<- Nat.add_mul]
    congr 1
    omega
   ·simp only [Array.toList_append,List.append_assoc];rw [<- List.append_assoc,<- hlen];exact List.take_left
theorem jeR {o:Oper} {a:Act} {K:Act->World->Prop} {Q:Exit->Act->World->Prop} (s x:Operand) (t:TypeId)
  (ho:o.op=.call { callee:=.builtin .append,args:=#[s,x],argTypes:=#[t,t] })
  (base:Nat) (e:TypeId) (i:TypeInfo) (z:Value) (size bytes:Nat) (ht:P.underlying t=some (.slice e)) (hi:P.info? e=some i) (hz:i.zero=some z)
  (hsize:i.size=size) (hby:i.bytes=bytes) (hzs:z.cells.size=size) (hsz:0 < size)
  (A:Option Addr) (n c:Nat) (xs:List Value) (hs:a.eval s=.slice A n c) (h:jaP w base e size A n c xs)
  (ad:Addr) (m c2:Nat) (news:List Value) (hx:a.eval x=.slice (some ad) m c2) (hl:news.length=m * size) (hnews:∀ j u,news[j]? = some u->w.cell? (ad.add j)=some u) (h1:∀ u∈news,u.oneCell'=true)
  (h63:n + m<=maxLen) (hbytes:(n + m) * bytes<=140737488355328) (hbase:base<=w.heap.size)
  (hK:∀ A' c' w',jaP w' base e size A' (n + m) c' (xs ++ news)->w.grownBy w' (ob A)->(ob A'=ob A∨ob A'=some w.heap.size)->K (a.put o.dst (.slice A' (n + m) c')) w'):o.wp P a w K Q:=by
 obtain ⟨A',c',w',hr,h2,h3,h4⟩:=jgV (P:=P) w t o.type base e i z size bytes ht hi hz hsize hby hzs hsz A n c xs h ad m c2 news hl hnews h1 h63 hbytes hbase;unfold Oper.wp execOp;simp only [ho,resolve,invoke,builtin,Sem.run_bind,Sem.run_pure,Result.andThen_ok,List.map_toArray,List.map_cons,List.map_nil,hs,hx,hr];exact hK A' c' w' h2 h3 h4
theorem jdk {ops:Array Oper} {rest:List Oper} {o:Oper} {a:Act} {Q:Exit->Act->World->Prop} (hgd:o.guard=none) (s x:Operand) (t:TypeId)
  (ho:o.op=.call { callee:=.builtin .append,args:=#[s,x],argTypes:=#[t,t] })
  (base:Nat) (e:TypeId) (i:TypeInfo) (z:Value) (size bytes:Nat) (ht:P.underlying t=some (.slice e)) (hi:P.info? e=some i) (hz:i.zero=some z)
  (hsize:i.size=size) (hby:i.bytes=bytes) (hzs:z.cells.size=size) (hsz:0 < size)
  (A:Option Addr) (n c:Nat) (xs:List Value) (hs:a.eval s=.slice A n c) (h:jaP w base e size A n c xs)
  (ad:Addr) (m c2:Nat) (news:List Value) (hx:a.eval x=.slice (some ad) m c2) (hl:news.length=m * size) (hnews:∀ j u,news[j]? = some u->w.cell? (ad.add j)=some u) (h1:∀ u∈news,u.oneCell'=true)
  (h63:n + m<=maxLen) (hbytes:(n + m) * bytes<=140737488355328) (hbase:base<=w.heap.size)
  (hK:∀ A' c' w',jaP w' base e size A' (n + m) c' (xs ++ news)->w.grownBy w' (ob A)->(ob A'=ob A∨ob A'=some w.heap.size)->wpList P ops Q rest (a.put o.dst (.slice A' (n + m) c')) w'):wpList P ops Q (o :: rest) a w :=
 wpList_plain hgd fun _ hK2=>jeR w s x t ho base e i z size bytes ht hi hz hsize hby hzs hsz A n c xs hs h ad m c2 news hx hl hnews h1 h63 hbytes hbase fun A' c' w' h2 h3 h4=>hK2 _ _ (hK A' c' w' h2 h3 h4)
theorem jcK {ops:Array Oper} {o:Oper} {a:Act} {K:Act->World->Prop} {Q:Exit->Act->World->Prop} {E:Prop} (hgd:o.guard=none) (s x:Operand) (t:TypeId)
  (ho:o.op=.call { callee:=.builtin .append,args:=#[s,x],argTypes:=#[t,t] })
  (base:Nat) (e:TypeId) (i:TypeInfo) (z:Value) (size bytes:Nat) (ht:P.underlying t=some (.slice e)) (hi:P.info? e=some i) (hz:i.zero=some z)
  (hsize:i.size=size) (hby:i.bytes=bytes) (hzs:z.cells.size=size) (hsz:0 < size)
  (A:Option Addr) (n c:Nat) (xs:List Value) (hs:a.eval s=.slice A n c) (h:jaP w base e size A n c xs)
  (ad:Addr) (m c2:Nat) (news:List Value) (hx:a.eval x=.slice (some ad) m c2) (hl:news.length=m * size) (hnews:∀ j u,news[j]? = some u->w.cell? (ad.add j)=some u) (h1:∀ u∈news,u.oneCell'=true)
  (h63:n + m<=maxLen) (hbytes:(n + m) * bytes<=140737488355328) (hbase:base<=w.heap.size)
  (hK:∀ A' c' w',jaP w' base e size A' (n + m) c' (xs ++ news)->w.grownBy w' (ob A)->(ob A'=ob A∨ob A'=some w.heap.size)->K (a.put o.dst (.slice A' (n + m) c')) w') :
  if Region.wanted o (yielded ops a.tmps)=true then Oper.wp P o a w K Q else E:=by
 rw [if_pos (by simp [Region.wanted,hgd])];exact jeR w s x t ho base e i z size bytes ht hi hz hsize hby hzs hsz A n c xs hs h ad m c2 news hx hl hnews h1 h63 hbytes hbase hK
end
structure jaw (lo:Nat) (w:World) (V:jat) (t:Tab):Prop where
 ts:jaP w lo 52 6 V.A1 t.ts.length V.c1 (jaE jbP t.ts)
 vs:jaP w lo 82 4 V.A2 t.vs.length V.c2 (jaE jb1 t.vs)
 os:jaP w lo 3 1 V.A3 t.os.length V.c3 (jaE jiy t.os)
 a12:∀ b,ob V.A1=some b->ob V.A2≠some b
 a13:∀ b,ob V.A1=some b->ob V.A3≠some b
 a23:∀ b,ob V.A2=some b->ob V.A3≠some b
theorem jaw.tab {lo:Nat} {w:World} {V:jat} {t:Tab} (h:jaw lo w V t):jao w w.heap.size V t:=by
 obtain ⟨q1,d1,_,r1⟩:=h.ts;obtain ⟨q2,d2,_,r2⟩:=h.vs;obtain ⟨q3,d3,_,r3⟩:=h.os;exact ⟨jdS r1,jdW r2,jeQ r3,q1,q2,q3⟩
theorem jaw.grown {lo:Nat} {w w':World} {V:jat} {t:Tab} {row:Option Nat} (h:jaw lo w V t) (hg:w.grownBy w' row) (h1:∀ b,ob V.A1=some b->row≠some b) (h2:∀ b,ob V.A2=some b->row≠some b) (h3:∀ b,ob V.A3=some b->row≠some b):jaw lo w' V t :=
 ⟨jaK h.ts hg h1,jaK h.vs hg h2,jaK h.os hg h3,h.a12,h.a13,h.a23⟩
theorem jaw.below {lo:Nat} {w w':World} {V:jat} {t:Tab} (h:jaw lo w V t) (hb:Below w.heap.size w w'):jaw lo w' V t :=
 ⟨jc6 h.ts hb,jc6 h.vs hb,jc6 h.os hb,h.a12,h.a13,h.a23⟩
theorem jaw.from_ {lo:Nat} {w:World} {V:jat} {t:Tab} (h:jaw lo w V t):jay lo V:=by
 obtain ⟨q1,d1,_,r1⟩:=h.ts;obtain ⟨q2,d2,_,r2⟩:=h.vs;obtain ⟨q3,d3,_,r3⟩:=h.os;exact (ja8.from_ (V:=⟨V.A1,d1,V.A2,d2,V.A3,d3⟩) ⟨r1,r2,r3,h.a12,h.a13,h.a23⟩)
structure jcu (lo:Nat) (w:World) (p:Nat) (V:jat) (t:Tab):Prop where
 box:w.heap[p]? = some (.cells (jan V t) 35 (0,0))
 hp:lo<=p
 rows:jaw lo w V t
 p1:∀ b,ob V.A1=some b->p≠b
 p2:∀ b,ob V.A2=some b->p≠b
 p3:∀ b,ob V.A3=some b->p≠b
section
variable {lo p:Nat} {w w':World} {V:jat} {t:Tab}
theorem jcu.lt (h:jcu lo w p V t):p < w.heap.size:=(Array.getElem?_eq_some_iff.1 h.box).1
theorem jcu.lo_le (h:jcu lo w p V t):lo<=w.heap.size:=Nat.le_trans h.hp (Nat.le_of_lt h.lt)
theorem jcu.cells (h:jcu lo w p V t):w.cell? ⟨p,0,none⟩=some (.slice V.A1 t.ts.length V.c1)/\w.cell? ⟨p,1,none⟩=some (.slice V.A2 t.vs.length V.c2)/\w.cell? ⟨p,2,none⟩=some (.slice V.A3 t.os.length V.c3):=by
 have h:=h.box;unfold jan at h;exact ⟨by rw [cell_of_row _ _ _ _ _ _ h];rfl,by rw [cell_of_row _ _ _ _ _ _ h];rfl,by rw [cell_of_row _ _ _ _ _ _ h];rfl⟩
theorem jcu.thaw (h:jcu lo w p V t) (i:Nat):w.frozen? ⟨p,i,none⟩=false:=frozen_of_row _ _ _ _ _ h.box
theorem jcu.tab (h:jcu lo w p V t):jao w w.heap.size V t:=h.rows.tab
theorem jcu.below (h:jcu lo w p V t) (hb:Below w.heap.size w w'):jcu lo w' p V t:=⟨(hb.block _ h.lt).trans h.box,h.hp,h.rows.below hb,h.p1,h.p2,h.p3⟩
theorem jcu.turnT {W:World} {ts':List Ten} {A':Option Addr} {c':Nat} (h:jcu lo w p V t) (hrow:jaP w' lo 52 6 A' ts'.length c' (jaE jbP ts')) (hg:w.grownBy w' (ob V.A1)) (hA:ob A'=ob V.A1∨ob A'=none∨∃ b,ob A'=some b/\w.heap.size<=b)
  (hW:W.heap[p]? = some (.cells #[.slice A' ts'.length c',.slice V.A2 t.vs.length V.c2,.slice V.A3 t.os.length V.c3] 35 (0,0))) (hgW:w'.grownBy W (some p)):jcu lo W p { V with A1:=A',c1:=c' } { t with ts:=ts' }:=by
 have hne:∀ {A:Option Addr},(∀ b,ob V.A1=some b->ob A≠some b)->(∀ b,ob A=some b->b < w.heap.size)->∀ b,ob A'=some b->ob A≠some b:=fun {A} q1 q2 b hb hb2=>by
  rcases hA with e | e | ⟨b2,e,hl⟩
  ·exact q1 b (e ▸ hb) hb2
  ·rw [e] at hb;cases hb
  ·rw [e] at hb;injection hb with hb
   have:=q2 b hb2;omega
 have hp1:∀ b,ob A'=some b->p≠b:=fun b hb hpb=>by
  rcases hA with e | e | ⟨b2,e,hl⟩
  ·exact h.p1 b (e ▸ hb) hpb
  ·rw [e] at hb;cases hb
  ·rw [e] at hb;injection hb with hb
   have:=h.lt;omega
 have hv:=jaK h.rows.vs hg (fun b hb q=>h.rows.a12 b q (by exact hb));have ho:=jaK h.rows.os hg (fun b hb q=>h.rows.a13 b q (by exact hb));refine ⟨hW,h.hp,⟨jaK hrow hgW fun b hb q=>?_,jaK hv hgW fun b hb q=>?_,jaK ho hgW fun b hb q=>?_,hne h.rows.a12 fun b hb=>(jaU h.rows.vs b hb).2,hne h.rows.a13 fun b hb=>(jaU h.rows.os b hb).2,h.rows.a23⟩,hp1,h.p2,h.p3⟩
 ·injection q with q;exact hp1 b (by exact hb) q
 ·injection q with q;exact h.p2 b (by exact hb) q
 ·injection q with q;exact h.p3 b (by exact hb) q
theorem jcu.turnV {W:World} {vs':List Vol} {A':Option Addr} {c':Nat} (h:jcu lo w p V t) (hrow:jaP w' lo 82 4 A' vs'.length c' (jaE jb1 vs')) (hg:w.grownBy w' (ob V.A2)) (hA:ob A'=ob V.A2∨ob A'=none∨∃ b,ob A'=some b/\w.heap.size<=b)
  (hW:W.heap[p]? = some (.cells #[.slice V.A1 t.ts.length V.c1,.slice A' vs'.length c',.slice V.A3 t.os.length V.c3] 35 (0,0))) (hgW:w'.grownBy W (some p)):jcu lo W p { V with A2:=A',c2:=c' } { t with vs:=vs' }:=by
 have hp1:∀ b,ob A'=some b->p≠b:=fun b hb hpb=>by
  rcases hA with e | e | ⟨b2,e,hl⟩
  ·exact h.p2 b (e ▸ hb) hpb
  ·rw [e] at hb;cases hb
  ·rw [e] at hb;injection hb with hb
   have:=h.lt;omega
 have hv:=jaK h.rows.ts hg (fun b hb q=>h.rows.a12 b (by exact hb) q);have ho:=jaK h.rows.os hg (fun b hb q=>h.rows.a23 b q (by exact hb));refine ⟨hW,h.hp,⟨jaK hv hgW fun b hb q=>?_,jaK hrow hgW fun b hb q=>?_,jaK ho hgW fun b hb q=>?_,fun b hb hb2=>?_,h.rows.a13,fun b hb hb2=>?_⟩,h.p1,hp1,h.p3⟩
 ·injection q with q;exact h.p1 b (by exact hb) q
 ·injection q with q;exact hp1 b (by exact hb) q
 ·injection q with q;exact h.p3 b (by exact hb) q
 ·rcases hA with e | e | ⟨b2,e,hl⟩
  ·exact h.rows.a12 b hb (e ▸ hb2)
  ·rw [e] at hb2;cases hb2
  ·rw [e] at hb2;injection hb2 with hb2
   have:=(jaU h.rows.ts b hb).2;omega
 ·rcases hA with e | e | ⟨b2,e,hl⟩
  ·exact h.rows.a23 b (e ▸ hb) hb2
  ·rw [e] at hb;cases hb
  ·rw [e] at hb;injection hb with hb
   have:=(jaU h.rows.os b hb2).2;omega
theorem jcu.inT {ts':List Ten} {g:Nat} (h:jcu lo w p V t) (hA:V.A1=some ⟨g,0,none⟩) (hl:ts'.length=t.ts.length) (hrow:jaP w' lo 52 6 V.A1 t.ts.length V.c1 (jaE jbP ts')) (hg:w.grownBy w' (some g)):jcu lo w' p V { t with ts:=ts' }:=by
 have hob:ob V.A1=some g:=by rw [hA];rfl
 have hpg:=h.p1 g hob;refine ⟨?_,h.hp,⟨by rw [hl];exact hrow,jaK h.rows.vs hg (fun b hb q=>h.rows.a12 g hob (by rw [q];exact hb)),jaK h.rows.os hg (fun b hb q=>h.rows.a13 g hob (by rw [q];exact hb)),h.rows.a12,h.rows.a13,h.rows.a23⟩,h.p1,h.p2,h.p3⟩;have e:jan V { t with ts:=ts' } = jan V t:=by unfold jan;rw [hl]
 rw [e,hg.block p h.lt (fun q=>hpg (by injection q))];exact h.box
theorem jcu.inV {vs':List Vol} {g:Nat} (h:jcu lo w p V t) (hA:V.A2=some ⟨g,0,none⟩) (hl:vs'.length=t.vs.length) (hrow:jaP w' lo 82 4 V.A2 t.vs.length V.c2 (jaE jb1 vs')) (hg:w.grownBy w' (some g)):jcu lo w' p V { t with vs:=vs' }:=by
 have hob:ob V.A2=some g:=by rw [hA];rfl
 have hpg:=h.p2 g hob;refine ⟨?_,h.hp,⟨jaK h.rows.ts hg (fun b hb q=>h.rows.a12 b (by exact hb) (by rw [hob,q])),by rw [hl];exact hrow,jaK h.rows.os hg (fun b hb q=>h.rows.a23 g hob (by rw [q];exact hb)),h.rows.a12,h.rows.a13,h.rows.a23⟩,h.p1,h.p2,h.p3⟩;have e:jan V { t with vs:=vs' } = jan V t:=by unfold jan;rw [hl]
 rw [e,hg.block p h.lt (fun q=>hpg (by injection q))];exact h.box
theorem jcu.inO {os':List Int} {g:Nat} (h:jcu lo w p V t) (hA:V.A3=some ⟨g,0,none⟩) (hl:os'.length=t.os.length) (hrow:jaP w' lo 3 1 V.A3 t.os.length V.c3 (jaE jiy os')) (hg:w.grownBy w' (some g)):jcu lo w' p V { t with os:=os' }:=by
 have hob:ob V.A3=some g:=by rw [hA];rfl
 have hpg:=h.p3 g hob;refine ⟨?_,h.hp,⟨jaK h.rows.ts hg (fun b hb q=>h.rows.a13 b (by exact hb) (by rw [hob,q])),jaK h.rows.vs hg (fun b hb q=>h.rows.a23 b (by exact hb) (by rw [hob,q])),by rw [hl];exact hrow,h.rows.a12,h.rows.a13,h.rows.a23⟩,h.p1,h.p2,h.p3⟩;have e:jan V { t with os:=os' } = jan V t:=by unfold jan;rw [hl]
 rw [e,hg.block p h.lt (fun q=>hpg (by injection q))];exact h.box
end
section
variable {lo p:Nat} {w:World} {V:jat} {t:Tab}
theorem jcu.setT (h:jcu lo w p V t) {g k j:Nat} (hA:V.A1=some ⟨g,0,none⟩) (hk:k < t.ts.length) (hj:j < 6) (v:Value) (y:Ten) (hy:jbP y=(jbP t.ts[k]).set j v) :
  jcu lo (w.setCell ⟨g,k * 6 + j,none⟩ v) p V { t with ts:=t.ts.set k y }/\Below lo w (w.setCell ⟨g,k * 6 + j,none⟩ v):=by
 have hg:w.grownBy (w.setCell ⟨g,k * 6 + j,none⟩ v) (some g):=jal w g (k * 6 + j) [v];have hgl:=(jaU h.rows.ts g (by rw [hA];rfl)).1;exact ⟨h.inT hA (by simp) (jg7 jaF h.rows.ts hA rfl hk hj y hy) hg,jae (Below.refl _ _) hg h.lo_le hgl⟩
theorem jcu.setV (h:jcu lo w p V t) {g k j:Nat} (hA:V.A2=some ⟨g,0,none⟩) (hk:k < t.vs.length) (hj:j < 4) (v:Value) (y:Vol) (hy:jb1 y=(jb1 t.vs[k]).set j v) :
  jcu lo (w.setCell ⟨g,k * 4 + j,none⟩ v) p V { t with vs:=t.vs.set k y }/\Below lo w (w.setCell ⟨g,k * 4 + j,none⟩ v):=by
 have hg:w.grownBy (w.setCell ⟨g,k * 4 + j,none⟩ v) (some g):=jal w g (k * 4 + j) [v];have hgl:=(jaU h.rows.vs g (by rw [hA];rfl)).1;exact ⟨h.inV hA (by simp) (jg7 jaG h.rows.vs hA rfl hk hj y hy) hg,jae (Below.refl _ _) hg h.lo_le hgl⟩
theorem jcu.setO (h:jcu lo w p V t) {g k:Nat} (hA:V.A3=some ⟨g,0,none⟩) (hk:k < t.os.length) (n:Int) :
  jcu lo (w.setCell ⟨g,k,none⟩ (.int .i64 n)) p V { t with os:=t.os.set k n }/\Below lo w (w.setCell ⟨g,k,none⟩ (.int .i64 n)):=by
 have hg:w.grownBy (w.setCell ⟨g,k,none⟩ (.int .i64 n)) (some g):=jal w g k [.int .i64 n];have hgl:=(jaU h.rows.os g (by rw [hA];rfl)).1;have hf:=jg7 (j:=0) (v:=.int .i64 n) jbS h.rows.os hA rfl hk (by decide) n rfl;rw [Nat.mul_one,Nat.add_zero] at hf;exact ⟨h.inO hA (by simp) hf hg,jae (Below.refl _ _) hg h.lo_le hgl⟩
theorem jcu.foundO (h:jcu lo w p V t) {k:Nat} (hk:k < t.os.length):∃ g,V.A3=some ⟨g,0,none⟩/\lo<=g/\g < w.heap.size/\∀ X,Below w.heap.size w X->X.cell? ⟨g,k,none⟩=some (.int .i64 t.os[k])/\X.frozen? ⟨g,k,none⟩=false:=by
 obtain ⟨g,hA,hg,hgl,_,_,_⟩:=jgg jbS h.rows.os rfl hk;refine ⟨g,hA,hg,hgl,fun X hb=>?_⟩;obtain ⟨g2,hA2,_,_,_,hc,hf⟩:=jgg jbS (h.below hb).rows.os rfl hk;have:g2=g:=by rw [hA] at hA2;injection hA2 with q;injection q with q;exact q.symm
 subst this;have:=hc 0 _ rfl;rw [Nat.mul_one,Nat.add_zero] at this;exact ⟨this,hf _⟩
end
section
variable {lo p:Nat} {w w':World} {V:jat} {t:Tab}
theorem jcu.new (h:jaw lo w V t) (hl:lo<=w.heap.size):jcu lo (w.alloc (.cells (jan V t) 35)) w.heap.size V t:=by
 have hb0:Below w.heap.size w (w.alloc (.cells (jan V t) 35)):=(Below.refl _ _).alloc (Nat.le_refl _) _;refine ⟨heap_alloc_new w _,hl,h.below hb0,fun b hb e=>?_,fun b hb e=>?_,fun b hb e=>?_⟩
 ·have:=(jaU h.ts b hb).2;omega
 ·have:=(jaU h.vs b hb).2;omega
 ·have:=(jaU h.os b hb).2;omega
theorem jcu.tenAt (h:jcu lo w p V t) {k:Nat} (hk:k < t.ts.length):∃ g,V.A1=some ⟨g,0,none⟩/\lo<=g/\g < w.heap.size /\
  ∀ X,Below w.heap.size w X->(X.cell? ⟨g,k * 6,none⟩=some (.int .i64 t.ts[k].id)/\X.cell? ⟨g,k * 6 + 1,none⟩=some (.int .i64 t.ts[k].quota)/\X.cell? ⟨g,k * 6 + 2,none⟩=some (.int .i64 t.ts[k].rate)/\X.cell? ⟨g,k * 6 + 3,none⟩=some (.int .i64 t.ts[k].burst)/\X.cell? ⟨g,k * 6 + 4,none⟩=some (.string t.ts[k].key)/\X.cell? ⟨g,k * 6 + 5,none⟩=some (.bool t.ts[k].dying))/\∀ i,X.frozen? ⟨g,i,none⟩=false:=by
 obtain ⟨g,hA,hg,hgl,_,_,_⟩:=jgg jaF h.rows.ts rfl hk;refine ⟨g,hA,hg,hgl,fun X hb=>?_⟩;obtain ⟨g2,hA2,_,_,_,hc,hf⟩:=jgg jaF (h.below hb).rows.ts rfl hk;have:g2=g:=by rw [hA] at hA2;injection hA2 with q;injection q with q;exact q.symm
 subst this;exact ⟨⟨hc 0 _ rfl,hc 1 _ rfl,hc 2 _ rfl,hc 3 _ rfl,hc 4 _ rfl,hc 5 _ rfl⟩,hf⟩
theorem jcu.volAt (h:jcu lo w p V t) {k:Nat} (hk:k < t.vs.length):∃ g,V.A2=some ⟨g,0,none⟩/\lo<=g/\g < w.heap.size /\
  ∀ X,Below w.heap.size w X->(X.cell? ⟨g,k * 4,none⟩=some (.int .i64 t.vs[k].id)/\X.cell? ⟨g,k * 4 + 1,none⟩=some (.int .i64 t.vs[k].ten)/\X.cell? ⟨g,k * 4 + 2,none⟩=some (.int .i64 t.vs[k].blocks)/\X.cell? ⟨g,k * 4 + 3,none⟩=some (.int .i64 t.vs[k].base))/\∀ i,X.frozen? ⟨g,i,none⟩=false:=by
 obtain ⟨g,hA,hg,hgl,_,_,_⟩:=jgg jaG h.rows.vs rfl hk;refine ⟨g,hA,hg,hgl,fun X hb=>?_⟩;obtain ⟨g2,hA2,_,_,_,hc,hf⟩:=jgg jaG (h.below hb).rows.vs rfl hk;have:g2=g:=by rw [hA] at hA2;injection hA2 with q;injection q with q;exact q.symm
 subst this;exact ⟨⟨hc 0 _ rfl,hc 1 _ rfl,hc 2 _ rfl,hc 3 _ rfl⟩,hf⟩
end
def jqX:Array Value:=#[.slice none 0 0,.slice none 0 0,.slice none 0 0]
abbrev jbK (V:jat) (b:Nat):Prop:=ob V.A1=some b∨ob V.A2=some b∨ob V.A3=some b
def jcM (V:jat) (w w':World):Prop:=∀ b,b < w.heap.size->¬ jbK V b->w'.heap[b]? = w.heap[b]?
def jdi (V:jat) (w:World) (V':jat):Prop:=∀ b,jbK V' b->jbK V b∨w.heap.size<=b
structure Bx3 (lo:Nat) (w:World) (V0:jat) (r:Rc) (V:jat) (t:Tab) (X:World):Prop where
 bx:jcu lo X w.heap.size V t
 chg:X.heap[w.heap.size + 1]? = some (.cells (rcV r) 56 (0,0))
 res:X.heap[w.heap.size + 1 + 1]? = some (.cells #[.slice none 0 0,.slice none 0 0,.slice none 0 0] 35 (0,0))
 far:∀ b,ob V.A1=some b∨ob V.A2=some b∨ob V.A3=some b->b≠w.heap.size + 1/\b≠w.heap.size + 1 + 1
 below:Below lo w X
 kept:jcM V0 w X
 fresh:jdi V0 w V
section
variable {lo:Nat} {w X Y:World} {V V0:jat} {t:Tab} {r:Rc}
theorem Bx3.start (h:jaw lo w V t) (hl:lo<=w.heap.size) (r:Rc):Bx3 lo w V r V t (((w.alloc (.cells (jan V t) 35)).alloc (.cells (rcV r) 56)).alloc (.cells #[.slice none 0 0,.slice none 0 0,.slice none 0 0] 35)):=by
 have hb0:Below w.heap.size w (w.alloc (.cells (jan V t) 35)):=(Below.refl _ _).alloc (Nat.le_refl _) _;have hs0:(w.alloc (.cells (jan V t) 35)).heap.size=w.heap.size + 1:=by simp
 have hs1:((w.alloc (.cells (jan V t) 35)).alloc (.cells (rcV r) 56)).heap.size=w.heap.size + 1 + 1:=by simp
 have hb1:Below (w.alloc (.cells (jan V t) 35)).heap.size (w.alloc (.cells (jan V t) 35)) (((w.alloc (.cells (jan V t) 35)).alloc (.cells (rcV r) 56)).alloc (.cells #[.slice none 0 0,.slice none 0 0,.slice none 0 0] 35)) :=
  jaa ((Below.refl _ _).alloc (Nat.le_refl _) _) ((Below.refl _ _).alloc (Nat.le_refl _) _)
 refine ⟨(jcu.new h hl).below hb1,?_,?_,fun b hb=>?_,(jaa hb0 hb1).mono hl,fun b hb _=>(jaa hb0 hb1).block b hb,fun b hb=>.inl hb⟩
 ·have q:=heap_alloc_new (w.alloc (.cells (jan V t) 35)) (.cells (rcV r) 56);rw [hs0] at q;exact (Below.heap_alloc _ _ _ (by rw [hs1];omega)).trans q
 ·have q:=heap_alloc_new ((w.alloc (.cells (jan V t) 35)).alloc (.cells (rcV r) 56)) (.cells #[.slice none 0 0,.slice none 0 0,.slice none 0 0] 35)
  rwa [hs1] at q
 ·have:b < w.heap.size:=by
   rcases hb with hb | hb | hb
   ·exact (jaU h.ts b hb).2
   ·exact (jaU h.vs b hb).2
   ·exact (jaU h.os b hb).2
  omega
theorem Bx3.lo_le (h:Bx3 lo w V0 r V t X):lo<=X.heap.size:=h.bx.lo_le
theorem Bx3.lo_p (h:Bx3 lo w V0 r V t X):lo<=w.heap.size:=h.bx.hp
theorem Bx3.later (h:Bx3 lo w V0 r V t X) (hb:Below X.heap.size X Y):Bx3 lo w V0 r V t Y :=
 have hb':=hb
 ⟨h.bx.below hb,(hb.block _ (Array.getElem?_eq_some_iff.1 h.chg).1).trans h.chg,(hb.block _ (Array.getElem?_eq_some_iff.1 h.res).1).trans h.res,h.far,h.below.trans (hb.mono h.lo_le),fun b hb hn=>(hb'.block b (Nat.lt_of_lt_of_le hb h.below.size)).trans (h.kept b hb hn),h.fresh⟩
theorem Bx3.turned {t':Tab} {g:Nat} (h:Bx3 lo w V0 r V t X) (hbx:jcu lo Y w.heap.size V t') (hg:X.grownBy Y (some g)) (hb:Below lo X Y) (hm:ob V.A1=some g∨ob V.A2=some g∨ob V.A3=some g):Bx3 lo w V0 r V t' Y:=by
 obtain ⟨n1,n2⟩:=h.far g hm;exact ⟨hbx,(hg.block _ (Array.getElem?_eq_some_iff.1 h.chg).1 (fun e=>by injection e with e;exact n1 e.symm)).trans h.chg,(hg.block _ (Array.getElem?_eq_some_iff.1 h.res).1 (fun e=>by injection e with e;exact n2 e.symm)).trans h.res,h.far,h.below.trans (hb.mono (Nat.le_refl _)),fun b hb2 hn=>(hg.block b (Nat.lt_of_lt_of_le hb2 h.below.size) (fun e=>by injection e with e;subst e;rcases h.fresh b hm with q | q;exact hn q;omega)).trans (h.kept b hb2 hn),h.fresh⟩
theorem Bx3.setT (h:Bx3 lo w V0 r V t X) {g k j:Nat} (hA:V.A1=some ⟨g,0,none⟩) (hk:k < t.ts.length) (hj:j < 6) (v:Value) (y:Ten) (hy:jbP y=(jbP t.ts[k]).set j v):Bx3 lo w V0 r V { t with ts:=t.ts.set k y } (X.setCell ⟨g,k * 6 + j,none⟩ v):=by
 obtain ⟨q1,q2⟩:=h.bx.setT hA hk hj v y hy;exact h.turned q1 (jal X g (k * 6 + j) [v]) q2 (.inl (by rw [hA];rfl))
theorem Bx3.setV (h:Bx3 lo w V0 r V t X) {g k j:Nat} (hA:V.A2=some ⟨g,0,none⟩) (hk:k < t.vs.length) (hj:j < 4) (v:Value) (y:Vol) (hy:jb1 y=(jb1 t.vs[k]).set j v):Bx3 lo w V0 r V { t with vs:=t.vs.set k y } (X.setCell ⟨g,k * 4 + j,none⟩ v):=by
 obtain ⟨q1,q2⟩:=h.bx.setV hA hk hj v y hy;exact h.turned q1 (jal X g (k * 4 + j) [v]) q2 (.inr (.inl (by rw [hA];rfl)))
theorem Bx3.setO (h:Bx3 lo w V0 r V t X) {g k:Nat} (hA:V.A3=some ⟨g,0,none⟩) (hk:k < t.os.length) (n:Int):Bx3 lo w V0 r V { t with os:=t.os.set k n } (X.setCell ⟨g,k,none⟩ (.int .i64 n)):=by
 obtain ⟨q1,q2⟩:=h.bx.setO hA hk n;exact h.turned q1 (jal X g k [.int .i64 n]) q2 (.inr (.inr (by rw [hA];rfl)))
theorem Bx3.cells (h:Bx3 lo w V0 r V t X):X.cell? ⟨w.heap.size,0,none⟩=some (.slice V.A1 t.ts.length V.c1)/\X.cell? ⟨w.heap.size,1,none⟩=some (.slice V.A2 t.vs.length V.c2)/\X.cell? ⟨w.heap.size,2,none⟩=some (.slice V.A3 t.os.length V.c3):=h.bx.cells
theorem Bx3.recs (h:Bx3 lo w V0 r V t X):X.cell? ⟨w.heap.size + 1,0,none⟩=some (.int .i64 r.k)/\X.cell? ⟨w.heap.size + 1,1,none⟩=some (.int .i64 r.a)/\X.cell? ⟨w.heap.size + 1,2,none⟩=some (.int .i64 r.b)/\X.cell? ⟨w.heap.size + 1,3,none⟩=some (.int .i64 r.c)/\X.cell? ⟨w.heap.size + 1,4,none⟩=some (.int .i64 r.d)/\X.cell? ⟨w.heap.size + 1,5,none⟩=some (.string r.key):=by
 have q:=h.chg;unfold rcV at q;exact ⟨by rw [cell_of_row _ _ _ _ _ _ q];rfl,by rw [cell_of_row _ _ _ _ _ _ q];rfl,by rw [cell_of_row _ _ _ _ _ _ q];rfl,by rw [cell_of_row _ _ _ _ _ _ q];rfl,by rw [cell_of_row _ _ _ _ _ _ q];rfl,by rw [cell_of_row _ _ _ _ _ _ q];rfl⟩
theorem Bx3.ress (h:Bx3 lo w V0 r V t X):(X.cell? ⟨w.heap.size + 1 + 1,0,none⟩=some (.slice none 0 0)/\X.cell? ⟨w.heap.size + 1 + 1,1,none⟩=some (.slice none 0 0)/\X.cell? ⟨w.heap.size + 1 + 1,2,none⟩=some (.slice none 0 0))/\X.frozen? ⟨w.heap.size + 1 + 1,0,none⟩=false/\X.frozen? ⟨w.heap.size + 1 + 1,1,none⟩=false/\X.frozen? ⟨w.heap.size + 1 + 1,2,none⟩=false :=
 ⟨jjf h.res,frozen_of_row _ _ 0 _ _ h.res,frozen_of_row _ _ 1 _ _ h.res,frozen_of_row _ _ 2 _ _ h.res⟩
def jcd (lo:Nat) (w:World) (V0:jat) (R:Int × Tab) (e:Ending) (w':World):Prop:=∃ V',e=.returned (.tuple #[.agg (jan V' R.2),.int .i64 R.1])/\jaw lo w' V' R.2/\Below lo w w'/\jcM V0 w w'/\jdi V0 w V'
theorem Bx3.ret (h:Bx3 lo w V0 r V t X):(((X.setCell ⟨w.heap.size + 1 + 1,0,none⟩ (.slice V.A1 t.ts.length V.c1)).setCell ⟨w.heap.size + 1 + 1,1,none⟩ (.slice V.A2 t.vs.length V.c2)).setCell ⟨w.heap.size + 1 + 1,2,none⟩ (.slice V.A3 t.os.length V.c3)).heap[w.heap.size + 1 + 1]? = some (.cells #[.slice V.A1 t.ts.length V.c1,.slice V.A2 t.vs.length V.c2,.slice V.A3 t.os.length V.c3] 35 (0,0)) /\
  jaw lo (((X.setCell ⟨w.heap.size + 1 + 1,0,none⟩ (.slice V.A1 t.ts.length V.c1)).setCell ⟨w.heap.size + 1 + 1,1,none⟩ (.slice V.A2 t.vs.length V.c2)).setCell ⟨w.heap.size + 1 + 1,2,none⟩ (.slice V.A3 t.os.length V.c3)) V t /\
  Below lo w (((X.setCell ⟨w.heap.size + 1 + 1,0,none⟩ (.slice V.A1 t.ts.length V.c1)).setCell ⟨w.heap.size + 1 + 1,1,none⟩ (.slice V.A2 t.vs.length V.c2)).setCell ⟨w.heap.size + 1 + 1,2,none⟩ (.slice V.A3 t.os.length V.c3))/\jcM V0 w (((X.setCell ⟨w.heap.size + 1 + 1,0,none⟩ (.slice V.A1 t.ts.length V.c1)).setCell ⟨w.heap.size + 1 + 1,1,none⟩ (.slice V.A2 t.vs.length V.c2)).setCell ⟨w.heap.size + 1 + 1,2,none⟩ (.slice V.A3 t.os.length V.c3))/\jdi V0 w V:=by
 obtain ⟨q1,q2⟩:=jd4 (.slice V.A1 t.ts.length V.c1) (.slice V.A2 t.vs.length V.c2) (.slice V.A3 t.os.length V.c3) h.res;refine ⟨q1,h.bx.rows.grown q2 (fun b hb e=>?_) (fun b hb e=>?_) (fun b hb e=>?_),jae h.below q2 h.lo_le (by have:=h.lo_p;omega),fun b hb hn=>(q2.block b (Nat.lt_of_lt_of_le hb h.below.size) (fun e=>by injection e with e;omega)).trans (h.kept b hb hn),h.fresh⟩
 ·injection e with e;exact (h.far b (.inl hb)).2 e.symm
 ·injection e with e;exact (h.far b (.inr (.inl hb))).2 e.symm
 ·injection e with e;exact (h.far b (.inr (.inr hb))).2 e.symm
end
set_option maxHeartbeats 6400000
set_option maxRecDepth 20000
theorem jdC (V:jat) (t:Tab) (id:Int) (w:World) (h:jao w w.heap.size V t) (hm:t.vs.length<=9223372036854775807) :
  Calls Tryz.prog 49 #[.agg (jan V t),.int .i64 id] w fun e w'=>e=.returned (.int .i64 (jhs t.vs id))/\Below w.heap.size w w':=by
 obtain ⟨F0,F1,F2,hb0⟩:=jca w (.slice V.A1 t.ts.length V.c1) (.slice V.A2 t.vs.length V.c2) (.slice V.A3 t.os.length V.c3) 35;have HT:=Lib.hid (h.vs.below hb0);have hle:=h.l2;obtain ⟨ts,vs,os⟩:=t;obtain ⟨A1,c1,A2,c2,A3,c3⟩:=V;simp only [jan] at F0 F1 F2 hb0 HT hle hm ⊢;obtain ⟨N,hN⟩:∃ N,N=ts.length:=⟨_,rfl⟩;obtain ⟨N2,hN2⟩:∃ N,N=vs.length:=⟨_,rfl⟩;obtain ⟨N3,hN3⟩:∃ N,N=os.length:=⟨_,rfl⟩;rw [<- hN,<- hN2,<- hN3] at F0 F1 F2 hb0 ⊢;rw [<- hN2] at hm hle;simp only [<- hN,<- hN2,<- hN3] at HT;have HN:=Lib.hid hN2;obtain ⟨W0,hW0⟩:∃ W,W=w.alloc (.cells #[.slice A1 N c1,.slice A2 N2 c2,.slice A3 N3 c3] 35):=⟨_,rfl⟩;have HW:=Lib.hid hW0;rw [<- hW0] at F0 F1 F2 hb0 HT;clear h hN hN2 hN3;go_enter Tryz.func49,Tryz.ntmps49;go_wp2;rw [<- hW0];clear hW0
 go_loopw [5] (fun i wr=>∃ k:Nat,k<=N2/\i=.int .i64 k/\Hid (∀ j,(h:j < vs.length)->j < k->vs[j].id≠id)/\wr=W0) (fun i _=>N2 - (intOf i).toNat)
 case atStart=>exact ⟨0,Nat.zero_le _,rfl,fun j _ hj=>absurd hj (Nat.not_lt_zero j),rfl⟩
 case round =>
  obtain ⟨k,hk,rfl,hall,rfl⟩:=hrel;have k0:(0:Int)<=(k:Int):=by omega
  by_cases hlt:k < N2
  ·have hkx:k < vs.length:=by have:=HN.out;omega
   have k1:(k:Int) < (N2:Int):=by omega
   obtain ⟨b,off,rfl,_,q0,_⟩:=HT.out k hkx;by_cases he:vs[k].id=id
   ·have HE:=Lib.hid (jiI hkx he hall.out);obtain ⟨p,hp⟩:∃ p,p=vs[k].id:=⟨_,rfl⟩;rw [<- hp] at q0 he;have d:(p == id)=true:=beq_iff_eq.2 he;clear hp he;go_wp2;go_ret;exact ⟨by rw [HE.out];rfl,hb0⟩
   ·have HYES:Hid (∀ j,(h:j < vs.length)->j < k + 1->vs[j].id≠id):=fun j hj hj2=>by
     rcases Nat.lt_or_ge j k with g | g
     ·exact hall.out j hj g
     ·have:j=k:=by omega
      subst this;exact he
    obtain ⟨p,hp⟩:∃ p,p=vs[k].id:=⟨_,rfl⟩;rw [<- hp] at q0 he;have d:(p == id)=false:=beq_eq_false_iff_ne.2 he;clear hp he;go_wp2;go_roundw
    case rel=>exact ⟨k + 1,by omega,by go_num,HYES,by first | rfl | trivial⟩
    case measure=>first | (simp [intOf];done) | (simp [intOf];omega)
  ·have hkN:k=N2:=by omega
   have HE:Hid (jhs vs id = -1):=jiQ fun j hj=>hall.out j hj (by have:=HN.out;omega)
   have k1:¬ (k:Int) < (N2:Int):=by omega
   clear hkN;go_wp2;go_ret;exact ⟨by rw [HE.out];rfl,hb0⟩
end Go.Proofs.YtbnhkplhmanmoaaGreat
