/- . -/
import Derived.Test.YtbnhkplhmanmoaaGreatVaultHoldG
import Derived.Test.YtbnhkplhmanmoaaGreatTableAskG
import Derived.Tactics
import Derived.Tactics2
import Derived.LoopTactic
import Derived.OpenShut
import Derived.WalkLawsBesides
import Derived.BigQuiet
import Derived.Deep.RegionWith
import Derived.Deep.OwnRows
import Derived.Lib.Hide
import Derived.Test.YtbnhkplhmanmoaaGreatTkG
import Derived.Deep.MidRow
import Derived.Test.YtbnhkplhmanmoaaGreatChecked
import Derived.Lib.AppendStr
import Derived.Deep.RegionHeld3
import Derived.Deep.DeepCutAuto
import Derived.Deep.TreeCalls
namespace Go.Proofs.YtbnhkplhmanmoaaGreat
open Go.RowKit
def joJ (w:World):World:={ w with heap:=#[] }
theorem jct (w:World):Below (joJ w).heap.size (joJ w) w:=⟨rfl,rfl,rfl,Nat.zero_le _,fun k hk=>absurd hk (Nat.not_lt_zero k)⟩
structure jbX (Rep:World->Nat->(Nat->Prop)->Dk->Prop):Prop where
 d:∀ w,jd7 w Rep
 l:∀ w,jjG w
 t:∀ w,jhR w
section
variable {Rep:World->Nat->(Nat->Prop)->Dk->Prop} (L:jbX Rep)
include L
theorem jbX.keep {w w':World} {p:Nat} {F:Nat->Prop} {s:Dk} (h:Rep w p F s) (hb:Below w.heap.size w w'):Rep w' p F s:=(L.d w).later h hb
theorem jbX.lt {w:World} {p:Nat} {F:Nat->Prop} {s:Dk} (h:Rep w p F s) {b:Nat} (hb:F b):b < w.heap.size:=(L.d w).lt w p F s h b hb
theorem jbX.read {i p:Nat} {F:Nat->Prop} {s:Dk} {w:World} (h:Rep w p F s) (he:jcR s (i:Int)=0):Calls Tryz.prog 106 #[.pointer (some ⟨p,0,none⟩),.int .i64 (i:Int)] w fun e w'=>∃ A c,e=.returned (.tuple #[.slice A 64 c,.int .i64 0])/\64<=c/\Got w w' A (jjQ s i)/\Below w.heap.size w w' :=
 (L.d (joJ w)).read i p F s w (jct w) h (fun _ _=>Nat.zero_le _) he
theorem jbX.last {i p:Nat} {F:Nat->Prop} {s:Dk} {w:World} (h:Rep w p F s) (he:jds s (i:Int)=0):Calls Tryz.prog 33 #[.pointer (some ⟨p,0,none⟩),.int .i64 (i:Int)] w fun e w'=>∃ A c,e=.returned (.tuple #[.slice A 64 c,.int .i64 0])/\64<=c/\Got w w' A (s.last.getD i [])/\Below w.heap.size w w' :=
 (L.d (joJ w)).last i p F s w (jct w) h (fun _ _=>Nat.zero_le _) he
theorem jbX.write {n:Int} {A:Option Addr} {c:Nat} {t:List Nat} {p:Nat} {F:Nat->Prop} {s:Dk} {w:World} (hn:jeI n) (hi:jaO w w.heap.size .u8 A (up t)) (hs:Sec t) (hc:64<=c) (ho:Off F A 64) (hp:s.pend.length<=2147483647) (h:Rep w p F s) :
  Calls Tryz.prog 81 #[.pointer (some ⟨p,0,none⟩),.int .i64 n,.slice A 64 c] w fun e w'=>∃ F',e=.returned (.int .i64 (ja5 s n t))/\Rep w' p F' (jbl s n t)/\jcx F F' w.heap.size/\jaM F w w':=by
 have:=(L.d (joJ w)).write n A c t p F s w (jct w) hn hi hs.2 (by rw [hs.1];exact hc) (by rw [hs.1];decide) (by rw [hs.1];exact ho) hp h (fun _ _=>Nat.zero_le _)
 rwa [hs.1] at this
theorem jbX.flush {p:Nat} {F:Nat->Prop} {s:Dk} {w:World} (h:Rep w p F s):Calls Tryz.prog 83 #[.pointer (some ⟨p,0,none⟩)] w fun e w'=>∃ F',e=.returned (.int .i64 (jbu s))/\Rep w' p F' (jbD s)/\jcx F F' w.heap.size/\jaM F w w' :=
 (L.d (joJ w)).flush p F s w (jct w) h (fun _ _=>Nat.zero_le _)
theorem jbX.limit {n:Int} {p:Nat} {F:Nat->Prop} {s:Dk} {w:World} (hn:jeI n) (h:Rep w p F s):Calls Tryz.prog 12 #[.pointer (some ⟨p,0,none⟩),.int .i64 n] w fun e w'=>∃ F',e=.returned (.tuple #[])/\Rep w' p F' (jf6 s n)/\jcx F F' w.heap.size/\jaM F w w' :=
 (L.d (joJ w)).limit n p F s w (jct w) hn h (fun _ _=>Nat.zero_le _)
theorem jbX.crash {A:Option Addr} {c:Nat} {l:List Bool} {p:Nat} {F:Nat->Prop} {s:Dk} {w:World} (hb:jdm w w.heap.size A l) (hc:l.length<=c) (hl:l.length<=140737488355328) (ho:Off F A l.length) (h:Rep w p F s) :
  Calls Tryz.prog 13 #[.pointer (some ⟨p,0,none⟩),.slice A l.length c] w fun e w'=>∃ F',e=.returned (.tuple #[])/\Rep w' p F' (jbZ s l)/\jcx F F' w.heap.size/\jaM F w w' :=
 (L.d (joJ w)).crash A c l p F s w (jct w) hb hc hl ho h (fun _ _=>Nat.zero_le _)
theorem jbX.enc {l:Ln} {w:World} (ho:l.ok) (he:jdj l=0):Calls Tryz.prog 80 #[.agg (lnV l)] w fun e w'=>∃ A c,e=.returned (.tuple #[.slice A 64 c,.int .i64 0])/\64<=c/\jov w w' A (jcA l)/\Below w.heap.size w w' :=
 ((L.l w).enc l w (Below.refl _ _) ho he).mono fun _ _ ⟨A,c,h1,h2,_,h4,h5⟩=>⟨A,c,h1,h2,h4,h5⟩
theorem jbX.dec {A:Option Addr} {c:Nat} {b:List Int} {w:World} (hi:jaO w w.heap.size .u8 A b) (hb:∀ z∈b,0<=z/\z<=255) (hl:b.length=64) (hc:64<=c) :
  Calls Tryz.prog 86 #[.slice A 64 c] w fun e w'=>e=.returned (.tuple #[.agg (lnV (jbF b).2),.int .i64 (jbF b).1])/\Below w.heap.size w w':=by
 have:=(L.l w).dec A c b w (Below.refl _ _) hi hb (by omega) (by omega)
 rwa [hl] at this
end
def hdV (a g:Int) (A:Option Addr) (n c:Nat):Array Value:=#[.int .i64 a,.int .i64 g,.slice A n c]
def lgV (a g u:Int):Array Value:=#[.int .i64 a,.int .i64 g,.int .i64 u]
def vtC (d:Option Addr) (V:jat) (t:Tab) (a g u:Int):Array Value:=#[.pointer d,.slice V.A1 t.ts.length V.c1,.slice V.A2 t.vs.length V.c2,.slice V.A3 t.os.length V.c3,.int .i64 a,.int .i64 g,.int .i64 u]
theorem jhS (a i:Nat) (w:World) (ha:a < 2) (hi:i < 193):Calls Tryz.prog 82 #[.int .i64 (a:Int),.int .i64 (i:Int)] w fun e w'=>e=.returned (.int .i64 ((a * 192 + i:Nat):Int))/\w=w':=by
 have h1:((a * 192 + i:Nat):Int)=(a:Int) * 192 + (i:Int):=by omega
 rw [h1];have h2:(a:Int)<=1:=by omega
 have h3:(i:Int)<=192:=by omega
 clear h1;go_enter Tryz.func82,Tryz.ntmps82;go_wp2;go_ret;exact ⟨rfl,rfl⟩
theorem jgM (g:Int) (w:World) (h0:0<=g) (h1:g<=2147483646):Calls Tryz.prog 110 #[.int .i64 g] w fun e w'=>e=.returned (.int .i64 (g + 1))/\w=w':=by
 have hr:Int.tmod g 2147483647=g:=by rw [Int.tmod_eq_emod_of_nonneg h0];omega
 go_enter Tryz.func110,Tryz.ntmps110;go_wp2;go_ret;exact ⟨rfl,rfl⟩
theorem jnf (a g u:Int) (w:World) (h0:0<=u) (h1:u<=192):Calls Tryz.prog 40 #[.agg (lgV a g u)] w fun e w'=>e=.returned (.int .i64 (192 - u))/\Below w.heap.size w w':=by
 have hg:=heap_alloc_new w (.cells (lgV a g u) 66);have hb:Below w.heap.size w (w.alloc (.cells (lgV a g u) 66)):=(Below.refl _ _).alloc (Nat.le_refl _) _;unfold lgV at hg hb ⊢;obtain ⟨W,hW⟩:∃ W,W=w.alloc (.cells #[.int .i64 a,.int .i64 g,.int .i64 u] 66):=⟨_,rfl⟩;rw [<- hW] at hg hb;have c2:W.cell? ⟨w.heap.size,2,none⟩=some (.int .i64 u):=by rw [cell_of_row _ _ _ _ _ _ hg];rfl
 clear hg;go_enter Tryz.func40,Tryz.ntmps40
 go_wp2_with fail
 rw [<- hW];go_wp2;go_ret;exact ⟨rfl,hb⟩
theorem jnJ (a g:Int) (A:Option Addr) (n c:Nat) (a2 g2:Int) (A2:Option Addr) (n2 c2:Nat) (w:World) :
  Calls Tryz.prog 59 #[.agg (hdV a g A n c),.agg (hdV a2 g2 A2 n2 c2)] w fun e w'=>e=.returned (.bool (decide (0 < n) && (decide (n2=0) || decide (g2 < g))))/\Below w.heap.size w w':=by
 have hg0:=heap_alloc_new w (.cells (hdV a g A n c) 87);have hb0:Below w.heap.size w (w.alloc (.cells (hdV a g A n c) 87)):=(Below.refl _ _).alloc (Nat.le_refl _) _;obtain ⟨W0,hW0⟩:∃ W,W=w.alloc (.cells (hdV a g A n c) 87):=⟨_,rfl⟩;rw [<- hW0] at hg0 hb0;have hg1:=heap_alloc_new W0 (.cells (hdV a2 g2 A2 n2 c2) 87);have hb1:Below W0.heap.size W0 (W0.alloc (.cells (hdV a2 g2 A2 n2 c2) 87)):=(Below.refl _ _).alloc (Nat.le_refl _) _;obtain ⟨W1,hW1⟩:∃ W,W=W0.alloc (.cells (hdV a2 g2 A2 n2 c2) 87):=⟨_,rfl⟩;rw [<- hW1] at hg1 hb1;have hg0:=(hb1.block _ (Array.getElem?_eq_some_iff.1 hg0).1).trans hg0;have hb2:=jaa hb0 hb1;have hsz:W0.heap.size=w.heap.size + 1:=by rw [hW0];simp
 rw [hsz] at hg1;unfold hdV at hg0 hg1 hW0 hW1 ⊢;have c1:W1.cell? ⟨w.heap.size,1,none⟩=some (.int .i64 g):=by rw [cell_of_row _ _ _ _ _ _ hg0];rfl
 have c2':W1.cell? ⟨w.heap.size,2,none⟩=some (.slice A n c):=by rw [cell_of_row _ _ _ _ _ _ hg0];rfl
 have d1:W1.cell? ⟨w.heap.size + 1,1,none⟩=some (.int .i64 g2):=by rw [cell_of_row _ _ _ _ _ _ hg1];rfl
 have d2:W1.cell? ⟨w.heap.size + 1,2,none⟩=some (.slice A2 n2 c2):=by rw [cell_of_row _ _ _ _ _ _ hg1];rfl
 have HB:=Lib.hid hb2;clear hg0 hg1 hb0 hb1 hb2 hsz;by_cases hn:0 < n
 ·have e1:(0:Int) < (n:Int):=by omega
  by_cases hn2:n2=0
  ·subst hn2;rw [decide_eq_true hn,decide_eq_true (rfl:0=0)];clear hn;go_enter Tryz.func59,Tryz.ntmps59
   go_wp2_with fail
   rw [<- hW0,<- hW1];clear hW0 hW1;go_wp2;go_ret;exact ⟨rfl,HB.out⟩
  ·have e2:((n2:Int) == 0)=false:=by rw [beq_eq_false_iff_ne];omega
   rw [decide_eq_true hn,decide_eq_false hn2];by_cases hgg:g2 < g
   ·rw [decide_eq_true hgg];clear hn hn2;go_enter Tryz.func59,Tryz.ntmps59
    go_wp2_with fail
    rw [<- hW0,<- hW1];clear hW0 hW1;go_wp2;go_ret;exact ⟨rfl,HB.out⟩
   ·rw [decide_eq_false hgg];clear hn hn2;go_enter Tryz.func59,Tryz.ntmps59
    go_wp2_with fail
    rw [<- hW0,<- hW1];clear hW0 hW1;go_wp2;go_ret;exact ⟨rfl,HB.out⟩
 ·have e1:¬ (0:Int) < (n:Int):=by omega
  rw [decide_eq_false hn];clear hn;go_enter Tryz.func59,Tryz.ntmps59
  go_wp2_with fail
  rw [<- hW0,<- hW1];clear hW0 hW1;go_wp2;go_ret;exact ⟨rfl,HB.out⟩
section
variable {Rep:World->Nat->(Nat->Prop)->Dk->Prop} (L:jbX Rep)
include L
theorem jlJ (p:Nat) (F:Nat->Prop) (s:Dk) (w:World) (h:Rep w p F s) (hl:384<=s.last.length):Calls Tryz.prog 20 #[.pointer (some ⟨p,0,none⟩)] w fun e w'=>e=.returned (.bool true)/\Below w.heap.size w w':=by
 have H:=Lib.hid (L.last (i:=383) h (by unfold jds;rw [if_neg (jlO (by omega))]));clear h hl;go_enter Tryz.func20,Tryz.ntmps20
 go_wp2_with (go_at_call 33;with_reducible (refine Calls.mono H.out ?_);rintro e w1 ⟨A,c,rfl,_,_,hb⟩)
 go_ret;exact ⟨rfl,hb⟩
end
theorem jnh {w w':World} {base e size n:Nat} {row:Option Nat} {v:Value} {xs:List Value} (h:w.ownsRow base e size v n xs) (hg:w.grownBy w' row) (hne:∀ q,row=some q->v.ownBlock≠some q):w'.ownsRow base e size v n xs:=by
 refine h.kept hg ?_;cases hv:v.ownBlock with
 | none=>exact Or.inl rfl
 | some q=>exact Or.inr fun e=>hne q e.symm hv
def jjk (v u:Value):Prop:=∀ q,v.ownBlock=some q->u.ownBlock≠some q
theorem jjk.symm {v u:Value} (h:jjk v u):jjk u v:=fun q hu hv=>h q hv hu
theorem jjk.grown {v u v':Value} {N:Nat} (h:jjk v u) (hu:∀ q,u.ownBlock=some q->q < N) (hv:v'.ownBlock=v.ownBlock∨v'.ownBlock=some N):jjk v' u:=fun q hq hqu=>by
 rcases hv with e | e
 ·exact h q (e ▸ hq) hqu
 ·have:=hu q hqu;rw [e] at hq;injection hq with hq;omega
def jaE {α:Type} (E:α->List Value) (l:List α):List Value:=l.flatMap E
section
variable {α:Type} {E:α->List Value} {e:Nat}
theorem jaY (hE:∀ x,(E x).length=e):∀ l:List α,(jaE E l).length=l.length * e
 | []=>by simp [jaE]
 | x :: l=>by
  have ih:=jaY hE l;unfold jaE at ih ⊢;rw [List.flatMap_cons,List.length_append,ih,hE,List.length_cons,Nat.add_mul];omega
theorem jdw (l:List α) (x:α):jaE E (l ++ [x])=jaE E l ++ E x:=by simp [jaE]
theorem jdT (l r:List α):jaE E (l ++ r)=jaE E l ++ jaE E r:=by simp [jaE]
theorem jdn (hE:∀ x,(E x).length=e):∀ (l:List α) (k:Nat) (h:k < l.length) (j:Nat),j < e->(jaE E l)[k * e + j]? = (E l[k])[j]?
 | x :: l,0,_,j,hj=>by
  unfold jaE;rw [List.flatMap_cons,Nat.zero_mul,Nat.zero_add,List.getElem?_append_left (by rw [hE];exact hj)];simp
 | x :: l,k + 1,h,j,hj=>by
  have ih:=jdn hE l k (by simpa using h) j hj;unfold jaE at ih ⊢;rw [List.flatMap_cons,List.getElem?_append_right (by rw [hE,Nat.add_mul];omega),hE,Nat.add_mul,show k * e + 1 * e + j - e=k * e + j by omega,ih];rfl
theorem jcw (hE:∀ x,(E x).length=e) (l:List α) {i:Nat} (hi:i < l.length * e):∃ k j,∃ h:k < l.length,j < e/\i=k * e + j/\(jaE E l)[i]? = (E l[k])[j]?:=by
 have he:0 < e:=Nat.pos_of_ne_zero fun h=>by subst h;omega
 have hk:i / e < l.length:=(Nat.div_lt_iff_lt_mul he).2 hi;have hd:=Nat.div_add_mod i e;have hm:=Nat.mod_lt i he;have hi2:i=i / e * e + i % e:=by rw [Nat.mul_comm];exact hd.symm
 refine ⟨i / e,i % e,hk,hm,hi2,?_⟩;have h:=jdn hE l _ hk _ hm
 rwa [<- hi2] at h
theorem jd2 (g:Nat) (t:TypeId):∀ (vs:List Value) (o:Nat) (w:World) (C:Array Value),w.heap[g]? = some (.cells C t (0,0))->o + vs.length<=C.size ->
  ∃ C':Array Value,(w.setCells g o vs).heap[g]? = some (.cells C' t (0,0))/\C'.size=C.size/\∀ i,C'[i]? = if o<=i/\i < o + vs.length then vs[i - o]? else C[i]?
 | [],o,w,C,h,_=>⟨C,h,rfl,fun i=>by rw [if_neg (by have:([]:List Value).length=0:=rfl;omega)]⟩
 | v :: r,o,w,C,h,hl=>by
  have h1:(w.setCell ⟨g,o,none⟩ v).heap[g]? = some (.cells (C.setIfInBounds o v) t (0,0)):=by simp [World.setCell,Array.getElem?_modify,h]
  simp only [List.length_cons] at hl;obtain ⟨C',a,b,c⟩:=jd2 g t r (o + 1) _ _ h1 (by rw [Array.size_setIfInBounds];omega);refine ⟨C',a,b.trans Array.size_setIfInBounds,fun i=>?_⟩;rw [c i];by_cases h2:o + 1<=i/\i < o + 1 + r.length
  ·rw [if_pos h2,if_pos (by simp only [List.length_cons];omega),show i - o=(i - (o + 1)) + 1 by omega,List.getElem?_cons_succ]
  ·rw [if_neg h2,Array.getElem?_setIfInBounds];by_cases h3:o=i
   ·subst h3;rw [if_pos rfl,if_pos (by omega),if_pos (by simp only [List.length_cons];omega),Nat.sub_self];rfl
   ·rw [if_neg h3,if_neg (by simp only [List.length_cons];omega)]
theorem jaq (g k:Nat) (hne:k≠g):∀ (vs:List Value) (o:Nat) (w:World),(w.setCells g o vs).heap[k]? = w.heap[k]?
 | [],_,_=>rfl
 | v :: r,o,w=>by
  refine (jaq g k hne r (o + 1) _).trans ?_;show (w.heap.modify g _)[k]? = _;rw [Array.getElem?_modify,if_neg (Ne.symm hne)]
theorem jee (g:Nat):∀ (vs:List Value) (o:Nat) (w:World),(w.setCells g o vs).heap.size=w.heap.size/\(w.setCells g o vs).os=w.os/\(w.setCells g o vs).tape=w.tape/\(w.setCells g o vs).output=w.output
 | [],_,_=>⟨rfl,rfl,rfl,rfl⟩
 | v :: r,o,w=>by
  obtain ⟨a,b,c,d⟩:=jee g r (o + 1) (w.setCell ⟨g,o,none⟩ v);exact ⟨a.trans (by simp [World.setCell]),b,c,d⟩
theorem jal (w:World) (g o:Nat) (vs:List Value):w.grownBy (w.setCells g o vs) (some g):=by
 obtain ⟨a,b,c,d⟩:=jee g vs o w;exact ⟨b,c,d,by omega,fun k _ hk=>jaq g k (fun e=>hk (by rw [e])) vs o w⟩
theorem jjD {w w':World} {base t n g c:Nat} {A:Option Addr} {l l':List α} (hE:∀ x,(E x).length=e) (h:w.ownsRow base t e (.slice A n c) n (jaE E l)) (hA:A=some ⟨g,0,none⟩) (hn:n=l.length) (hl:l'.length=l.length)
  (hc:∀ C:Array Value,w.heap[g]? = some (.cells C t (0,0))->l.length * e<=C.size->∃ C':Array Value,w'.heap[g]? = some (.cells C' t (0,0))/\C'.size=C.size/\∀ i,i < l.length * e->(∀ j,j < l.length * e->C[j]? = (jaE E l)[j]?)->C'[i]? = (jaE E l')[i]?):w'.ownsRow base t e (.slice A n c) n (jaE E l'):=by
 subst hn hA;refine ⟨by rw [jaY hE,hl],?_⟩;rcases h.2 with ⟨hv,hn⟩ | ⟨g2,cap,cur,hv,hbg,hg,hle,hmax,hs,ht⟩
 ·cases hv
 ·injection hv with q1 _ q2
  injection q1 with q1
  injection q1 with q1 _
  subst q1 q2;have hfit:l.length * e<=cur.size:=by rw [hs];exact Nat.mul_le_mul_right _ hle
  have hcur:∀ j,j < l.length * e->cur[j]? = (jaE E l)[j]?:=fun j hj=>by
   rw [<- ht,List.getElem?_take,if_pos hj,Array.getElem?_toList]
  obtain ⟨C',a,b,d⟩:=hc cur hg hfit;refine .inr ⟨g,c,C',rfl,hbg,a,hle,hmax,b.trans hs,?_⟩;refine List.ext_getElem? fun i=>?_
  rw [List.getElem?_take];by_cases hi:i < l.length * e
  ·rw [if_pos hi,Array.getElem?_toList,d i hi hcur]
  ·rw [if_neg hi,List.getElem?_eq_none (by rw [jaY hE,hl];omega)]
theorem jdV {w:World} {base t n g c k:Nat} {A:Option Addr} {l:List α} (hE:∀ x,(E x).length=e) (h:w.ownsRow base t e (.slice A n c) n (jaE E l)) (hA:A=some ⟨g,0,none⟩) (hn:n=l.length) (hk:k < l.length) (y:α) :
  (w.setCells g (k * e) (E y)).ownsRow base t e (.slice A n c) n (jaE E (l.set k y)):=by
 refine jjD hE h hA hn (by simp) fun C hC hfit=>?_
 have hb:k * e + e<=l.length * e:=by
  have:=Nat.mul_le_mul_right e (show k + 1<=l.length from hk);rw [Nat.add_mul] at this;omega
 obtain ⟨C',a,b,d⟩:=jd2 g t (E y) (k * e) w C hC (by rw [hE];omega);refine ⟨C',a,b,fun i hi hcur=>?_⟩;rw [d i,hE];obtain ⟨k2,j,hk2,hj,hij,_⟩:=jcw hE l hi;have h2:=jdn hE (l.set k y) k2 (by simpa using hk2) j hj;rw [<- hij] at h2;rw [h2];by_cases hkk:k2=k
 ·subst hkk;rw [if_pos (by omega),List.getElem_set_self,show i - k2 * e=j by omega]
 ·rw [List.getElem_set_ne (Ne.symm hkk),if_neg,hcur i hi,hij,jdn hE l k2 hk2 j hj];rintro ⟨q1,q2⟩;rcases Nat.lt_or_ge k2 k with q | q
  ·have:=Nat.mul_le_mul_right e (show k2 + 1<=k from q);rw [Nat.add_mul] at this;omega
  ·have:=Nat.mul_le_mul_right e (show k + 1<=k2 by omega);rw [Nat.add_mul] at this;omega
theorem jei {w:World} {base t n g c k j:Nat} {A:Option Addr} {l:List α} {v:Value} (hE:∀ x,(E x).length=e) (h:w.ownsRow base t e (.slice A n c) n (jaE E l)) (hA:A=some ⟨g,0,none⟩) (hn:n=l.length) (hk:k < l.length) (hj:j < e) (y:α)
  (hy:E y=(E l[k]).set j v):(w.setCell ⟨g,k * e + j,none⟩ v).ownsRow base t e (.slice A n c) n (jaE E (l.set k y)):=by
 refine jjD hE h hA hn (by simp) fun C hC hfit=>?_
 have hb:k * e + e<=l.length * e:=by
  have:=Nat.mul_le_mul_right e (show k + 1<=l.length from hk);rw [Nat.add_mul] at this;omega
 have h1:(w.setCell ⟨g,k * e + j,none⟩ v).heap[g]? = some (.cells (C.setIfInBounds (k * e + j) v) t (0,0)):=by simp [World.setCell,Array.getElem?_modify,hC]
 refine ⟨_,h1,Array.size_setIfInBounds,fun i hi hcur=>?_⟩;rw [Array.getElem?_setIfInBounds];obtain ⟨k2,j2,hk2,hj2,hij,_⟩:=jcw hE l hi;have h2:=jdn hE (l.set k y) k2 (by simpa using hk2) j2 hj2;rw [<- hij] at h2;rw [h2];by_cases hkk:k2=k
 ·subst hkk;rw [List.getElem_set_self,hy,List.getElem?_set];by_cases hjj:j=j2
  ·subst hjj;rw [if_pos hij.symm,if_pos (by omega),if_pos rfl,if_pos (by rw [hE];exact hj)]
  ·rw [if_neg (by omega),if_neg hjj,hcur i hi,hij,jdn hE l k2 hk2 j2 hj2]
 ·rw [List.getElem_set_ne (Ne.symm hkk),if_neg,hcur i hi,hij,jdn hE l k2 hk2 j2 hj2];intro q;rcases Nat.lt_or_ge k2 k with q2 | q2
  ·have:=Nat.mul_le_mul_right e (show k2 + 1<=k from q2);rw [Nat.add_mul] at this;omega
  ·have:=Nat.mul_le_mul_right e (show k + 1<=k2 by omega);rw [Nat.add_mul] at this;omega
theorem jg3 {w:World} {base t n c m:Nat} {A:Option Addr} {l:List α} (hE:∀ x,(E x).length=e) (h:w.ownsRow base t e (.slice A n c) n (jaE E l)) (hn:n=l.length) (hm:m<=n):w.ownsRow base t e (.slice A m c) m (jaE E (l.take m)):=by
 subst hn;have hme:m * e<=l.length * e:=Nat.mul_le_mul_right _ hm
 have hflat:jaE E (l.take m)=(jaE E l).take (m * e):=by
  have h1:jaE E l=jaE E (l.take m) ++ jaE E (l.drop m):=by rw [<- jdT,List.take_append_drop]
  have h2:(jaE E (l.take m)).length=m * e:=by rw [jaY hE,List.length_take,Nat.min_eq_left hm]
  rw [h1,List.take_append_of_le_length (Nat.le_of_eq h2.symm),List.take_of_length_le (Nat.le_of_eq h2)]
 refine ⟨by rw [jaY hE,List.length_take,Nat.min_eq_left hm],?_⟩;rcases h.2 with ⟨hv,hn⟩ | ⟨g,cap,cur,hv,hb,hg,hle,hmax,hs,ht⟩
 ·injection hv with h1 h2 h3
  subst h1 h3;exact .inl ⟨by rw [show m=0 by omega],by omega⟩
 ·injection hv with h1 h2 h3
  subst h1 h3;refine .inr ⟨g,c,cur,rfl,hb,hg,by omega,hmax,hs,?_⟩;rw [hflat,<- ht,List.take_take,Nat.min_eq_left hme]
theorem jb2 {w:World} {base t n c k:Nat} {A:Option Addr} {l:List α} (hE:∀ x,(E x).length=e) (h:w.ownsRow base t e (.slice A n c) n (jaE E l)) (hn:n=l.length) (hk:k < l.length) :
  ∃ g,A=some ⟨g,0,none⟩/\base<=g/\g < w.heap.size/\n<=c/\(∀ j v,(E l[k])[j]? = some v->w.cell? ⟨g,k * e + j,none⟩=some v)/\∀ i,w.frozen? ⟨g,i,none⟩=false:=by
 subst hn;rcases h.2 with ⟨hv,h0⟩ | ⟨g,cap,cur,hv,hbg,hg,hle,hmax,hs,ht⟩
 ·omega
 ·injection hv with h1 h2 h3
  subst h1 h3;refine ⟨g,rfl,hbg,(Array.getElem?_eq_some_iff.1 hg).1,hle,fun j v hv=>?_,fun i=>frozen_of_row _ _ _ _ _ hg⟩;have hj:j < e:=by rw [<- hE l[k]];exact (List.getElem?_eq_some_iff.1 hv).1
  have hb:k * e + e<=l.length * e:=by
   have:=Nat.mul_le_mul_right e (show k + 1<=l.length from hk);rw [Nat.add_mul] at this;omega
  rw [cell_of_row _ _ _ _ _ _ hg,<- Array.getElem?_toList];have h4:cur.toList[k * e + j]? = (cur.toList.take (l.length * e))[k * e + j]?:=by rw [List.getElem?_take,if_pos (by omega)]
  rw [h4,ht,jdn hE l k hk j hj,hv]
theorem jaA {w w':World} {base t n:Nat} {v:Value} {xs:List Value} {row:Option Nat} (h:w.ownsRow base t e v n xs) (hg:w.grownBy w' row) (hne:∀ b,v.ownBlock=some b->row≠some b):w'.ownsRow base t e v n xs:=by
 refine h.kept hg ?_;cases hv:v.ownBlock with
 | none=>exact .inl rfl
 | some b=>exact .inr fun q=>hne b hv q.symm
theorem jcn {w w':World} {base t n:Nat} {v:Value} {xs:List Value} (h:w.ownsRow base t e v n xs) (hb:Below w.heap.size w w'):w'.ownsRow base t e v n xs :=
 jaA (row:=none) h ⟨hb.os,hb.tape,hb.output,hb.size,fun k hk _=>hb.block k hk⟩ (by intro b _ q;cases q)
end
theorem jae {B:Nat} {w0 w w':World} {g:Nat} (hb:Below B w0 w) (h:w.grownBy w' (some g)) (hB:B<=w.heap.size) (hg:B<=g):Below B w0 w':=hb.grown h hB fun q hq=>by injection hq with hq;omega
theorem jcP (w:World) (row:Option Nat):w.grownBy w row:=⟨rfl,rfl,rfl,Nat.le_refl _,fun _ _ _=>rfl⟩
theorem jaJ {w w':World} (hb:Below w.heap.size w w') (row:Option Nat):w.grownBy w' row:=⟨hb.os,hb.tape,hb.output,hb.size,fun k hk _=>hb.block k hk⟩
set_option maxHeartbeats 6400000
set_option maxRecDepth 20000
def jh9 (p:jer):Value:=.slice p.A p.b.length p.c
structure jjS (t:TypeId) (w wr:World) (v:Value) (ps:List jer):Prop where
 below:Below w.heap.size w wr
 row:wr.ownsRow w.heap.size t 1 v ps.length (ps.map jh9)
 ok:∀ p∈ps,p.ok wr wr.heap.size/\∀ b o,p.A=some ⟨b,o,none⟩->some b≠v.ownBlock
section
variable {t:TypeId} {w wr w':World} {v v':Value} {ps:List jer}
theorem jjS.void (t:TypeId) (w:World):jjS t w w (.slice none 0 0) []:=⟨Below.refl _ _,⟨rfl,.inl ⟨rfl,rfl⟩⟩,fun p hp=>by cases hp⟩
theorem jjS.later (h:jjS t w wr v ps) (hb:Below wr.heap.size wr w'):jjS t w w' v ps :=
 ⟨jaa h.below hb,jcn h.row hb,fun p hp=>⟨((h.ok p hp).1.below hb).more hb.size,(h.ok p hp).2⟩⟩
theorem jkI {w:World} {B:Nat} {p:jer} (h:p.ok w B) (hl:0 < p.b.length) {b o:Nat} (e:p.A=some ⟨b,o,none⟩):b < B:=by
 obtain ⟨b',o',e',hb,_⟩:=h.ints 0 hl;rw [e] at e';injection e' with e'
 injection e' with e1 _
 omega
theorem jjS.push (h:jjS t w wr v ps) {w2:World} {p:jer} (hb:Below wr.heap.size wr w2) (hp:p.ok w2 w2.heap.size) (hl:∀ q∈ps ++ [p],0 < q.b.length) (hnew:∀ b o,p.A=some ⟨b,o,none⟩->wr.heap.size<=b)
  (x:Value) (T:TypeId) (hown:w'.ownsRow w.heap.size t 1 v' (ps.length + 1) (ps.map jh9 ++ [jh9 p])) (hg:(w2.alloc (.cells #[x] T)).grownBy w' v.ownBlock) (hv:v'.ownBlock=v.ownBlock∨v'.ownBlock=some (w2.alloc (.cells #[x] T)).heap.size):jjS t w w' v' (ps ++ [p]):=by
 have hba:Below w2.heap.size w2 (w2.alloc (.cells #[x] T)):=(Below.refl _ _).alloc (Nat.le_refl _) _;have h2:=(h.later hb).later hba
 have key:∀ q:jer,q.ok w2 w2.heap.size->0 < q.b.length->(∀ b o,q.A=some ⟨b,o,none⟩->some b≠v.ownBlock)->q.ok w' w'.heap.size/\∀ b o,q.A=some ⟨b,o,none⟩->some b≠v'.ownBlock:=fun q hq hql hne=>by
  refine ⟨⟨fun i hi=>?_,hq.byte,hq.le,hq.len⟩,fun b o e=>?_⟩
  ·obtain ⟨b,o,e,hlt,hc⟩:=hq.ints i hi;have hlt2:b < (w2.alloc (.cells #[x] T)).heap.size:=Nat.lt_of_lt_of_le hlt hba.size;refine ⟨b,o,e,Nat.lt_of_lt_of_le hlt2 hg.size,?_⟩;rw [World.cell?_of_block (hg.block b hlt2 (hne b o e)),World.cell?_of_block (hba.block b hlt)];exact hc
  ·have hlt:=jkI hq hql e;rcases hv with hv | hv
   ·rw [hv];exact hne b o e
   ·rw [hv];intro q;injection q with q
    have:=hba.size;omega
 refine ⟨h2.below.grown hg h2.below.size fun q hq=>(h.row.lt q hq).1,by rw [List.length_append,List.map_append];exact hown,fun q hq=>?_⟩;rcases List.mem_append.1 hq with hq | hq
 ·have:=(h.later hb).ok q hq;exact key q this.1 (hl q (List.mem_append_left _ hq)) this.2
 ·rw [List.mem_singleton.1 hq]
  exact key p hp (hl p (by simp)) fun b o e q=>by
   have h3:=(h.row.lt b q.symm).2;have:=hnew b o e;omega
theorem jjS.secs {n c:Nat} {A:Option Addr} (h:jjS t w wr (.slice A n c) ps):jiB wr wr.heap.size A ps:=fun i hi=>by
 obtain ⟨g,cap,hv,_,hlt⟩:=h.row.form (by omega);injection hv with hA _ _
 subst hA;have e1:(ps.map jh9)[i]? = some (jh9 ps[i]):=by simp [hi]
 have hx:=h.row.cells (g:=g) rfl i _ e1;have hadd:(⟨g,0,none⟩:Addr).add i=⟨g,0 + i,none⟩:=by unfold Addr.add;split <;> simp_all
 rw [hadd] at hx;exact ⟨g,0,rfl,hlt,hx,(h.ok _ (List.getElem_mem hi)).1⟩
end
theorem Tryz.infoSecs:(Tryz.prog.info? 54).map (fun i=>(i.zero,i.size,i.bytes))=some (some (.slice none 0 0),1,24):=by kernel_rfl
section
variable {Rep:World->Nat->(Nat->Prop)->Dk->Prop} (L:jbX Rep)
include L
theorem jf1 (p:Nat) (F:Nat->Prop) (s:Dk) (a:Nat) (w:World) (h:Rep w p F s) (ho:s.off=false) (hpe:s.pend=[]) (hl:384<=s.last.length) (ha:a < 2) :
  Calls Tryz.prog 76 #[.pointer (some ⟨p,0,none⟩),.int .i64 (a:Int)] w fun e w'=>∃ A c,e=.returned (.tuple #[.slice A 192 c,.int .i64 0])/\192<=c/\∃ ps,ps.length=192/\jiB w' w'.heap.size A ps/\jaS ps=jaj s.last a/\Below w.heap.size w w':=by
 obtain ⟨i1,hf1,hz10,hz11,hz12⟩:=info_parts Tryz.infoSecs;have hnow:∀ i,jjQ s i=s.last.getD i []:=fun i=>by unfold jjQ;rw [hpe];rfl
 have hok:=(L.d w).ok w p F s h;have HSEC:Hid (∀ k,k < 192->Sec (s.last.getD (a * 192 + k) [])):=fun k hk=>hok.sec _ (by omega)
 have HPL:Hid (∀ (k:Nat) (W:World),k < 192->Calls Tryz.prog 82 #[.int .i64 (a:Int),.int .i64 (k:Int)] W fun e w'=>e=.returned (.int .i64 ((a * 192 + k:Nat):Int))/\W=w'):=fun k W hk=>jhS a k W ha (by omega)
 have HRD:Hid (∀ (k:Nat) (W:World),k < 192->Below w.heap.size w W->Calls Tryz.prog 106 #[.pointer (some ⟨p,0,none⟩),.int .i64 ((a * 192 + k:Nat):Int)] W fun e w'=>∃ A c,e=.returned (.tuple #[.slice A 64 c,.int .i64 0])/\Below W.heap.size W w'/\(⟨A,c,up (s.last.getD (a * 192 + k) [])⟩:jer).ok w' w'.heap.size/\∀ b o,A=some ⟨b,o,none⟩->W.heap.size<=b):=fun k W hk hb=>by
  have hs:=HSEC.out k hk;refine (L.read (i:=a * 192 + k) (L.keep h hb) (by unfold jcR;rw [ho,if_neg (by decide),if_neg (jlO (by omega))])).mono fun e w' ⟨A,c,q1,q2,q3,q4⟩=>⟨A,c,q1,q4,⟨?_,?_,?_,?_⟩,fun b o e=>?_⟩
  ·rw [<- hnow];exact q3.ints
  ·intro z hz;unfold up at hz;obtain ⟨y,hy,rfl⟩:=List.mem_map.1 hz;have:=hs.2 y hy;omega
  ·show (up _).length<=c;rw [jfW,hs.1];exact q2
  ·show (up _).length<=_;rw [jfW,hs.1];decide
  ·obtain ⟨g,o',hA,hg,_⟩:=q3;rw [hA] at e;injection e with e
   injection e with e1 _
   omega
 have HST:Hid (jjS 54 w w (.slice none 0 0) []):=jjS.void _ w;obtain ⟨T,hT⟩:∃ T:Nat->List Int,T=fun k=>up (s.last.getD (a * 192 + k) []):=⟨_,rfl⟩
 have HTL:Hid (∀ k,k < 192->(T k).length=64):=fun k hk=>by rw [hT];show (up _).length=64;rw [jfW,(HSEC.out k hk).1]
 have HEND:Hid (jaj s.last a=(List.range 192).map T):=by unfold Hid;rw [hT];rfl
 have HRD:Hid (∀ (k:Nat) (W:World),k < 192->Below w.heap.size w W->Calls Tryz.prog 106 #[.pointer (some ⟨p,0,none⟩),.int .i64 ((a * 192 + k:Nat):Int)] W fun e w'=>∃ A c,e=.returned (.tuple #[.slice A 64 c,.int .i64 0])/\Below W.heap.size W w'/\(⟨A,c,T k⟩:jer).ok w' w'.heap.size/\∀ b o,A=some ⟨b,o,none⟩->W.heap.size<=b):=by rw [hT];exact HRD
 clear hT h ho hpe hl ha hnow hok HSEC;go_enter Tryz.func76,Tryz.ntmps76;go_wp2
 go_loopw [6,10] (fun v i wr=>∃ k:Nat,k<=192/\i=.int .i64 k/\(∃ A c,v=.slice A k c)/\Hid (∃ ps,jjS 54 w wr v ps/\ps.length=k/\jaS ps=(List.range k).map T)) (fun _ i _=>192 - (intOf i).toNat)
 case atStart=>exact ⟨0,Nat.zero_le _,rfl,⟨none,0,rfl⟩,[],HST.out,rfl,rfl⟩
 case round =>
  clear HST;obtain ⟨k,hk,rfl,⟨A1,c1,rfl⟩,hR⟩:=hrel;by_cases hlt:k < 192
  ·have k1:(k:Int) < 192:=by omega
   have k0:(0:Int)<=(k:Int):=by omega
   obtain ⟨ps,hS,hpl,hps⟩:=hR.out
   have hpos:∀ q∈ps,0 < q.b.length:=fun q hq=>by
    have:q.b∈jaS ps:=List.mem_map.2 ⟨q,hq,rfl⟩;rw [hps] at this;obtain ⟨j,hj,e⟩:=List.mem_map.1 this;have hj:=List.mem_range.1 hj;rw [<- e,HTL.out j (by omega)];decide
   have HPP:=Lib.hid hpos;have HS:=Lib.hid hS;have HPS:=Lib.hid hps;have HPN:=Lib.hid hpl;have HP:=Lib.hid (HPL.out k wr hlt);have HR:=Lib.hid (HRD.out k wr hlt hS.below);have HTK:=Lib.hid (HTL.out k hlt);have HROW:Hid (∀ W,Below wr.heap.size wr W->W.ownsRow w.heap.size 54 1 (.slice A1 k c1) k (ps.map jh9)):=fun W hb=>by have:=(hS.later hb).row;rwa [hpl] at this
   have hsz:=hS.below.size;clear hR hS hps hpl hpos HPL HRD HTL HEND;obtain ⟨pk,hpk⟩:∃ x:Int,x=((a * 192 + k:Nat):Int):=⟨_,rfl⟩;rw [<- hpk] at HP HR;clear hpk
   go_wp2_with (first
    | (go_at_call 82;with_reducible (refine Calls.mono HP.out ?_);rintro e w1 ⟨rfl,rfl⟩)
    | (go_at_call 106;with_reducible (refine Calls.mono HR.out ?_);rintro e w2 ⟨A2,c2,rfl,hb2,hok2,hnew2⟩;have HO2:=Lib.hid hok2;have HN2:=Lib.hid hnew2;have HB2:=Lib.hid hb2;have how:=HROW.out w2 hb2;have hsz2:=Nat.le_trans hsz hb2.size;clear hok2 hnew2 hb2)
    | (at_builtin;refine wpList_append_own_at _ rfl _ _ 126 rfl w.heap.size 54 i1 (.slice none 0 0) 1 24 Tryz.underlying126 hf1 hz10 hz11 hz12 rfl (by decide) _ _ _ rfl (how.alloc _) ⟨w2.heap.size,0,none⟩ 1 1 [.slice A2 64 c2] rfl rfl (cell_one_new _ _ _) ?d1 ?d2 ?d3 ?d4 ?_))
   case d1=>intro u hu;simp at hu;subst hu;rfl
   case d2=>unfold maxLen;omega
   case d3=>omega
   case d4=>simp;omega
   intro v5 w5 hown5 hg5 _ hob5;obtain ⟨A5,c5,rfl⟩:=jeb hown5
   have R9:Hid (∃ ps,jjS 54 w w5 (.slice A5 (k + 1) c5) ps/\ps.length=k + 1/\jaS ps=(List.range (k + 1)).map T):=by
    have hv:jh9 ⟨A2,c2,T k⟩=.slice A2 64 c2:=by unfold jh9;rw [HTK.out]
    refine ⟨ps ++ [⟨A2,c2,T k⟩],HS.out.push HB2.out HO2.out (fun q hq=>?_) HN2.out _ _ (by rw [HPN.out,hv];exact hown5) hg5 (hob5.imp id fun q=>by rw [q];simp),by rw [List.length_append,HPN.out];rfl,?_⟩
    ·rcases List.mem_append.1 hq with hq | hq
     ·exact HPP.out q hq
     ·rw [List.mem_singleton.1 hq];show 0 < (T k).length;rw [HTK.out];decide
    ·have:=HPS.out;unfold jaS at this ⊢;rw [List.map_append,this,List.range_succ,List.map_append];rfl
   clear hown5 hg5 hob5 how HS HPP HPS HPN HO2 HN2 HB2 HROW HP HR HTK;go_wp2;go_roundw
   case rel=>first | exact ⟨k + 1,by omega,by go_num,⟨A5,c5,rfl⟩,R9⟩ | ((repeat apply Exists.intro);exact ⟨⟨k + 1,by omega,by go_num,⟨A5,c5,rfl⟩,R9⟩,rfl⟩)
   case measure=>first | (simp [intOf];done) | (simp [intOf];omega)
  ·have hk9:k=192:=by omega
   subst hk9;have k1:¬ ((192:Nat):Int) < 192:=by omega
   clear HPL HRD HTL;go_wp2;go_ret2;obtain ⟨ps,hS,hpl,hps⟩:=hR.out;rw [<- hpl] at hS;have hle:=jif hS.row;rw [hpl] at hle;exact ⟨A1,c1,rfl,hle,ps,hpl,hS.secs,by rw [hps,HEND.out],hS.below⟩
end
theorem jnI (a b:Nat) (ha:a < 2 ^ 32) (hb:b < 2 ^ 32):bits .xor .u32 (a:Int) (b:Int)=((a ^^^ b:Nat):Int):=u32_xor_nat a b (by omega) (by omega)
theorem jjJ (s:Nat) (hs:s < 2 ^ 32):bits .xor .u32 IntKind.u32.max (s:Int)=((jge s:Nat):Int):=by
 rw [show IntKind.u32.max=((4294967295:Nat):Int) from rfl,jnI _ _ (by decide) hs,jld hs,Nat.xor_comm]
theorem jij (zs:List Int) (k:Nat) (h:k < zs.length):nb (zs.take (k + 1))=nb (zs.take k) ++ [(zs.getD k 0).toNat]:=by
 rw [jb9 zs k h];simp [nb]
theorem ji4 {r:Nat} (h:r % 2=1):jbG r=r / 2 ^^^ jmO:=by unfold jbG;rw [if_pos h]
theorem jim {r:Nat} (h:r % 2=0):jbG r=r / 2:=by unfold jbG;rw [if_neg (by omega)]

theorem jav {W W':World} {q:Nat} {l:Ln} {t:TypeId} (h:W.heap[q]? = some (.cells (lnV l) t (0,0))) (hb:Below W.heap.size W W') :
  W'.cell? ⟨q,0,none⟩=some (.int .i64 l.g)/\W'.cell? ⟨q,1,none⟩=some (.int .i64 l.s)/\W'.cell? ⟨q,2,none⟩=some (.bool l.last)/\W'.rangeAt q 3 (rcV l.r).toList:=by
 have h:=(hb.block q (Array.getElem?_eq_some_iff.1 h).1).trans h;refine ⟨?_,?_,?_,?_⟩
 ·rw [cell_of_row _ _ _ _ _ _ h];rfl
 ·rw [cell_of_row _ _ _ _ _ _ h];rfl
 ·rw [cell_of_row _ _ _ _ _ _ h];rfl
 ·intro j v hj;rw [cell_of_row _ _ _ _ _ _ h]
  match j,hj with
  | 0,hj=>exact hj
  | 1,hj=>exact hj
  | 2,hj=>exact hj
  | 3,hj=>exact hj
  | 4,hj=>exact hj
  | 5,hj=>exact hj
  | j + 6,hj=>simp [rcV] at hj
theorem jdc {W W':World} {q:Nat} {r:Rc} {t:TypeId} (h:W.heap[q]? = some (.cells (rcV r) t (0,0))) (hb:Below W.heap.size W W') :
  W'.cell? ⟨q,0,none⟩=some (.int .i64 r.k)/\W'.cell? ⟨q,1,none⟩=some (.int .i64 r.a)/\W'.cell? ⟨q,2,none⟩=some (.int .i64 r.b)/\W'.cell? ⟨q,3,none⟩=some (.int .i64 r.c)/\W'.cell? ⟨q,4,none⟩=some (.int .i64 r.d)/\W'.cell? ⟨q,5,none⟩=some (.string r.key):=by
 have h:=(hb.block q (Array.getElem?_eq_some_iff.1 h).1).trans h;refine ⟨?_,?_,?_,?_,?_,?_⟩ <;> (rw [cell_of_row _ _ _ _ _ _ h];rfl)
theorem Tryz.infoRec:(Tryz.prog.info? 56).map (·.size)=some 6:=by kernel_rfl
theorem jdN (r:Rc):(rcV r).all (·.oneCell')=true:=by simp [rcV,Value.oneCell']
def jqR (X:List Int) (n:Int) (s:Nat):List Int:=X ++ bytesOf n s
def jbt:Array Value:=#[.int .i64 0,.int .i64 0,.bool false,.int .i64 0,.int .i64 0,.int .i64 0,.int .i64 0,.int .i64 0,.string ⟨#[]⟩]
theorem jbE {P:Program} {fn:Func} {p u:Tmp} {ty:TypeId} (h:fn.results=#[.cell p ty,.tmp u]) (tmps:Array Value) (w:World) (g:Nat) (t:TypeId) (cs:Array Value) (fr:Nat × Nat) (d:TypeDesc)
  (hp:tmps.getD p undef=.pointer (some ⟨g,0,none⟩)) (hg:w.heap[g]? = some (.cells cs t fr))
  (hu:P.underlying ty=some d) (hd:(match d with | .struct _ | .array _ _=>true | _=>false)=true) (hi:(P.info? ty).map (·.size)=some cs.size) :
  (results fn tmps).run P w=.ok (.tuple #[.agg cs,tmps.getD u undef]) w:=by
 have hp':tmps[p]?.getD undef=.pointer (some ⟨g,0,none⟩):=by simpa using hp
 simp [results,h,hp',asAddr,run_loadVar_row w g t ty cs fr d hg hu hd hi]
theorem Tryz.infoLine:(Tryz.prog.info? 135).map (·.size)=some 9:=by kernel_rfl
theorem jdP (l:Ln):(lnV l).all (·.oneCell')=true:=by simp [lnV,Value.oneCell']
end Go.Proofs.YtbnhkplhmanmoaaGreat
