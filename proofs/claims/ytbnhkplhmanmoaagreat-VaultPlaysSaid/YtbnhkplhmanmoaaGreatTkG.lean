/- . -/
import Derived.Test.YtbnhkplhmanmoaaGreatChecked
import Derived.OrdersHeld
import Derived.ProofKit
import Derived.WalkKit
import Derived.Laws.BytesArg
import Derived.Deep.AppendLies
import Derived.Maps.AppendAt
import Derived.Lib.Hide
import Derived.Deep.Draws
import Derived.Deep.QuietTactic
import Derived.Deep.WholeRow
import Derived.Deep.MidRow
import Derived.Laws.CopyOwn
import Derived.ChangeKeysEq
import Derived.Laws.StructEq
namespace Go.Proofs.YtbnhkplhmanmoaaGreat
open Go.RowKit
variable {P:Program} {ops:Array Oper} {Q:Exit->Act->World->Prop} {md:Region.Mode} {S:World->Prop}
theorem tk {fuel:Nat} {listed:Array Bool} {a:Act} {w:World} (i d:Nat) {oi:Oper} {v:Value} (h:wpAnyH P md ops Q S fuel (listed.setIfInBounds i true) (a.put (some d) v) w)
  (hi:ops[i]? = some oi:=by rfl) (hd:oi.dst=some d:=by rfl) (hs:Region.noSelect ops=true:=by kernel_rfl) (hf:Region.free md ops listed i=true:=by kernel_rfl) (hr:(Region.ready md ops listed).contains i=true:=by kernel_rfl)
  (hQ:∀ c a w,Q (.panic c) (a.put oi.dst v) w->Q (.panic c) a w:=by exact fun _ _ _ h=>h)
  (hy:YieldsIf P ops S oi v a:=by first | exact Or.inr ⟨by rfl,rfl⟩ | (refine Or.inl ⟨by rfl,?_⟩;intro w hSw;first | (clear hSw;first | (go_simp;done) | (go_simp;with_reducible rfl)) | (have S0:=hSw;clear hSw;first | (go_simp;done) | (go_simp;with_reducible rfl))))
  (hS:S w:=by assumption):wpAnyH P md ops Q S (fuel + 1) listed a w:=wpAnyH_take hi hs hf hr hQ hy hS (hd ▸ h)
theorem tkS {fuel:Nat} {listed:Array Bool} {a:Act} {w:World} (i d:Nat) {oi:Oper} {v:Value} (hy:∀ w,S w->(execOp a.eval oi).run P w=.ok (.value v) w) (h:wpAnyH P md ops Q S fuel (listed.setIfInBounds i true) (a.put (some d) v) w)
  (hi:ops[i]? = some oi:=by rfl) (hd:oi.dst=some d:=by rfl) (hs:Region.noSelect ops=true:=by kernel_rfl) (hf:Region.free md ops listed i=true:=by kernel_rfl) (hr:(Region.ready md ops listed).contains i=true:=by kernel_rfl)
  (hQ:∀ c a w,Q (.panic c) (a.put oi.dst v) w->Q (.panic c) a w:=by exact fun _ _ _ h=>h) (hw:Region.wanted oi (yielded ops a.tmps)=true:=by rfl)
  (hS:S w:=by assumption):wpAnyH P md ops Q S (fuel + 1) listed a w:=wpAnyH_take hi hs hf hr hQ (Or.inl ⟨hw,hy⟩) hS (hd ▸ h)
theorem tk1 {α:Type} (l:List α) (i:Nat) (a:α):l.toArray.setIfInBounds i a=(l.set i a).toArray:=List.setIfInBounds_toArray ..
theorem tk2 {α:Type} (b a:α) (l:List α):(b :: l).set 0 a=a :: l:=List.set_cons_zero ..
theorem tk3 {α:Type} (b a:α) (l:List α) (n:Nat):(b :: l).set (n + 1) a=b :: l.set n a:=List.set_cons_succ ..
end Go.Proofs.YtbnhkplhmanmoaaGreat
namespace Go.Proofs.YtbnhkplhmanmoaaGreat
open Go.RowKit
def jaO (w:World) (B:Nat) (k:IntKind) (A:Option Addr) (zs:List Int):Prop :=
 ∀ i,i < zs.length->∃ b off,A=some ⟨b,off,none⟩/\b < B/\w.cell? ⟨b,off + i,none⟩=some (.int k (zs.getD i 0))
section
variable {w w':World} {B B':Nat} {k:IntKind} {A:Option Addr} {zs:List Int}
theorem jaO.nil (w:World) (B:Nat) (k:IntKind) (A:Option Addr):jaO w B k A []:=fun i h=>absurd h (by simp)
theorem jaO.keep (h:jaO w B k A zs) (hk:∀ p:Addr,p.block < B->w'.cell? p=w.cell? p):jaO w' B k A zs:=fun i hi=>by
 obtain ⟨b,off,e,hb,hc⟩:=h i hi;exact ⟨b,off,e,hb,(hk ⟨b,off + i,none⟩ hb).trans hc⟩
theorem jaO.below (h:jaO w B k A zs) (hb:Below B w w'):jaO w' B k A zs:=h.keep fun _ hp=>hb.cell hp
theorem jaO.more (h:jaO w B k A zs) (hB:B<=B'):jaO w B' k A zs:=fun i hi=>by
 obtain ⟨b,off,e,hb,hc⟩:=h i hi;exact ⟨b,off,e,by omega,hc⟩
theorem jaO.alloc (h:jaO w B k A zs) (hB:B<=w.heap.size) (o:Obj):jaO (w.alloc o) B k A zs:=h.keep fun p hp=>World.cell?_alloc_lt w o p (by omega)
theorem jaO.at_ (h:jaO w B k A zs) (h0:0 < zs.length):∃ b off,A=some ⟨b,off,none⟩/\b < B/\∀ i,i < zs.length->w.cell? ⟨b,off + i,none⟩=some (.int k (zs.getD i 0)):=by
 obtain ⟨b,off,rfl,hb,_⟩:=h 0 h0;refine ⟨b,off,rfl,hb,fun i hi=>?_⟩;obtain ⟨b',off',e,_,hc⟩:=h i hi;injection e with e
 injection e with e1 e2
 subst e1 e2;exact hc
theorem jaO.new (w:World) (t:TypeId) (k:IntKind) (zs:List Int) (cs:Array Value) (hcs:cs.toList=zs.map (Value.int k)):jaO (w.alloc (.cells cs t)) (w.heap.size + 1) k (some ⟨w.heap.size,0,none⟩) zs:=fun i hi=>by
 refine ⟨w.heap.size,0,rfl,by omega,?_⟩;rw [World.cell?_alloc_at _ _ _ _ rfl,<- Array.getElem?_toList,hcs];simp [List.getD,hi]
theorem jaO.of_own {base t:Nat} {c n:Nat} (h:w.ownsRow base t 1 (.slice A n c) zs.length (zs.map (Value.int k))):jaO w w.heap.size k A zs:=fun i hi=>by
 obtain ⟨g,cap,hv,_,hlt⟩:=h.form (by omega);injection hv with hA _ _
 subst hA;refine ⟨g,0,rfl,hlt,?_⟩;have hx:=h.cells (g:=g) rfl i (.int k (zs.getD i 0)) (by simp [List.getD,hi]);have hadd:(⟨g,0,none⟩:Addr).add i=⟨g,0 + i,none⟩:=by unfold Addr.add;split <;> simp_all
 rwa [hadd] at hx
theorem jaO.take (h:jaO w B k A zs) (n:Nat):jaO w B k A (zs.take n):=fun i hi=>by
 have h1:i < n/\i < zs.length:=by rw [List.length_take] at hi;omega
 obtain ⟨b,off,e,hb,hc⟩:=h i h1.2;refine ⟨b,off,e,hb,?_⟩;rw [hc];simp [List.getD,h1.1]
theorem jaO.cut (h:jaO w B k A zs) {n c:Nat} (hn:n<=zs.length) (hc:zs.length<=c):jaO w B k (if c=n then A else A.map (·.add n)) (zs.drop n):=fun i hi=>by
 have hi':n + i < zs.length:=by rw [List.length_drop] at hi;omega
 obtain ⟨b,off,rfl,hb,hcell⟩:=h (n + i) hi';rw [if_neg (by omega)];refine ⟨b,off + n,by unfold Addr.add;split <;> simp_all,hb,?_⟩;rw [Nat.add_assoc,hcell];simp [List.getD]
theorem jaO.text {P:Program} {src e dst:TypeId} (h:jaO w B .u8 A zs) (hs:P.underlying src=some (.slice e)) (he:P.underlying e=some (.int .u8)) (hd:P.underlying dst=some .string) (c:Nat) :
  (convert src dst (.slice A zs.length c)).run P w=.ok (.string (strOfNums zs)) w:=by
 rcases Nat.eq_zero_or_pos zs.length with h0 | h0
 ·have hz:zs=[]:=List.eq_nil_of_length_eq_zero h0;subst hz;rw [run_convert_bytes_string w src dst e _ _ c hs he hd];rcases A with _ | a
  ·simp [Conv.bytesToString,strOfNums,ByteArray.empty,ByteArray.emptyWithCapacity];rfl
  ·have hl:(loadCells a 0).run P w=.ok (([]:List Int).map (Value.int .u8)).toArray w:=by
    simpa using run_loadCells_list (P:=P) w a [] (fun j v hj=>by simp at hj)
   rw [List.length_nil,run_bytesToString w a 0 c [] hl];rfl
 ·obtain ⟨b,off,rfl,_,hc⟩:=h.at_ h0;exact run_convert_bytes_arg w src e hs he b off zs.length c zs rfl hc dst hd
theorem jaO.textAs {P:Program} {src e dst:TypeId} {n:Nat} {t:ByteArray} (h:jaO w B .u8 A zs) (hs:P.underlying src=some (.slice e)) (he:P.underlying e=some (.int .u8)) (hd:P.underlying dst=some .string) (hn:zs.length=n) (ht:strOfNums zs=t) (c:Nat) :
  (convert src dst (.slice A n c)).run P w=.ok (.string t) w:=by
 subst hn ht;exact h.text hs he hd c
end
theorem jpw {n:Int} (h:(Lit.int .i64 n).wf=true) : -9223372036854775808<=n/\n<=9223372036854775807:=by
 simpa [Lit.wf,IntKind.min,IntKind.max,IntKind.signed,IntKind.bits] using h
theorem jnV {a b:Bool} (h:a=b):Ending.returned (.bool a)=.returned (.bool b):=by rw [h]
theorem jb6 {l:List Int} {i:Nat} (h:i < l.length):l.getD i 0∈l:=by
 simp [List.getD,h]
theorem jb9 (l:List Int) (k:Nat) (h:k < l.length):l.take (k + 1)=l.take k ++ [l.getD k 0]:=by
 rw [List.take_succ_eq_append_getElem h];simp [List.getD,h]
theorem jeb {w:World} {base e n:Nat} {v:Value} {xs:List Value} (h:w.ownsRow base e 1 v n xs):∃ A c,v=.slice A n c:=by
 rcases h.2 with ⟨rfl,rfl⟩ | ⟨g,cap,cur,rfl,_⟩
 ·exact ⟨none,0,rfl⟩
 ·exact ⟨_,_,rfl⟩
theorem jif {w:World} {base e n c:Nat} {A:Option Addr} {xs:List Value} (h:w.ownsRow base e 1 (.slice A n c) n xs):n<=c:=by
 rcases h.2 with ⟨hv,_⟩ | ⟨g,cap,cur,hv,_,_,hle,_⟩
 ·injection hv;omega
 ·injection hv;omega
theorem jaz {B:Nat} {a w:World} (h:Below B a w) (n:Nat):Below B a (w.drewN n):=⟨h.os,h.tape,h.output,h.size,h.block⟩
theorem jaa {a b c:World} (h1:Below a.heap.size a b) (h2:Below b.heap.size b c):Below a.heap.size a c:=h1.trans (h2.mono h1.size)
theorem jiS (w:World) (n:Nat):Below w.heap.size w (w.drewN n):=jaz (Below.refl _ _) n
def jjx (w:World) (E:Int) (l:List Int) (e:Ending) (w':World):Prop :=
 ∃ A c,e=.returned (.tuple #[.slice A l.length c,.int .i64 E])/\l.length<=c/\jaO w' w'.heap.size .u8 A l/\Below w.heap.size w w'
def up (l:List Nat):List Int:=l.map fun n:Nat=>(n:Int)
theorem jfW (l:List Nat):(up l).length=l.length:=by simp [up]
theorem jk9 (l:List Nat) (i:Nat):(up l).getD i 0=((l.getD i 0:Nat):Int):=by
 rcases Nat.lt_or_ge i l.length with g | g
 ·simp [up,List.getD_eq_getElem?_getD,g]
 ·simp [up,List.getD_eq_getElem?_getD,g]
theorem jng {zs:List Int} (h:∀ z∈zs,0<=z/\z<=255):up (zs.map Int.toNat)=zs:=by
 induction zs with
 | nil=>rfl
 | cons z zs ih =>
  have h1:=h z (by simp);have h2:=ih fun x hx=>h x (by simp [hx])
  simp only [up,List.map_cons,List.cons.injEq];exact ⟨by omega,h2⟩
def BA (b:List Nat):Array Value:=(b.map fun z:Nat=>Value.int .u8 (z:Int)).toArray
theorem jcN (b:List Nat):(BA b).size=b.length:=by simp [BA]
theorem jjO (b:List Nat):(BA b).all (·.oneCell')=true:=by
 rw [Array.all_eq_true_iff_forall_mem];intro v hv;simp only [BA,List.mem_toArray,List.mem_map] at hv;obtain ⟨z,_,rfl⟩:=hv;rfl
theorem jnj (b:List Nat) (i:Nat) (hi:i < b.length):(BA b)[i]? = some (.int .u8 (b.getD i 0:Nat)):=by
 simp [BA,List.getElem?_eq_getElem hi,List.getD_eq_getElem?_getD]
theorem jpv {w:World} {g:Nat} {t:TypeId} {b:List Nat} {fr:Nat × Nat} (h:w.heap[g]? = some (.cells (BA b) t fr)) {i:Nat} (hi:i < b.length):w.cell? ⟨g,i,none⟩=some (.int .u8 (b.getD i 0:Nat)):=by
 rw [cell_of_row w g i _ t _ h,jnj b i hi]
theorem jbU (w:World) (o:Obj) (g:Nat) (h:g=w.heap.size):(w.alloc o).heap[g]? = some o:=h ▸ heap_alloc_new w o
theorem jiZ {P:Program} {e:TypeId} (he:P.plainKey e=true) (hu:P.underlying e=some (.int .u8)) (d:Nat) (xs ys:List Nat) (w:World):∀ is:List Nat,(∀ i∈is,i < xs.length/\i < ys.length) ->
  (Op.eqItems (d + 1) e 1 (BA xs) (BA ys) is).run P w=.ok (is.all fun i=>xs.getD i 0 == ys.getD i 0) w:=by
 intro is
 induction is with
 | nil=>intro _;simp [Op.eqItems]
 | cons i is ih =>
  intro h;have hi:=h i (by simp);have hrest:=ih fun j hj=>h j (by simp [hj])
  have p1:=run_part_plain (P:=P) w he (off:=i * 1) (by rw [Nat.mul_one];exact jnj xs i hi.1);have p2:=run_part_plain (P:=P) w he (off:=i * 1) (by rw [Nat.mul_one];exact jnj ys i hi.2);simp only [Op.eqItems,Sem.run_bind,p1,p2,Result.andThen_ok,run_equalIn_int w d e .u8 .u8 _ _ hu]
  have en:(((xs.getD i 0:Nat):Int) == ((ys.getD i 0:Nat):Int))=(xs.getD i 0 == ys.getD i 0):=by
   rw [Bool.eq_iff_iff,beq_iff_eq,beq_iff_eq];exact Int.ofNat_inj
  rw [en,List.all_cons];cases hq:(xs.getD i 0 == ys.getD i 0)
  ·simp
  ·simp [hrest]
theorem jhU {P:Program} {t e:TypeId} {n:Nat} {i:TypeInfo} (he:P.plainKey e=true) (hue:P.underlying e=some (.int .u8)) (hu:P.underlying t=some (.array n e)) (hi:P.info? e=some i) (hs:i.size=1) (xs ys:List Nat) (hx:xs.length=n) (hy:ys.length=n) (w:World) :
  (Op.equalIn 10000 t (.agg (BA xs)) (.agg (BA ys))).run P w=.ok (xs == ys) w:=by
 rw [run_equalIn_array w 9999 (BA xs) (BA ys) hu hi];have hc:P.cellsOf e=1:=by unfold Program.cellsOf;rw [hi];exact hs
 rw [hc,jiZ he hue 9998 xs ys w (List.range n) (fun i hi=>by have:=List.mem_range.1 hi;omega)]
 congr 1
 rw [Bool.eq_iff_iff,List.all_eq_true];constructor
 ·intro h
  have:xs=ys:=by
   apply List.ext_getElem (by omega);intro j h1 h2;have:=h j (List.mem_range.2 (by omega));simpa [List.getD_eq_getElem?_getD,h1,h2] using this
  simp [this]
 ·intro h j _;have:xs=ys:=by simpa using h
  simp [this]
theorem jad {P:Program} {ops:Array Oper} {rest:List Oper} {o:Oper} {a:Act} {w w0:World} {B:Nat} {Q:Exit->Act->World->Prop} (hgd:o.guard=none) (ty:TypeId) (x y:Operand) (ho:o.op=.store ty x y)
  (g:Nat) (cells:Array Value) (hx:a.eval x=.pointer (some ⟨g,0,none⟩)) (hy:a.eval y=.agg cells)
  (t:TypeId) (old:Array Value) (hg:w.heap[g]? = some (.cells old t (0,0))) (hi:(P.info? ty).map (·.size)=some cells.size)
  (hold:old.size=cells.size) (h1:cells.all (·.oneCell')=true) (hb:Below B w0 w) (hB:B<=g)
  (h:∀ W:World,W.heap[g]? = some (.cells cells t (0,0))->Below B w0 W->(∀ k,k≠g->W.heap[k]? = w.heap[k]?)->W.heap.size=w.heap.size->wpList P ops Q rest (a.put o.dst undef) W):wpList P ops Q (o :: rest) a w :=
 wpList_store_row hgd ty x y ho g cells hx hy t old hg hi hold h1 (h _ (setRow_heap w g old cells t (0,0) hg) (below_setRow hb hB cells) (fun k hk=>setRow_other w g k cells hk) (by simp))
theorem jek {w w':World} {base e size n:Nat} {v:Value} {xs:List Value} (h:w.ownsRow base e size v n xs) (hk:∀ g,v.ownBlock=some g->w'.heap[g]? = w.heap[g]?):w'.ownsRow base e size v n xs:=by
 refine ⟨h.1,?_⟩;rcases h.2 with h0 | ⟨g,cap,cur,rfl,hb,hg,h1,h2,h3,h4⟩
 ·exact Or.inl h0
 ·exact Or.inr ⟨g,cap,cur,rfl,hb,(hk g rfl).trans hg,h1,h2,h3,h4⟩
structure Dk where
 last:List (List Nat)
 pend:List (Nat × List Nat)
 lim:Option Nat
 off:Bool
def Sec (t:List Nat):Prop:=t.length=64/\∀ y∈t,y < 256
def jas:List Nat:=List.replicate 64 0
theorem jop:Sec jas:=⟨by simp [jas],fun y hy=>by rw [List.eq_of_mem_replicate hy];decide⟩
structure Dk.ok (s:Dk):Prop where
 pos:1<=s.last.length
 le:s.last.length<=4096
 sec:∀ i,i < s.last.length->Sec (s.last.getD i [])
 pen:∀ i,i < s.pend.length->(s.pend.getD i (0,[])).1 < s.last.length/\Sec (s.pend.getD i (0,[])).2
def jeU (n:Nat):Dk:=⟨List.replicate n jas,[],none,false⟩
theorem jlM {n:Nat} (h1:1<=n) (h2:n<=4096):(jeU n).ok :=
 ⟨by simpa [jeU] using h1,by simpa [jeU] using h2,fun i hi=>by
  have:i < n:=by simpa [jeU] using hi
  simp [jeU,List.getD_eq_getElem?_getD,this,jop],fun i hi=>by simp [jeU] at hi⟩
def jdM (i:Nat):List (Nat × List Nat)->List Nat->List Nat
 | [],t=>t
 | p :: ps,t=>jdM i ps (if p.1=i then p.2 else t)
theorem jdt (i:Nat) (q:Nat × List Nat):∀ (ps:List (Nat × List Nat)) (t:List Nat),jdM i (ps ++ [q]) t=if q.1=i then q.2 else jdM i ps t
 | [],_=>rfl
 | _ :: ps,_=>jdt i q ps _
def jjQ (s:Dk) (i:Nat):List Nat:=jdM i s.pend (s.last.getD i [])
def jdl:List (Nat × List Nat)->List (List Nat)->List (List Nat)
 | [],l=>l
 | p :: ps,l=>jdl ps (l.set p.1 p.2)
theorem jcI:∀ (ps:List (Nat × List Nat)) (l:List (List Nat)),(jdl ps l).length=l.length
 | [],_=>rfl
 | p :: ps,l=>by unfold jdl;rw [jcI ps];simp
theorem jd9 (l:List (List Nat)) (j i:Nat) (t:List Nat) (hi:i < l.length):(l.set j t).getD i []=if j=i then t else l.getD i []:=by
 simp only [List.getD_eq_getElem?_getD,List.getElem?_set];by_cases h:j=i
 ·subst h;simp [hi]
 ·simp [h]
theorem jfV (i:Nat):∀ (ps:List (Nat × List Nat)) (l:List (List Nat)),i < l.length->(jdl ps l).getD i []=jdM i ps (l.getD i [])
 | [],_,_=>rfl
 | p :: ps,l,hi=>by
  unfold jdl jdM;rw [jfV i ps _ (by simpa using hi),jd9 _ _ _ _ hi]
theorem jhj (q:Nat × List Nat):∀ (ps:List (Nat × List Nat)) (l:List (List Nat)),jdl (ps ++ [q]) l=(jdl ps l).set q.1 q.2
 | [],_=>rfl
 | _ :: ps,_=>jhj q ps _
def jgP (ps:List (Nat × List Nat)) (keep:List Bool):Nat->List (Nat × List Nat)
 | 0=>[]
 | k + 1=>if keep.getD k false then jgP ps keep k ++ [ps.getD k (0,[])] else jgP ps keep k
theorem jed {ps:List (Nat × List Nat)} {keep:List Bool} : ∀ {k:Nat},k<=ps.length->∀ q∈jgP ps keep k,q∈ps
 | 0,_,q,h=>by cases h
 | k + 1,hk,q,h=>by
  unfold jgP at h;split at h
  ·rcases List.mem_append.1 h with h | h
   ·exact jed (by omega) q h
   ·rw [List.mem_singleton.1 h,List.getD_eq_getElem?_getD,List.getElem?_eq_getElem (by omega)];exact List.getElem_mem _
  ·exact jed (by omega) q h
def je6 (s:Dk) (n:Int):Prop:=n < 0∨(s.last.length:Int)<=n
instance (s:Dk) (n:Int):Decidable (je6 s n):=inferInstanceAs (Decidable (_∨_))
def jcR (s:Dk) (n:Int):Int:=if s.off then 8 else if je6 s n then 7 else 0
def jbV (s:Dk):Int:=if s.lim=some 0 then 8 else 0
def jaT (s:Dk):Dk:=if s.lim=some 0 then ⟨s.last,s.pend,s.lim,true⟩ else ⟨s.last,s.pend,s.lim.map (· - 1),s.off⟩
def ja5 (s:Dk) (n:Int) (t:List Nat):Int:=if s.off then 8 else if t.length≠64 then 1 else if je6 s n then 7 else jbV s
def jbl (s:Dk) (n:Int) (t:List Nat):Dk :=
 if s.off then s else if t.length≠64 then s else if je6 s n then s else if jbV s=0 then ⟨s.last,s.pend ++ [(n.toNat,t)],(jaT s).lim,(jaT s).off⟩ else jaT s
def jbu (s:Dk):Int:=if s.off then 8 else jbV s
def jbD (s:Dk):Dk:=if s.off then s else if jbV s=0 then ⟨jdl s.pend s.last,[],(jaT s).lim,(jaT s).off⟩ else jaT s
def jf6 (s:Dk) (n:Int):Dk:=⟨s.last,s.pend,if n < 0 then none else some n.toNat,s.off⟩
def jbZ (s:Dk) (keep:List Bool):Dk:=⟨jdl (jgP s.pend keep s.pend.length) s.last,[],none,false⟩
def jds (s:Dk) (n:Int):Int:=if je6 s n then 7 else 0
theorem jmT {s:Dk} {n:Int} (h:¬ je6 s n):∃ i:Nat,n=(i:Int)/\i < s.last.length:=by
 unfold je6 at h;exact ⟨n.toNat,by omega,by omega⟩
theorem jlO {s:Dk} {i:Nat} (h:i < s.last.length):¬ je6 s (i:Int):=by unfold je6;omega
theorem jib {s:Dk} (h:s.ok) {i:Nat} (hi:i < s.last.length):Sec (jjQ s i):=by
 unfold jjQ
 have key:∀ (ps:List (Nat × List Nat)) (t:List Nat),(∀ p∈ps,Sec p.2)->Sec t->Sec (jdM i ps t):=by
  intro ps
  induction ps with
  | nil=>intro t _ ht;exact ht
  | cons p ps ih =>
   intro t hp ht;unfold jdM;refine ih _ (fun q hq=>hp q (List.mem_cons_of_mem _ hq)) ?_;split
   ·exact hp p (List.mem_cons_self ..)
   ·exact ht
 refine key s.pend _ (fun p hp=>?_) (h.sec i hi);obtain ⟨j,hj,e⟩:=List.getElem_of_mem hp;have:=(h.pen j hj).2;rw [List.getD_eq_getElem?_getD,List.getElem?_eq_getElem hj] at this;rw [<- e];exact this
theorem jl5 {s:Dk} (h:s.ok) (ps:List (Nat × List Nat)) (hps:∀ p∈ps,p∈s.pend) (lim:Option Nat) (off:Bool):(⟨jdl ps s.last,[],lim,off⟩:Dk).ok:=by
 refine ⟨by rw [jcI];exact h.pos,by rw [jcI];exact h.le,fun i hi=>?_,fun i hi=>by simp at hi⟩;rw [jcI] at hi;rw [jfV i _ _ hi]
 have h2:(⟨s.last,ps,none,false⟩:Dk).ok:=by
  refine ⟨h.pos,h.le,h.sec,fun j hj=>?_⟩
  have hm:ps.getD j (0,[])∈s.pend:=by
   rw [List.getD_eq_getElem?_getD,List.getElem?_eq_getElem hj];exact hps _ (List.getElem_mem hj)
  obtain ⟨m,hm1,hm2⟩:=List.getElem_of_mem hm;have:=h.pen m hm1;rw [List.getD_eq_getElem?_getD,List.getElem?_eq_getElem hm1] at this;rw [<- hm2];exact this
 exact jib (s:=⟨s.last,ps,none,false⟩) h2 hi
theorem jog {s:Dk} (h:s.ok):(jaT s).ok:=by unfold jaT;split <;> exact ⟨h.pos,h.le,h.sec,h.pen⟩
theorem jnL {s:Dk} (h:s.ok):(jbD s).ok:=by
 unfold jbD;split
 ·exact h
 ·split
  ·exact jl5 h s.pend (fun _ hp=>hp) _ _
  ·exact jog h
theorem jke {s:Dk} (h:s.ok) (n:Int):(jf6 s n).ok:=⟨h.pos,h.le,h.sec,h.pen⟩
theorem jgT {s:Dk} (h:s.ok) (keep:List Bool):(jbZ s keep).ok:=jl5 h _ (fun p hp=>jed (Nat.le_refl _) p hp) _ _
theorem jlZ (s:Dk) (keep:List Bool):(jbZ s keep).last.length=s.last.length/\(jbZ s keep).pend.length=0:=⟨jcI _ _,rfl⟩
structure jq8 (n i:Nat) (s:Dk):Prop where
 ok:s.ok
 three:s.last.length=3
 pen:s.pend.length<=i
 on:i<=n->s.off=false/\s.lim=some (n - i)
 off:n < i->s.off=true
structure jqV (N i:Nat) (s:Dk):Prop where
 ok:s.ok
 len:s.last.length=N
 pen:s.pend.length<=i
 lim:s.lim=none
 on:s.off=false
def jq4 (s:Dk) (n:Nat):List (List Nat):=s.last.getD n [] :: (s.pend.filter fun p=>p.1 == n).map Prod.snd
structure Rc where
 k:Int
 a:Int
 b:Int
 c:Int
 d:Int
 key:ByteArray
theorem jpX (x y:Rc):(x.k=y.k/\x.a=y.a/\x.b=y.b/\x.c=y.c/\x.d=y.d/\x.key=y.key)↔x=y:=by
 constructor
 ·obtain ⟨_,_,_,_,_,_⟩:=x;obtain ⟨_,_,_,_,_,_⟩:=y;rintro ⟨h1,h2,h3,h4,h5,h6⟩;simp only at h1 h2 h3 h4 h5 h6;subst h1 h2 h3 h4 h5 h6;rfl
 ·rintro rfl;exact ⟨rfl,rfl,rfl,rfl,rfl,rfl⟩
instance:DecidableEq Rc:=fun x y=>decidable_of_iff _ (jpX x y)
def rcV (r:Rc):Array Value:=#[.int .i64 r.k,.int .i64 r.a,.int .i64 r.b,.int .i64 r.c,.int .i64 r.d,.string r.key]
def jdD (n:Int):Prop:=-9223372036854775808<=n/\n<=9223372036854775807
structure Rc.ok (r:Rc):Prop where
 k:jdD r.k
 a:jdD r.a
 b:jdD r.b
 c:jdD r.c
 d:jdD r.d
 key:r.key.size<=9223372036854775807
def jax (w:World) (B:Nat) (A:Option Addr) (rs:List Rc):Prop :=
 ∀ k,(h:k < rs.length)->∃ b off,A=some ⟨b,off,none⟩/\b < B/\w.cell? ⟨b,off + 6 * k,none⟩=some (.int .i64 rs[k].k)/\w.cell? ⟨b,off + 6 * k + 1,none⟩=some (.int .i64 rs[k].a)/\w.cell? ⟨b,off + 6 * k + 2,none⟩=some (.int .i64 rs[k].b) /\
  w.cell? ⟨b,off + 6 * k + 3,none⟩=some (.int .i64 rs[k].c)/\w.cell? ⟨b,off + 6 * k + 4,none⟩=some (.int .i64 rs[k].d)/\w.cell? ⟨b,off + 6 * k + 5,none⟩=some (.string rs[k].key)
theorem jax.below {w w':World} {B:Nat} {A:Option Addr} {rs:List Rc} (h:jax w B A rs) (hb:Below B w w'):jax w' B A rs:=fun k hk=>by
 obtain ⟨b,off,e,hl,c0,c1,c2,c3,c4,c5⟩:=h k hk;exact ⟨b,off,e,hl,(hb.cell (p:=⟨b,_,none⟩) hl).trans c0,(hb.cell (p:=⟨b,_,none⟩) hl).trans c1,(hb.cell (p:=⟨b,_,none⟩) hl).trans c2,(hb.cell (p:=⟨b,_,none⟩) hl).trans c3,(hb.cell (p:=⟨b,_,none⟩) hl).trans c4,(hb.cell (p:=⟨b,_,none⟩) hl).trans c5⟩
theorem jax.more {w:World} {B B':Nat} {A:Option Addr} {rs:List Rc} (h:jax w B A rs) (hB:B<=B'):jax w B' A rs:=fun k hk=>by
 obtain ⟨b,off,e,hl,h'⟩:=h k hk;exact ⟨b,off,e,by omega,h'⟩
theorem jax.nil (w:World) (B:Nat) (A:Option Addr):jax w B A []:=fun _ h=>absurd h (Nat.not_lt_zero _)
def jbj (n:Int) (s k:Nat):List Int:=(List.range k).map fun i=>n / 256 ^ (s - 1 - i) % 256
def bytesOf (n:Int) (s:Nat):List Int:=jbj n s s
theorem jfw (n:Int) (s k:Nat):(jbj n s k).length=k:=by simp [jbj]
theorem jaQ (n:Int) (s:Nat):(bytesOf n s).length=s:=jfw n s s
theorem jeO (n:Int) (s k:Nat):jbj n s (k + 1)=jbj n s k ++ [n / 256 ^ (s - 1 - k) % 256]:=by
 simp [jbj,List.range_succ]
theorem jeP (n:Int) (s:Nat):jbj n s 0=[]:=rfl
theorem jjt (n:Int) (s k:Nat):∀ z∈jbj n s k,0<=z/\z<=255:=by
 intro z hz;simp only [jbj,List.mem_map] at hz;obtain ⟨i,_,rfl⟩:=hz;omega
theorem jfj (n:Int) (s:Nat):∀ z∈bytesOf n s,0<=z/\z<=255:=jjt n s s
def jaD (l:List Int):Int:=l.foldl (fun a x=>a * 256 + x) 0
theorem jmM:jaD []=0:=rfl
theorem jex (l:List Int) (x:Int):jaD (l ++ [x])=jaD l * 256 + x:=by simp [jaD,List.foldl_append]
theorem jj6 (l:List Int) (h:∀ z∈l,0<=z/\z<=255):0<=jaD l/\jaD l < 256 ^ l.length:=by
 suffices H:∀ n (l:List Int),l.length=n->(∀ z∈l,0<=z/\z<=255)->0<=jaD l/\jaD l < 256 ^ l.length from H _ l rfl h
 intro n
 induction n with
 | zero=>intro l hl _;have:l=[]:=List.eq_nil_of_length_eq_zero hl;subst this;simp [jaD]
 | succ n ih =>
  intro l hl hm;have hne:l≠[]:=by intro e;subst e;simp at hl
  obtain ⟨a,x,rfl⟩:∃ a x,l=a ++ [x]:=⟨l.dropLast,l.getLast hne,(List.dropLast_concat_getLast hne).symm⟩;have hx:=hm x (by simp);have ha:=ih a (by simpa using hl) (fun z hz=>hm z (by simp [hz]));rw [jex,List.length_append,List.length_singleton,Int.pow_succ];omega
theorem pow_pos (s:Nat):(0:Int) < 256 ^ s:=Int.pow_pos (by decide)
theorem jle (s:Nat) (h:s<=7):(256:Int) ^ s<=72057594037927936:=by
 have:s=0∨s=1∨s=2∨s=3∨s=4∨s=5∨s=6∨s=7:=by omega
 rcases this with rfl | rfl | rfl | rfl | rfl | rfl | rfl | rfl <;> decide
theorem jqk (k:Nat):(2:Int) ^ (8 * k)=256 ^ k:=by rw [Int.pow_mul];rfl
def jfh (s:Int):Bool:=decide (1<=s/\s<=8)
def jfk (n s:Int):Bool:=decide (n < 256 ^ s.toNat)
def szs (sizes:List Int):Bool:=decide (sizes.length<=4096) && sizes.all jfh
def jbw (sizes:List Int):Int:=sizes.foldl (fun a s=>a + s) 0
theorem jeA (l:List Int) (x:Int):jbw (l ++ [x])=jbw l + x:=by simp [jbw,List.foldl_append]
theorem jdA (l:List Int) (x:Int):jbw (x :: l)=x + jbw l:=by
 unfold jbw
 have H:∀ (l:List Int) (a:Int),l.foldl (fun a s=>a + s) a=a + l.foldl (fun a s=>a + s) 0:=by
  intro l
  induction l with
  | nil=>intro a;simp
  | cons y ys ih=>intro a;rw [List.foldl_cons,List.foldl_cons,ih (a + y),ih (0 + y)];omega
 rw [List.foldl_cons,H];omega
theorem jco (l:List Int) (h:l.all jfh=true):(l.length:Int)<=jbw l/\jbw l<=8 * l.length:=by
 induction l with
 | nil=>simp [jbw]
 | cons y ys ih =>
  simp only [List.all_cons,Bool.and_eq_true,jfh,decide_eq_true_eq] at h;have:=ih h.2;rw [jdA,List.length_cons];omega
def ja4 (list sizes:List Int):Int :=
 if szs sizes=true/\list.length=sizes.length then (if (list.zip sizes).all (fun p=>jfk p.1 p.2)=true then 0 else 7) else 1
def jbx (list sizes:List Int) (k:Nat):List Int:=((list.zip sizes).take k).flatMap fun p=>bytesOf p.1 p.2.toNat
def jbA (list sizes:List Int):List Int:=if ja4 list sizes=0 then (list.zip sizes).flatMap (fun p=>bytesOf p.1 p.2.toNat) else []
def jqZ (zs:List Int) (s:Int):Int:=if jfh s=true then (if (zs.length:Int) < s then 3 else 0) else 1
def jq5 (zs:List Int) (s:Int):Int:=if jqZ zs s=0 then jaD (zs.take s.toNat) else 0
def jqA (zs sizes:List Int):Int:=if szs sizes=true then (if (zs.length:Int) < jbw sizes then 3 else if jbw sizes < (zs.length:Int) then 2 else 0) else 1
def ja3:List Int->List Int->List Int
 | _,[]=>[]
 | zs,s :: ss=>jaD (zs.take s.toNat) :: ja3 (zs.drop s.toNat) ss
def jqN (zs sizes:List Int):List Int:=if jqA zs sizes=0 then ja3 zs sizes else []
theorem jdR (zs sizes:List Int):(ja3 zs sizes).length=sizes.length:=by
 induction sizes generalizing zs with
 | nil=>rfl
 | cons s ss ih=>simp [ja3,ih]
theorem jgh (zs a b:List Int) (h:a.all jfh=true):ja3 zs (a ++ b)=ja3 zs a ++ ja3 (zs.drop (jbw a).toNat) b:=by
 induction a generalizing zs with
 | nil=>simp [ja3,jbw]
 | cons s ss ih =>
  simp only [List.all_cons,Bool.and_eq_true] at h;have hs:1<=s/\s<=8:=by simpa only [jfh,decide_eq_true_eq] using h.1
  have ht:=jco ss h.2;rw [List.cons_append,ja3,ih _ h.2,ja3,List.cons_append,List.drop_drop,jdA]
  congr 3
  congr 1
  omega
theorem joG (list sizes:List Int) (k:Nat) (h1:k < list.length) (h2:k < sizes.length):(list.zip sizes)[k]? = some (list.getD k 0,sizes.getD k 0):=by
 rw [List.getElem?_eq_getElem (by simp;omega),List.getElem_zip];simp [List.getD,h1,h2]
theorem jep (list sizes:List Int) (k:Nat) (h1:k < list.length) (h2:k < sizes.length):(list.zip sizes).take (k + 1)=(list.zip sizes).take k ++ [(list.getD k 0,sizes.getD k 0)]:=by
 have hk:k < (list.zip sizes).length:=by simp;omega
 have hz:=joG list sizes k h1 h2;rw [List.getElem?_eq_getElem hk] at hz;rw [List.take_succ_eq_append_getElem hk];injection hz with hz
 rw [hz]
theorem jd8 (list sizes:List Int) (k:Nat) (h1:k < list.length) (h2:k < sizes.length) :
  jbx list sizes (k + 1)=jbx list sizes k ++ bytesOf (list.getD k 0) (sizes.getD k 0).toNat:=by
 unfold jbx;rw [jep list sizes k h1 h2,List.flatMap_append];simp
theorem jhl (list sizes:List Int):jbx list sizes 0=[]:=by simp [jbx]
theorem jh4 (list sizes:List Int) (h:sizes.all jfh=true):∀ k,(jbx list sizes k).length<=8 * k:=by
 intro k
 induction k with
 | zero=>simp [jbx]
 | succ k ih =>
  by_cases h1:k < list.length/\k < sizes.length
  ·rw [jd8 list sizes k h1.1 h1.2,List.length_append,jaQ];have hm:sizes.getD k 0∈sizes:=by simp [List.getD,h1.2]
   have:=List.all_eq_true.1 h _ hm;simp only [jfh,decide_eq_true_eq] at this;omega
  ·have hl:(list.zip sizes).length<=k:=by simp;omega
   unfold jbx at ih ⊢;rw [List.take_of_length_le (by omega)];rw [List.take_of_length_le hl] at ih;omega
theorem jji {list sizes:List Int} (h:szs sizes=false∨list.length≠sizes.length):ja4 list sizes=1/\jbA list sizes=[]:=by
 have:ja4 list sizes=1:=by
  unfold ja4;rw [if_neg];rintro ⟨a,b⟩;rcases h with h | h
  ·rw [h] at a;cases a
  ·exact h b
 exact ⟨this,by unfold jbA;rw [this];rfl⟩
theorem jgQ {list sizes:List Int} (h:szs sizes=true) (hl:list.length=sizes.length) (k:Nat) (hk:k < list.length) (hf:jfk (list.getD k 0) (sizes.getD k 0)=false):ja4 list sizes=7/\jbA list sizes=[]:=by
 have:ja4 list sizes=7:=by
  unfold ja4;rw [if_pos ⟨h,hl⟩,if_neg];intro ha;have hz:=joG list sizes k hk (by omega);have:=List.all_eq_true.1 ha _ (List.mem_of_getElem? hz);simp only [hf] at this;cases this
 exact ⟨this,by unfold jbA;rw [this];rfl⟩
theorem jkK {list sizes:List Int} (h:szs sizes=true) (hl:list.length=sizes.length) (ha:((list.zip sizes).take list.length).all (fun p=>jfk p.1 p.2)=true):ja4 list sizes=0/\jbA list sizes=jbx list sizes list.length:=by
 have hz:(list.zip sizes).take list.length=list.zip sizes:=List.take_of_length_le (by simp;omega);rw [hz] at ha
 have:ja4 list sizes=0:=by
  unfold ja4;rw [if_pos ⟨h,hl⟩,if_pos ha]
 exact ⟨this,by unfold jbA jbx;rw [this,hz];rfl⟩
theorem jg5 (n:Int) (s:Nat) (h0:0<=n) (h:n < 256 ^ s):∀ k,k<=s->jaD (jbj n s k)=n / 256 ^ (s - k):=by
 intro k
 induction k with
 | zero=>intro _;rw [jeP,jmM,Nat.sub_zero,Int.ediv_eq_zero_of_lt h0 h]
 | succ k ih =>
  intro hk;rw [jeO,jex,ih (by omega)];have e:s - k=(s - 1 - k) + 1:=by omega
  have e2:s - (k + 1)=s - 1 - k:=by omega
  rw [e2,e,Int.pow_succ,<- Int.ediv_ediv_of_nonneg (Int.le_of_lt (pow_pos _))];omega
theorem jbe (n:Int) (s:Nat) (h0:0<=n) (h:n < 256 ^ s):jaD (bytesOf n s)=n:=by
 have:=jg5 n s h0 h s (Nat.le_refl _);rw [Nat.sub_self,Int.pow_zero,Int.ediv_one] at this;exact this
end Go.Proofs.YtbnhkplhmanmoaaGreat
namespace Go.Proofs.YtbnhkplhmanmoaaGreat
def jmO:Nat:=0xEDB88320
def jbG (r:Nat):Nat:=if r % 2=1 then r / 2 ^^^ jmO else r / 2
theorem jk3 {r:Nat} (h:r < 2 ^ 32):jbG r < 2 ^ 32:=by
 unfold jbG;split
 ·exact Nat.xor_lt_two_pow (by omega) (by decide)
 ·omega
theorem jm1 (a b:Nat):(a ^^^ b) % 2=(a + b) % 2:=by
 have h:=Nat.testBit_xor (x:=a) (y:=b) (i:=0);simp only [Nat.testBit_zero] at h;have ha:=Nat.mod_two_eq_zero_or_one a;have hb:=Nat.mod_two_eq_zero_or_one b;have hc:=Nat.mod_two_eq_zero_or_one (a ^^^ b);rcases ha with ha | ha <;> rcases hb with hb | hb <;> rcases hc with hc | hc <;> simp [ha,hb,hc] at h <;> omega
theorem jon (a b:Nat):(a ^^^ b) / 2=a / 2 ^^^ b / 2:=by
 have:=Nat.shiftRight_xor_distrib (a:=a) (b:=b) (i:=1);simpa [Nat.shiftRight_eq_div_pow] using this
theorem joc (a b c d:Nat):(a ^^^ b) ^^^ (c ^^^ d)=(a ^^^ c) ^^^ (b ^^^ d):=by
 rw [Nat.xor_assoc,Nat.xor_assoc,<- Nat.xor_assoc b,Nat.xor_comm b c,Nat.xor_assoc c]
theorem jiV (a b:Nat):jbG (a ^^^ b)=jbG a ^^^ jbG b:=by
 unfold jbG;rw [jm1,jon];have ha:=Nat.mod_two_eq_zero_or_one a;have hb:=Nat.mod_two_eq_zero_or_one b;rcases ha with ha | ha <;> rcases hb with hb | hb
 ·rw [if_neg (by omega),if_neg (by omega),if_neg (by omega)]
 ·rw [if_pos (by omega),if_neg (by omega),if_pos (by omega),Nat.xor_assoc]
 ·rw [if_pos (by omega),if_pos (by omega),if_neg (by omega),Nat.xor_assoc,Nat.xor_comm (b / 2),Nat.xor_assoc]
 ·rw [if_neg (by omega),if_pos (by omega),if_pos (by omega),joc,Nat.xor_self,Nat.xor_zero]
def jcX (n:Nat) (r:Nat):Nat:=n.repeat jbG r
theorem jcp (n r:Nat):jcX (n + 1) r=jbG (jcX n r):=rfl
theorem jie (n a b:Nat):jcX n (a ^^^ b)=jcX n a ^^^ jcX n b:=by
 induction n with
 | zero=>rfl
 | succ n ih=>rw [jcp,jcp,jcp,ih,jiV]
theorem jj9 {n r:Nat} (h:r < 2 ^ 32):jcX n r < 2 ^ 32:=by
 induction n with
 | zero=>exact h
 | succ n ih=>exact jk3 ih
theorem jla (m n r:Nat):jcX (m + n) r=jcX m (jcX n r):=by
 induction m with
 | zero=>rw [Nat.zero_add];rfl
 | succ m ih=>rw [Nat.succ_add,jcp,ih,jcp]
theorem jjd (n r:Nat):jcX (n + 1) r=jcX n (jbG r):=jla n 1 r
theorem jkO (k x:Nat):jcX k (x * 2 ^ k)=x:=by
 induction k with
 | zero=>simp [jcX,Nat.repeat]
 | succ k ih =>
  rw [jjd]
  have e:jbG (x * 2 ^ (k + 1))=x * 2 ^ k:=by
   unfold jbG;have h1:x * 2 ^ (k + 1)=(x * 2 ^ k) * 2:=by rw [Nat.pow_succ,Nat.mul_assoc]
   rw [h1,if_neg (by omega)];omega
  rw [e,ih]
def jaN (r:Nat):Nat:=jcX 8 r
theorem jde {r:Nat} (h:r < 2 ^ 32):jaN r < 2 ^ 32:=jj9 h
theorem jhX (a b:Nat):jaN (a ^^^ b)=jaN a ^^^ jaN b:=jie 8 a b
theorem jnc (r:Nat):r % 256 ^^^ (r / 256) * 2 ^ 8=r:=by
 apply Nat.eq_of_testBit_eq;intro i;rw [Nat.testBit_xor,Nat.testBit_mul_two_pow,show (256:Nat)=2 ^ 8 from rfl,Nat.testBit_mod_two_pow,<- Nat.shiftRight_eq_div_pow,Nat.testBit_shiftRight];by_cases h:i < 8
 ·have h2:¬ 8<=i:=by omega
  simp [h,h2]
 ·have h2:8<=i:=by omega
  have h3:8 + (i - 8)=i:=by omega
  simp [h,h2,h3]
theorem jf9 (r:Nat):jaN r=jaN (r % 256) ^^^ r / 256:=by
 have h:=jhX (r % 256) ((r / 256) * 2 ^ 8);rw [jnc] at h;rw [h]
 congr 1
 exact jkO 8 (r / 256)
def jkc (r:Nat) (l:List Nat):Nat:=l.foldl (fun r b=>jaN (r ^^^ b)) r
theorem jiO (r:Nat) (a b:List Nat):jkc r (a ++ b)=jkc (jkc r a) b:=by simp [jkc,List.foldl_append]
theorem jo8 {r:Nat} (l:List Nat) (h:r < 2 ^ 32) (hl:∀ b∈l,b < 256):jkc r l < 2 ^ 32:=by
 induction l generalizing r with
 | nil=>exact h
 | cons x l ih =>
  refine ih (jde (Nat.xor_lt_two_pow h ?_)) fun b hb=>hl b (List.mem_cons_of_mem _ hb)
  have:=hl x (by simp);omega
def jge (r:Nat):Nat:=4294967295 - r
theorem jjF (r:Nat):jge r < 2 ^ 32:=by unfold jge;omega
theorem jld {r:Nat} (h:r < 2 ^ 32):jge r=r ^^^ 4294967295:=by
 have e:jge r=2 ^ 32 - (r + 1):=by unfold jge;omega
 apply Nat.eq_of_testBit_eq;intro i;rw [e,Nat.testBit_two_pow_sub_succ h,Nat.testBit_xor,show (4294967295:Nat)=2 ^ 32 - 1 from rfl,Nat.testBit_two_pow_sub_one];by_cases hi:i < 32
 ·simp [hi]
 ·have:r.testBit i=false:=Nat.testBit_lt_two_pow (Nat.lt_of_lt_of_le h (Nat.pow_le_pow_right (by decide) (by omega)));simp [hi,this]
def jhQ (s:Nat) (l:List Nat):Nat:=jge (jkc (jge s) l)
theorem jnD (s:Nat) (l:List Nat):jhQ s l < 2 ^ 32:=jjF _
def nb (zs:List Int):List Nat:=zs.map Int.toNat
theorem jqJ {zs:List Int} (h:∀ z∈zs,0<=z/\z<=255):∀ b∈nb zs,b < 256:=by
 intro b hb;obtain ⟨z,hz,rfl⟩:=List.mem_map.1 hb;have:=h z hz;omega
theorem jlE (r:Nat) (l:List Nat) (x:Nat):jkc r (l ++ [x])=jaN (jkc r l ^^^ x):=by rw [jiO];rfl
def joq (s n:Nat):Nat:=jhQ s (List.replicate n 0)
def jqP (a b n:Nat):Nat:=joq a n ^^^ joq 0 n ^^^ b
end Go.Proofs.YtbnhkplhmanmoaaGreat
