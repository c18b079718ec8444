/-
  The statement of the law MacCodes (of bulk at most 1048576), proved: whatever its arguments are, the function returns true, and each argument reads afterwards as it read before. Conditions: none but those of the statement itself.
-/
import Derived.Test.YtocnbhefjhammaaDoorRows
import Derived.Test.YtocnbhefjhammaaDoorMacTop
import Derived.WalkKit
import Derived.ProofKit
import Derived.OpenShut
import Derived.ShutString
import Derived.ChangeOld
import Derived.Below
import Derived.JoinedCond
import Derived.Test.YtocnbhefjhammaaDoorCards
import Derived.Test.YtocnbhefjhammaaDoorTie
import Derived.Deep.DeepHandedRow
import Derived.Lib.LaidTab
import Derived.SevenTiedAt
import Derived.JoinedCond
namespace Go.Proofs.YtocnbhefjhammaaDoor.macCodesUpto
open Go.ChangeShapes Go.WideShapes Go.ChangeAt Go.RowKit
open Go.ChangeMaps (open_string shut_string)
set_option linter.unusedVariables false

theorem own : ownKnob Tryd.prog.godebug = none := by kernel_rfl
theorem laidOut : laidOutB Tryd.prog = true := by kernel_rfl

def IsRow (k : IntKind) (w : World) (a : Option Addr) (len cap : Nat) (zs : List Int) : Prop :=
  (a = none ∧ len = 0 ∧ cap = 0 ∧ zs = []) ∨
  ∃ x, a = some x ∧ len ≤ cap ∧ cap ≤ maxLen ∧ zs.length = cap ∧ (∀ i, i < zs.length → w.cell? (x.add i) = some (.int k (zs.getD i 0))) ∧ ∀ n ∈ zs, (Lit.int k n).wf = true

theorem walk (a0 : Option Addr) (len0 cap0 : Nat) (z0 : List Int) (a1 : Option Addr) (len1 cap1 : Nat) (z1 : List (Option Addr × Nat × List Int)) (w : World) (hlaid : Laid w) (w0 : IsRow .u8 w a0 len0 cap0 z0) (s0 : len0 ≤ 1048576) (w1 : IsRows .u8 w a1 len1 cap1 z1) (s1 : len1 + (z1.map fun r => r.2.2.length).sum ≤ 1048576) :
    Calls Tryd.prog 3 #[.slice a0 len0 cap0, .slice a1 len1 cap1] w fun e w' => e = .returned (.bool true) ∧ Below w.heap.size w w' := by
  have hn0 := nil_of_row w0
  obtain ⟨l0, rfl, hc0, _, hi0, hw0⟩ := ints_of_row w0
  obtain ⟨ps, rfl, hs, hp, hc⟩ := parts_of_rows w1
  have hz0 : ∀ z ∈ l0, 0 ≤ z ∧ z ≤ 255 := fun z hz => bounds_u8 (hw0 z hz)
  rw [← up_toNat hz0] at hi0
  have hx0 : ∀ x ∈ l0.map Int.toNat, x < 256 := fun x hx => by obtain ⟨z, h1, rfl⟩ := List.mem_map.1 hx; have := hz0 z h1; omega
  have hl0 : (l0.map Int.toNat).length = l0.length := List.length_map _
  rw [← hl0]
  exact macCodes_go a0 a1 cap0 cap1 (l0.map Int.toNat) ps w (mac_code hlaid) mac_same sha_ref hi0 hn0 hx0 (by omega) (by omega) hp hc fun k => by
    have h1 := catTo_le ps k
    have h2 := congrArg List.sum hs
    omega

theorem slice_le {H : Type} (elems spare : List (DataW H)) : elems.length + 1 ≤ Rows.uptoBulk (.slice elems spare) := by
  have h : ∀ l : List (DataW H), l.length ≤ Rows.uptoBulkAll l := by
    intro l
    induction l with
    | nil => simp [Rows.uptoBulkAll]
    | cons x r ih =>
      have : 1 ≤ Rows.uptoBulk x := by
        cases x with
        | lit l => cases l <;> simp [Rows.uptoBulk]
        | _ => simp [Rows.uptoBulk]
      simp only [Rows.uptoBulkAll, List.length_cons]; omega
  have := h elems
  simp only [Rows.uptoBulk]; omega
theorem slice_sum {H : Type} (elems spare : List (DataW H)) : Rows.uptoBulkAll elems + 1 ≤ Rows.uptoBulk (.slice elems spare) := by
  simp only [Rows.uptoBulk]; omega
theorem rows_le {H : Type} (k : IntKind) (A : Nat → Option Addr) (L C : Nat → Nat) (Z : Nat → List Int) (n : Nat) (h : ∀ r, r < n → (A r = none → L r = 0) ∧ L r ≤ (Z r).length) :
    n + (((List.range n).map fun r => (A r, C r, (Z r).take (L r))).map fun r => r.2.2.length).sum ≤ Rows.uptoBulkAll ((List.range n).map fun r => (Go.Deep.intRow k (A r) (L r) (Z r) : DataW H)) := by
  have key : ∀ l : List Nat, (∀ r ∈ l, r < n) → l.length + ((l.map fun r => (A r, C r, (Z r).take (L r))).map fun r => r.2.2.length).sum ≤ Rows.uptoBulkAll (l.map fun r => (Go.Deep.intRow k (A r) (L r) (Z r) : DataW H)) := by
    intro l
    induction l with
    | nil => intro _; simp [Rows.uptoBulkAll]
    | cons r l ih =>
      intro hl
      have h1 := ih fun x hx => hl x (by simp [hx])
      obtain ⟨h2, h3⟩ := h r (hl r (by simp))
      have h4 : ((Z r).take (L r)).length + 1 ≤ Rows.uptoBulk (Go.Deep.intRow k (A r) (L r) (Z r) : DataW H) := by
        unfold Go.Deep.intRow
        rcases hA : A r with _ | a'
        · rw [h2 hA]; simp [Rows.uptoBulk]
        · have := slice_le (H := H) (Go.ChangeShapes.lits k ((Z r).take (L r))) (Go.ChangeShapes.lits k ((Z r).drop (L r)))
          simpa [Go.ChangeShapes.lits] using this
      simp only [List.map_cons, List.sum_cons, List.length_cons, Rows.uptoBulkAll]
      omega
  have := key (List.range n) fun r hr => List.mem_range.1 hr
  simpa using this
theorem bound {H : Type} {l : List (DataW H)} (hk : Rows.uptoSmall H l = true) : Rows.uptoBulkAll l ≤ 1048576 := of_decide_eq_true hk

theorem laid_met (os : Os) : laidMet Tryd.prog Rows.macCodesUptoRow.laid ((laidWorld os).forCall (fun _ _ => 0) ⟨#[], #[.slice none 0 0, .slice none 0 0], []⟩).memory :=
  laidMet_of_run' 8 (by kernel_rfl) (by kernel_rfl)
theorem reads (os : Os) {H : Type} (enc : TypeId × Value → H) : ∃ places, DataW.whole enc Tryd.prog ((laidWorld os).forCall (fun _ _ => 0) ⟨#[], #[.slice none 0 0, .slice none 0 0], []⟩).memory Tryd.f3.params.toList Rows.macCodesSpec.vars false #[Value.slice none 0 0, Value.slice none 0 0].toList 8 = some ([.nil, .nil], [], places) :=
  ⟨[], by kernel_rfl⟩

set_option maxRecDepth 100000 in
theorem lifted (os : Os) (started : os.Started) (H : Type) (enc : TypeId × Value → H) (F : Stop.Interp) :
    ReturnsInHanded {} Tryd.checked os 3 .any ((Rows.OpenSpec.upto Rows.macCodesSpec).preRow enc Tryd.prog Tryd.f3 Rows.macCodesUptoRow.domain false Rows.macCodesUptoRow.laid) (((Rows.OpenSpec.upto Rows.macCodesSpec).at F).post enc Tryd.prog Tryd.f3 false true false false) := by
  obtain ⟨places, hx⟩ := reads os enc
  refine returnsInHanded_of_row (C := Tryd.checked) (s := Rows.OpenSpec.upto Rows.macCodesSpec) own started (by kernel_rfl) Tryd.func3
    (witness_row_at (enc := enc) (C := Tryd.checked) false (laidWorld os) #[.slice none 0 0, .slice none 0 0] rfl (by kernel_rfl) (by kernel_rfl) (by kernel_rfl)
      (OpenSpec.preRow_of_cond 8 hx (by kernel_rfl) (fun k hk => by cases hk; kernel_rfl) (by kernel_rfl) (laid_met os))) ?_
  intro W base args ds gs before hval0 hW hcnd hcond hsz0 hL _ _
  have hk := hcond _ rfl
  have hval : ∀ (j : Nat) t v, Tryd.f3.params[j]? = some t → args[j]? = some v → Value.okWide Tryd.prog W .any base t v := hval0
  have hW' := hW
  obtain ⟨p, q, hA0, hV, rfl, hfz, hnd⟩ := hW
  have hA : DataW.TrodAll enc Tryd.prog W 0 (fun _ => true) true Tryd.f3.params.toList args.toList ds p := hA0
  rw [Tryd.params3] at hA hval
  obtain ⟨v0, vs0, d0, ds0, p0, q0, hargs, rfl, rfl, h0, r0⟩ := trodAll_cons hA
  obtain ⟨v1, vs1, d1, ds1, p1, q1, rfl, rfl, rfl, h1, r1⟩ := trodAll_cons r0
  obtain ⟨rfl, rfl, rfl⟩ := trodAll_nil r1
  obtain rfl : args = #[v0, v1] := by cases args; simp_all
  obtain ⟨rfl, rfl⟩ := trodVars_none hV
  have hbulk := bound hk
  simp only [Rows.uptoBulkAll, List.append_nil] at hbulk
  obtain ⟨a0, len0, cap0, rfl⟩ := okWide_slice Tryd.underlying22 (hval 0 22 v0 rfl rfl)
  have k0 := h0
  have lt0 : ∀ x ∈ p0, x.block < W.heap.size := by obtain ⟨m, hm⟩ := k0; exact DataW.trod_lt m _ _ _ hm
  obtain ⟨z0, w0, s0⟩ : ∃ zs, IsRow .u8 W a0 len0 cap0 zs ∧ len0 ≤ 1048576 := by
    obtain ⟨fuel, hf⟩ := h0
    rcases open_ints Tryd.underlying22 Tryd.underlying5 (by kernel_rfl) hf with ⟨hcs, _⟩ | ⟨x, l, c, zs, hcs, _, hl, hm, hz, hx, hcell, hwz⟩
    · simp [Value.cells] at hcs
      obtain ⟨rfl, rfl, rfl⟩ := hcs
      exact ⟨[], .inl ⟨rfl, rfl, rfl, rfl⟩, by omega⟩
    · simp [Value.cells] at hcs
      obtain ⟨rfl, rfl, rfl⟩ := hcs
      have hzl : zs.length = cap0 := by simpa using hz
      have hd : d0 = .slice (lits .u8 (zs.take len0)) (lits .u8 (zs.drop len0)) := (Prod.mk.inj hx).1
      rw [hd] at hbulk; have hq := slice_le (H := H) (lits .u8 (zs.take len0)) (lits .u8 (zs.drop len0))
      exact ⟨zs, .inr ⟨_, rfl, hl, hm, hzl, hcell, hwz⟩, by have hl2 : (lits (H := H) .u8 (zs.take len0)).length = min len0 cap0 := (by simp [lits, hzl]; done); rw [hl2] at hq; omega⟩
  obtain ⟨a1, len1, cap1, rfl⟩ := okWide_slice Tryd.underlying23 (hval 1 23 v1 rfl rfl)
  have k1 := h1
  have lt1 : ∀ x ∈ p1, x.block < W.heap.size := by obtain ⟨m, hm⟩ := k1; exact DataW.trod_lt m _ _ _ hm
  obtain ⟨z1, w1, s1⟩ : ∃ z1, IsRows .u8 W a1 len1 cap1 z1 ∧ len1 + (z1.map fun r => r.2.2.length).sum ≤ 1048576 := by
    obtain ⟨fuel, hf⟩ := h1
    rcases Go.Deep.open_int_rows Tryd.underlying23 Tryd.underlying22 Tryd.underlying5 (by kernel_rfl) (by kernel_rfl) hf with ⟨hcs, _⟩ | ⟨x, l, c, AA, L, C, Z, hcs, _, hl, hm, hx, hr⟩
    · simp [Value.cells] at hcs
      obtain ⟨rfl, rfl, rfl⟩ := hcs
      exact ⟨[], ⟨rfl, Nat.le_refl _, Nat.zero_le _, fun i hi => absurd hi (by simp)⟩, by simp⟩
    · simp [Value.cells] at hcs
      obtain ⟨rfl, rfl, rfl⟩ := hcs
      have hd := (Prod.mk.inj hx).1
      exact ⟨_, rows_of_open hl hm (fun r hr' => ⟨(hr r hr').1, (hr r hr').2.1, (hr r hr').2.2.1, (hr r hr').2.2.2.1, (hr r hr').2.2.2.2.1, (hr r hr').2.2.2.2.2.1, fun a' ha' => ((hr r hr').2.2.2.2.2.2 a' ha').2⟩), by rw [hd] at hbulk; have hq := rows_le (H := H) .u8 AA L C Z len1 (fun r hr' => ⟨fun hn => by have := (hr r (by omega)).2.2.2.2.2.1 hn; have := (hr r (by omega)).2.1; omega, by have := (hr r (by omega)).2.2.2.1; have := (hr r (by omega)).2.1; omega⟩); have hq2 := slice_sum (H := H) ((List.range len1).map fun r => Go.Deep.intRow .u8 (AA r) (L r) (Z r)) ((List.range (cap1 - len1)).map fun j => Go.Deep.intRow .u8 (AA (len1 + j)) (L (len1 + j)) (Z (len1 + j))); omega⟩
  clear hA0 hval0
  refine (walk a0 len0 cap0 z0 a1 len1 cap1 z1 W (laid_of hL) w0 s0 w1 s1).mono fun e W' ⟨he, bel⟩ => ?_
  subst he
  exact ⟨_, rfl, _, _, _, [], _, [], hW', trodAll_mk1 (shut_bool Tryd.underlying4 _), (trodAll_cons_mk (Below.trod laidOut (by kernel_rfl) (of_decide_eq_true (by kernel_rfl)) k0 bel lt0) (trodAll_cons_mk (Below.trod laidOut (by kernel_rfl) (of_decide_eq_true (by kernel_rfl)) k1 bel lt1) (trodAll_mk0))), rfl, bel.frame _, fun h => by cases h⟩

theorem over : Rows.macCodesUptoRow.holds Tryd.pinned (Rows.OpenSpec.upto Rows.macCodesSpec) :=
  OpenClaim.holds_of_cond 3 Tryd.f3 rfl rfl rfl rfl rfl rfl rfl ⟨rfl, rfl, rfl, rfl, rfl⟩ rfl rfl rfl rfl rfl (by kernel_rfl) Tryd.func3 (by kernel_rfl)
    (of_decide_eq_true (by kernel_rfl)) (by unfold Func.isWrapper; first | (rw [if_pos (by decide +kernel)]; kernel_rfl) | (rw [if_neg (by decide +kernel)]; exact ⟨rfl, rfl⟩))
    (fun os started H enc _ F => by rw [OpenClaim.pre_eq_preRow]; exact lifted os started H enc F)

/-- No parameter wants a stand-in; the program's own looks are off: what the card asks. -/
theorem plain (f : FuncId) (fn : Func) (hf : Tryd.pinned.checked.prog.funcNamed "stowage/stowagelaw04.MacCodes" = some f) (hfn : Tryd.pinned.checked.prog.funcs[f]? = some fn) :
    false = Tryd.pinned.checked.prog.looks [] ∧ ∀ (j : Nat) t, fn.params[j]? = some t → Tryd.pinned.checked.prog.wantsStandIn t = false := by
  obtain rfl : f = 3 := Option.some.inj ((show Tryd.prog.funcNamed "stowage/stowagelaw04.MacCodes" = some 3 by kernel_rfl).symm.trans hf) |>.symm
  obtain rfl : fn = Tryd.f3 := (Option.some.inj (Tryd.func3.symm.trans hfn)).symm
  refine ⟨by kernel_rfl, fun j t ht => ?_⟩
  rw [Tryd.params3] at ht
  have hm : t ∈ [22, 23] := by simpa using Array.mem_of_getElem? ht
  have hall : ([22, 23].all fun u => !Tryd.prog.wantsStandIn u) = true := by kernel_rfl
  exact (show Tryd.prog.wantsStandIn t = false by simpa using List.all_eq_true.1 hall t hm)
theorem cardOver : Rows.MacCodesUptoCardSaid :=
  Claim7.holds_tied_plain_at .later [] _ _ _ _ over (fun _ h => by cases h) (by kernel_rfl) (fun _ h => by cases h) macCodesUpto_row_tie rfl ⟨rfl, rfl⟩ (by kernel_rfl) rfl plain (by kernel_rfl)

theorem proved : Rows.MacCodesUptoCardSaid := cardOver
#print axioms proved
end Go.Proofs.YtocnbhefjhammaaDoor.macCodesUpto
