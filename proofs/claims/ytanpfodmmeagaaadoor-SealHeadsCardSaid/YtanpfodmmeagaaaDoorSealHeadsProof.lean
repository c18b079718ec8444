/-
  The statement of the law SealHeads, proved: whatever its arguments are, the function returns true, and each argument reads afterwards as it read before. Conditions: none but those of the statement itself.
-/
import Derived.Test.YtanpfodmmeagaaaDoorRows
import Derived.Test.YtanpfodmmeagaaaDoorSealC5G
import Derived.WalkKit
import Derived.ProofKit
import Derived.OpenShut
import Derived.ShutString
import Derived.ChangeOld
import Derived.Below
import Derived.SizedLaws
import Derived.Test.YtanpfodmmeagaaaDoorCards
import Derived.Test.YtanpfodmmeagaaaDoorTie
import Derived.Deep.DeepHandedRow
import Derived.Lib.LaidTab
import Derived.SevenTiedAt
import Derived.JoinedCond
namespace Go.Proofs.YtanpfodmmeagaaaDoor.sealHeads
open Go.ChangeShapes Go.WideShapes Go.ChangeAt Go.RowKit
open Go.ChangeMaps (open_string shut_string)
set_option linter.unusedVariables false

theorem own : ownKnob Tryd.prog.godebug = none := by kernel_rfl
theorem laidOut : laidOutB Tryd.prog = true := by kernel_rfl

def IsRow (k : IntKind) (w : World) (a : Option Addr) (len cap : Nat) (zs : List Int) : Prop :=
  (a = none ∧ len = 0 ∧ cap = 0 ∧ zs = []) ∨
  ∃ x, a = some x ∧ len ≤ cap ∧ cap ≤ maxLen ∧ zs.length = cap ∧ (∀ i, i < zs.length → w.cell? (x.add i) = some (.int k (zs.getD i 0))) ∧ ∀ n ∈ zs, (Lit.int k n).wf = true

theorem walk (a0 : ByteArray) (a1t a1v a1b a1s a1r : Int) (a1g : ByteArray) (a2t a2v a2b a2s a2r : Int) (a2g : ByteArray) (a3 : Option Addr) (len3 cap3 : Nat) (z3 : List Int) (w : World) (hlaid : Laid w) (w0 : a0.size ≤ maxLen) (s0 : a0.size ≤ 140737488351232) (w1t : (Lit.int .i64 a1t).wf = true) (w1v : (Lit.int .i64 a1v).wf = true) (w1b : (Lit.int .i64 a1b).wf = true) (w1s : (Lit.int .i64 a1s).wf = true) (w1r : (Lit.int .i64 a1r).wf = true) (w1g : a1g.size ≤ maxLen) (w2t : (Lit.int .i64 a2t).wf = true) (w2v : (Lit.int .i64 a2v).wf = true) (w2b : (Lit.int .i64 a2b).wf = true) (w2s : (Lit.int .i64 a2s).wf = true) (w2r : (Lit.int .i64 a2r).wf = true) (w2g : a2g.size ≤ maxLen) (w3 : IsRow .u8 w a3 len3 cap3 z3) (s3 : cap3 * 1 ≤ 140737488351232) :
    Calls Tryd.prog 7 #[.string a0, .agg #[.int .i64 a1t, .int .i64 a1v, .int .i64 a1b, .int .i64 a1s, .int .i64 a1r, .string a1g], .agg #[.int .i64 a2t, .int .i64 a2v, .int .i64 a2b, .int .i64 a2s, .int .i64 a2r, .string a2g], .slice a3 len3 cap3] w fun e w' => e = .returned (.bool true) ∧ Below w.heap.size w w' := by
  have h1t : I64 a1t := int_i64 w1t
  have h1v : I64 a1v := int_i64 w1v
  have h1b : I64 a1b := int_i64 w1b
  have h1s : I64 a1s := int_i64 w1s
  have h1r : I64 a1r := int_i64 w1r
  have h2t : I64 a2t := int_i64 w2t
  have h2v : I64 a2v := int_i64 w2v
  have h2b : I64 a2b := int_i64 w2b
  have h2s : I64 a2s := int_i64 w2s
  have h2r : I64 a2r := int_i64 w2r
  obtain ⟨l3, rfl, hc3, _, hi3, hw3⟩ := ints_of_row w3
  have hz3 : ∀ z ∈ l3, 0 ≤ z ∧ z ≤ 255 := fun z hz => bounds_u8 (hw3 z hz)
  rw [← up_toNat hz3] at hi3
  have hx3 : ∀ x ∈ l3.map Int.toNat, x < 256 := fun x hx => by obtain ⟨z, h1, rfl⟩ := List.mem_map.1 hx; have := hz3 z h1; omega
  have hl3 : (l3.map Int.toNat).length = l3.length := List.length_map _
  rw [← hl3]
  exact sealHeads_go a0 a1g a1t a1v a1b a1s a1r a3 cap3 (l3.map Int.toNat) w (seal_spec hlaid) sha_ref h1t h1v h1b h1s h1r hi3 hx3 (by omega) (by omega) w0 a2t a2v a2b a2s a2r a2g h2t h2v h2b h2s h2r

theorem laid_met (os : Os) : laidMet Tryd.prog Rows.sealHeadsRow.laid ((laidWorld os).forCall (fun _ _ => 0) ⟨#[], #[.string ByteArray.empty, .agg #[.int .i64 0, .int .i64 0, .int .i64 0, .int .i64 0, .int .i64 0, .string ByteArray.empty], .agg #[.int .i64 0, .int .i64 0, .int .i64 0, .int .i64 0, .int .i64 0, .string ByteArray.empty], .slice none 0 0], []⟩).memory :=
  laidMet_of_run' 8 (by kernel_rfl) (by kernel_rfl)
theorem reads (os : Os) {H : Type} (enc : TypeId × Value → H) : ∃ places, DataW.whole enc Tryd.prog ((laidWorld os).forCall (fun _ _ => 0) ⟨#[], #[.string ByteArray.empty, .agg #[.int .i64 0, .int .i64 0, .int .i64 0, .int .i64 0, .int .i64 0, .string ByteArray.empty], .agg #[.int .i64 0, .int .i64 0, .int .i64 0, .int .i64 0, .int .i64 0, .string ByteArray.empty], .slice none 0 0], []⟩).memory Tryd.f7.params.toList Rows.sealHeadsSpec.vars false #[Value.string ByteArray.empty, Value.agg #[.int .i64 0, .int .i64 0, .int .i64 0, .int .i64 0, .int .i64 0, .string ByteArray.empty], Value.agg #[.int .i64 0, .int .i64 0, .int .i64 0, .int .i64 0, .int .i64 0, .string ByteArray.empty], Value.slice none 0 0].toList 8 = some ([.lit (.string []), .agg [.lit (.int .i64 0), .lit (.int .i64 0), .lit (.int .i64 0), .lit (.int .i64 0), .lit (.int .i64 0), .lit (.string [])], .agg [.lit (.int .i64 0), .lit (.int .i64 0), .lit (.int .i64 0), .lit (.int .i64 0), .lit (.int .i64 0), .lit (.string [])], .nil], [], places) :=
  ⟨[], by kernel_rfl⟩

set_option maxRecDepth 100000 in
theorem lifted (os : Os) (started : os.Started) (H : Type) (enc : TypeId × Value → H) (F : Stop.Interp) :
    ReturnsInHanded {} Tryd.checked os 7 .any ((OpenSpec.ofChange Rows.sealHeadsSpec).preRow enc Tryd.prog Tryd.f7 Rows.sealHeadsRow.domain false Rows.sealHeadsRow.laid) (((OpenSpec.ofChange Rows.sealHeadsSpec).at F).post enc Tryd.prog Tryd.f7 false true false false) := by
  obtain ⟨places, hx⟩ := reads os enc
  refine returnsInHanded_of_row (C := Tryd.checked) (s := OpenSpec.ofChange Rows.sealHeadsSpec) own started (by kernel_rfl) Tryd.func7
    (witness_row_at (enc := enc) (C := Tryd.checked) false (laidWorld os) #[.string ByteArray.empty, .agg #[.int .i64 0, .int .i64 0, .int .i64 0, .int .i64 0, .int .i64 0, .string ByteArray.empty], .agg #[.int .i64 0, .int .i64 0, .int .i64 0, .int .i64 0, .int .i64 0, .string ByteArray.empty], .slice none 0 0] rfl (by kernel_rfl) (by kernel_rfl) (by kernel_rfl)
      (OpenSpec.preRow_of_cond 8 hx (by kernel_rfl) (fun k hk => by cases hk) (by kernel_rfl) (laid_met os))) ?_
  intro W base args ds gs before hval0 hW hcnd hcond hsz0 hL _ _
  have hval : ∀ (j : Nat) t v, Tryd.f7.params[j]? = some t → args[j]? = some v → Value.okWide Tryd.prog W .any base t v := hval0
  have hW' := hW
  obtain ⟨p, q, hA0, hV, rfl, hfz, hnd⟩ := hW
  have hA : DataW.TrodAll enc Tryd.prog W 0 (fun _ => true) true Tryd.f7.params.toList args.toList ds p := hA0
  have hsz : (DataW.weightsEach Tryd.prog (Tryd.f7.params.toList ++ Rows.sealHeadsSpec.plain.varTypes Tryd.prog) (ds ++ gs)).all (· ≤ reachBytes) = true := hsz0
  rw [Tryd.params7] at hA hval hsz
  obtain ⟨v0, vs0, d0, ds0, p0, q0, hargs, rfl, rfl, h0, r0⟩ := trodAll_cons hA
  obtain ⟨v1, vs1, d1, ds1, p1, q1, rfl, rfl, rfl, h1, r1⟩ := trodAll_cons r0
  obtain ⟨v2, vs2, d2, ds2, p2, q2, rfl, rfl, rfl, h2, r2⟩ := trodAll_cons r1
  obtain ⟨v3, vs3, d3, ds3, p3, q3, rfl, rfl, rfl, h3, r3⟩ := trodAll_cons r2
  obtain ⟨rfl, rfl, rfl⟩ := trodAll_nil r3
  obtain rfl : args = #[v0, v1, v2, v3] := by cases args; simp_all
  obtain ⟨rfl, rfl⟩ := trodVars_none hV
  skip
  obtain ⟨a0, rfl, rfl, rfl, w0⟩ := open_string Tryd.underlying9 (hval 0 9 v0 rfl rfl) h0
  have s0 : a0.size ≤ 140737488351232 := by have hs := sized_string hsz (j := 0) (t := 9) rfl rfl; simpa [reachBytes] using hs
  obtain ⟨f10, f11, f12, f13, f14, f15, T1⟩ := headType
  obtain ⟨a1t, a1v, a1b, a1s, a1r, a1g, rfl, rfl, rfl, w1t, w1v, w1b, w1s, w1r, w1g⟩ := open_head T1 (hval 1 23 v1 rfl rfl) h1
  obtain ⟨f20, f21, f22, f23, f24, f25, T2⟩ := headType
  obtain ⟨a2t, a2v, a2b, a2s, a2r, a2g, rfl, rfl, rfl, w2t, w2v, w2b, w2s, w2r, w2g⟩ := open_head T2 (hval 2 23 v2 rfl rfl) h2
  obtain ⟨a3, len3, cap3, rfl⟩ := okWide_slice Tryd.underlying24 (hval 3 24 v3 rfl rfl)
  have k3 := h3
  have lt3 : ∀ x ∈ p3, x.block < W.heap.size := by obtain ⟨m, hm⟩ := k3; exact DataW.trod_lt m _ _ _ hm
  obtain ⟨z3, w3, s3⟩ : ∃ zs, IsRow .u8 W a3 len3 cap3 zs ∧ cap3 * 1 ≤ 140737488351232 := by
    obtain ⟨fuel, hf⟩ := h3
    rcases open_ints Tryd.underlying24 Tryd.underlying5 (by kernel_rfl) hf with ⟨hcs, _⟩ | ⟨x, l, c, zs, hcs, _, hl, hm, hz, hx, hcell, hwz⟩
    · simp [Value.cells] at hcs
      obtain ⟨rfl, rfl, rfl⟩ := hcs
      exact ⟨[], .inl ⟨rfl, rfl, rfl, rfl⟩, by omega⟩
    · simp [Value.cells] at hcs
      obtain ⟨rfl, rfl, rfl⟩ := hcs
      have hzl : zs.length = cap3 := by simpa using hz
      have hd : d3 = .slice (lits .u8 (zs.take len3)) (lits .u8 (zs.drop len3)) := (Prod.mk.inj hx).1
      have hs := sized_slice hsz (j := 3) (t := 24) (e := 5) rfl (congrArg some hd) Tryd.underlying24; rw [show Tryd.prog.bytesOf 5 = 1 from by kernel_rfl] at hs
      exact ⟨zs, .inr ⟨_, rfl, hl, hm, hzl, hcell, hwz⟩, by simp only [lits, List.length_map, List.length_take, List.length_drop, reachBytes] at hs; rw [hzl] at hs; rw [show min len3 cap3 + (cap3 - len3) = cap3 by omega] at hs; exact hs⟩
  clear hA0 hval0
  refine (walk a0 a1t a1v a1b a1s a1r a1g a2t a2v a2b a2s a2r a2g a3 len3 cap3 z3 W (laid_of hL) w0 s0 w1t w1v w1b w1s w1r w1g w2t w2v w2b w2s w2r w2g w3 s3).mono fun e W' ⟨he, bel⟩ => ?_
  subst he
  exact ⟨_, rfl, _, _, _, [], _, [], hW', trodAll_mk1 (shut_bool Tryd.underlying4 _), (trodAll_cons_mk (shut_string Tryd.underlying9 w0) (trodAll_cons_mk (shut_head T1 w1t w1v w1b w1s w1r w1g) (trodAll_cons_mk (shut_head T2 w2t w2v w2b w2s w2r w2g) (trodAll_cons_mk (Below.trod laidOut (by kernel_rfl) (of_decide_eq_true (by kernel_rfl)) k3 bel lt3) (trodAll_mk0))))), rfl, bel.frame _, fun h => by cases h⟩

theorem over : Rows.sealHeadsRow.holds Tryd.pinned (OpenSpec.ofChange Rows.sealHeadsSpec) :=
  OpenClaim.holds_of_cond 7 Tryd.f7 rfl rfl rfl rfl rfl rfl rfl ⟨rfl, rfl, rfl, rfl, rfl⟩ rfl rfl rfl rfl rfl (by kernel_rfl) Tryd.func7 (by kernel_rfl)
    (of_decide_eq_true (by kernel_rfl)) (by unfold Func.isWrapper; first | (rw [if_pos (by decide +kernel)]; kernel_rfl) | (rw [if_neg (by decide +kernel)]; exact ⟨rfl, rfl⟩))
    (fun os started H enc _ F => by rw [OpenClaim.pre_eq_preRow]; exact lifted os started H enc F)

/-- No parameter wants a stand-in; the program's own looks are off: what the card asks. -/
theorem plain (f : FuncId) (fn : Func) (hf : Tryd.pinned.checked.prog.funcNamed "stowage/stowagelaw07.SealHeads" = some f) (hfn : Tryd.pinned.checked.prog.funcs[f]? = some fn) :
    false = Tryd.pinned.checked.prog.looks [] ∧ ∀ (j : Nat) t, fn.params[j]? = some t → Tryd.pinned.checked.prog.wantsStandIn t = false := by
  obtain rfl : f = 7 := Option.some.inj ((show Tryd.prog.funcNamed "stowage/stowagelaw07.SealHeads" = some 7 by kernel_rfl).symm.trans hf) |>.symm
  obtain rfl : fn = Tryd.f7 := (Option.some.inj (Tryd.func7.symm.trans hfn)).symm
  refine ⟨by kernel_rfl, fun j t ht => ?_⟩
  rw [Tryd.params7] at ht
  have hm : t ∈ [9, 23, 23, 24] := by simpa using Array.mem_of_getElem? ht
  have hall : ([9, 23, 23, 24].all fun u => !Tryd.prog.wantsStandIn u) = true := by kernel_rfl
  exact (show Tryd.prog.wantsStandIn t = false by simpa using List.all_eq_true.1 hall t hm)
theorem cardOver : Rows.SealHeadsCardSaid :=
  Claim7.holds_tied_plain_at .later [] _ _ _ _ over (fun _ h => by cases h) (by kernel_rfl) (fun _ h => by cases h) sealHeads_row_tie rfl ⟨rfl, rfl⟩ (by kernel_rfl) rfl plain (by kernel_rfl)

theorem proved : Rows.SealHeadsCardSaid := cardOver
#print axioms proved
end Go.Proofs.YtanpfodmmeagaaaDoor.sealHeads
