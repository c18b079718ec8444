/-
  The program's seal: what is wrong with a key, a head and bytes. The program's seal: a head's numbers as bytes.
-/
import Derived.Test.YtanpfodmmeagaaaDoorSealRefG
import Derived.Test.YtanpfodmmeagaaaDoorStrC1G
namespace Go.Proofs.YtanpfodmmeagaaaDoor
open Go.RowKit

def mn (a b : Int) : Int := if b < a then b else a
theorem mn_neg (a b : Int) : mn a b < 0 ↔ a < 0 ∨ b < 0 := by unfold mn; split <;> omega
theorem min_five (t v b s r : Int) : ∃ m : Int, (m < 0 ↔ t < 0 ∨ v < 0 ∨ b < 0 ∨ s < 0 ∨ r < 0) ∧ ∀ (ts : Array TypeId) (ty : TypeId) (w : World), (Builtin.min_ ts ty #[.int .i64 t, .int .i64 v, .int .i64 b, .int .i64 s, .int .i64 r]).run Tryd.prog w = .ok (.int .i64 m) w := by
  refine ⟨mn (mn (mn (mn t v) b) s) r, ?_, fun ts ty w => ?_⟩
  · rw [mn_neg, mn_neg, mn_neg, mn_neg, or_assoc, or_assoc, or_assoc]
  · simp [Builtin.min_, Builtin.min2]; rfl

set_option maxHeartbeats 1600000 in
set_option maxRecDepth 20000 in
theorem check_any (key g : ByteArray) (t v b s r : Int) (A : Option Addr) (n c : Nat) (w : World) :
    Calls Tryd.prog 13 #[.string key, .agg #[.int .i64 t, .int .i64 v, .int .i64 b, .int .i64 s, .int .i64 r, .string g], .slice A n c] w fun e w' =>
      e = .returned (.int .i64 (sealE key.size n t v b s r)) ∧ Below w.heap.size w w' := by
  by_cases h1 : (key.size : Int) = 16
  · by_cases h2 : (n : Int) = 64
    · obtain ⟨m, hm, hrun⟩ := min_five t v b s r
      go_enter Tryd.func13, Tryd.ntmps13
      go_wp2
      all_goals go_ret
      all_goals refine ⟨?_, (Below.refl _ _).alloc (Nat.le_refl _) _⟩
      all_goals (unfold sealE; rw [if_pos ⟨by omega, by omega⟩]; first | (rw [if_pos (by omega)]; rfl) | (rw [if_neg (by omega)]; rfl))
    · go_enter Tryd.func13, Tryd.ntmps13
      go_wp2
      all_goals go_ret
      all_goals exact ⟨(by unfold sealE; rw [if_neg (by omega)]; rfl), (Below.refl _ _).alloc (Nat.le_refl _) _⟩
  · go_enter Tryd.func13, Tryd.ntmps13
    go_wp2
    all_goals go_ret
    all_goals exact ⟨(by unfold sealE; rw [if_neg (by omega)]; rfl), (Below.refl _ _).alloc (Nat.le_refl _) _⟩

end Go.Proofs.YtanpfodmmeagaaaDoor

namespace Go.Proofs.YtanpfodmmeagaaaDoor
open Go.RowKit

theorem bytesOf_eight (x : Int) : bytesOf (x % 18446744073709551616) 8 = up (eightN x) := by
  have h : x % 18446744073709551616 = (((x % 18446744073709551616).toNat : Nat) : Int) := by omega
  rw [h, bytesOf_dig]
  rfl
theorem head_fields (t v b s r : Int) :
    fieldsB [t % 18446744073709551616, v % 18446744073709551616, b % 18446744073709551616, s % 18446744073709551616, r % 18446744073709551616] [8, 8, 8, 8, 8] = up (headN t v b s r) ∧
    fieldsE [t % 18446744073709551616, v % 18446744073709551616, b % 18446744073709551616, s % 18446744073709551616, r % 18446744073709551616] [8, 8, 8, 8, 8] = 0 := by
  have hE : fieldsE [t % 18446744073709551616, v % 18446744073709551616, b % 18446744073709551616, s % 18446744073709551616, r % 18446744073709551616] [8, 8, 8, 8, 8] = 0 := by
    unfold fieldsE
    rw [if_pos ⟨by decide, rfl⟩, if_pos]
    simp only [List.zip_cons_cons, List.zip_nil_right, List.all_cons, List.all_nil, Bool.and_true, Bool.and_eq_true, fitB, decide_eq_true_eq]
    have h8 : (256 : Int) ^ Int.toNat 8 = 18446744073709551616 := by decide
    rw [h8]
    exact ⟨by omega, by omega, by omega, by omega, by omega⟩
  refine ⟨?_, hE⟩
  unfold fieldsB
  rw [if_pos hE]
  show bytesOf (t % 18446744073709551616) 8 ++ (bytesOf (v % 18446744073709551616) 8 ++ (bytesOf (b % 18446744073709551616) 8 ++ (bytesOf (s % 18446744073709551616) 8 ++ (bytesOf (r % 18446744073709551616) 8 ++ [])))) = _
  rw [bytesOf_eight, bytesOf_eight, bytesOf_eight, bytesOf_eight, bytesOf_eight, List.append_nil]
  unfold headN
  rw [up_append, up_append, up_append, up_append, List.append_assoc, List.append_assoc, List.append_assoc]

set_option maxHeartbeats 1600000 in
set_option maxRecDepth 20000 in
/-- 'place'. -/
theorem place_any (g : ByteArray) (t v b s r : Int) (w : World) :
    Calls Tryd.prog 24 #[.agg #[.int .i64 t, .int .i64 v, .int .i64 b, .int .i64 s, .int .i64 r, .string g]] w fun e w' =>
      ∃ A c, e = .returned (.slice A 40 c) ∧ 40 ≤ c ∧ Ints w' w'.heap.size .u8 A (up (headN t v b s r)) ∧ Below w.heap.size w w' := by
  obtain ⟨eB, eE⟩ := head_fields t v b s r
  have hlen : (up (headN t v b s r)).length = 40 := by rw [up_len]; rfl
  obtain ⟨B, hB⟩ : ∃ B, B = up (headN t v b s r) := ⟨_, rfl⟩
  rw [← hB] at eB hlen ⊢
  clear hB
  simp only [← IntKind.wrap_u64] at eB eE
  obtain ⟨x1, hx1⟩ : ∃ x, x = IntKind.u64.wrap t := ⟨_, rfl⟩
  obtain ⟨x2, hx2⟩ : ∃ x, x = IntKind.u64.wrap v := ⟨_, rfl⟩
  obtain ⟨x3, hx3⟩ : ∃ x, x = IntKind.u64.wrap b := ⟨_, rfl⟩
  obtain ⟨x4, hx4⟩ : ∃ x, x = IntKind.u64.wrap s := ⟨_, rfl⟩
  obtain ⟨x5, hx5⟩ : ∃ x, x = IntKind.u64.wrap r := ⟨_, rfl⟩
  have hr : ∀ z ∈ [x1, x2, x3, x4, x5], 0 ≤ z ∧ z ≤ 18446744073709551615 := by
    rw [IntKind.wrap_u64] at hx1 hx2 hx3 hx4 hx5
    intro z hz
    simp only [List.mem_cons, List.not_mem_nil, or_false] at hz
    rcases hz with rfl | rfl | rfl | rfl | rfl <;> omega
  rw [← hx1, ← hx2, ← hx3, ← hx4, ← hx5] at eB eE
  have HF : ∀ (W : World) (t1 t2 : Nat), Calls Tryd.prog 36 #[.slice (some ⟨W.heap.size, 0, none⟩) 5 5, .slice (some ⟨W.heap.size + 1, 0, none⟩) 5 5]
      ((W.alloc (.cells #[.int .u64 x1, .int .u64 x2, .int .u64 x3, .int .u64 x4, .int .u64 x5] t1)).alloc (.cells #[.int .i64 8, .int .i64 8, .int .i64 8, .int .i64 8, .int .i64 8] t2))
      fun e w' => ∃ A c, e = .returned (.tuple #[.slice A 40 c, .int .i64 0]) ∧ 40 ≤ c ∧ Ints w' w'.heap.size .u8 A B ∧ Below W.heap.size W w' := fun W t1 t2 => by
    have hb : Below W.heap.size W ((W.alloc (.cells #[.int .u64 x1, .int .u64 x2, .int .u64 x3, .int .u64 x4, .int .u64 x5] t1)).alloc (.cells #[.int .i64 8, .int .i64 8, .int .i64 8, .int .i64 8, .int .i64 8] t2)) := ((Below.refl _ _).alloc (Nat.le_refl _) _).alloc (by simp) _
    have h := fields_any (some ⟨W.heap.size + 1, 0, none⟩) (some ⟨W.heap.size, 0, none⟩) 5 5 [8, 8, 8, 8, 8] [x1, x2, x3, x4, x5]
      ((W.alloc (.cells #[.int .u64 x1, .int .u64 x2, .int .u64 x3, .int .u64 x4, .int .u64 x5] t1)).alloc (.cells #[.int .i64 8, .int .i64 8, .int .i64 8, .int .i64 8, .int .i64 8] t2)) ?_ ?_ hr
    · rw [eB, eE] at h
      refine h.mono fun e w' ⟨A, c, q1, q2, q3, q4⟩ => ?_
      rw [hlen] at q1 q2
      exact ⟨A, c, q1, q2, q3, hb.trans (q4.mono (by simp; omega))⟩
    · have q := Ints.new (W.alloc (.cells #[.int .u64 x1, .int .u64 x2, .int .u64 x3, .int .u64 x4, .int .u64 x5] t1)) t2 .i64 [8, 8, 8, 8, 8] #[.int .i64 8, .int .i64 8, .int .i64 8, .int .i64 8, .int .i64 8] rfl
      simp only [World.size_alloc] at q ⊢
      exact q
    · have q := Ints.new W t1 .u64 [x1, x2, x3, x4, x5] #[.int .u64 x1, .int .u64 x2, .int .u64 x3, .int .u64 x4, .int .u64 x5] rfl
      exact (q.alloc (by simp) _).more (by simp)
  have HFF := Lib.hid HF
  simp only [hx1, hx2, hx3, hx4, hx5] at HFF
  clear hx1 hx2 hx3 hx4 hx5 hr eB eE hlen HF
  obtain ⟨W1, hW1⟩ : ∃ W, W = w.alloc (.cells #[.int .i64 t, .int .i64 v, .int .i64 b, .int .i64 s, .int .i64 r, .string g] 23) := ⟨_, rfl⟩
  obtain ⟨q, hq⟩ : ∃ q, q = w.heap.size := ⟨_, rfl⟩
  have hrow : W1.heap[q]? = some (.cells #[.int .i64 t, .int .i64 v, .int .i64 b, .int .i64 s, .int .i64 r, .string g] 23 (0, 0)) := by rw [hW1, hq]; exact heap_alloc_new _ _
  have hbW : Below w.heap.size w W1 := by rw [hW1]; exact (Below.refl _ _).alloc (Nat.le_refl _) _
  have hql : q < W1.heap.size := lt_row hrow
  obtain ⟨y0, y1, y2, y3, y4, y5⟩ := headCells hrow hql (Below.refl _ _)
  have HBW := Lib.hid hbW
  clear hrow hbW hql
  go_enter Tryd.func24, Tryd.ntmps24
  go_wp2_with fail
  have hq1 : q + 1 = W1.heap.size := by rw [hW1, hq]; simp
  have hq2 : q + 1 + 1 = W1.heap.size + 1 := by rw [hq1]
  rw [← hW1, ← hq]
  try rw [hq2]
  try rw [hq1]
  clear hW1 hq hq1 hq2
  go_wp2_with (go_at_call 36; with_reducible (refine Calls.mono (HFF.out _ _ _) ?_); rintro e w1 ⟨A1, c1, rfl, hc1, hi1, hb1⟩)
  go_ret
  exact ⟨A1, c1, rfl, hc1, hi1, HBW.out.trans (hb1.mono HBW.out.size)⟩

end Go.Proofs.YtanpfodmmeagaaaDoor
