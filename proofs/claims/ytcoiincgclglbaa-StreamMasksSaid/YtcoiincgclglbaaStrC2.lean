/-
  The program's counter of a slot's version.
-/
import Derived.Test.YtcoiincgclglbaaStrC1
namespace Go.Proofs.Ytcoiincgclglbaa
open Go.RowKit

theorem dig4_drop (n : Nat) : (dig8 n).drop 4 = (List.range 4).map fun i => n / 256 ^ (3 - i) % 256 := by
  unfold dig8
  rw [show List.range 8 = [0, 1, 2, 3, 4, 5, 6, 7] from rfl, show List.range 4 = [0, 1, 2, 3] from rfl]
  rfl
theorem counter_fields (s v : Int) :
    fieldsB [s % 4294967296, v % 18446744073709551616, 0] [4, 8, 4] = up (counterOf s v) ∧ fieldsE [s % 4294967296, v % 18446744073709551616, 0] [4, 8, 4] = 0 := by
  have hE : fieldsE [s % 4294967296, v % 18446744073709551616, 0] [4, 8, 4] = 0 := by
    unfold fieldsE
    rw [if_pos ⟨by decide, rfl⟩, if_pos]
    simp only [List.zip_cons_cons, List.zip_nil_right, List.all_cons, List.all_nil, Bool.and_true, Bool.and_eq_true, fitB, decide_eq_true_eq]
    have h4 : (256 : Int) ^ Int.toNat 4 = 4294967296 := by decide
    have h8 : (256 : Int) ^ Int.toNat 8 = 18446744073709551616 := by decide
    rw [h4, h8]
    exact ⟨by omega, by omega, by omega⟩
  refine ⟨?_, hE⟩
  unfold fieldsB
  rw [if_pos hE]
  show bytesOf (s % 4294967296) 4 ++ (bytesOf (v % 18446744073709551616) 8 ++ (bytesOf 0 4 ++ [])) = _
  have e2 : bytesOf (v % 18446744073709551616) 8 = up (eightN v) := by
    have h : v % 18446744073709551616 = (((v % 18446744073709551616).toNat : Nat) : Int) := by omega
    rw [h, bytesOf_dig]
    rfl
  have e1 : bytesOf (s % 4294967296) 4 = up ((eightN s).drop 4) := by
    show _ = up ((dig8 (s % 18446744073709551616).toNat).drop 4)
    rw [dig4_drop]
    unfold bytesOf bytesTo up
    rw [show List.range 4 = [0, 1, 2, 3] from rfl]
    simp only [List.map_cons, List.map_nil, Nat.reduceSub, Nat.reducePow, Nat.pow_zero, Nat.div_one, Int.reducePow, Int.pow_zero, Int.ediv_one]
    refine List.cons_eq_cons.2 ⟨by omega, ?_⟩
    refine List.cons_eq_cons.2 ⟨by omega, ?_⟩
    refine List.cons_eq_cons.2 ⟨by omega, ?_⟩
    refine List.cons_eq_cons.2 ⟨by omega, ?_⟩
    rfl
  rw [e1, e2, List.append_nil]
  unfold counterOf counterN
  rw [up_append, up_append, List.append_assoc]
  rfl

set_option maxHeartbeats 800000 in
/-- 'Counter'. -/
theorem counter_any (s v : Int) (w : World) :
    Calls Try.prog 12 #[.int .i64 s, .int .i64 v] w fun e w' => ∃ g o c, e = .returned (.slice (some ⟨g, o, none⟩) 16 c) ∧ 16 ≤ c ∧ w.heap.size ≤ g ∧ Ints w' w'.heap.size .u8 (some ⟨g, o, none⟩) (up (counterOf s v)) ∧ (∀ i, i < 16 → w'.frozen? ⟨g, o + i, none⟩ = false) ∧ Below w.heap.size w w' := by
  obtain ⟨eB, eE⟩ := counter_fields s v
  have hlen : (up (counterOf s v)).length = 16 := by rw [up_len]; rfl
  obtain ⟨x, hx⟩ : ∃ x, x = s % 4294967296 := ⟨_, rfl⟩
  obtain ⟨y, hy⟩ : ∃ y, y = v % 18446744073709551616 := ⟨_, rfl⟩
  obtain ⟨B, hB⟩ : ∃ B, B = up (counterOf s v) := ⟨_, rfl⟩
  rw [← hx, ← hy] at eB eE
  rw [← hB] at eB hlen ⊢
  have hx1 : 0 ≤ x ∧ x < 4294967296 := by omega
  have hy1 : 0 ≤ y ∧ y < 18446744073709551616 := by omega
  have HF : ∀ t1 t2 : Nat, Hid (Calls Try.prog 21 #[.slice (some ⟨w.heap.size, 0, none⟩) 3 3, .slice (some ⟨w.heap.size + 1, 0, none⟩) 3 3]
      ((w.alloc (.cells #[.int .u64 x, .int .u64 y, .int .u64 0] t1)).alloc (.cells #[.int .i64 4, .int .i64 8, .int .i64 4] t2))
      fun e w' => ∃ g c, e = .returned (.tuple #[.slice (some ⟨g, 0, none⟩) 16 c, .int .i64 0]) ∧ 16 ≤ c ∧ w.heap.size ≤ g ∧ Ints w' w'.heap.size .u8 (some ⟨g, 0, none⟩) B ∧ (∀ i, i < 16 → w'.frozen? ⟨g, 0 + i, none⟩ = false) ∧ Below w.heap.size w w') := fun t1 t2 => by
    have hb : Below w.heap.size w ((w.alloc (.cells #[.int .u64 x, .int .u64 y, .int .u64 0] t1)).alloc (.cells #[.int .i64 4, .int .i64 8, .int .i64 4] t2)) := ((Below.refl _ _).alloc (Nat.le_refl _) _).alloc (by simp) _
    have h := fields_own (some ⟨w.heap.size + 1, 0, none⟩) (some ⟨w.heap.size, 0, none⟩) 3 3 [4, 8, 4] [x, y, 0]
      ((w.alloc (.cells #[.int .u64 x, .int .u64 y, .int .u64 0] t1)).alloc (.cells #[.int .i64 4, .int .i64 8, .int .i64 4] t2)) ?_ ?_ ?_ (by decide) rfl
    · rw [eB, eE] at h
      refine h.mono fun e w' ⟨A, c, q1, q2, q3, q4, q5⟩ => ?_
      have q5 := q5 rfl
      rw [hlen] at q1 q2 q5
      obtain ⟨g, cap, hv, hg, hlt⟩ := q5.form (by decide)
      injection hv with hA _ hcap
      subst hA
      refine ⟨g, c, q1, q2, ?_, q3, fun i _ => ?_, hb.trans (q4.mono (by simp; omega))⟩
      · have : ((w.alloc (.cells #[.int .u64 x, .int .u64 y, .int .u64 0] t1)).alloc (.cells #[.int .i64 4, .int .i64 8, .int .i64 4] t2)).heap.size ≤ g := hg
        simp at this; omega
      · rw [Nat.zero_add]; exact q5.frozenAt i
    · have q := Ints.new (w.alloc (.cells #[.int .u64 x, .int .u64 y, .int .u64 0] t1)) t2 .i64 [4, 8, 4] #[.int .i64 4, .int .i64 8, .int .i64 4] rfl
      simp only [World.size_alloc] at q ⊢
      exact q
    · have q := Ints.new w t1 .u64 [x, y, 0] #[.int .u64 x, .int .u64 y, .int .u64 0] rfl
      exact (q.alloc (by simp) _).more (by simp)
    · intro z hz
      simp only [List.mem_cons, List.not_mem_nil, or_false] at hz
      rcases hz with rfl | rfl | rfl <;> omega
  have hy2 : y = IntKind.u64.wrap v := hy
  simp only [hx, hy2] at HF
  clear hx hy hy2 hx1 hy1 eB eE hB hlen
  go_enter Try.func12, Try.ntmps12
  go_wp2_with (go_at_call 21; with_reducible (refine Calls.mono (HF _ _).out ?_); rintro e w1 ⟨g, c, rfl, hc, hg, hi, hf, hb⟩)
  go_ret
  exact ⟨g, 0, c, rfl, hc, hg, hi, hf, hb⟩

end Go.Proofs.Ytcoiincgclglbaa
