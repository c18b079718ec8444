/-
  The program's numbers of counters: two halves, their bytes, the next one.
-/
import Derived.Test.YtcoiincgclglbaaStrAsk
import Derived.Test.YtcoiincgclglbaaPFields
import Derived.Test.YtcoiincgclglbaaPSplit
import Derived.Test.YtcoiincgclglbaaAesC0
namespace Go.Proofs.Ytcoiincgclglbaa
open Go.RowKit

def hiN (v : Nat) : Nat := v / 18446744073709551616 % 18446744073709551616
def loN (v : Nat) : Nat := v % 18446744073709551616
def dig8 (n : Nat) : List Nat := (List.range 8).map fun i => n / 256 ^ (7 - i) % 256
theorem hiN_lt (v : Nat) : hiN v < 18446744073709551616 := Nat.mod_lt _ (by decide)
theorem loN_lt (v : Nat) : loN v < 18446744073709551616 := Nat.mod_lt _ (by decide)
theorem bytesOf_dig (n : Nat) : bytesOf (n : Int) 8 = up (dig8 n) := by
  unfold bytesOf bytesTo dig8 up
  rw [List.map_map]
  apply List.map_congr_left
  intro i _
  show (n : Int) / 256 ^ (7 - i) % 256 = ((n / 256 ^ (7 - i) % 256 : Nat) : Int)
  rw [Int.natCast_emod, Int.natCast_ediv, Int.natCast_pow]
  rfl
theorem be16_halves (v : Nat) : be16 v = dig8 (hiN v) ++ dig8 (loN v) := by
  unfold be16 L16 dig8 hiN loN
  simp only [show List.range 16 = [0, 1, 2, 3, 4, 5, 6, 7, 8, 9, 10, 11, 12, 13, 14, 15] from rfl, show List.range 8 = [0, 1, 2, 3, 4, 5, 6, 7] from rfl, List.map_cons, List.map_nil, List.cons_append, List.nil_append, Nat.reduceSub, Nat.reducePow, Nat.div_one]
  refine List.cons_eq_cons.2 ⟨by omega, ?_⟩
  refine List.cons_eq_cons.2 ⟨by omega, ?_⟩
  refine List.cons_eq_cons.2 ⟨by omega, ?_⟩
  refine List.cons_eq_cons.2 ⟨by omega, ?_⟩
  refine List.cons_eq_cons.2 ⟨by omega, ?_⟩
  refine List.cons_eq_cons.2 ⟨by omega, ?_⟩
  refine List.cons_eq_cons.2 ⟨by omega, ?_⟩
  refine List.cons_eq_cons.2 ⟨by omega, ?_⟩
  refine List.cons_eq_cons.2 ⟨by omega, ?_⟩
  refine List.cons_eq_cons.2 ⟨by omega, ?_⟩
  refine List.cons_eq_cons.2 ⟨by omega, ?_⟩
  refine List.cons_eq_cons.2 ⟨by omega, ?_⟩
  refine List.cons_eq_cons.2 ⟨by omega, ?_⟩
  refine List.cons_eq_cons.2 ⟨by omega, ?_⟩
  refine List.cons_eq_cons.2 ⟨by omega, ?_⟩
  refine List.cons_eq_cons.2 ⟨by omega, ?_⟩
  rfl
theorem valOf_up : ∀ l : List Nat, valOf (up l) = ((valB l : Nat) : Int) := by
  intro l
  unfold valOf valB up
  suffices H : ∀ (l : List Nat) (a : Nat), (l.map fun n : Nat => (n : Int)).foldl (fun a x => a * 256 + x) (a : Int) = ((l.foldl (fun a x => a * 256 + x) a : Nat) : Int) from H l 0
  intro l
  induction l with
  | nil => intro a; rfl
  | cons x l ih => intro a; rw [List.map_cons, List.foldl_cons, List.foldl_cons, ← ih, Int.natCast_add, Int.natCast_mul]; rfl
theorem valB_lt (l : List Nat) (h : ∀ x ∈ l, x < 256) : valB l < 256 ^ l.length := by
  have := valOf_bd (up l) (fun z hz => by obtain ⟨n, hn, rfl⟩ := List.mem_map.1 hz; have := h n hn; omega)
  rw [valOf_up, up_len] at this
  have h2 := this.2
  have h3 : (256 : Int) ^ l.length = ((256 ^ l.length : Nat) : Int) := by rw [Int.natCast_pow]; rfl
  omega
theorem valB_append (a b : List Nat) : valB (a ++ b) = valB a * 256 ^ b.length + valB b := by
  suffices H : ∀ n (b : List Nat), b.length = n → valB (a ++ b) = valB a * 256 ^ b.length + valB b from H _ b rfl
  intro n
  induction n with
  | zero => intro b hb; rw [List.eq_nil_of_length_eq_zero hb]; simp [valB]
  | succ n ih =>
    intro b hb
    rcases List.eq_nil_or_concat b with rfl | ⟨L, x, hx⟩
    · cases hb
    · rw [List.concat_eq_append] at hx
      subst hx
      have hL : L.length = n := by simpa using hb
      rw [← List.append_assoc, valB_snoc, ih L hL, valB_snoc, List.length_append, List.length_singleton, Nat.pow_succ, Nat.add_mul, Nat.mul_assoc, Nat.add_assoc]
theorem split_halves {c : List Nat} (hl : c.length = 16) (hc : ∀ x ∈ c, x < 256) : splitL (up c) [8, 8] = [((hiN (valB c) : Nat) : Int), ((loN (valB c) : Nat) : Int)] ∧ splitE (up c) [8, 8] = 0 := by
  have hE : splitE (up c) [8, 8] = 0 := by
    unfold splitE
    rw [up_len, hl]
    decide
  refine ⟨?_, hE⟩
  unfold splitL
  rw [if_pos hE]
  have h1 : (up c).take 8 = up (c.take 8) := by simp [up]
  have h2 : ((up c).drop 8).take 8 = up (c.drop 8) := by
    rw [List.take_of_length_le (by rw [List.length_drop, up_len]; omega)]
    simp [up]
  show [valOf ((up c).take 8), valOf (((up c).drop 8).take 8)] = _
  rw [h1, h2, valOf_up, valOf_up]
  have e : valB c = valB (c.take 8) * 256 ^ (c.drop 8).length + valB (c.drop 8) := by rw [← valB_append, List.take_append_drop]
  have b1 := valB_lt (c.take 8) fun x hx => hc x (List.mem_of_mem_take hx)
  have b2 := valB_lt (c.drop 8) fun x hx => hc x (List.mem_of_mem_drop hx)
  rw [List.length_take, hl] at b1
  rw [List.length_drop, hl] at e b2
  have b1' : valB (c.take 8) < 18446744073709551616 := b1
  have b2' : valB (c.drop 8) < 18446744073709551616 := b2
  have e' : valB c = valB (c.take 8) * 18446744073709551616 + valB (c.drop 8) := e
  unfold hiN loN
  have q1 : valB (c.take 8) = valB c / 18446744073709551616 % 18446744073709551616 := by omega
  have q2 : valB (c.drop 8) = valB c % 18446744073709551616 := by omega
  rw [← q1, ← q2]
theorem fields_halves (v : Nat) : fieldsB [((hiN v : Nat) : Int), ((loN v : Nat) : Int)] [8, 8] = up (be16 v) ∧ fieldsE [((hiN v : Nat) : Int), ((loN v : Nat) : Int)] [8, 8] = 0 := by
  have h1 := hiN_lt v
  have h2 := loN_lt v
  have hE : fieldsE [((hiN v : Nat) : Int), ((loN v : Nat) : Int)] [8, 8] = 0 := by
    unfold fieldsE
    rw [if_pos ⟨by decide, rfl⟩, if_pos]
    simp only [List.zip_cons_cons, List.zip_nil_right, List.all_cons, List.all_nil, Bool.and_true, Bool.and_eq_true, fitB, decide_eq_true_eq]
    exact ⟨by have : (256 : Int) ^ Int.toNat 8 = 18446744073709551616 := by decide
              rw [this]; omega, by have : (256 : Int) ^ Int.toNat 8 = 18446744073709551616 := by decide
                                   rw [this]; omega⟩
  refine ⟨?_, hE⟩
  unfold fieldsB
  rw [if_pos hE]
  show bytesOf _ 8 ++ (bytesOf _ 8 ++ []) = _
  rw [List.append_nil, bytesOf_dig, bytesOf_dig, be16_halves, up_append]
theorem next_halves (v : Nat) : hiN (v + 1) = (hiN v + (loN v + 1) / 18446744073709551616) % 18446744073709551616 ∧ loN (v + 1) = (loN v + 1) % 18446744073709551616 := by
  unfold hiN loN
  omega

theorem callAdd (x : Nat) (w : World) : (callFunc 43 #[.int .u64 (x : Int), .int .u64 1, .int .u64 0]).run Try.prog w = .ok (.value (.tuple #[.int .u64 (((x + 1) % 18446744073709551616 : Nat) : Int), .int .u64 (((x + 1) / 18446744073709551616 : Nat) : Int)])) w := by kernel_rfl

set_option maxHeartbeats 800000 in
/-- 'next'. -/
theorem numNext_any (v : Nat) (w : World) : Calls Try.prog 28 #[.agg #[.int .u64 (hiN v : Nat), .int .u64 (loN v : Nat)]] w fun e w' => e = .returned (.agg #[.int .u64 (hiN (v + 1) : Nat), .int .u64 (loN (v + 1) : Nat)]) ∧ Below w.heap.size w w' := by
  have hc := callAdd (loN v)
  obtain ⟨e1, e2⟩ := next_halves v
  have h1 := hiN_lt v
  have h2 := loN_lt v
  obtain ⟨h, hh⟩ : ∃ h, h = hiN v := ⟨_, rfl⟩
  obtain ⟨lo, hlo⟩ : ∃ lo, lo = loN v := ⟨_, rfl⟩
  rw [← hh] at e1 h1 ⊢
  rw [← hlo] at hc e1 e2 h2 ⊢
  obtain ⟨k, hk⟩ : ∃ k, k = (lo + 1) / 18446744073709551616 := ⟨_, rfl⟩
  obtain ⟨m, hm⟩ : ∃ m, m = (lo + 1) % 18446744073709551616 := ⟨_, rfl⟩
  rw [← hk, ← hm] at hc
  rw [← hk] at e1
  rw [← hm] at e2
  have hk1 : k ≤ 1 := by omega
  have HE1 := Lib.hid (show (((h : Int) + (k : Int)) % 18446744073709551616 = (hiN (v + 1) : Nat)) by rw [e1]; omega)
  have HE2 := Lib.hid e2
  clear hk hm hh hlo e1 e2
  go_enter Try.func28, Try.ntmps28
  go_wp2
  have hwr : IntKind.u64.wrap ((h : Int) + (k : Int)) = ((hiN (v + 1) : Nat) : Int) := HE1.out
  rw [hwr, ← HE2.out]
  refine bodyPost_ret (v := .agg #[.int .u64 (hiN (v + 1) : Nat), .int .u64 (loN (v + 1) : Nat)]) ?_ rfl ⟨rfl, ?_⟩
  · simp [results, Try.f28, go_sem]
  · exact ((Below.refl _ _).alloc (Nat.le_refl _) _).alloc (by simp) _

set_option maxHeartbeats 800000 in
/-- 'bytes'. -/
theorem numBytes_any (v : Nat) (w : World) : Calls Try.prog 18 #[.agg #[.int .u64 (hiN v : Nat), .int .u64 (loN v : Nat)]] w fun e w' => ∃ A c, e = .returned (.slice A 16 c) ∧ 16 ≤ c ∧ Ints w' w'.heap.size .u8 A (up (be16 v)) ∧ Below w.heap.size w w' := by
  have h1 := hiN_lt v
  have h2 := loN_lt v
  obtain ⟨eB, eE⟩ := fields_halves v
  have HF : ∀ t1 t2 t3 : Nat, Hid (Calls Try.prog 21 #[.slice (some ⟨w.heap.size + 1, 0, none⟩) 2 2, .slice (some ⟨w.heap.size + 1 + 1, 0, none⟩) 2 2]
      (((w.alloc (.cells #[.int .u64 (hiN v : Nat), .int .u64 (loN v : Nat)] t1)).alloc (.cells #[.int .u64 (hiN v : Nat), .int .u64 (loN v : Nat)] t2)).alloc (.cells #[.int .i64 8, .int .i64 8] t3))
      fun e w' => ∃ A c, e = .returned (.tuple #[.slice A 16 c, .int .i64 0]) ∧ 16 ≤ c ∧ Ints w' w'.heap.size .u8 A (up (be16 v)) ∧ Below w.heap.size w w') := fun t1 t2 t3 => by
    have hb : Below w.heap.size w (((w.alloc (.cells #[.int .u64 (hiN v : Nat), .int .u64 (loN v : Nat)] t1)).alloc (.cells #[.int .u64 (hiN v : Nat), .int .u64 (loN v : Nat)] t2)).alloc (.cells #[.int .i64 8, .int .i64 8] t3)) :=
      (((Below.refl _ _).alloc (Nat.le_refl _) _).alloc (by simp) _).alloc (by simp; omega) _
    have h := fields_any (some ⟨w.heap.size + 1 + 1, 0, none⟩) (some ⟨w.heap.size + 1, 0, none⟩) 2 2 [8, 8] [((hiN v : Nat) : Int), ((loN v : Nat) : Int)]
      (((w.alloc (.cells #[.int .u64 (hiN v : Nat), .int .u64 (loN v : Nat)] t1)).alloc (.cells #[.int .u64 (hiN v : Nat), .int .u64 (loN v : Nat)] t2)).alloc (.cells #[.int .i64 8, .int .i64 8] t3)) ?_ ?_ ?_
    · rw [eB, eE] at h
      refine h.mono fun e w' q => ?_
      obtain ⟨A, c, q1, q2, q3, q4⟩ := q.below hb
      rw [up_len, (be16_ok v).len] at q1 q2
      exact ⟨A, c, q1, q2, q3, q4⟩
    · have q := Ints.new ((w.alloc (.cells #[.int .u64 (hiN v : Nat), .int .u64 (loN v : Nat)] t1)).alloc (.cells #[.int .u64 (hiN v : Nat), .int .u64 (loN v : Nat)] t2)) t3 .i64 [8, 8] #[.int .i64 8, .int .i64 8] rfl
      simp only [World.size_alloc] at q ⊢
      exact q
    · have q := Ints.new (w.alloc (.cells #[.int .u64 (hiN v : Nat), .int .u64 (loN v : Nat)] t1)) t2 .u64 [((hiN v : Nat) : Int), ((loN v : Nat) : Int)] #[.int .u64 (hiN v : Nat), .int .u64 (loN v : Nat)] rfl
      simp only [World.size_alloc] at q
      refine (q.alloc (by simp) _).more (by simp)
    · intro z hz
      simp only [List.mem_cons, List.not_mem_nil, or_false] at hz
      rcases hz with rfl | rfl <;> omega
  obtain ⟨x, hx⟩ : ∃ x, x = hiN v := ⟨_, rfl⟩
  obtain ⟨y, hy⟩ : ∃ y, y = loN v := ⟨_, rfl⟩
  rw [← hx] at HF h1 ⊢
  rw [← hy] at HF h2 ⊢
  obtain ⟨B, hB⟩ : ∃ B, B = up (be16 v) := ⟨_, rfl⟩
  rw [← hB] at HF ⊢
  clear hx hy hB eB eE
  go_enter Try.func18, Try.ntmps18
  go_wp2_with (go_at_call 21; with_reducible (refine Calls.mono (HF _ _ _).out ?_); rintro e w1 ⟨A, c, rfl, hcap, hi, hbel⟩)
  go_ret
  exact ⟨A, c, rfl, hcap, hi, hbel⟩

set_option maxHeartbeats 800000 in
/-- 'numberOf'. -/
theorem numberOf_any (A : Option Addr) (c : Nat) (l : List Nat) (w : World) (hr : Ints w w.heap.size .u8 A (up l)) (hl : l.length = 16) (hb : ∀ x ∈ l, x < 256) (hc : 16 ≤ c) :
    Calls Try.prog 16 #[.slice A 16 c] w fun e w' => e = .returned (.agg #[.int .u64 (hiN (valB l) : Nat), .int .u64 (loN (valB l) : Nat)]) ∧ Below w.heap.size w w' := by
  obtain ⟨e1, e2⟩ := split_halves hl hb
  have hz := (zero_of_info (P := Try.prog) (t := 43) (v := .agg #[.int .u64 0, .int .u64 0]) (n := 2) (by kernel_rfl)).1
  have HS : ∀ t1 t2 : Nat, Hid (Calls Try.prog 29 #[.slice A 16 c, .slice (some ⟨w.heap.size + 1, 0, none⟩) 2 2]
      ((w.alloc (.cells #[.int .u64 0, .int .u64 0] t1)).alloc (.cells #[.int .i64 8, .int .i64 8] t2))
      fun e w' => ∃ b o c, e = .returned (.tuple #[.slice (some ⟨b, o, none⟩) 2 c, .int .i64 0]) ∧ (2 : Int) ≤ c ∧ w'.cell? ⟨b, o, none⟩ = some (.int .u64 (hiN (valB l) : Nat)) ∧ w'.cell? ⟨b, o + 1, none⟩ = some (.int .u64 (loN (valB l) : Nat)) ∧ w'.heap[w.heap.size]? = some (.cells #[.int .u64 0, .int .u64 0] t1 (0, 0)) ∧ Below w.heap.size w w') := fun t1 t2 => by
    have h := split_any (some ⟨w.heap.size + 1, 0, none⟩) A 2 c [8, 8] (up l) ((w.alloc (.cells #[.int .u64 0, .int .u64 0] t1)).alloc (.cells #[.int .i64 8, .int .i64 8] t2)) ?_ ?_ ?_ ?_
    · rw [e1, e2, up_len, hl] at h
      refine h.mono fun e w' ⟨A1, c1, q1, q2, q3, q4⟩ => ?_
      obtain ⟨b1, o1, rfl, _, hc1⟩ := q3.at_ (by simp)
      have q2' : 2 ≤ c1 := q2
      exact ⟨b1, o1, c1, q1, by omega, hc1 0 (by simp), hc1 1 (by simp), (q4.block _ (by simp; omega)).trans ((Below.heap_alloc _ _ _ (by simp)).trans (heap_alloc_new w _)), (((Below.refl _ w).alloc (Nat.le_refl _) _).alloc (by simp) _).trans (q4.mono (by simp; omega))⟩
    · have q := Ints.new (w.alloc (.cells #[.int .u64 0, .int .u64 0] t1)) t2 .i64 [8, 8] #[.int .i64 8, .int .i64 8] rfl
      simp only [World.size_alloc] at q ⊢
      exact q
    · exact (((hr.alloc (Nat.le_refl _) _).more (by simp)).alloc (Nat.le_refl _) _).more (by simp)
    · rw [up_len, hl]; exact hc
    · intro z hz
      obtain ⟨n, hn, rfl⟩ := List.mem_map.1 hz
      have := hb n hn
      omega
  obtain ⟨x, hx⟩ : ∃ x, x = hiN (valB l) := ⟨_, rfl⟩
  obtain ⟨y, hy⟩ : ∃ y, y = loN (valB l) := ⟨_, rfl⟩
  rw [← hx, ← hy] at HS ⊢
  clear hx hy e1 e2 hb
  go_enter Try.func16, Try.ntmps16
  go_wp2_with (go_at_call 29; with_reducible (refine Calls.mono (HS _ _).out ?_); rintro e w1 ⟨b1, o1, c1, rfl, hcap, hx0, hx1, hz1, hb1⟩; have hr0 := cell_of_row w1 w.heap.size 0 _ _ _ hz1; have hr1 := cell_of_row w1 w.heap.size 1 _ _ _ hz1; have hf0 := frozen_of_row w1 w.heap.size 0 _ _ hz1; have hf1 := frozen_of_row w1 w.heap.size 1 _ _ hz1)
  go_region
  go_wp2
  have hg1 := heap_setCell_same (w1.drew.setCell ⟨w.heap.size, 0, none⟩ (.int .u64 (x : Int))) w.heap.size 1 (.int .u64 (y : Int)) _ _ _ (heap_setCell_same w1.drew w.heap.size 0 (.int .u64 (x : Int)) _ _ _ hz1)
  refine bodyPost_ret (results_cell_row rfl _ _ w.heap.size _ _ _ _ rfl hg1 Try.underlying43 rfl (by kernel_rfl)) rfl ⟨rfl, ?_⟩
  exact ((hb1.drew.setCell (p := ⟨w.heap.size, 0, none⟩) (Nat.le_refl _) _).setCell (p := ⟨w.heap.size, 1, none⟩) (Nat.le_refl _) _)

end Go.Proofs.Ytcoiincgclglbaa
