/-
  The program's numbers of counters: two halves, their bytes, the next one. The program's counter of a slot's version.
-/
import Derived.Test.YtanpfodmmeagaaaDoorAesBlkG
import Derived.Test.YtanpfodmmeagaaaDoorPFieldsG
import Derived.Test.YtanpfodmmeagaaaDoorAesCNG
namespace Go.Proofs.YtanpfodmmeagaaaDoor
open Go.RowKit

def hiN (v : Nat) : Nat := v / 18446744073709551616 % 18446744073709551616
def loN (v : Nat) : Nat := v % 18446744073709551616
def dig8 (n : Nat) : List Nat := (List.range 8).map fun i => n / 256 ^ (7 - i) % 256
theorem hiN_lt (v : Nat) : hiN v < 18446744073709551616 := Nat.mod_lt _ (by decide)
theorem loN_lt (v : Nat) : loN v < 18446744073709551616 := Nat.mod_lt _ (by decide)
theorem bytesOf_dig (n : Nat) : bytesOf (n : Int) 8 = up (dig8 n) := by
  unfold bytesOf bytesTo dig8 up
  rw [List.map_map]
  apply List.map_congr_left
  intro i _
  show (n : Int) / 256 ^ (7 - i) % 256 = ((n / 256 ^ (7 - i) % 256 : Nat) : Int)
  rw [Int.natCast_emod, Int.natCast_ediv, Int.natCast_pow]
  rfl
theorem be16_halves (v : Nat) : be16 v = dig8 (hiN v) ++ dig8 (loN v) := by
  unfold be16 L16 dig8 hiN loN
  simp only [show List.range 16 = [0, 1, 2, 3, 4, 5, 6, 7, 8, 9, 10, 11, 12, 13, 14, 15] from rfl, show List.range 8 = [0, 1, 2, 3, 4, 5, 6, 7] from rfl, List.map_cons, List.map_nil, List.cons_append, List.nil_append, Nat.reduceSub, Nat.reducePow, Nat.div_one]
  refine List.cons_eq_cons.2 ⟨by omega, ?_⟩
  refine List.cons_eq_cons.2 ⟨by omega, ?_⟩
  refine List.cons_eq_cons.2 ⟨by omega, ?_⟩
  refine List.cons_eq_cons.2 ⟨by omega, ?_⟩
  refine List.cons_eq_cons.2 ⟨by omega, ?_⟩
  refine List.cons_eq_cons.2 ⟨by omega, ?_⟩
  refine List.cons_eq_cons.2 ⟨by omega, ?_⟩
  refine List.cons_eq_cons.2 ⟨by omega, ?_⟩
  refine List.cons_eq_cons.2 ⟨by omega, ?_⟩
  refine List.cons_eq_cons.2 ⟨by omega, ?_⟩
  refine List.cons_eq_cons.2 ⟨by omega, ?_⟩
  refine List.cons_eq_cons.2 ⟨by omega, ?_⟩
  refine List.cons_eq_cons.2 ⟨by omega, ?_⟩
  refine List.cons_eq_cons.2 ⟨by omega, ?_⟩
  refine List.cons_eq_cons.2 ⟨by omega, ?_⟩
  refine List.cons_eq_cons.2 ⟨by omega, ?_⟩
  rfl
theorem valOf_up : ∀ l : List Nat, valOf (up l) = ((valB l : Nat) : Int) := by
  intro l
  unfold valOf valB up
  suffices H : ∀ (l : List Nat) (a : Nat), (l.map fun n : Nat => (n : Int)).foldl (fun a x => a * 256 + x) (a : Int) = ((l.foldl (fun a x => a * 256 + x) a : Nat) : Int) from H l 0
  intro l
  induction l with
  | nil => intro a; rfl
  | cons x l ih => intro a; rw [List.map_cons, List.foldl_cons, List.foldl_cons, ← ih, Int.natCast_add, Int.natCast_mul]; rfl
theorem valB_lt (l : List Nat) (h : ∀ x ∈ l, x < 256) : valB l < 256 ^ l.length := by
  have := valOf_bd (up l) (fun z hz => by obtain ⟨n, hn, rfl⟩ := List.mem_map.1 hz; have := h n hn; omega)
  rw [valOf_up, up_len] at this
  have h2 := this.2
  have h3 : (256 : Int) ^ l.length = ((256 ^ l.length : Nat) : Int) := by rw [Int.natCast_pow]; rfl
  omega
theorem valB_append (a b : List Nat) : valB (a ++ b) = valB a * 256 ^ b.length + valB b := by
  suffices H : ∀ n (b : List Nat), b.length = n → valB (a ++ b) = valB a * 256 ^ b.length + valB b from H _ b rfl
  intro n
  induction n with
  | zero => intro b hb; rw [List.eq_nil_of_length_eq_zero hb]; simp [valB]
  | succ n ih =>
    intro b hb
    rcases List.eq_nil_or_concat b with rfl | ⟨L, x, hx⟩
    · cases hb
    · rw [List.concat_eq_append] at hx
      subst hx
      have hL : L.length = n := by simpa using hb
      rw [← List.append_assoc, valB_snoc, ih L hL, valB_snoc, List.length_append, List.length_singleton, Nat.pow_succ, Nat.add_mul, Nat.mul_assoc, Nat.add_assoc]
theorem split_halves {c : List Nat} (hl : c.length = 16) (hc : ∀ x ∈ c, x < 256) : splitL (up c) [8, 8] = [((hiN (valB c) : Nat) : Int), ((loN (valB c) : Nat) : Int)] ∧ splitE (up c) [8, 8] = 0 := by
  have hE : splitE (up c) [8, 8] = 0 := by
    unfold splitE
    rw [up_len, hl]
    decide
  refine ⟨?_, hE⟩
  unfold splitL
  rw [if_pos hE]
  have h1 : (up c).take 8 = up (c.take 8) := by simp [up]
  have h2 : ((up c).drop 8).take 8 = up (c.drop 8) := by
    rw [List.take_of_length_le (by rw [List.length_drop, up_len]; omega)]
    simp [up]
  show [valOf ((up c).take 8), valOf (((up c).drop 8).take 8)] = _
  rw [h1, h2, valOf_up, valOf_up]
  have e : valB c = valB (c.take 8) * 256 ^ (c.drop 8).length + valB (c.drop 8) := by rw [← valB_append, List.take_append_drop]
  have b1 := valB_lt (c.take 8) fun x hx => hc x (List.mem_of_mem_take hx)
  have b2 := valB_lt (c.drop 8) fun x hx => hc x (List.mem_of_mem_drop hx)
  rw [List.length_take, hl] at b1
  rw [List.length_drop, hl] at e b2
  have b1' : valB (c.take 8) < 18446744073709551616 := b1
  have b2' : valB (c.drop 8) < 18446744073709551616 := b2
  have e' : valB c = valB (c.take 8) * 18446744073709551616 + valB (c.drop 8) := e
  unfold hiN loN
  have q1 : valB (c.take 8) = valB c / 18446744073709551616 % 18446744073709551616 := by omega
  have q2 : valB (c.drop 8) = valB c % 18446744073709551616 := by omega
  rw [← q1, ← q2]
theorem fields_halves (v : Nat) : fieldsB [((hiN v : Nat) : Int), ((loN v : Nat) : Int)] [8, 8] = up (be16 v) ∧ fieldsE [((hiN v : Nat) : Int), ((loN v : Nat) : Int)] [8, 8] = 0 := by
  have h1 := hiN_lt v
  have h2 := loN_lt v
  have hE : fieldsE [((hiN v : Nat) : Int), ((loN v : Nat) : Int)] [8, 8] = 0 := by
    unfold fieldsE
    rw [if_pos ⟨by decide, rfl⟩, if_pos]
    simp only [List.zip_cons_cons, List.zip_nil_right, List.all_cons, List.all_nil, Bool.and_true, Bool.and_eq_true, fitB, decide_eq_true_eq]
    exact ⟨by have : (256 : Int) ^ Int.toNat 8 = 18446744073709551616 := by decide
              rw [this]; omega, by have : (256 : Int) ^ Int.toNat 8 = 18446744073709551616 := by decide
                                   rw [this]; omega⟩
  refine ⟨?_, hE⟩
  unfold fieldsB
  rw [if_pos hE]
  show bytesOf _ 8 ++ (bytesOf _ 8 ++ []) = _
  rw [List.append_nil, bytesOf_dig, bytesOf_dig, be16_halves, up_append]
theorem next_halves (v : Nat) : hiN (v + 1) = (hiN v + (loN v + 1) / 18446744073709551616) % 18446744073709551616 ∧ loN (v + 1) = (loN v + 1) % 18446744073709551616 := by
  unfold hiN loN
  omega

theorem callAdd (x : Nat) (w : World) : (callFunc 73 #[.int .u64 (x : Int), .int .u64 1, .int .u64 0]).run Tryd.prog w = .ok (.value (.tuple #[.int .u64 (((x + 1) % 18446744073709551616 : Nat) : Int), .int .u64 (((x + 1) / 18446744073709551616 : Nat) : Int)])) w := by kernel_rfl

set_option maxHeartbeats 800000 in
/-- 'next'. -/
theorem numNext_any (v : Nat) (w : World) : Calls Tryd.prog 50 #[.agg #[.int .u64 (hiN v : Nat), .int .u64 (loN v : Nat)]] w fun e w' => e = .returned (.agg #[.int .u64 (hiN (v + 1) : Nat), .int .u64 (loN (v + 1) : Nat)]) ∧ Below w.heap.size w w' := by
  have hc := callAdd (loN v)
  obtain ⟨e1, e2⟩ := next_halves v
  have h1 := hiN_lt v
  have h2 := loN_lt v
  obtain ⟨h, hh⟩ : ∃ h, h = hiN v := ⟨_, rfl⟩
  obtain ⟨lo, hlo⟩ : ∃ lo, lo = loN v := ⟨_, rfl⟩
  rw [← hh] at e1 h1 ⊢
  rw [← hlo] at hc e1 e2 h2 ⊢
  obtain ⟨k, hk⟩ : ∃ k, k = (lo + 1) / 18446744073709551616 := ⟨_, rfl⟩
  obtain ⟨m, hm⟩ : ∃ m, m = (lo + 1) % 18446744073709551616 := ⟨_, rfl⟩
  rw [← hk, ← hm] at hc
  rw [← hk] at e1
  rw [← hm] at e2
  have hk1 : k ≤ 1 := by omega
  have HE1 := Lib.hid (show (((h : Int) + (k : Int)) % 18446744073709551616 = (hiN (v + 1) : Nat)) by rw [e1]; omega)
  have HE2 := Lib.hid e2
  clear hk hm hh hlo e1 e2
  go_enter Tryd.func50, Tryd.ntmps50
  go_wp2
  have hwr : IntKind.u64.wrap ((h : Int) + (k : Int)) = ((hiN (v + 1) : Nat) : Int) := HE1.out
  rw [hwr, ← HE2.out]
  refine bodyPost_ret (v := .agg #[.int .u64 (hiN (v + 1) : Nat), .int .u64 (loN (v + 1) : Nat)]) ?_ rfl ⟨rfl, ?_⟩
  · simp [results, Tryd.f50, go_sem]
  · exact ((Below.refl _ _).alloc (Nat.le_refl _) _).alloc (by simp) _

set_option maxHeartbeats 800000 in
/-- 'bytes'. -/
theorem numBytes_any (v : Nat) (w : World) : Calls Tryd.prog 35 #[.agg #[.int .u64 (hiN v : Nat), .int .u64 (loN v : Nat)]] w fun e w' => ∃ A c, e = .returned (.slice A 16 c) ∧ 16 ≤ c ∧ Ints w' w'.heap.size .u8 A (up (be16 v)) ∧ Below w.heap.size w w' := by
  have h1 := hiN_lt v
  have h2 := loN_lt v
  obtain ⟨eB, eE⟩ := fields_halves v
  have HF : ∀ t1 t2 t3 : Nat, Hid (Calls Tryd.prog 36 #[.slice (some ⟨w.heap.size + 1, 0, none⟩) 2 2, .slice (some ⟨w.heap.size + 1 + 1, 0, none⟩) 2 2]
      (((w.alloc (.cells #[.int .u64 (hiN v : Nat), .int .u64 (loN v : Nat)] t1)).alloc (.cells #[.int .u64 (hiN v : Nat), .int .u64 (loN v : Nat)] t2)).alloc (.cells #[.int .i64 8, .int .i64 8] t3))
      fun e w' => ∃ A c, e = .returned (.tuple #[.slice A 16 c, .int .i64 0]) ∧ 16 ≤ c ∧ Ints w' w'.heap.size .u8 A (up (be16 v)) ∧ Below w.heap.size w w') := fun t1 t2 t3 => by
    have hb : Below w.heap.size w (((w.alloc (.cells #[.int .u64 (hiN v : Nat), .int .u64 (loN v : Nat)] t1)).alloc (.cells #[.int .u64 (hiN v : Nat), .int .u64 (loN v : Nat)] t2)).alloc (.cells #[.int .i64 8, .int .i64 8] t3)) :=
      (((Below.refl _ _).alloc (Nat.le_refl _) _).alloc (by simp) _).alloc (by simp; omega) _
    have h := fields_any (some ⟨w.heap.size + 1 + 1, 0, none⟩) (some ⟨w.heap.size + 1, 0, none⟩) 2 2 [8, 8] [((hiN v : Nat) : Int), ((loN v : Nat) : Int)]
      (((w.alloc (.cells #[.int .u64 (hiN v : Nat), .int .u64 (loN v : Nat)] t1)).alloc (.cells #[.int .u64 (hiN v : Nat), .int .u64 (loN v : Nat)] t2)).alloc (.cells #[.int .i64 8, .int .i64 8] t3)) ?_ ?_ ?_
    · rw [eB, eE] at h
      refine h.mono fun e w' q => ?_
      obtain ⟨A, c, q1, q2, q3, q4⟩ := q.below hb
      rw [up_len, (be16_ok v).len] at q1 q2
      exact ⟨A, c, q1, q2, q3, q4⟩
    · have q := Ints.new ((w.alloc (.cells #[.int .u64 (hiN v : Nat), .int .u64 (loN v : Nat)] t1)).alloc (.cells #[.int .u64 (hiN v : Nat), .int .u64 (loN v : Nat)] t2)) t3 .i64 [8, 8] #[.int .i64 8, .int .i64 8] rfl
      simp only [World.size_alloc] at q ⊢
      exact q
    · have q := Ints.new (w.alloc (.cells #[.int .u64 (hiN v : Nat), .int .u64 (loN v : Nat)] t1)) t2 .u64 [((hiN v : Nat) : Int), ((loN v : Nat) : Int)] #[.int .u64 (hiN v : Nat), .int .u64 (loN v : Nat)] rfl
      simp only [World.size_alloc] at q
      refine (q.alloc (by simp) _).more (by simp)
    · intro z hz
      simp only [List.mem_cons, List.not_mem_nil, or_false] at hz
      rcases hz with rfl | rfl <;> omega
  obtain ⟨x, hx⟩ : ∃ x, x = hiN v := ⟨_, rfl⟩
  obtain ⟨y, hy⟩ : ∃ y, y = loN v := ⟨_, rfl⟩
  rw [← hx] at HF h1 ⊢
  rw [← hy] at HF h2 ⊢
  obtain ⟨B, hB⟩ : ∃ B, B = up (be16 v) := ⟨_, rfl⟩
  rw [← hB] at HF ⊢
  clear hx hy hB eB eE
  go_enter Tryd.func35, Tryd.ntmps35
  go_wp2_with (go_at_call 36; with_reducible (refine Calls.mono (HF _ _ _).out ?_); rintro e w1 ⟨A, c, rfl, hcap, hi, hbel⟩)
  go_ret
  exact ⟨A, c, rfl, hcap, hi, hbel⟩

set_option maxHeartbeats 800000 in
/-- 'numberOf'. -/
theorem numberOf_any (A : Option Addr) (c : Nat) (l : List Nat) (w : World) (hr : Ints w w.heap.size .u8 A (up l)) (hl : l.length = 16) (hb : ∀ x ∈ l, x < 256) (hc : 16 ≤ c) :
    Calls Tryd.prog 33 #[.slice A 16 c] w fun e w' => e = .returned (.agg #[.int .u64 (hiN (valB l) : Nat), .int .u64 (loN (valB l) : Nat)]) ∧ Below w.heap.size w w' := by
  obtain ⟨e1, e2⟩ := split_halves hl hb
  have hz := (zero_of_info (P := Tryd.prog) (t := 56) (v := .agg #[.int .u64 0, .int .u64 0]) (n := 2) (by kernel_rfl)).1
  have HS : ∀ t1 t2 : Nat, Hid (Calls Tryd.prog 51 #[.slice A 16 c, .slice (some ⟨w.heap.size + 1, 0, none⟩) 2 2]
      ((w.alloc (.cells #[.int .u64 0, .int .u64 0] t1)).alloc (.cells #[.int .i64 8, .int .i64 8] t2))
      fun e w' => ∃ b o c, e = .returned (.tuple #[.slice (some ⟨b, o, none⟩) 2 c, .int .i64 0]) ∧ (2 : Int) ≤ c ∧ w'.cell? ⟨b, o, none⟩ = some (.int .u64 (hiN (valB l) : Nat)) ∧ w'.cell? ⟨b, o + 1, none⟩ = some (.int .u64 (loN (valB l) : Nat)) ∧ w'.heap[w.heap.size]? = some (.cells #[.int .u64 0, .int .u64 0] t1 (0, 0)) ∧ Below w.heap.size w w') := fun t1 t2 => by
    have h := split_any (some ⟨w.heap.size + 1, 0, none⟩) A 2 c [8, 8] (up l) ((w.alloc (.cells #[.int .u64 0, .int .u64 0] t1)).alloc (.cells #[.int .i64 8, .int .i64 8] t2)) ?_ ?_ ?_ ?_
    · rw [e1, e2, up_len, hl] at h
      refine h.mono fun e w' ⟨A1, c1, q1, q2, q3, q4⟩ => ?_
      obtain ⟨b1, o1, rfl, _, hc1⟩ := q3.at_ (by simp)
      have q2' : 2 ≤ c1 := q2
      exact ⟨b1, o1, c1, q1, by omega, hc1 0 (by simp), hc1 1 (by simp), (q4.block _ (by simp; omega)).trans ((Below.heap_alloc _ _ _ (by simp)).trans (heap_alloc_new w _)), (((Below.refl _ w).alloc (Nat.le_refl _) _).alloc (by simp) _).trans (q4.mono (by simp; omega))⟩
    · have q := Ints.new (w.alloc (.cells #[.int .u64 0, .int .u64 0] t1)) t2 .i64 [8, 8] #[.int .i64 8, .int .i64 8] rfl
      simp only [World.size_alloc] at q ⊢
      exact q
    · exact (((hr.alloc (Nat.le_refl _) _).more (by simp)).alloc (Nat.le_refl _) _).more (by simp)
    · rw [up_len, hl]; exact hc
    · intro z hz
      obtain ⟨n, hn, rfl⟩ := List.mem_map.1 hz
      have := hb n hn
      omega
  obtain ⟨x, hx⟩ : ∃ x, x = hiN (valB l) := ⟨_, rfl⟩
  obtain ⟨y, hy⟩ : ∃ y, y = loN (valB l) := ⟨_, rfl⟩
  rw [← hx, ← hy] at HS ⊢
  clear hx hy e1 e2 hb
  go_enter Tryd.func33, Tryd.ntmps33
  go_wp2_with (go_at_call 51; with_reducible (refine Calls.mono (HS _ _).out ?_); rintro e w1 ⟨b1, o1, c1, rfl, hcap, hx0, hx1, hz1, hb1⟩; have hr0 := cell_of_row w1 w.heap.size 0 _ _ _ hz1; have hr1 := cell_of_row w1 w.heap.size 1 _ _ _ hz1; have hf0 := frozen_of_row w1 w.heap.size 0 _ _ hz1; have hf1 := frozen_of_row w1 w.heap.size 1 _ _ hz1)
  go_region
  go_wp2
  have hg1 := heap_setCell_same (w1.drew.setCell ⟨w.heap.size, 0, none⟩ (.int .u64 (x : Int))) w.heap.size 1 (.int .u64 (y : Int)) _ _ _ (heap_setCell_same w1.drew w.heap.size 0 (.int .u64 (x : Int)) _ _ _ hz1)
  refine bodyPost_ret (results_cell_row rfl _ _ w.heap.size _ _ _ _ rfl hg1 Tryd.underlying56 rfl (by kernel_rfl)) rfl ⟨rfl, ?_⟩
  exact ((hb1.drew.setCell (p := ⟨w.heap.size, 0, none⟩) (Nat.le_refl _) _).setCell (p := ⟨w.heap.size, 1, none⟩) (Nat.le_refl _) _)

end Go.Proofs.YtanpfodmmeagaaaDoor

namespace Go.Proofs.YtanpfodmmeagaaaDoor
open Go.RowKit

theorem dig4_drop (n : Nat) : (dig8 n).drop 4 = (List.range 4).map fun i => n / 256 ^ (3 - i) % 256 := by
  unfold dig8
  rw [show List.range 8 = [0, 1, 2, 3, 4, 5, 6, 7] from rfl, show List.range 4 = [0, 1, 2, 3] from rfl]
  rfl
theorem counter_fields (s v : Int) :
    fieldsB [s % 4294967296, v % 18446744073709551616, 0] [4, 8, 4] = up (counterOf s v) ∧ fieldsE [s % 4294967296, v % 18446744073709551616, 0] [4, 8, 4] = 0 := by
  have hE : fieldsE [s % 4294967296, v % 18446744073709551616, 0] [4, 8, 4] = 0 := by
    unfold fieldsE
    rw [if_pos ⟨by decide, rfl⟩, if_pos]
    simp only [List.zip_cons_cons, List.zip_nil_right, List.all_cons, List.all_nil, Bool.and_true, Bool.and_eq_true, fitB, decide_eq_true_eq]
    have h4 : (256 : Int) ^ Int.toNat 4 = 4294967296 := by decide
    have h8 : (256 : Int) ^ Int.toNat 8 = 18446744073709551616 := by decide
    rw [h4, h8]
    exact ⟨by omega, by omega, by omega⟩
  refine ⟨?_, hE⟩
  unfold fieldsB
  rw [if_pos hE]
  show bytesOf (s % 4294967296) 4 ++ (bytesOf (v % 18446744073709551616) 8 ++ (bytesOf 0 4 ++ [])) = _
  have e2 : bytesOf (v % 18446744073709551616) 8 = up (eightN v) := by
    have h : v % 18446744073709551616 = (((v % 18446744073709551616).toNat : Nat) : Int) := by omega
    rw [h, bytesOf_dig]
    rfl
  have e1 : bytesOf (s % 4294967296) 4 = up ((eightN s).drop 4) := by
    show _ = up ((dig8 (s % 18446744073709551616).toNat).drop 4)
    rw [dig4_drop]
    unfold bytesOf bytesTo up
    rw [show List.range 4 = [0, 1, 2, 3] from rfl]
    simp only [List.map_cons, List.map_nil, Nat.reduceSub, Nat.reducePow, Nat.pow_zero, Nat.div_one, Int.reducePow, Int.pow_zero, Int.ediv_one]
    refine List.cons_eq_cons.2 ⟨by omega, ?_⟩
    refine List.cons_eq_cons.2 ⟨by omega, ?_⟩
    refine List.cons_eq_cons.2 ⟨by omega, ?_⟩
    refine List.cons_eq_cons.2 ⟨by omega, ?_⟩
    rfl
  rw [e1, e2, List.append_nil]
  unfold counterOf counterN
  rw [up_append, up_append, List.append_assoc]
  rfl

set_option maxHeartbeats 800000 in
/-- 'Counter'. -/
theorem counter_any (s v : Int) (w : World) :
    Calls Tryd.prog 22 #[.int .i64 s, .int .i64 v] w fun e w' => ∃ g o c, e = .returned (.slice (some ⟨g, o, none⟩) 16 c) ∧ 16 ≤ c ∧ w.heap.size ≤ g ∧ Ints w' w'.heap.size .u8 (some ⟨g, o, none⟩) (up (counterOf s v)) ∧ (∀ i, i < 16 → w'.frozen? ⟨g, o + i, none⟩ = false) ∧ Below w.heap.size w w' := by
  obtain ⟨eB, eE⟩ := counter_fields s v
  have hlen : (up (counterOf s v)).length = 16 := by rw [up_len]; rfl
  obtain ⟨x, hx⟩ : ∃ x, x = s % 4294967296 := ⟨_, rfl⟩
  obtain ⟨y, hy⟩ : ∃ y, y = v % 18446744073709551616 := ⟨_, rfl⟩
  obtain ⟨B, hB⟩ : ∃ B, B = up (counterOf s v) := ⟨_, rfl⟩
  rw [← hx, ← hy] at eB eE
  rw [← hB] at eB hlen ⊢
  have hx1 : 0 ≤ x ∧ x < 4294967296 := by omega
  have hy1 : 0 ≤ y ∧ y < 18446744073709551616 := by omega
  have HF : ∀ t1 t2 : Nat, Hid (Calls Tryd.prog 36 #[.slice (some ⟨w.heap.size, 0, none⟩) 3 3, .slice (some ⟨w.heap.size + 1, 0, none⟩) 3 3]
      ((w.alloc (.cells #[.int .u64 x, .int .u64 y, .int .u64 0] t1)).alloc (.cells #[.int .i64 4, .int .i64 8, .int .i64 4] t2))
      fun e w' => ∃ g c, e = .returned (.tuple #[.slice (some ⟨g, 0, none⟩) 16 c, .int .i64 0]) ∧ 16 ≤ c ∧ w.heap.size ≤ g ∧ Ints w' w'.heap.size .u8 (some ⟨g, 0, none⟩) B ∧ (∀ i, i < 16 → w'.frozen? ⟨g, 0 + i, none⟩ = false) ∧ Below w.heap.size w w') := fun t1 t2 => by
    have hb : Below w.heap.size w ((w.alloc (.cells #[.int .u64 x, .int .u64 y, .int .u64 0] t1)).alloc (.cells #[.int .i64 4, .int .i64 8, .int .i64 4] t2)) := ((Below.refl _ _).alloc (Nat.le_refl _) _).alloc (by simp) _
    have h := fields_own (some ⟨w.heap.size + 1, 0, none⟩) (some ⟨w.heap.size, 0, none⟩) 3 3 [4, 8, 4] [x, y, 0]
      ((w.alloc (.cells #[.int .u64 x, .int .u64 y, .int .u64 0] t1)).alloc (.cells #[.int .i64 4, .int .i64 8, .int .i64 4] t2)) ?_ ?_ ?_ (by decide) rfl
    · rw [eB, eE] at h
      refine h.mono fun e w' ⟨A, c, q1, q2, q3, q4, q5⟩ => ?_
      have q5 := q5 rfl
      rw [hlen] at q1 q2 q5
      obtain ⟨g, cap, hv, hg, hlt⟩ := q5.form (by decide)
      injection hv with hA _ hcap
      subst hA
      refine ⟨g, c, q1, q2, ?_, q3, fun i _ => ?_, hb.trans (q4.mono (by simp; omega))⟩
      · have : ((w.alloc (.cells #[.int .u64 x, .int .u64 y, .int .u64 0] t1)).alloc (.cells #[.int .i64 4, .int .i64 8, .int .i64 4] t2)).heap.size ≤ g := hg
        simp at this; omega
      · rw [Nat.zero_add]; exact q5.frozenAt i
    · have q := Ints.new (w.alloc (.cells #[.int .u64 x, .int .u64 y, .int .u64 0] t1)) t2 .i64 [4, 8, 4] #[.int .i64 4, .int .i64 8, .int .i64 4] rfl
      simp only [World.size_alloc] at q ⊢
      exact q
    · have q := Ints.new w t1 .u64 [x, y, 0] #[.int .u64 x, .int .u64 y, .int .u64 0] rfl
      exact (q.alloc (by simp) _).more (by simp)
    · intro z hz
      simp only [List.mem_cons, List.not_mem_nil, or_false] at hz
      rcases hz with rfl | rfl | rfl <;> omega
  have hy2 : y = IntKind.u64.wrap v := hy
  simp only [hx, hy2] at HF
  clear hx hy hy2 hx1 hy1 eB eE hB hlen
  go_enter Tryd.func22, Tryd.ntmps22
  go_wp2_with (go_at_call 36; with_reducible (refine Calls.mono (HF _ _).out ?_); rintro e w1 ⟨g, c, rfl, hc, hg, hi, hf, hb⟩)
  go_ret
  exact ⟨g, 0, c, rfl, hc, hg, hi, hf, hb⟩

end Go.Proofs.YtanpfodmmeagaaaDoor
