/-
  The layer mac, its smaller calls: whether two texts are alike; a full key with another byte added.
-/
import Derived.Test.YtocnbhefjhammaaDoorShaAsk
import Derived.Test.YtocnbhefjhammaaDoorMacNums
import Derived.Test.YtocnbhefjhammaaDoorRows2
namespace Go.Proofs.YtocnbhefjhammaaDoor
open Go.RowKit

def diffTo (xs ys : List Nat) (k : Nat) : Nat := (List.range k).foldl (fun d i => d ||| (xs.getD i 0 ^^^ ys.getD i 0)) 0
theorem diffTo_succ (xs ys : List Nat) (k : Nat) : diffTo xs ys (k + 1) = diffTo xs ys k ||| (xs.getD k 0 ^^^ ys.getD k 0) := by simp [diffTo, List.range_succ]
theorem diffTo_lt {xs ys : List Nat} (hx : ∀ b ∈ xs, b < 256) (hy : ∀ b ∈ ys, b < 256) (k : Nat) : diffTo xs ys k < 256 := by
  induction k with
  | zero => exact (by decide : (0 : Nat) < 256)
  | succ k ih =>
    rw [diffTo_succ]
    exact Nat.or_lt_two_pow (n := 8) ih (Nat.xor_lt_two_pow (n := 8) (getD_lt (by decide) hx k) (getD_lt (by decide) hy k))
theorem or_zero_iff (a b : Nat) : a ||| b = 0 ↔ a = 0 ∧ b = 0 := by
  constructor
  · intro h
    have h1 : ∀ i, (a ||| b).testBit i = false := fun i => by rw [h]; exact Nat.zero_testBit i
    refine ⟨Nat.eq_of_testBit_eq fun i => ?_, Nat.eq_of_testBit_eq fun i => ?_⟩
    · have := h1 i
      rw [Nat.testBit_or] at this
      simp at this
      rw [this.1, Nat.zero_testBit]
    · have := h1 i
      rw [Nat.testBit_or] at this
      simp at this
      rw [this.2, Nat.zero_testBit]
  · rintro ⟨rfl, rfl⟩; rfl
theorem xor_zero_iff (a b : Nat) : a ^^^ b = 0 ↔ a = b := by
  constructor
  · intro h
    refine Nat.eq_of_testBit_eq fun i => ?_
    have h1 : (a ^^^ b).testBit i = false := by rw [h]; exact Nat.zero_testBit i
    rw [Nat.testBit_xor] at h1
    simpa using h1
  · rintro rfl; exact Nat.xor_self a
theorem diffTo_zero (xs ys : List Nat) (k : Nat) : diffTo xs ys k = 0 ↔ ∀ i, i < k → xs.getD i 0 = ys.getD i 0 := by
  induction k with
  | zero => exact ⟨fun _ i hi => by omega, fun _ => rfl⟩
  | succ k ih =>
    rw [diffTo_succ, or_zero_iff, xor_zero_iff, ih]
    constructor
    · rintro ⟨h1, h2⟩ i hi
      rcases Nat.lt_or_ge i k with h | h
      · exact h1 i h
      · obtain rfl : i = k := by omega
        exact h2
    · intro h
      exact ⟨fun i hi => h i (by omega), h k (by omega)⟩
theorem diffTo_same {xs ys : List Nat} (hl : xs.length = ys.length) : ((diffTo xs ys xs.length : Int) == 0) = (xs == ys) := by
  rw [Bool.eq_iff_iff, beq_iff_eq, beq_iff_eq]
  have h1 : ((diffTo xs ys xs.length : Nat) : Int) = 0 ↔ diffTo xs ys xs.length = 0 := by omega
  rw [h1, diffTo_zero]
  constructor
  · intro h
    apply List.ext_getElem hl
    intro i h1 h2
    have := h i h1
    simpa [List.getD_eq_getElem?_getD, h1, h2] using this
  · rintro rfl i _; rfl

/-- 'Same'. -/
theorem same_any (A0 A1 : Option Addr) (c0 c1 : Nat) (xs ys : List Nat) (w : World) (h0 : Ints w w.heap.size .u8 A0 (up xs)) (h1 : Ints w w.heap.size .u8 A1 (up ys)) (hx : ∀ b ∈ xs, b < 256) (hy : ∀ b ∈ ys, b < 256) (hm0 : xs.length ≤ 140737488355000) :
    Calls Tryd.prog 11 #[.slice A0 xs.length c0, .slice A1 ys.length c1] w fun e w' => e = .returned (.bool (xs == ys)) ∧ Below w.heap.size w w' := by
  by_cases hl : xs.length = ys.length
  · have hn : ((xs.length : Int) == (ys.length : Int)) = true := by simp [hl]
    have hn2 : ((xs.length : Int) != (ys.length : Int)) = false := by simp [hl]
    have HE := Lib.hid (diffTo_same hl)
    have HX := Lib.hid hx
    have HY := Lib.hid hy
    have HL := Lib.hid hl
    clear hx hy hl
    go_enter Tryd.func11, Tryd.ntmps11
    go_wp2
    go_loopw [5, 15] (fun v i wr => ∃ k : Nat, k ≤ xs.length ∧ i = .int .i64 k ∧ v = .int .u8 (diffTo xs ys k : Nat) ∧ Below w.heap.size w wr) (fun _ i _ => xs.length - (intOf i).toNat)
    case atStart => exact ⟨0, Nat.zero_le _, rfl, rfl, Below.refl _ _⟩
    case round =>
      obtain ⟨k, hk, rfl, rfl, hbel⟩ := hrel
      by_cases hlt : k < xs.length
      · obtain ⟨b0, o0, rfl, hb0, hc0⟩ := (h0.below hbel) k (by rw [up_len]; exact hlt)
        obtain ⟨b1, o1, rfl, hb1, hc1⟩ := (h1.below hbel) k (by rw [up_len, ← HL.out]; exact hlt)
        rw [up_getD] at hc0 hc1
        have hx8 : xs.getD k 0 < 256 := getD_lt (by decide) HX.out k
        have hy8 : ys.getD k 0 < 256 := getD_lt (by decide) HY.out k
        have hd8 := diffTo_lt HX.out HY.out k
        have HN := Lib.hid (diffTo_succ xs ys k)
        have hky : (k : Int) < (ys.length : Int) := by have := HL.out; omega
        have hkx : (k : Int) < (xs.length : Int) := by omega
        obtain ⟨x, hxe⟩ : ∃ x, x = xs.getD k 0 := ⟨_, rfl⟩
        obtain ⟨y, hye⟩ : ∃ y, y = ys.getD k 0 := ⟨_, rfl⟩
        obtain ⟨d, hde⟩ : ∃ d, d = diffTo xs ys k := ⟨_, rfl⟩
        rw [← hxe] at hc0 hx8 HN
        rw [← hye] at hc1 hy8 HN
        rw [← hde] at hd8 HN ⊢
        have hxy : x ^^^ y < 256 := Nat.xor_lt_two_pow (n := 8) hx8 hy8
        have e1 := u8_xor_nat x y hx8 hy8
        have e2 := u8_or_nat d (x ^^^ y) hd8 hxy
        obtain ⟨z, hz⟩ : ∃ z, z = x ^^^ y := ⟨_, rfl⟩
        obtain ⟨d2, hd2⟩ : ∃ d2, d2 = d ||| z := ⟨_, rfl⟩
        rw [← hz] at e1 e2 HN hxy
        rw [← hd2] at e2 HN
        have HR := Lib.hid hbel
        clear hxe hye hde hz hd2 hbel
        go_wp2
        go_roundw
        case rel => exact ⟨k + 1, by omega, by go_num, by rw [HN.out], HR.out⟩
        case measure => simp [intOf]; omega
      · have hkn : k = xs.length := by omega
        subst hkn
        have he := HE.out
        go_wp2
        go_ret
        exact ⟨rfl, hbel⟩
  · have hn : ((xs.length : Int) == (ys.length : Int)) = false := by simp; omega
    have hn2 : ((xs.length : Int) != (ys.length : Int)) = true := by simp; omega
    have he : (xs == ys) = false := by
      rw [beq_eq_false_iff_ne]; intro h; exact hl (by rw [h])
    rw [he]
    clear hl he hx hy
    go_enter Tryd.func11, Tryd.ntmps11
    go_wp2
    go_ret
    exact ⟨rfl, Below.refl _ _⟩

def fullN (l : List Nat) : List Nat := l ++ List.replicate (64 - l.length) 0
theorem fullN_len {l : List Nat} (h : l.length ≤ 64) : (fullN l).length = 64 := by simp [fullN]; omega
theorem fullN_at (l : List Nat) (i : Nat) : (fullN l).getD i 0 = l.getD i 0 := by
  unfold fullN
  rcases Nat.lt_or_ge i l.length with h | h
  · simp [List.getD_eq_getElem?_getD, List.getElem?_append_left h]
  · rw [List.getD_eq_getElem?_getD, List.getD_eq_getElem?_getD, List.getElem?_append_right h, List.getElem?_eq_none h, List.getElem?_replicate]
    split <;> rfl
theorem fullN_lt {l : List Nat} (h : ∀ b ∈ l, b < 256) : ∀ b ∈ fullN l, b < 256 := by
  intro b hb
  rcases List.mem_append.1 hb with hb | hb
  · exact h b hb
  · have := (List.mem_replicate.1 hb).2; omega

theorem BA_set (zs : List Nat) (i z : Nat) : (BA zs).setIfInBounds i (.int .u8 (z : Int)) = BA (zs.set i z) := by
  simp [BA, List.map_set]
/-- The first k bytes have another one added. -/
def maskTo (l : List Nat) (x k : Nat) : List Nat := (List.range 64).map fun i => if i < k then l.getD i 0 ^^^ x else l.getD i 0
theorem maskTo_len (l : List Nat) (x k : Nat) : (maskTo l x k).length = 64 := by simp [maskTo]
theorem maskTo_at (l : List Nat) (x k i : Nat) (h : i < 64) : (maskTo l x k).getD i 0 = if i < k then l.getD i 0 ^^^ x else l.getD i 0 := by
  rw [List.getD_eq_getElem?_getD, List.getElem?_eq_getElem (by rw [maskTo_len]; exact h), Option.getD_some]
  simp [maskTo]
theorem maskTo_zero {l : List Nat} (x : Nat) (h : l.length = 64) : maskTo l x 0 = l := by
  apply List.ext_getElem
  · rw [maskTo_len, h]
  · intro i h1 h2
    simp [maskTo, List.getD_eq_getElem?_getD, h2]
theorem maskTo_next (l : List Nat) (x k : Nat) : (maskTo l x k).set k (l.getD k 0 ^^^ x) = maskTo l x (k + 1) := by
  apply List.ext_getElem
  · simp [maskTo]
  · intro i h1 h2
    rw [List.getElem_set]
    simp only [maskTo, List.getElem_map, List.getElem_range]
    by_cases e : k = i
    · subst e; simp
    · rw [if_neg e]
      by_cases hlt : i < k
      · rw [if_pos hlt, if_pos (by omega)]
      · rw [if_neg hlt, if_neg (by omega)]
theorem maskTo_full (l : List Nat) (x : Nat) : maskTo l x 64 = xorK l x := by
  unfold maskTo xorK xorTo
  apply List.map_congr_left
  intro i hi
  rw [if_pos (List.mem_range.1 hi)]

set_option maxHeartbeats 800000 in
set_option maxRecDepth 100000 in
/-- 'masked'. -/
theorem masked_any (l : List Nat) (x : Nat) (w : World) (hl : l.length = 64) (hb : ∀ b ∈ l, b < 256) (hx : x < 256) :
    Calls Tryd.prog 17 #[.agg (BA l), .int .u8 (x : Int)] w fun e w' => e = .returned (.agg (BA (xorK l x))) ∧ Below w.heap.size w w' := by
  have hz := (zero_of_info (P := Tryd.prog) (t := 36) (v := .agg (BA (List.replicate 64 0))) (n := 64) (by kernel_rfl)).1
  have hu := Tryd.underlying36
  have hb0 : Below w.heap.size w ((w.alloc (.cells (BA l) 36)).alloc (.cells (BA (List.replicate 64 0)) 36)) := ((Below.refl _ _).alloc (Nat.le_refl _) _).alloc (by simp) _
  have hr0 : ((w.alloc (.cells (BA l) 36)).alloc (.cells (BA (List.replicate 64 0)) 36)).heap[w.heap.size]? = some (.cells (BA l) 36 (0, 0)) :=
    (Below.heap_alloc _ _ _ (by simp)).trans (heap_alloc_new _ _)
  have hr1 : ((w.alloc (.cells (BA l) 36)).alloc (.cells (BA (List.replicate 64 0)) 36)).heap[w.heap.size + 1]? = some (.cells (BA (List.replicate 64 0)) 36 (0, 0)) := heap_alloc_new' _ _ _ (by simp)
  obtain ⟨Z, hZ⟩ : ∃ Z, Z = List.replicate 64 0 := ⟨_, rfl⟩
  have hZl : Z.length = 64 := by rw [hZ, List.length_replicate]
  rw [← hZ] at hz hb0 hr0 hr1
  have HM := Lib.hid (maskTo_zero x hl)
  have HB := Lib.hid hb
  clear hZ hb
  go_enter Tryd.func17, Tryd.ntmps17
  go_wp2
  go_loopw [6] (fun i wr => ∃ k : Nat, k ≤ 64 ∧ i = .int .i64 k ∧ Below w.heap.size w wr ∧ wr.heap[w.heap.size]? = some (.cells (BA (maskTo l x k)) 36 (0, 0)) ∧ wr.heap[w.heap.size + 1]? = some (.cells (BA Z) 36 (0, 0))) (fun i _ => 64 - (intOf i).toNat)
  case atStart => exact ⟨0, by omega, rfl, hb0, by rw [HM.out]; exact hr0, hr1⟩
  case round =>
    clear hb0 hr0 hr1
    obtain ⟨k, hk, rfl, hbel, hr0, hr1⟩ := hrel
    by_cases hlt : k < 64
    · have hc := BA_cell hr0 (i := k) (by rw [maskTo_len]; exact hlt)
      have hf := frozen_of_row wr w.heap.size k _ _ hr0
      rw [maskTo_at l x k k hlt, if_neg (Nat.lt_irrefl _)] at hc
      have hd8 : l.getD k 0 < 256 := getD_lt (by decide) HB.out k
      have HN := Lib.hid (maskTo_next l x k)
      obtain ⟨d, hde⟩ : ∃ d, d = l.getD k 0 := ⟨_, rfl⟩
      rw [← hde] at hc hd8 HN
      have e1 := u8_xor_nat d x hd8 hx
      obtain ⟨q, hq⟩ : ∃ q, q = d ^^^ x := ⟨_, rfl⟩
      rw [← hq] at e1 HN
      have hk8 : (k : Int) < 64 := by omega
      have R := Lib.hid (And.intro hbel (And.intro hr0 hr1))
      clear hde hq hbel hr0 hr1
      go_wp2
      obtain ⟨hbel, hr0, hr1⟩ := R.out
      have R2 : Below w.heap.size w (wr.setCell ⟨w.heap.size, k, none⟩ (.int .u8 (q : Int))) ∧ (wr.setCell ⟨w.heap.size, k, none⟩ (.int .u8 (q : Int))).heap[w.heap.size]? = some (.cells (BA (maskTo l x (k + 1))) 36 (0, 0)) ∧
          (wr.setCell ⟨w.heap.size, k, none⟩ (.int .u8 (q : Int))).heap[w.heap.size + 1]? = some (.cells (BA Z) 36 (0, 0)) := by
        refine ⟨hbel.setCell (by simp only []; omega) _, ?_, ?_⟩
        · rw [heap_setCell_same wr w.heap.size k _ _ _ hr0, BA_set, HN.out]
        · exact (heap_setCell_other wr ⟨w.heap.size, k, none⟩ (w.heap.size + 1) _ (by simp only []; omega)).trans hr1
      clear hbel hr0 hr1 R hc hf
      go_roundw
      case rel => exact ⟨k + 1, by omega, by go_num, R2⟩
      case measure => simp [intOf]; omega
    · have hk9 : k = 64 := by omega
      subst hk9
      rw [maskTo_full] at hr0
      have hxl : (xorK l x).length = 64 := xorTo_len _ _ _
      have hi : (Tryd.prog.info? 36).map (·.size) = some (BA (xorK l x)).size := by rw [BA_size, hxl]; kernel_rfl
      have ho : (BA Z).size = (BA (xorK l x)).size := by rw [BA_size, BA_size, hxl, hZl]
      go_wp2_with (first
        | (refine wpList_load_row rfl 36 _ rfl w.heap.size rfl 36 _ (0, 0) _ hr0 hu rfl hi ?_)
        | (refine wpList_store_row rfl 36 _ _ rfl (w.heap.size + 1) _ rfl rfl 36 _ hr1 hi ho (BA_one _) ?_))
      refine bodyPost_ret (v := .agg (BA (xorK l x))) ?_ rfl ⟨rfl, below_setRow hbel (by omega) _⟩
      exact results_cell_row rfl _ _ (w.heap.size + 1) 36 _ (0, 0) _ rfl (setRow_heap _ _ _ _ _ _ hr1) hu rfl hi

end Go.Proofs.YtocnbhefjhammaaDoor
