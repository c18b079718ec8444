/-
  The layer mac, its smaller calls: whether two texts are alike; a full key with another byte added. The layer mac: a key of full length; the digest of a full key and parts. The layer mac: the digest of a full key and parts.
-/
import Derived.Test.YtanpfodmmeagaaaDoorShaNumsG
import Derived.Test.YtanpfodmmeagaaaDoorWordsG
import Derived.Test.YtanpfodmmeagaaaDoorShaC1G
namespace Go.Proofs.YtanpfodmmeagaaaDoor
open Go.RowKit

def diffTo (xs ys : List Nat) (k : Nat) : Nat := (List.range k).foldl (fun d i => d ||| (xs.getD i 0 ^^^ ys.getD i 0)) 0
theorem diffTo_succ (xs ys : List Nat) (k : Nat) : diffTo xs ys (k + 1) = diffTo xs ys k ||| (xs.getD k 0 ^^^ ys.getD k 0) := by simp [diffTo, List.range_succ]
theorem diffTo_lt {xs ys : List Nat} (hx : ∀ b ∈ xs, b < 256) (hy : ∀ b ∈ ys, b < 256) (k : Nat) : diffTo xs ys k < 256 := by
  induction k with
  | zero => exact (by decide : (0 : Nat) < 256)
  | succ k ih =>
    rw [diffTo_succ]
    exact Nat.or_lt_two_pow (n := 8) ih (Nat.xor_lt_two_pow (n := 8) (getD_lt (by decide) hx k) (getD_lt (by decide) hy k))
theorem or_zero_iff (a b : Nat) : a ||| b = 0 ↔ a = 0 ∧ b = 0 := by
  constructor
  · intro h
    have h1 : ∀ i, (a ||| b).testBit i = false := fun i => by rw [h]; exact Nat.zero_testBit i
    refine ⟨Nat.eq_of_testBit_eq fun i => ?_, Nat.eq_of_testBit_eq fun i => ?_⟩
    · have := h1 i
      rw [Nat.testBit_or] at this
      simp at this
      rw [this.1, Nat.zero_testBit]
    · have := h1 i
      rw [Nat.testBit_or] at this
      simp at this
      rw [this.2, Nat.zero_testBit]
  · rintro ⟨rfl, rfl⟩; rfl
theorem xor_zero_iff (a b : Nat) : a ^^^ b = 0 ↔ a = b := by
  constructor
  · intro h
    refine Nat.eq_of_testBit_eq fun i => ?_
    have h1 : (a ^^^ b).testBit i = false := by rw [h]; exact Nat.zero_testBit i
    rw [Nat.testBit_xor] at h1
    simpa using h1
  · rintro rfl; exact Nat.xor_self a
theorem diffTo_zero (xs ys : List Nat) (k : Nat) : diffTo xs ys k = 0 ↔ ∀ i, i < k → xs.getD i 0 = ys.getD i 0 := by
  induction k with
  | zero => exact ⟨fun _ i hi => by omega, fun _ => rfl⟩
  | succ k ih =>
    rw [diffTo_succ, or_zero_iff, xor_zero_iff, ih]
    constructor
    · rintro ⟨h1, h2⟩ i hi
      rcases Nat.lt_or_ge i k with h | h
      · exact h1 i h
      · obtain rfl : i = k := by omega
        exact h2
    · intro h
      exact ⟨fun i hi => h i (by omega), h k (by omega)⟩
theorem diffTo_same {xs ys : List Nat} (hl : xs.length = ys.length) : ((diffTo xs ys xs.length : Int) == 0) = (xs == ys) := by
  rw [Bool.eq_iff_iff, beq_iff_eq, beq_iff_eq]
  have h1 : ((diffTo xs ys xs.length : Nat) : Int) = 0 ↔ diffTo xs ys xs.length = 0 := by omega
  rw [h1, diffTo_zero]
  constructor
  · intro h
    apply List.ext_getElem hl
    intro i h1 h2
    have := h i h1
    simpa [List.getD_eq_getElem?_getD, h1, h2] using this
  · rintro rfl i _; rfl

/-- 'Same'. -/
theorem same_any (A0 A1 : Option Addr) (c0 c1 : Nat) (xs ys : List Nat) (w : World) (h0 : Ints w w.heap.size .u8 A0 (up xs)) (h1 : Ints w w.heap.size .u8 A1 (up ys)) (hx : ∀ b ∈ xs, b < 256) (hy : ∀ b ∈ ys, b < 256) (hm0 : xs.length ≤ 140737488355000) :
    Calls Tryd.prog 19 #[.slice A0 xs.length c0, .slice A1 ys.length c1] w fun e w' => e = .returned (.bool (xs == ys)) ∧ Below w.heap.size w w' := by
  by_cases hl : xs.length = ys.length
  · have hn : ((xs.length : Int) == (ys.length : Int)) = true := by simp [hl]
    have hn2 : ((xs.length : Int) != (ys.length : Int)) = false := by simp [hl]
    have HE := Lib.hid (diffTo_same hl)
    have HX := Lib.hid hx
    have HY := Lib.hid hy
    have HL := Lib.hid hl
    clear hx hy hl
    go_enter Tryd.func19, Tryd.ntmps19
    go_wp2
    go_loopw [5, 15] (fun v i wr => ∃ k : Nat, k ≤ xs.length ∧ i = .int .i64 k ∧ v = .int .u8 (diffTo xs ys k : Nat) ∧ Below w.heap.size w wr) (fun _ i _ => xs.length - (intOf i).toNat)
    case atStart => exact ⟨0, Nat.zero_le _, rfl, rfl, Below.refl _ _⟩
    case round =>
      obtain ⟨k, hk, rfl, rfl, hbel⟩ := hrel
      by_cases hlt : k < xs.length
      · obtain ⟨b0, o0, rfl, hb0, hc0⟩ := (h0.below hbel) k (by rw [up_len]; exact hlt)
        obtain ⟨b1, o1, rfl, hb1, hc1⟩ := (h1.below hbel) k (by rw [up_len, ← HL.out]; exact hlt)
        rw [up_getD] at hc0 hc1
        have hx8 : xs.getD k 0 < 256 := getD_lt (by decide) HX.out k
        have hy8 : ys.getD k 0 < 256 := getD_lt (by decide) HY.out k
        have hd8 := diffTo_lt HX.out HY.out k
        have HN := Lib.hid (diffTo_succ xs ys k)
        have hky : (k : Int) < (ys.length : Int) := by have := HL.out; omega
        have hkx : (k : Int) < (xs.length : Int) := by omega
        obtain ⟨x, hxe⟩ : ∃ x, x = xs.getD k 0 := ⟨_, rfl⟩
        obtain ⟨y, hye⟩ : ∃ y, y = ys.getD k 0 := ⟨_, rfl⟩
        obtain ⟨d, hde⟩ : ∃ d, d = diffTo xs ys k := ⟨_, rfl⟩
        rw [← hxe] at hc0 hx8 HN
        rw [← hye] at hc1 hy8 HN
        rw [← hde] at hd8 HN ⊢
        have hxy : x ^^^ y < 256 := Nat.xor_lt_two_pow (n := 8) hx8 hy8
        have e1 := u8_xor_nat x y hx8 hy8
        have e2 := u8_or_nat d (x ^^^ y) hd8 hxy
        obtain ⟨z, hz⟩ : ∃ z, z = x ^^^ y := ⟨_, rfl⟩
        obtain ⟨d2, hd2⟩ : ∃ d2, d2 = d ||| z := ⟨_, rfl⟩
        rw [← hz] at e1 e2 HN hxy
        rw [← hd2] at e2 HN
        have HR := Lib.hid hbel
        clear hxe hye hde hz hd2 hbel
        go_wp2
        go_roundw
        case rel => exact ⟨k + 1, by omega, by go_num, by rw [HN.out], HR.out⟩
        case measure => simp [intOf]; omega
      · have hkn : k = xs.length := by omega
        subst hkn
        have he := HE.out
        go_wp2
        go_ret
        exact ⟨rfl, hbel⟩
  · have hn : ((xs.length : Int) == (ys.length : Int)) = false := by simp; omega
    have hn2 : ((xs.length : Int) != (ys.length : Int)) = true := by simp; omega
    have he : (xs == ys) = false := by
      rw [beq_eq_false_iff_ne]; intro h; exact hl (by rw [h])
    rw [he]
    clear hl he hx hy
    go_enter Tryd.func19, Tryd.ntmps19
    go_wp2
    go_ret
    exact ⟨rfl, Below.refl _ _⟩

def fullN (l : List Nat) : List Nat := l ++ List.replicate (64 - l.length) 0
theorem fullN_len {l : List Nat} (h : l.length ≤ 64) : (fullN l).length = 64 := by simp [fullN]; omega
theorem fullN_at (l : List Nat) (i : Nat) : (fullN l).getD i 0 = l.getD i 0 := by
  unfold fullN
  rcases Nat.lt_or_ge i l.length with h | h
  · simp [List.getD_eq_getElem?_getD, List.getElem?_append_left h]
  · rw [List.getD_eq_getElem?_getD, List.getD_eq_getElem?_getD, List.getElem?_append_right h, List.getElem?_eq_none h, List.getElem?_replicate]
    split <;> rfl
theorem fullN_lt {l : List Nat} (h : ∀ b ∈ l, b < 256) : ∀ b ∈ fullN l, b < 256 := by
  intro b hb
  rcases List.mem_append.1 hb with hb | hb
  · exact h b hb
  · have := (List.mem_replicate.1 hb).2; omega

theorem BA_set (zs : List Nat) (i z : Nat) : (BA zs).setIfInBounds i (.int .u8 (z : Int)) = BA (zs.set i z) := by
  simp [BA, List.map_set]
/-- The first k bytes have another one added. -/
def maskTo (l : List Nat) (x k : Nat) : List Nat := (List.range 64).map fun i => if i < k then l.getD i 0 ^^^ x else l.getD i 0
theorem maskTo_len (l : List Nat) (x k : Nat) : (maskTo l x k).length = 64 := by simp [maskTo]
theorem maskTo_at (l : List Nat) (x k i : Nat) (h : i < 64) : (maskTo l x k).getD i 0 = if i < k then l.getD i 0 ^^^ x else l.getD i 0 := by
  rw [List.getD_eq_getElem?_getD, List.getElem?_eq_getElem (by rw [maskTo_len]; exact h), Option.getD_some]
  simp [maskTo]
theorem maskTo_zero {l : List Nat} (x : Nat) (h : l.length = 64) : maskTo l x 0 = l := by
  apply List.ext_getElem
  · rw [maskTo_len, h]
  · intro i h1 h2
    simp [maskTo, List.getD_eq_getElem?_getD, h2]
theorem maskTo_next (l : List Nat) (x k : Nat) : (maskTo l x k).set k (l.getD k 0 ^^^ x) = maskTo l x (k + 1) := by
  apply List.ext_getElem
  · simp [maskTo]
  · intro i h1 h2
    rw [List.getElem_set]
    simp only [maskTo, List.getElem_map, List.getElem_range]
    by_cases e : k = i
    · subst e; simp
    · rw [if_neg e]
      by_cases hlt : i < k
      · rw [if_pos hlt, if_pos (by omega)]
      · rw [if_neg hlt, if_neg (by omega)]
theorem maskTo_full (l : List Nat) (x : Nat) : maskTo l x 64 = xorK l x := by
  unfold maskTo xorK xorTo
  apply List.map_congr_left
  intro i hi
  rw [if_pos (List.mem_range.1 hi)]

set_option maxHeartbeats 800000 in
set_option maxRecDepth 100000 in
/-- 'masked'. -/
theorem masked_any (l : List Nat) (x : Nat) (w : World) (hl : l.length = 64) (hb : ∀ b ∈ l, b < 256) (hx : x < 256) :
    Calls Tryd.prog 39 #[.agg (BA l), .int .u8 (x : Int)] w fun e w' => e = .returned (.agg (BA (xorK l x))) ∧ Below w.heap.size w w' := by
  have hz := (zero_of_info (P := Tryd.prog) (t := 65) (v := .agg (BA (List.replicate 64 0))) (n := 64) (by kernel_rfl)).1
  have hu := Tryd.underlying65
  have hb0 : Below w.heap.size w ((w.alloc (.cells (BA l) 65)).alloc (.cells (BA (List.replicate 64 0)) 65)) := ((Below.refl _ _).alloc (Nat.le_refl _) _).alloc (by simp) _
  have hr0 : ((w.alloc (.cells (BA l) 65)).alloc (.cells (BA (List.replicate 64 0)) 65)).heap[w.heap.size]? = some (.cells (BA l) 65 (0, 0)) :=
    (Below.heap_alloc _ _ _ (by simp)).trans (heap_alloc_new _ _)
  have hr1 : ((w.alloc (.cells (BA l) 65)).alloc (.cells (BA (List.replicate 64 0)) 65)).heap[w.heap.size + 1]? = some (.cells (BA (List.replicate 64 0)) 65 (0, 0)) := heap_alloc_new' _ _ _ (by simp)
  obtain ⟨Z, hZ⟩ : ∃ Z, Z = List.replicate 64 0 := ⟨_, rfl⟩
  have hZl : Z.length = 64 := by rw [hZ, List.length_replicate]
  rw [← hZ] at hz hb0 hr0 hr1
  have HM := Lib.hid (maskTo_zero x hl)
  have HB := Lib.hid hb
  clear hZ hb
  go_enter Tryd.func39, Tryd.ntmps39
  go_wp2
  go_loopw [6] (fun i wr => ∃ k : Nat, k ≤ 64 ∧ i = .int .i64 k ∧ Below w.heap.size w wr ∧ wr.heap[w.heap.size]? = some (.cells (BA (maskTo l x k)) 65 (0, 0)) ∧ wr.heap[w.heap.size + 1]? = some (.cells (BA Z) 65 (0, 0))) (fun i _ => 64 - (intOf i).toNat)
  case atStart => exact ⟨0, by omega, rfl, hb0, by rw [HM.out]; exact hr0, hr1⟩
  case round =>
    clear hb0 hr0 hr1
    obtain ⟨k, hk, rfl, hbel, hr0, hr1⟩ := hrel
    by_cases hlt : k < 64
    · have hc := BA_cell hr0 (i := k) (by rw [maskTo_len]; exact hlt)
      have hf := frozen_of_row wr w.heap.size k _ _ hr0
      rw [maskTo_at l x k k hlt, if_neg (Nat.lt_irrefl _)] at hc
      have hd8 : l.getD k 0 < 256 := getD_lt (by decide) HB.out k
      have HN := Lib.hid (maskTo_next l x k)
      obtain ⟨d, hde⟩ : ∃ d, d = l.getD k 0 := ⟨_, rfl⟩
      rw [← hde] at hc hd8 HN
      have e1 := u8_xor_nat d x hd8 hx
      obtain ⟨q, hq⟩ : ∃ q, q = d ^^^ x := ⟨_, rfl⟩
      rw [← hq] at e1 HN
      have hk8 : (k : Int) < 64 := by omega
      have R := Lib.hid (And.intro hbel (And.intro hr0 hr1))
      clear hde hq hbel hr0 hr1
      go_wp2
      obtain ⟨hbel, hr0, hr1⟩ := R.out
      have R2 : Below w.heap.size w (wr.setCell ⟨w.heap.size, k, none⟩ (.int .u8 (q : Int))) ∧ (wr.setCell ⟨w.heap.size, k, none⟩ (.int .u8 (q : Int))).heap[w.heap.size]? = some (.cells (BA (maskTo l x (k + 1))) 65 (0, 0)) ∧
          (wr.setCell ⟨w.heap.size, k, none⟩ (.int .u8 (q : Int))).heap[w.heap.size + 1]? = some (.cells (BA Z) 65 (0, 0)) := by
        refine ⟨hbel.setCell (by simp only []; omega) _, ?_, ?_⟩
        · rw [heap_setCell_same wr w.heap.size k _ _ _ hr0, BA_set, HN.out]
        · exact (heap_setCell_other wr ⟨w.heap.size, k, none⟩ (w.heap.size + 1) _ (by simp only []; omega)).trans hr1
      clear hbel hr0 hr1 R hc hf
      go_roundw
      case rel => exact ⟨k + 1, by omega, by go_num, R2⟩
      case measure => simp [intOf]; omega
    · have hk9 : k = 64 := by omega
      subst hk9
      rw [maskTo_full] at hr0
      have hxl : (xorK l x).length = 64 := xorTo_len _ _ _
      have hi : (Tryd.prog.info? 65).map (·.size) = some (BA (xorK l x)).size := by rw [BA_size, hxl]; kernel_rfl
      have ho : (BA Z).size = (BA (xorK l x)).size := by rw [BA_size, BA_size, hxl, hZl]
      go_wp2_with (first
        | (refine wpList_load_row rfl 65 _ rfl w.heap.size rfl 65 _ (0, 0) _ hr0 hu rfl hi ?_)
        | (refine wpList_store_row rfl 65 _ _ rfl (w.heap.size + 1) _ rfl rfl 65 _ hr1 hi ho (BA_one _) ?_))
      refine bodyPost_ret (v := .agg (BA (xorK l x))) ?_ rfl ⟨rfl, below_setRow hbel (by omega) _⟩
      exact results_cell_row rfl _ _ (w.heap.size + 1) 65 _ (0, 0) _ rfl (setRow_heap _ _ _ _ _ _ hr1) hu rfl hi

end Go.Proofs.YtanpfodmmeagaaaDoor

namespace Go.Proofs.YtanpfodmmeagaaaDoor
open Go.RowKit

theorem copied0 (m z : List Nat) : ((BA z).toList.take 0 ++ ((m.map fun x : Nat => Value.int .u8 (x : Int)) ++ (BA z).toList.drop (0 + m.length))).toArray = BA (m ++ z.drop m.length) := by
  simp [BA]
theorem copied1 (m z : List Nat) : ((m.map fun x : Nat => Value.int .u8 (x : Int)) ++ (BA z).toList.drop m.length).toArray = BA (m ++ z.drop m.length) := by
  simp [BA]
theorem full_drop (m : List Nat) : m ++ (List.replicate 64 0).drop m.length = fullN m := by
  rw [List.drop_replicate]; rfl

theorem keyN_short {key : List Nat} (h : key.length ≤ 64) : keyN key = key := if_neg (by omega)
def zero64 : List Nat := List.replicate 64 0
section
variable (w : World)
/-- A world with two new blocks of zeros. -/
def two0 (w : World) : World := (w.alloc (.cells (BA zero64) 65)).alloc (.cells (BA zero64) 65)
theorem two0_below : Below w.heap.size w (two0 w) := ((Below.refl _ _).alloc (Nat.le_refl _) _).alloc (by simp) _
theorem two0_first : (two0 w).heap[w.heap.size]? = some (.cells (BA zero64) 65 (0, 0)) := (Below.heap_alloc _ _ _ (by simp)).trans (heap_alloc_new _ _)
theorem two0_second : (two0 w).heap[w.heap.size + 1]? = some (.cells (BA zero64) 65 (0, 0)) := heap_alloc_new' _ _ _ (by simp)
end

set_option maxHeartbeats 800000 in
set_option maxRecDepth 100000 in
/-- 'fill', of a key that is not too long. -/
theorem fill_short (A : Option Addr) (c : Nat) (key : List Nat) (w : World) (hr : Ints w w.heap.size .u8 A (up key)) (hm : key.length ≤ 64) :
    Calls Tryd.prog 37 #[.slice A key.length c] w fun e w' => e = .returned (.agg (BA (fullN (keyN key)))) ∧ Below w.heap.size w w' := by
  have hz := (zero_of_info (P := Tryd.prog) (t := 65) (v := .agg (BA zero64)) (n := 64) (by kernel_rfl)).1
  have hu := Tryd.underlying65
  have hb0 := two0_below w
  have hr0 := two0_first w
  have hr1 := two0_second w
  unfold two0 at hb0 hr0 hr1
  have hfl := fullN_len (l := key) hm
  rw [keyN_short hm]
  have hi : (Tryd.prog.info? 65).map (·.size) = some (BA (fullN key)).size := by rw [BA_size, hfl]; kernel_rfl
  have ho : (BA zero64).size = (BA (fullN key)).size := by rw [BA_size, BA_size, hfl]; rfl
  have h1 := BA_one (fullN key)
  have HFD := Lib.hid (full_drop key)
  have HF0 : Hid (key = [] → BA zero64 = BA (fullN key)) := by intro h; rw [h]; rfl
  obtain ⟨F, hF⟩ : ∃ F, F = fullN key := ⟨_, rfl⟩
  rw [← hF] at hi ho h1 HFD HF0 ⊢
  obtain ⟨Z, hZ⟩ : ∃ Z, Z = zero64 := ⟨_, rfl⟩
  have HFZ : Hid (key ++ Z.drop key.length = F) := by unfold Hid; rw [hZ]; exact HFD.out
  have hZl : Z.length = 64 := by rw [hZ]; rfl
  rw [← hZ] at hz hb0 hr0 hr1 ho HF0
  have HR := Lib.hid hr
  clear hF hZ hfl HFD hr
  by_cases h0 : key = []
  · have hF0 := HF0.out h0
    have hk0 : key.length = 0 := by rw [h0]; rfl
    rw [hF0] at hz hb0 hr0 hr1
    rw [hk0]
    clear h0 HF0 HFZ HR hF0 ho
    go_enter Tryd.func37, Tryd.ntmps37
    go_wp2_with (first
      | (refine wpList_copy_nothing rfl _ _ 24 24 rfl 5 Tryd.underlying24 (by kernel_rfl) _ _ 64 64 0 c rfl rfl rfl ?_)
      | (refine wpList_load_row rfl 65 _ rfl (w.heap.size + 1) rfl 65 _ (0, 0) _ hr1 hu rfl hi ?_)
      | (refine wpList_store_row rfl 65 _ _ rfl w.heap.size _ rfl rfl 65 _ hr0 hi rfl h1 ?_))
    refine bodyPost_ret (v := .agg (BA F)) ?_ rfl ⟨rfl, below_setRow hb0 (Nat.le_refl _) _⟩
    exact results_cell_row rfl _ _ w.heap.size 65 _ (0, 0) _ rfl (setRow_heap _ _ _ _ _ _ hr0) hu rfl hi
  · have hk0 : 0 < key.length := List.length_pos_iff.2 h0
    obtain ⟨b, off, rfl, hb, hc⟩ := HR.out.at_ (by rw [up_len]; exact hk0)
    have HC : Hid (∀ i v, (key.map fun z : Nat => Value.int .u8 (z : Int))[i]? = some v → ((w.alloc (.cells (BA Z) 65)).alloc (.cells (BA Z) 65)).cell? ((⟨b, off, none⟩ : Addr).add i) = some v) := by
      intro i v hv
      have hi : i < key.length := by
        rcases Nat.lt_or_ge i key.length with h | h
        · exact h
        · rw [List.getElem?_eq_none (by rw [List.length_map]; exact h)] at hv; cases hv
      rw [Addr.add_mid, hb0.cell (p := ⟨b, off + i, none⟩) hb, hc i (by rw [up_len]; exact hi), up_getD, ← hv, List.getElem?_map, List.getElem?_eq_getElem hi]
      simp [List.getD_eq_getElem?_getD, List.getElem?_eq_getElem hi]
    clear hc HR h0
    go_enter Tryd.func37, Tryd.ntmps37
    go_wp2_with (with_reducible (refine wpList_copy_off rfl _ _ 24 24 rfl 5 Tryd.underlying24 (by kernel_rfl) (w.heap.size + 1) 0 64 64 ⟨b, off, none⟩ key.length c rfl rfl (BA Z) 65 hr1 (key.map fun z : Nat => Value.int .u8 (z : Int)) ?hn HC.out ?hfit ?h1 ?_))
    case hn => rw [List.length_map]; exact (Nat.min_eq_left hm).symm
    case hfit => rw [List.length_map, BA_size]; omega
    case h1 => intro v hv; obtain ⟨z, _, rfl⟩ := List.mem_map.1 hv; rfl
    intro W hW oW
    have hW1 : W.heap[w.heap.size + 1]? = some (.cells (BA F) 65 (0, 0)) := by
      have h := hW.out
      rw [copied1, HFZ.out] at h
      exact h
    have hW0 := (oW.block w.heap.size (by simp; omega) (by omega)).trans hr0
    have hbW := oW.below hb0 (by intro k hk; omega)
    clear hW oW HC hr0 hr1 hb0
    go_wp2_with (first
      | (refine wpList_load_row rfl 65 _ rfl (w.heap.size + 1) rfl 65 _ (0, 0) _ hW1 hu rfl hi ?_)
      | (refine wpList_store_row rfl 65 _ _ rfl w.heap.size _ rfl rfl 65 _ hW0 hi ho h1 ?_))
    refine bodyPost_ret (v := .agg (BA F)) ?_ rfl ⟨rfl, below_setRow hbW (Nat.le_refl _) _⟩
    exact results_cell_row rfl _ _ w.heap.size 65 _ (0, 0) _ rfl (setRow_heap _ _ _ _ _ _ hW0) hu rfl hi

theorem lt_of_row {w : World} {g : Nat} {o : Obj} (h : w.heap[g]? = some o) : g < w.heap.size := by
  by_cases hlt : g < w.heap.size
  · exact hlt
  · have hn : w.heap[g]? = none := by simp; omega
    rw [hn] at h
    cases h
theorem row_of_alloc {w : World} {g : Nat} {cs : Array Value} {t : TypeId} {fr : Nat × Nat} (h : w.heap[g]? = some (.cells cs t fr)) (o : Obj) : (w.alloc o).heap[g]? = some (.cells cs t fr) := by
  by_cases hlt : g < w.heap.size
  · exact (Below.heap_alloc w o g hlt).trans h
  · have hn : w.heap[g]? = none := by simp; omega
    rw [hn] at h
    cases h
theorem cells_src {W : World} {g : Nat} {t : TypeId} {fr : Nat × Nat} {l : List Nat} (h : W.heap[g]? = some (.cells (BA l) t fr)) : ∀ i v, (l.map fun z : Nat => Value.int .u8 (z : Int))[i]? = some v → W.cell? ((⟨g, 0, none⟩ : Addr).add i) = some v := by
  intro i v hv
  have hi : i < l.length := by
    rcases Nat.lt_or_ge i l.length with h | h
    · exact h
    · rw [List.getElem?_eq_none (by rw [List.length_map]; exact h)] at hv; cases hv
  rw [Addr.add_mid, Nat.zero_add, BA_cell h hi, ← hv, List.getElem?_map, List.getElem?_eq_getElem hi]
  simp [List.getD_eq_getElem?_getD, List.getElem?_eq_getElem hi]
theorem keyN_long {key : List Nat} (h : 64 < key.length) : keyN key = digestN key := if_pos h

set_option maxHeartbeats 800000 in
set_option maxRecDepth 100000 in
/-- 'fill', of a key that is too long. -/
theorem fill_long {w0 : World} (HD : DigestSpec w0) (A : Option Addr) (c : Nat) (key : List Nat) (w : World) (hw0 : Below w0.heap.size w0 w) (hr : Ints w w.heap.size .u8 A (up key)) (hA : A = none → c = 0) (hb : ∀ x ∈ key, x < 256) (hc : key.length ≤ c) (hm : key.length ≤ 140737488355000) (hlong : 64 < key.length) :
    Calls Tryd.prog 37 #[.slice A key.length c] w fun e w' => e = .returned (.agg (BA (fullN (keyN key)))) ∧ Below w.heap.size w w' := by
  have hz := (zero_of_info (P := Tryd.prog) (t := 65) (v := .agg (BA zero64)) (n := 64) (by kernel_rfl)).1
  have hz32 := (zero_of_info (P := Tryd.prog) (t := 41) (v := .agg zero32) (n := 32) (by kernel_rfl)).1
  have hu := Tryd.underlying65
  have hb0 : ∀ o, Below w.heap.size w (w.alloc o) := fun o => (Below.refl _ _).alloc (Nat.le_refl _) o
  have hr0 : (w.alloc (.cells (BA zero64) 65)).heap[w.heap.size]? = some (.cells (BA zero64) 65 (0, 0)) := heap_alloc_new _ _
  have H1 := Lib.hid (fun o : Obj => HD A c key (w.alloc o) (hw0.alloc hw0.size _) ((hr.alloc (Nat.le_refl _) o).more (by simp)) hA hb hc hm)
  have hfl := fullN_len (l := digestN key) (by rw [digestN_len]; decide)
  rw [keyN_long hlong]
  have hdl := digestN_len key
  have hi : (Tryd.prog.info? 65).map (·.size) = some (BA (fullN (digestN key))).size := by rw [BA_size, hfl]; kernel_rfl
  have ho : (BA zero64).size = (BA (fullN (digestN key))).size := by rw [BA_size, BA_size, hfl]; rfl
  have h1 := BA_one (fullN (digestN key))
  have hi32 : (Tryd.prog.info? 41).map (·.size) = some (BA (digestN key)).size := by rw [BA_size, hdl]; kernel_rfl
  have ho32 : zero32.size = (BA (digestN key)).size := by rw [BA_size, hdl]; rfl
  have h132 := BA_one (digestN key)
  have HFD := Lib.hid (full_drop (digestN key))
  have HBA := Lib.hid (fun (W : World) (g : Nat) (h : W.heap[g]? = some (.cells (BA (digestN key)) 41 (0, 0))) (i : Nat) (hi : i < 32) => BA_cell (i := i) h (by rw [hdl]; exact hi))
  have HL : Hid (64 < key.length) := hlong
  have hl1 : (64 : Int) < (key.length : Int) := by omega
  obtain ⟨F, hF⟩ : ∃ F, F = fullN (digestN key) := ⟨_, rfl⟩
  rw [← hF] at hi ho h1 HFD ⊢
  obtain ⟨D, hD⟩ : ∃ D, D = digestN key := ⟨_, rfl⟩
  rw [← hD] at HFD hi32 ho32 h132 HBA H1 hdl
  obtain ⟨Z, hZ⟩ : ∃ Z, Z = zero64 := ⟨_, rfl⟩
  have HFZ : Hid (D ++ Z.drop D.length = F) := by unfold Hid; rw [hZ]; exact HFD.out
  have hZl : Z.length = 64 := by rw [hZ]; rfl
  rw [← hZ] at hz hr0 ho
  obtain ⟨Y, hY⟩ : ∃ Y, Y = zero32 := ⟨_, rfl⟩
  rw [← hY] at hz32 ho32
  clear hF hZ hfl HFD hD hY hr hb hc hm hlong hw0 HD hA
  go_enter Tryd.func37, Tryd.ntmps37
  go_wp2_with (first
    | (go_at_call 58; with_reducible (refine Calls.mono (H1.out _) ?_); rintro e w1 ⟨rfl, hb1⟩; have hs1 := hb1.size; simp only [World.size_alloc] at hs1 hb1)
    | (refine wpList_store_fresh rfl 41 _ _ rfl w1.heap.size (BA D) rfl rfl 41 Y (heap_alloc_new _ _) hi32 ho32 h132 (((hb0 _).trans (hb1.mono (Nat.le_succ _))).alloc (by omega) _) (by omega) ?_; intro W hW hbW hkW hsW; simp only [World.size_alloc] at hsW; have hr2 : (W.alloc (.cells (BA Z) 65)).heap[w1.heap.size + 1]? = some (.cells (BA Z) 65 (0, 0)) := heap_alloc_new' _ _ _ hsW.symm; have HC := Lib.hid (cells_src (W := W.alloc (.cells (BA Z) 65)) (row_of_alloc hW _)))
    | (with_reducible (refine wpList_copy_off rfl _ _ 24 24 rfl 5 Tryd.underlying24 (by kernel_rfl) (w1.heap.size + 1) 0 64 64 ⟨w1.heap.size, 0, none⟩ 32 32 rfl rfl (BA Z) 65 hr2 (D.map fun z : Nat => Value.int .u8 (z : Int)) ?hn HC.out ?hfit ?h1 ?_)))
  case hn => rw [List.length_map, hdl]; rfl
  case hfit => rw [List.length_map, BA_size]; omega
  case h1 => intro v hv; obtain ⟨z, _, rfl⟩ := List.mem_map.1 hv; rfl
  intro W2 hW2 oW
  have hX1 : W2.heap[w1.heap.size + 1]? = some (.cells (BA F) 65 (0, 0)) := by
    have h := hW2.out
    rw [← hdl, copied1, HFZ.out] at h
    exact h
  have hX0 : W2.heap[w.heap.size]? = some (.cells (BA Z) 65 (0, 0)) := by
    refine (oW.block w.heap.size (by simp; omega) (by omega)).trans ((Below.heap_alloc _ _ _ (by omega)).trans ((hkW _ (by omega)).trans ((Below.heap_alloc _ _ _ (by omega)).trans ?_)))
    exact (hb1.block _ (by omega)).trans hr0
  have hbX := oW.below (hbW.alloc hbW.size _) (by intro k hk; omega)
  clear hW2 oW HC hr0 hr2 hW hkW hbW hb1 hs1 hsW
  go_wp2_with (first
    | (refine wpList_load_row rfl 65 _ rfl (w1.heap.size + 1) rfl 65 _ (0, 0) _ hX1 hu rfl hi ?_)
    | (refine wpList_store_row rfl 65 _ _ rfl w.heap.size _ rfl rfl 65 _ hX0 hi ho h1 ?_))
  refine bodyPost_ret (v := .agg (BA F)) ?_ rfl ⟨rfl, below_setRow hbX (Nat.le_refl _) _⟩
  exact results_cell_row rfl _ _ w.heap.size 65 _ (0, 0) _ rfl (setRow_heap _ _ _ _ _ _ hX0) hu rfl hi

end Go.Proofs.YtanpfodmmeagaaaDoor

namespace Go.Proofs.YtanpfodmmeagaaaDoor
open Go.RowKit

section
variable (w : World)
theorem two_below (o1 o2 : Obj) : Below w.heap.size w ((w.alloc o1).alloc o2) := ((Below.refl _ _).alloc (Nat.le_refl _) _).alloc (by simp) _
theorem two_second (o1 o2 : Obj) : ((w.alloc o1).alloc o2).heap[w.heap.size + 1]? = some o2 := heap_alloc_new' _ _ _ (by simp)
theorem two_ints (l : List Nat) (t : TypeId) (o2 : Obj) : Ints ((w.alloc (.cells (BA l) t)).alloc o2) (w.heap.size + 2) .u8 (some ⟨w.heap.size, 0, none⟩) (up l) :=
  (ints_of_BA (B := w.heap.size + 1) (g := w.heap.size) (t := t) (fr := (0, 0)) ((Below.heap_alloc (w.alloc (.cells (BA l) t)) o2 _ (by simp)).trans (heap_alloc_new _ _)) (Nat.lt_succ_self _)).more (Nat.le_succ _)
end

set_option maxHeartbeats 1600000 in
set_option maxRecDepth 100000 in
/-- 'digest'. -/
theorem digestKey_any {w0 : World} {R : World → (Nat → Prop) → Addr → List Nat → Prop} (HS : HashSpec w0 R) (K : List Nat) (A1 : Option Addr) (c1 : Nat) (ps : List Part) (w : World) (hw0 : Below w0.heap.size w0 w) (hK : K.length = 64) (hKb : ∀ b ∈ K, b < 256)
    (hp : Parts w w.heap.size A1 ps) (hn : ps.length ≤ 4096) (hl : (catTo ps ps.length).length ≤ 140737488354900) :
    Calls Tryd.prog 38 #[.agg (BA K), .slice A1 ps.length c1] w fun e w' => e = .returned (.agg (BA (digestN (K ++ catTo ps ps.length)))) ∧ Below w.heap.size w w' := by
  have hz := (zero_of_info (P := Tryd.prog) (t := 41) (v := .agg zero32) (n := 32) (by kernel_rfl)).1
  have hu := Tryd.underlying41
  have hdl : (BA (digestN (K ++ catTo ps ps.length))).size = 32 := by rw [BA_size, digest_len]
  have hid : (Tryd.prog.info? 41).map (·.size) = some (BA (digestN (K ++ catTo ps ps.length))).size := by rw [hdl]; kernel_rfl
  have hzd : zero32.size = (BA (digestN (K ++ catTo ps ps.length))).size := by rw [hdl]; rfl
  have hD1 := BA_one (digestN (K ++ catTo ps ps.length))
  obtain ⟨D, hD⟩ : ∃ D, D = BA (digestN (K ++ catTo ps ps.length)) := ⟨_, rfl⟩
  rw [← hD] at hid hzd hD1 ⊢
  have HD := Lib.hid hD
  have HB := Lib.hid (two_below w (.cells (BA K) 65) (.cells zero32 41))
  have HK0 := Lib.hid (two_ints w K 65 (.cells zero32 41))
  have HR0 := Lib.hid (two_second w (.cells (BA K) 65) (.cells zero32 41))
  have HN := Lib.hid (fun (W : World) (hb : Below w.heap.size w W) => HS.new W (hw0.trans (hb.mono hw0.size)))
  have HW := Lib.hid (fun (W : World) (F : Nat → Prop) (a : Addr) (t : List Nat) (A : Option Addr) (c B : Nat) (b : List Nat) (hb : Below w.heap.size w W) => HS.write W F a t A c B b (hw0.trans (hb.mono hw0.size)))
  have HSUM := Lib.hid (fun (W : World) (F : Nat → Prop) (a : Addr) (t : List Nat) (hb : Below w.heap.size w W) => HS.sum W F a t (hw0.trans (hb.mono hw0.size)))
  have HP := Lib.hid hp
  have HKB := Lib.hid hKb
  have HL := Lib.hid hl
  have HKL := Lib.hid hK
  have HWK : Hid (∀ (W : World) (F : Nat → Prop) (a : Addr), Below w.heap.size w W → R W F a [] → (∀ k, F k → w.heap.size + 2 ≤ k ∧ k < W.heap.size) → w.heap.size + 2 ≤ W.heap.size → Ints W (w.heap.size + 2) .u8 (some ⟨w.heap.size, 0, none⟩) (up K) →
      Calls Tryd.prog 60 #[.pointer (some a), .slice (some ⟨w.heap.size, 0, none⟩) 64 64] W fun e w' => e = .returned (.tuple #[]) ∧ ∃ F', R w' F' a K ∧ (∀ k, F' k → (F k ∨ W.heap.size ≤ k) ∧ k < w'.heap.size) ∧ Off F W w') := fun W F a hb hR hF hB hi => by
    have := HS.write W F a [] (some ⟨w.heap.size, 0, none⟩) 64 (w.heap.size + 2) K (hw0.trans (hb.mono hw0.size)) hR hF hB hi (fun h => by cases h) hKb (Nat.le_of_eq hK) (by rw [hK]; decide)
    rw [hK, List.nil_append] at this
    exact this
  have hcb : ∀ (k : Nat), ∀ b ∈ catTo ps k, b < 256 := fun k b hb => by
    simp only [catTo, List.mem_flatten, List.mem_map] at hb
    obtain ⟨l, ⟨p, hp1, rfl⟩, hb⟩ := hb
    obtain ⟨i, hi, rfl⟩ := List.getElem_of_mem (List.mem_of_mem_take hp1)
    obtain ⟨_, _, _, _, _, hok⟩ := hp i hi
    exact hok.byte b hb
  have HCB := Lib.hid hcb
  have hcl : ∀ k, (catTo ps k).length ≤ (catTo ps ps.length).length := fun k => by
    unfold catTo
    rw [List.take_length]
    simp only [List.length_flatten, List.map_map]
    rw [← List.take_append_drop k ps, List.map_append, List.sum_append]
    simp only [List.take_append_drop]
    exact Nat.le_add_right _ _
  have HCL := Lib.hid hcl
  clear hD hdl HS hp hKb hcb hcl hl hw0
  obtain ⟨Z, hZ⟩ : ∃ Z, Z = zero32 := ⟨_, rfl⟩
  rw [← hZ] at hz hzd HB HK0 HR0
  clear hZ
  go_enter Tryd.func38, Tryd.ntmps38
  go_wp2_with (first
    | (go_at_call 59; with_reducible (refine Calls.mono (HN.out _ HB.out) ?_); rintro e w1 ⟨a, F, rfl, hR, hF, hb1⟩; have hbw1 := HB.out.trans (hb1.mono HB.out.size); have hz1 := (hb1.block (w.heap.size + 1) (by simp)).trans HR0.out; have hi1 := HK0.out.below (hb1.mono (by simp)); have hs1 := hb1.size; simp only [World.size_alloc] at hs1 hF)
    | (go_at_call 60; with_reducible (refine Calls.mono (HWK.out w1 F a hbw1 hR hF hs1 hi1) ?_); rintro e w2 ⟨rfl, F2, hR2, hF2, hO2⟩))
  have hs2 : w.heap.size + 1 + 1 ≤ w2.heap.size := Nat.le_trans hs1 hO2.size
  have hbw2 := hO2.below hbw1 (by intro k hk; have := (hF k hk).1; omega)
  have hz2 := (hO2.block (w.heap.size + 1) (by omega) (by intro hk; have := (hF _ hk).1; omega)).trans hz1
  have hG2 : ∀ k, F2 k → w.heap.size + 1 + 1 ≤ k ∧ k < w2.heap.size := fun k hk => by
    have h := hF2 k hk
    refine ⟨?_, h.2⟩
    rcases h.1 with h1 | h1
    · exact (hF k h1).1
    · omega
  clear hO2 hF2 hF hR hb1 hbw1 hz1 hi1 hs1
  go_loopw [14] (fun i wr => ∃ (k : Nat) (G : Nat → Prop), k ≤ ps.length ∧ i = .int .i64 k ∧ R wr G a (K ++ catTo ps k) ∧ (∀ j, G j → w.heap.size + 1 + 1 ≤ j ∧ j < wr.heap.size) ∧ Below w.heap.size w wr ∧ wr.heap[w.heap.size + 1]? = some (.cells Z 41 (0, 0)) ∧ w.heap.size + 1 + 1 ≤ wr.heap.size) (fun i _ => ps.length - (intOf i).toNat)
  case atStart => exact ⟨0, F2, Nat.zero_le _, rfl, by simpa [catTo] using hR2, hG2, hbw2, hz2, by omega⟩
  case round =>
    clear hR2 hG2 hbw2 hz2 hs2
    obtain ⟨k, G, hk, rfl, hR3, hG3, hbel, hz3, hs3⟩ := hrel
    by_cases hlt : k < ps.length
    · obtain ⟨b0, off, e1, hblk, hcell, hpok⟩ := HP.out k hlt
      have hcell' := (hbel.cell (p := ⟨b0, off + k, none⟩) hblk).trans hcell
      have hcat := catTo_next ps k hlt
      have hle := HCL.out (k + 1)
      rw [hcat, List.length_append] at hle
      have HWP := Lib.hid (HW.out wr G a (K ++ catTo ps k) ps[k].A ps[k].c w.heap.size ps[k].b hbel hR3 (fun j hj => ⟨by have := (hG3 j hj).1; omega, (hG3 j hj).2⟩) hbel.size (hpok.ints.below hbel) hpok.nil hpok.byte hpok.le (by rw [List.length_append, HKL.out]; have := HL.out; omega))
      rw [List.append_assoc, ← hcat] at HWP
      obtain ⟨PA, hPA⟩ : ∃ x, x = ps[k].A := ⟨_, rfl⟩
      obtain ⟨pc, hpc⟩ : ∃ x, x = ps[k].c := ⟨_, rfl⟩
      obtain ⟨pn, hpn⟩ : ∃ x, x = ps[k].b.length := ⟨_, rfl⟩
      rw [← hPA, ← hpc, ← hpn] at hcell' HWP
      have hkc : (k : Int) < (ps.length : Int) := by omega
      obtain rfl := e1
      have RK := Lib.hid (And.intro hG3 (And.intro hbel (And.intro hz3 hs3)))
      clear hcat hpok hPA hpc hpn hcell hle hR3 hG3 hbel hz3 hs3
      go_wp2_with (go_at_call 60; with_reducible (refine Calls.mono HWP.out ?_); rintro e w4 ⟨rfl, F4, hR4, hF4, hO4⟩)
      obtain ⟨hG3, hbel, hz3, hs3⟩ := RK.out
      have R2 : R w4 F4 a (K ++ catTo ps (k + 1)) ∧ (∀ j, F4 j → w.heap.size + 1 + 1 ≤ j ∧ j < w4.heap.size) ∧ Below w.heap.size w w4 ∧ w4.heap[w.heap.size + 1]? = some (.cells Z 41 (0, 0)) ∧ w.heap.size + 1 + 1 ≤ w4.heap.size := by
        refine ⟨hR4, fun j hj => ⟨?_, (hF4 j hj).2⟩, hO4.below hbel (by intro j hj; have := (hG3 j hj).1; omega), (hO4.block _ (by omega) (by intro hj; have := (hG3 _ hj).1; omega)).trans hz3, Nat.le_trans hs3 hO4.size⟩
        rcases (hF4 j hj).1 with h | h
        · exact (hG3 j h).1
        · omega
      clear hR4 hF4 hO4 hG3 hbel hz3 hs3 RK hcell' HWP
      go_roundw
      case rel => exact ⟨k + 1, F4, by omega, by go_num, R2⟩
      case measure => simp [intOf]; omega
    · have hkn : k = ps.length := by omega
      subst hkn
      have HSP := Lib.hid (HSUM.out wr G a (K ++ catTo ps ps.length) hbel hR3 (fun j hj => (hG3 j hj).2) (fun x hx => by
        rcases List.mem_append.1 hx with hx | hx
        · exact HKB.out x hx
        · exact HCB.out _ x hx) (by rw [List.length_append, HKL.out]; have := HL.out; omega))
      rw [← HD.out] at HSP
      go_wp2_with (first
        | (go_at_call 61; refine Calls.mono HSP.out ?_; rintro e w4 ⟨rfl, F4, hR4, hF4, hO4⟩; have hz4 := (hO4.block (w.heap.size + 1) (by omega) (by intro hj; have := (hG3 _ hj).1; omega)).trans hz3; have hb4 := hO4.below hbel (by intro j hj; have := (hG3 j hj).1; omega))
        | (with_reducible (refine wpList_store_row rfl 41 _ _ rfl (w.heap.size + 1) _ rfl rfl 41 _ hz4 hid hzd hD1 ?_)))
      refine bodyPost_ret (v := .agg D) ?_ rfl ⟨rfl, below_setRow hb4 (by omega) _⟩
      exact results_cell_row rfl _ _ (w.heap.size + 1) 41 _ (0, 0) _ rfl (setRow_heap _ _ _ _ _ _ hz4) hu rfl hid

end Go.Proofs.YtanpfodmmeagaaaDoor
