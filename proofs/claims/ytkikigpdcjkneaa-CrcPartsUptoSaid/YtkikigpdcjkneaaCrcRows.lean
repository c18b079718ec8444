/-
  Rows of registers in memory; eight steps of a register; what a row of changes makes of a register.
-/
import Derived.Test.YtkikigpdcjkneaaCrcSpec
import Derived.Deep.WholeRow
import Derived.Deep.MidRow
import Derived.Laws.CopyOwn
namespace Go.Proofs.Ytkikigpdcjkneaa
open Go.RowKit

/-- A row of registers. -/
def U (zs : List Nat) : Array Value := (zs.map fun z : Nat => Value.int .u32 (z : Int)).toArray
def Row (w : World) (g : Nat) (t : TypeId) (zs : List Nat) : Prop := w.heap[g]? = some (.cells (U zs) t (0, 0))
theorem U_size (zs : List Nat) : (U zs).size = zs.length := by simp [U]
theorem U_one (zs : List Nat) : (U zs).all (·.oneCell') = true := by
  rw [Array.all_eq_true_iff_forall_mem]
  intro v hv
  simp only [U, List.mem_toArray, List.mem_map] at hv
  obtain ⟨z, _, rfl⟩ := hv
  rfl
theorem U_at (zs : List Nat) (i : Nat) (hi : i < zs.length) : (U zs)[i]? = some (.int .u32 (zs.getD i 0 : Nat)) := by
  simp [U, List.getElem?_eq_getElem hi, List.getD_eq_getElem?_getD]
theorem U_set (zs : List Nat) (i z : Nat) : (U zs).setIfInBounds i (.int .u32 (z : Int)) = U (zs.set i z) := by
  simp [U, List.map_set]
section
variable {w w' : World} {g : Nat} {t : TypeId} {zs : List Nat}
theorem Row.cell (h : Row w g t zs) {i : Nat} (hi : i < zs.length) : w.cell? ⟨g, i, none⟩ = some (.int .u32 (zs.getD i 0 : Nat)) := by
  rw [cell_of_row w g i _ t _ h, U_at zs i hi]
theorem Row.below {B : Nat} (h : Row w g t zs) (hb : Below B w w') (hg : g < B) : Row w' g t zs := (hb.block g hg).trans h
theorem Row.lt (h : Row w g t zs) : g < w.heap.size := by
  by_cases hlt : g < w.heap.size
  · exact hlt
  · have hn : w.heap[g]? = none := by simp; omega
    rw [Row, hn] at h
    cases h
theorem Row.new (w : World) (t : TypeId) (zs : List Nat) : Row (w.alloc (.cells (U zs) t)) w.heap.size t zs := heap_alloc_new _ _
theorem Row.alloc (h : Row w g t zs) (o : Obj) : Row (w.alloc o) g t zs := (Below.heap_alloc w o g h.lt).trans h
theorem Row.set (h : Row w g t zs) (i z : Nat) : Row (w.setCell ⟨g, i, none⟩ (.int .u32 (z : Int))) g t (zs.set i z) := by
  rw [Row, heap_setCell_same w g i _ t _ h, U_set]
theorem Row.other (h : Row w g t zs) (a : Addr) (v : Value) (ha : g ≠ a.block) : Row (w.setCell a v) g t zs := (heap_setCell_other w a g v ha).trans h
theorem Row.laid (h : Row w g t zs) (ys : List Nat) : Row (w.setRow g (U ys)) g t ys := setRow_heap w g _ _ t _ h
theorem Row.beside (h : Row w g t zs) (k : Nat) (cs : Array Value) (hk : g ≠ k) : Row (w.setRow k cs) g t zs := (setRow_other w k g cs hk).trans h
theorem Row.range (h : Row w g t zs) : w.rangeAt g 0 (zs.map fun z : Nat => Value.int .u32 (z : Int)) := fun j v hv => by
  rw [Nat.zero_add, cell_of_row w g j _ t _ h]
  simpa [U] using hv
theorem Row.free (h : Row w g t zs) (j : Nat) : w.frozen? ⟨g, j, none⟩ = false := frozen_of_row w g j _ t h
end

theorem eight_any (q : Nat) (w : World) (hql : q < 2 ^ 32) :
    Calls Try.prog 23 #[.int .u32 (q : Int)] w fun e w' => e = .returned (.int .u32 (byteStep q : Nat)) ∧ w = w' := by
  have HQ : Hid (bitsN 8 q = byteStep q) := rfl
  go_enter Try.func23, Try.ntmps23
  go_wp2
  go_loop [0, 4] (fun r i => ∃ j : Nat, j ≤ 8 ∧ i = .int .i64 j ∧ r = .int .u32 (bitsN j q : Nat)) (fun _ i => 8 - (intOf i).toNat)
  case atStart => exact ⟨0, by omega, rfl, rfl⟩
  case round =>
    obtain ⟨j, hj, rfl, rfl⟩ := hrel
    by_cases hj8 : j < 8
    · have hpl := bitsN_lt (n := j) hql
      have HB := Lib.hid (bitsN_succ j q)
      obtain ⟨p, hp⟩ : ∃ p, p = bitsN j q := ⟨_, rfl⟩
      rw [← hp] at hpl HB ⊢
      clear hp
      have hpl1 : (p : Int) ≤ 4294967295 := by omega
      have hp2 := u32_x (p / 2) 3988292384 (by omega) (by decide)
      have ed : ((p / 2 : Nat) : Int) = (p : Int) / 2 := by omega
      rw [ed] at hp2
      have han := u32_and_nat p 1 (by omega) (by decide)
      rw [Nat.and_one_is_mod] at han
      rcases Nat.mod_two_eq_zero_or_one p with ho | ho
      · rw [ho] at han
        have HO := Lib.hid (bitStep_even ho)
        clear ho hp2 ed
        have ha : bits .and .u32 (p : Int) 1 = 0 := han
        clear han
        go_wp2
        go_round
        case rel => exact ⟨j + 1, by omega, by go_num, by rw [HB.out, HO.out]; go_num⟩
        case measure => simp [intOf]; omega
      · rw [ho] at han
        have HO := Lib.hid (bitStep_odd ho)
        clear ho ed
        have ha : bits .and .u32 (p : Int) 1 = 1 := han
        clear han
        go_wp2
        go_round
        case rel => exact ⟨j + 1, by omega, by go_num, by rw [HB.out, HO.out]; exact congrArg _ hp2⟩
        case measure => simp [intOf]; omega
    · have hj9 : j = 8 := by omega
      subst hj9
      rw [HQ.out]
      go_wp2
      go_ret
      exact ⟨rfl, rfl⟩

theorem bit_next (m r j : Nat) (h : r / 2 ^ j % 2 = 1) : bitsN m (r % 2 ^ (j + 1)) = bitsN m (r % 2 ^ j) ^^^ bitsN m (2 ^ j) := by
  rw [← bitsN_xor]
  congr 1
  have hb : r.testBit j = true := by rw [Nat.testBit_eq_decide_div_mod_eq, h]; rfl
  apply Nat.eq_of_testBit_eq
  intro i
  rw [Nat.testBit_xor, Nat.testBit_two_pow, Nat.testBit_mod_two_pow, Nat.testBit_mod_two_pow]
  rcases Nat.lt_trichotomy i j with hi | hi | hi
  · have a1 : i < j + 1 := by omega
    have a2 : ¬ j = i := by omega
    simp [hi, a1, a2]
  · subst hi
    simp [hb]
  · have a1 : ¬ i < j + 1 := by omega
    have a2 : ¬ j = i := by omega
    have a3 : ¬ i < j := by omega
    simp [a1, a2, a3]
theorem bit_none (m r j : Nat) (h : r / 2 ^ j % 2 = 0) : bitsN m (r % 2 ^ (j + 1)) = bitsN m (r % 2 ^ j) := by
  congr 1
  rw [Nat.pow_succ, Nat.mod_mul, h, Nat.mul_zero, Nat.add_zero]

theorem of_any (zs : List Nat) (r m : Nat) (w : World) (hr : r < 2 ^ 32) (hl : zs.length = 32) (hz : ∀ i, i < 32 → zs.getD i 0 = bitsN m (2 ^ i)) :
    Calls Try.prog 21 #[.agg (U zs), .int .u32 (r : Int)] w fun e w' => e = .returned (.int .u32 (bitsN m r : Nat)) ∧ Below w.heap.size w w' := by
  have HR := Row.new w 41 zs
  have HB := Lib.hid ((Below.refl w.heap.size w).alloc (Nat.le_refl _) (.cells (U zs) 41))
  have HZ := Lib.hid fun i (h : i < 32) => hz i h ▸ HR.cell (i := i) (by omega)
  obtain ⟨c, hc⟩ : ∃ c, c = U zs := ⟨_, rfl⟩
  rw [← hc] at HB HZ ⊢
  clear hz hl hc HR
  go_enter Try.func21, Try.ntmps21
  go_wp2
  go_loop [5, 7] (fun s i => ∃ j : Nat, j ≤ 32 ∧ i = .int .i64 j ∧ s = .int .u32 (bitsN m (r % 2 ^ j) : Nat)) (fun _ i => 32 - (intOf i).toNat)
  case atStart => exact ⟨0, by omega, rfl, by simp [Nat.mod_one, bitsN_zero]⟩
  case round =>
    obtain ⟨j, hj, rfl, rfl⟩ := hrel
    by_cases hj8 : j < 32
    · have hb1 := Nat.mod_two_eq_zero_or_one (r / 2 ^ j)
      have hle : r / 2 ^ j ≤ r := Nat.div_le_self _ _
      have han := u32_and_nat (r / 2 ^ j) 1 (by omega) (by decide)
      rw [Nat.and_one_is_mod, Int.natCast_ediv, Int.natCast_pow] at han
      have HN := Lib.hid (bit_next m r j)
      have HO := Lib.hid (bit_none m r j)
      have hs1 := bitsN_lt (n := m) (Nat.lt_of_le_of_lt (Nat.mod_le r (2 ^ j)) hr)
      have hx1 := bitsN_lt (n := m) (Nat.pow_lt_pow_right (a := 2) (by decide) hj8)
      have hcell := HZ.out j hj8
      obtain ⟨s, hs⟩ : ∃ s, s = bitsN m (r % 2 ^ j) := ⟨_, rfl⟩
      obtain ⟨x, hx⟩ : ∃ x, x = bitsN m (2 ^ j) := ⟨_, rfl⟩
      rw [← hs] at HN HO hs1 ⊢
      rw [← hx] at HN hx1 hcell
      have hxr := u32_x s x hs1 hx1
      obtain ⟨q, hq⟩ : ∃ q, q = s ^^^ x := ⟨_, rfl⟩
      rw [← hq] at HN hxr
      clear hs hx hq
      rcases hb1 with hb | hb
      · rw [hb] at han
        have ha : bits .and .u32 ((r : Int) / 2 ^ j) 1 = 0 := han
        have HO' := Lib.hid (HO.out hb)
        clear han hb
        go_wp2
        go_round
        case rel => exact ⟨j + 1, by omega, by go_num, by rw [HO'.out]⟩
        case measure => simp [intOf]; omega
      · rw [hb] at han
        have ha : bits .and .u32 ((r : Int) / 2 ^ j) 1 = 1 := han
        have HO' := Lib.hid (HN.out hb)
        clear han hb
        go_wp2
        go_round
        case rel => exact ⟨j + 1, by omega, by go_num, by rw [HO'.out]⟩
        case measure => simp [intOf]; omega
    · have hj9 : j = 32 := by omega
      subst hj9
      rw [Nat.mod_eq_of_lt hr]
      go_wp2
      go_ret
      exact ⟨rfl, HB.out⟩

/-- What so many steps make of each bit. -/
def mat (m : Nat) : List Nat := (List.range 32).map fun i => bitsN m (2 ^ i)
theorem mat_length (m : Nat) : (mat m).length = 32 := by simp [mat]
theorem mat_at (m i : Nat) (h : i < 32) : (mat m).getD i 0 = bitsN m (2 ^ i) := by simp [mat, List.getD_eq_getElem?_getD, h]
/-- The first of it, the rest as they were. -/
def upTo (l zs : List Nat) (j : Nat) : List Nat := l.take j ++ zs.drop j
theorem upTo_next (l zs : List Nat) (j : Nat) (hl : j < l.length) (hz : j < zs.length) : (upTo l zs j).set j (l.getD j 0) = upTo l zs (j + 1) := by
  apply List.ext_getElem?
  intro i
  simp only [upTo]
  rw [List.getElem?_set]
  rw [List.getElem?_append, List.getElem?_append]
  simp only [List.length_append, List.length_take, List.length_drop, List.getElem?_take, List.getElem?_drop]
  rw [List.getD_eq_getElem?_getD, List.getElem?_eq_getElem hl]
  rcases Nat.lt_trichotomy i j with hi | hi | hi
  · have a1 : ¬ j = i := by omega
    have a2 : i < min j l.length := by omega
    have a3 : i < min (j + 1) l.length := by omega
    have a4 : i < j + 1 := by omega
    simp [hi, a1, a2, a3, a4]
  · subst hi
    have a3 : i < min (i + 1) l.length := by omega
    have a4 : i < min i l.length + (zs.length - i) := by omega
    simp [a3, a4, List.getElem?_eq_getElem hl]
  · have a1 : ¬ j = i := by omega
    have a2 : ¬ i < min j l.length := by omega
    have a3 : ¬ i < min (j + 1) l.length := by omega
    have a5 : j + (i - min j l.length) = j + 1 + (i - min (j + 1) l.length) := by omega
    simp only [a1, a2, a3, if_false, a5]

end Go.Proofs.Ytkikigpdcjkneaa
