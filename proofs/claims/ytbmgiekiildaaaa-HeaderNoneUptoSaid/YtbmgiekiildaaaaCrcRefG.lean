/-
  The document's own check sums (stowageref02): what they answer; nothing that was there is changed. Rows of numbers of 32 bits in memory: the cells of a block. The landed crc: More and Sum, for whatever comes in (of the layer crc no other function is named here).
-/
import Derived.Test.YtbmgiekiildaaaaWordsG
import Derived.Test.YtbmgiekiildaaaaCrcNumsG
import Derived.Test.YtbmgiekiildaaaaChecked
import Derived.Tactics
import Derived.Tactics2
import Derived.LoopTactic
import Derived.OpenShut
import Derived.WalkLawsBesides
import Derived.Deep.WholeRow
import Derived.Deep.MidRow
import Derived.Laws.CopyOwn
import Derived.Lib.SlBytesConst
import Derived.Deep.RegionHeld3
import Derived.Deep.TreeCalls
namespace Go.Proofs.Ytbmgiekiildaaaa
open Go.RowKit

theorem u32_x (a b : Nat) (ha : a < 2 ^ 32) (hb : b < 2 ^ 32) : bits .xor .u32 (a : Int) (b : Int) = ((a ^^^ b : Nat) : Int) := u32_xor_nat a b (by omega) (by omega)

theorem inv_bits (s : Nat) (hs : s < 2 ^ 32) : bits .xor .u32 IntKind.u32.max (s : Int) = ((inv32 s : Nat) : Int) := by
  rw [show IntKind.u32.max = ((4294967295 : Nat) : Int) from rfl, u32_x _ _ (by decide) hs, inv32_xor hs, Nat.xor_comm]
theorem nb_take_snoc (zs : List Int) (k : Nat) (h : k < zs.length) : nb (zs.take (k + 1)) = nb (zs.take k) ++ [(zs.getD k 0).toNat] := by
  rw [take_snoc zs k h]; simp [nb]
theorem bitStep_odd {r : Nat} (h : r % 2 = 1) : bitStep r = r / 2 ^^^ crcPoly := by unfold bitStep; rw [if_pos h]
theorem bitStep_even {r : Nat} (h : r % 2 = 0) : bitStep r = r / 2 := by unfold bitStep; rw [if_neg (by omega)]

set_option maxHeartbeats 800000 in
/-- 'More'. -/
theorem refMore_any (A : Option Addr) (c B : Nat) (zs : List Int) (s : Nat) (w : World) (hr : Ints w B .u8 A zs) (hz : ∀ z ∈ zs, 0 ≤ z ∧ z ≤ 255) (hm : zs.length ≤ 9223372036854775807) (hs : s < 2 ^ 32) :
    Calls Try.prog 33 #[.int .u32 (s : Int), .slice A zs.length c] w fun e w' => e = .returned (.int .u32 (moreN s (nb zs) : Nat)) ∧ w = w' := by
  have HZ := Lib.hid hz
  have HS := Lib.hid hs
  have hs1 : s ≤ 4294967295 := by omega
  have hib := inv_bits s hs
  have hil := inv32_lt s
  obtain ⟨t, ht⟩ : ∃ t, t = inv32 s := ⟨_, rfl⟩
  rw [← ht] at hib hil
  have HT := Lib.hid ht
  clear hz hs ht
  go_enter Try.func33, Try.ntmps33
  go_wp2
  go_loop [5, 6] (fun r i => ∃ k : Nat, k ≤ zs.length ∧ i = .int .i64 k ∧ r = .int .u32 (regs t (nb (zs.take k)) : Nat)) (fun _ i => zs.length - (intOf i).toNat)
  case atStart => exact ⟨0, Nat.zero_le _, rfl, rfl⟩
  case round =>
    obtain ⟨k, hk, rfl, rfl⟩ := hrel
    have hrl : regs t (nb (zs.take k)) < 2 ^ 32 := regs_lt _ hil (nb_lt fun z hz => HZ.out z (List.mem_of_mem_take hz))
    by_cases hlt : k < zs.length
    · obtain ⟨b, off, rfl, _, hc⟩ := hr k hlt
      have hx := HZ.out _ (getD_mem hlt)
      have HN : Hid (regs t (nb (zs.take (k + 1))) = byteStep (regs t (nb (zs.take k)) ^^^ (zs.getD k 0).toNat)) := by rw [nb_take_snoc zs k hlt]; exact regs_snoc _ _ _
      obtain ⟨x, hx'⟩ : ∃ x : Nat, (x : Int) = zs.getD k 0 := ⟨(zs.getD k 0).toNat, by omega⟩
      rw [← hx'] at hc hx HN
      obtain ⟨r, hr'⟩ : ∃ r, r = regs t (nb (zs.take k)) := ⟨_, rfl⟩
      rw [← hr'] at hrl HN ⊢
      have hxr := u32_x r x hrl (by omega)
      have hql : r ^^^ x < 2 ^ 32 := Nat.xor_lt_two_pow hrl (by omega)
      obtain ⟨q, hq⟩ : ∃ q, q = r ^^^ x := ⟨_, rfl⟩
      have HN2 : Hid (regs t (nb (zs.take (k + 1))) = bitsN 8 q) := by have := HN.out; unfold Hid; rw [this, hq]; rfl
      rw [← hq] at hxr hql
      have hx0 := hx.1
      have hx1 := hx.2
      clear hx' hr' hq HN hx
      go_wp2
      go_loop [5, 7] (fun r i => ∃ j : Nat, j ≤ 8 ∧ i = .int .i64 j ∧ r = .int .u32 (bitsN j q : Nat)) (fun _ i => 8 - (intOf i).toNat)
      case atStart => exact ⟨0, by omega, rfl, rfl⟩
      case round =>
        obtain ⟨j, hj, rfl, rfl⟩ := hrel
        by_cases hj8 : j < 8
        · have hpl := bitsN_lt (n := j) hql
          have HB := Lib.hid (bitsN_succ j q)
          obtain ⟨p, hp⟩ : ∃ p, p = bitsN j q := ⟨_, rfl⟩
          rw [← hp] at hpl HB ⊢
          clear hp
          have hpl1 : (p : Int) ≤ 4294967295 := by omega
          have hp2 := u32_x (p / 2) 3988292384 (by omega) (by decide)
          have ed : ((p / 2 : Nat) : Int) = (p : Int) / 2 := by omega
          rw [ed] at hp2
          rcases Nat.mod_two_eq_zero_or_one p with ho | ho
          · have ho1 : ((p : Int) % 2 == 1) = false := by simp; omega
            have ho2 : (p : Int) % 2 = 0 := by omega
            have HO := Lib.hid (bitStep_even ho)
            clear ho hp2 ed
            go_wp2
            go_round
            case rel => exact ⟨j + 1, by omega, by go_num, by rw [HB.out, HO.out]; go_num⟩
            case measure => simp [intOf]; omega
          · have ho1 : ((p : Int) % 2 == 1) = true := by simp; omega
            have ho2 : (p : Int) % 2 = 1 := by omega
            have HO := Lib.hid (bitStep_odd ho)
            clear ho ed
            go_wp2
            go_round
            case rel => exact ⟨j + 1, by omega, by go_num, by rw [HB.out, HO.out]; exact congrArg _ hp2⟩
            case measure => simp [intOf]; omega
        · have hj9 : j = 8 := by omega
          subst hj9
          rw [← HN2.out]
          go_wp2
          go_round
          case rel => exact ⟨k + 1, by omega, by go_num, rfl⟩
          case measure => simp [intOf]; omega
    · have hkl : k = zs.length := by omega
      subst hkl
      rw [List.take_length] at hrl ⊢
      have hie := inv_bits _ hrl
      have HM : Hid (inv32 (regs t (nb zs)) = moreN s (nb zs)) := by unfold Hid moreN; rw [← HT.out]
      go_wp2
      go_ret
      rw [← HM.out]
      exact ⟨rfl, rfl⟩

end Go.Proofs.Ytbmgiekiildaaaa

namespace Go.Proofs.Ytbmgiekiildaaaa
open Go.RowKit

/-- A row of registers. -/
def U (zs : List Nat) : Array Value := (zs.map fun z : Nat => Value.int .u32 (z : Int)).toArray
def Row (w : World) (g : Nat) (t : TypeId) (zs : List Nat) : Prop := w.heap[g]? = some (.cells (U zs) t (0, 0))
theorem U_size (zs : List Nat) : (U zs).size = zs.length := by simp [U]
theorem U_one (zs : List Nat) : (U zs).all (·.oneCell') = true := by
  rw [Array.all_eq_true_iff_forall_mem]
  intro v hv
  simp only [U, List.mem_toArray, List.mem_map] at hv
  obtain ⟨z, _, rfl⟩ := hv
  rfl
theorem U_at (zs : List Nat) (i : Nat) (hi : i < zs.length) : (U zs)[i]? = some (.int .u32 (zs.getD i 0 : Nat)) := by
  simp [U, List.getElem?_eq_getElem hi, List.getD_eq_getElem?_getD]
theorem U_set (zs : List Nat) (i z : Nat) : (U zs).setIfInBounds i (.int .u32 (z : Int)) = U (zs.set i z) := by
  simp [U, List.map_set]
section
variable {w w' : World} {g : Nat} {t : TypeId} {zs : List Nat}
theorem Row.cell (h : Row w g t zs) {i : Nat} (hi : i < zs.length) : w.cell? ⟨g, i, none⟩ = some (.int .u32 (zs.getD i 0 : Nat)) := by
  rw [cell_of_row w g i _ t _ h, U_at zs i hi]
theorem Row.below {B : Nat} (h : Row w g t zs) (hb : Below B w w') (hg : g < B) : Row w' g t zs := (hb.block g hg).trans h
theorem Row.lt (h : Row w g t zs) : g < w.heap.size := by
  by_cases hlt : g < w.heap.size
  · exact hlt
  · have hn : w.heap[g]? = none := by simp; omega
    rw [Row, hn] at h
    cases h
theorem Row.new (w : World) (t : TypeId) (zs : List Nat) : Row (w.alloc (.cells (U zs) t)) w.heap.size t zs := heap_alloc_new _ _
theorem Row.alloc (h : Row w g t zs) (o : Obj) : Row (w.alloc o) g t zs := (Below.heap_alloc w o g h.lt).trans h
theorem Row.set (h : Row w g t zs) (i z : Nat) : Row (w.setCell ⟨g, i, none⟩ (.int .u32 (z : Int))) g t (zs.set i z) := by
  rw [Row, heap_setCell_same w g i _ t _ h, U_set]
theorem Row.other (h : Row w g t zs) (a : Addr) (v : Value) (ha : g ≠ a.block) : Row (w.setCell a v) g t zs := (heap_setCell_other w a g v ha).trans h
theorem Row.laid (h : Row w g t zs) (ys : List Nat) : Row (w.setRow g (U ys)) g t ys := setRow_heap w g _ _ t _ h
theorem Row.beside (h : Row w g t zs) (k : Nat) (cs : Array Value) (hk : g ≠ k) : Row (w.setRow k cs) g t zs := (setRow_other w k g cs hk).trans h
theorem Row.range (h : Row w g t zs) : w.rangeAt g 0 (zs.map fun z : Nat => Value.int .u32 (z : Int)) := fun j v hv => by
  rw [Nat.zero_add, cell_of_row w g j _ t _ h]
  simpa [U] using hv
theorem Row.free (h : Row w g t zs) (j : Nat) : w.frozen? ⟨g, j, none⟩ = false := frozen_of_row w g j _ t h
end

theorem Row.new' (w : World) (t : TypeId) (g : Nat) (zs : List Nat) {cs : Array Value} (hg : g = w.heap.size) (hc : cs = U zs) : Row (w.alloc (.cells cs t)) g t zs := by
  subst hg hc
  exact Row.new w t zs

end Go.Proofs.Ytbmgiekiildaaaa

namespace Go.Proofs.Ytbmgiekiildaaaa
open Go.RowKit

theorem eight_any (q : Nat) (w : World) (hql : q < 2 ^ 32) :
    Calls Try.prog 46 #[.int .u32 (q : Int)] w fun e w' => e = .returned (.int .u32 (byteStep q : Nat)) ∧ w = w' := by
  have HQ : Hid (bitsN 8 q = byteStep q) := rfl
  go_enter Try.func46, Try.ntmps46
  go_wp2
  go_loop [0, 4] (fun r i => ∃ j : Nat, j ≤ 8 ∧ i = .int .i64 j ∧ r = .int .u32 (bitsN j q : Nat)) (fun _ i => 8 - (intOf i).toNat)
  case atStart => exact ⟨0, by omega, rfl, rfl⟩
  case round =>
    obtain ⟨j, hj, rfl, rfl⟩ := hrel
    by_cases hj8 : j < 8
    · have hpl := bitsN_lt (n := j) hql
      have HB := Lib.hid (bitsN_succ j q)
      obtain ⟨p, hp⟩ : ∃ p, p = bitsN j q := ⟨_, rfl⟩
      rw [← hp] at hpl HB ⊢
      clear hp
      have hpl1 : (p : Int) ≤ 4294967295 := by omega
      have hp2 := u32_x (p / 2) 3988292384 (by omega) (by decide)
      have ed : ((p / 2 : Nat) : Int) = (p : Int) / 2 := by omega
      rw [ed] at hp2
      have han := u32_and_nat p 1 (by omega) (by decide)
      rw [Nat.and_one_is_mod] at han
      rcases Nat.mod_two_eq_zero_or_one p with ho | ho
      · rw [ho] at han
        have HO := Lib.hid (bitStep_even ho)
        clear ho hp2 ed
        have ha : bits .and .u32 (p : Int) 1 = 0 := han
        clear han
        go_wp2
        go_round
        case rel => exact ⟨j + 1, by omega, by go_num, by rw [HB.out, HO.out]; go_num⟩
        case measure => simp [intOf]; omega
      · rw [ho] at han
        have HO := Lib.hid (bitStep_odd ho)
        clear ho ed
        have ha : bits .and .u32 (p : Int) 1 = 1 := han
        clear han
        go_wp2
        go_round
        case rel => exact ⟨j + 1, by omega, by go_num, by rw [HB.out, HO.out]; exact congrArg _ hp2⟩
        case measure => simp [intOf]; omega
    · have hj9 : j = 8 := by omega
      subst hj9
      rw [HQ.out]
      go_wp2
      go_ret
      exact ⟨rfl, rfl⟩

/-- The first of it, the rest as they were. -/
def upTo (l zs : List Nat) (j : Nat) : List Nat := l.take j ++ zs.drop j

theorem upTo_next (l zs : List Nat) (j : Nat) (hl : j < l.length) (hz : j < zs.length) : (upTo l zs j).set j (l.getD j 0) = upTo l zs (j + 1) := by
  apply List.ext_getElem?
  intro i
  simp only [upTo]
  rw [List.getElem?_set]
  rw [List.getElem?_append, List.getElem?_append]
  simp only [List.length_append, List.length_take, List.length_drop, List.getElem?_take, List.getElem?_drop]
  rw [List.getD_eq_getElem?_getD, List.getElem?_eq_getElem hl]
  rcases Nat.lt_trichotomy i j with hi | hi | hi
  · have a1 : ¬ j = i := by omega
    have a2 : i < min j l.length := by omega
    have a3 : i < min (j + 1) l.length := by omega
    have a4 : i < j + 1 := by omega
    simp [hi, a1, a2, a3, a4]
  · subst hi
    have a3 : i < min (i + 1) l.length := by omega
    have a4 : i < min i l.length + (zs.length - i) := by omega
    simp [a3, a4, List.getElem?_eq_getElem hl]
  · have a1 : ¬ j = i := by omega
    have a2 : ¬ i < min j l.length := by omega
    have a3 : ¬ i < min (j + 1) l.length := by omega
    have a5 : j + (i - min j l.length) = j + 1 + (i - min (j + 1) l.length) := by omega
    simp only [a1, a2, a3, if_false, a5]

/-- What each byte makes of a register of it alone. -/
def tab : List Nat := (List.range 256).map byteStep

def none256 : List Nat := List.replicate 256 0

theorem tab_at (i : Nat) (h : i < 256) : tab.getD i 0 = byteStep i := by simp [tab, List.getD_eq_getElem?_getD, h]

theorem bit_next (m r j : Nat) (h : r / 2 ^ j % 2 = 1) : bitsN m (r % 2 ^ (j + 1)) = bitsN m (r % 2 ^ j) ^^^ bitsN m (2 ^ j) := by
  rw [← bitsN_xor]
  congr 1
  have hb : r.testBit j = true := by rw [Nat.testBit_eq_decide_div_mod_eq, h]; rfl
  apply Nat.eq_of_testBit_eq
  intro i
  rw [Nat.testBit_xor, Nat.testBit_two_pow, Nat.testBit_mod_two_pow, Nat.testBit_mod_two_pow]
  rcases Nat.lt_trichotomy i j with hi | hi | hi
  · have a1 : i < j + 1 := by omega
    have a2 : ¬ j = i := by omega
    simp [hi, a1, a2]
  · subst hi
    simp [hb]
  · have a1 : ¬ i < j + 1 := by omega
    have a2 : ¬ j = i := by omega
    have a3 : ¬ i < j := by omega
    simp [a1, a2, a3]

theorem power_add (j k : Nat) (h : k < 2 ^ j) : byteStep (2 ^ j + k) = byteStep (2 ^ j) ^^^ byteStep k := by
  have e := bit_next 8 (2 ^ j + k) j (by rw [Nat.add_div_left _ (Nat.two_pow_pos j), Nat.div_eq_of_lt h])
  rw [Nat.mod_eq_of_lt (by rw [Nat.pow_succ]; omega), Nat.add_mod_left, Nat.mod_eq_of_lt h, Nat.xor_comm] at e
  exact e

theorem upTo_at (l zs : List Nat) (j i : Nat) (hi : i < j) (hl : j ≤ l.length) : (upTo l zs j).getD i 0 = l.getD i 0 := by
  simp only [upTo, List.getD_eq_getElem?_getD]
  rw [List.getElem?_append_left (by rw [List.length_take]; omega), List.getElem?_take, if_pos hi]

theorem upTo_all (l zs : List Nat) (n : Nat) (hl : l.length ≤ n) (hz : zs.length ≤ n) : upTo l zs n = l := by
  simp only [upTo]
  rw [List.take_of_length_le hl, List.drop_eq_nil_of_le hz, List.append_nil]

theorem changes_any (w : World) :
    Calls Try.prog 40 #[] w fun e w' => e = .returned (.agg (U tab)) ∧ Below w.heap.size w w' := by
  have HE := Lib.hid eight_any
  have hz := (zero_of_info (P := Try.prog) (t := 75) (v := .agg (U none256)) (n := 256) (by kernel_rfl)).1
  go_enter Try.func40, Try.ntmps40
  go_wp2
  clear hz
  go_loopw [6] (fun i wr => ∃ j : Nat, j ≤ 8 ∧ i = .int .i64 j ∧ Below w.heap.size w wr ∧ Row wr w.heap.size 75 none256 ∧ Row wr (w.heap.size + 1) 75 (upTo tab none256 (2 ^ j))) (fun i _ => 8 - (intOf i).toNat)
  case atStart =>
    refine ⟨0, by omega, rfl, ?_, ?_, ?_⟩
    · exact ((Below.refl _ _).alloc (Nat.le_refl _) _).alloc (by simp) _
    · exact (Row.new' w _ _ none256 rfl rfl).alloc _
    · exact Row.new' (w.alloc _) _ _ (upTo tab none256 (2 ^ 0)) (by simp) rfl
  case round =>
    obtain ⟨j, hj, rfl, hbel, hr2, hr3⟩ := hrel
    by_cases hj8 : j < 8
    · have hp : 2 ^ j ≤ 128 := Nat.pow_le_pow_right (n := 2) (j := 7) (by decide) (by omega)
      have hA := Lib.hid (power_add j)
      have HD : Hid (2 ^ (j + 1) = 2 ^ j + 2 ^ j) := by unfold Hid; rw [Nat.pow_succ]; omega
      obtain ⟨p, hpe⟩ : ∃ p, p = 2 ^ j := ⟨_, rfl⟩
      have hpi : (2 : Int) ^ j = (p : Int) := by rw [hpe, Int.natCast_pow]; rfl
      rw [← hpe] at hp hA HD hr3
      have HE' := Lib.hid fun w => HE.out p w (by omega)
      have R := Lib.hid (And.intro hbel (And.intro hr2 hr3))
      obtain ⟨ch, hch⟩ : ∃ ch, ch = byteStep p := ⟨_, rfl⟩
      rw [← hch] at HE' hA
      have hch1 : ch < 2 ^ 32 := by rw [hch]; exact byteStep_lt (by omega)
      clear hpe HE hr2 hr3 hbel hch
      go_wp2_with (go_at_call 46; refine Calls.mono (HE'.out _) ?_; rintro e w' ⟨rfl, rfl⟩)
      have hwr := R.out
      go_loopw [15] (fun i wq => ∃ k : Nat, k ≤ p ∧ i = .int .i64 k ∧ Below w.heap.size w wq ∧ Row wq w.heap.size 75 none256 ∧ Row wq (w.heap.size + 1) 75 (upTo tab none256 (p + k))) (fun i _ => p - (intOf i).toNat)
      case atStart => exact ⟨0, by omega, rfl, hwr⟩
      case round =>
        obtain ⟨k, hk, rfl, hbel, hr2, hr3⟩ := hrel
        by_cases hkp : k < p
        · have hx := hA.out k hkp
          have hl3 := hr3.lt
          have hlen : (upTo tab none256 (p + k)).length = 256 := by simp only [upTo, List.length_append, List.length_take, List.length_drop, tab, none256, List.length_map, List.length_range, List.length_replicate]; omega
          have hc3 := hr3.cell (i := k) (by rw [hlen]; omega)
          rw [upTo_at tab none256 (p + k) k (by omega) (by simp only [tab, List.length_map, List.length_range]; omega), tab_at k (by omega)] at hc3
          have hc4 := hr3.cell (i := p + k) (by rw [hlen]; omega)
          have hf4 := hr3.free (p + k)
          have HN := Lib.hid (upTo_next tab none256 (p + k) (by simp only [tab, List.length_map, List.length_range]; omega) (by simp only [none256, List.length_replicate]; omega))
          rw [tab_at _ (by omega), hx] at HN
          obtain ⟨y, hy⟩ : ∃ y, y = (upTo tab none256 (p + k)).getD (p + k) 0 := ⟨_, rfl⟩
          obtain ⟨x, hxe⟩ : ∃ x, x = byteStep k := ⟨_, rfl⟩
          have hx1 : x < 2 ^ 32 := by rw [hxe]; exact byteStep_lt (by omega)
          rw [← hy] at hc4
          rw [← hxe] at hc3 HN
          have hxr := u32_x ch x hch1 hx1
          obtain ⟨q, hq⟩ : ∃ q, q = ch ^^^ x := ⟨_, rfl⟩
          rw [← hq] at hxr HN
          have R := Lib.hid (And.intro hbel (And.intro hr2 hr3))
          clear hy hxe hq hx hlen hr2 hr3 hbel hwr
          go_wp2
          obtain ⟨hbel, hr2, hr3⟩ := R.out
          have R2 : Below w.heap.size w (wr.setCell ⟨w.heap.size + 1, p + k, none⟩ (.int .u32 (q : Int))) ∧ Row (wr.setCell ⟨w.heap.size + 1, p + k, none⟩ (.int .u32 (q : Int))) w.heap.size 75 none256 ∧
              Row (wr.setCell ⟨w.heap.size + 1, p + k, none⟩ (.int .u32 (q : Int))) (w.heap.size + 1) 75 (upTo tab none256 (p + (k + 1))) :=
            ⟨hbel.setCell (by simp only []; omega) _, hr2.other _ _ (by simp only []; omega), by rw [← Nat.add_assoc, ← HN.out]; exact hr3.set _ _⟩
          clear hbel hr2 hr3
          go_roundw
          case rel => exact ⟨k + 1, by omega, by go_num, R2⟩
          case measure => simp [intOf]; omega
        · have hkp2 : k = p := by omega
          subst hkp2
          rw [← HD.out] at hr3
          have R2 : Below w.heap.size w wr ∧ Row wr w.heap.size 75 none256 ∧ Row wr (w.heap.size + 1) 75 (upTo tab none256 (2 ^ (j + 1))) := ⟨hbel, hr2, hr3⟩
          clear hbel hr2 hr3 hwr R
          go_wp2
          go_roundw
          case rel => exact ⟨j + 1, by omega, by go_num, R2⟩
          case measure => simp [intOf]; omega
    · have hj9 : j = 8 := by omega
      subst hj9
      have e3 : upTo tab none256 (2 ^ 8) = tab := upTo_all _ _ _ (by simp only [tab, List.length_map, List.length_range]; decide) (by simp only [none256, List.length_replicate]; decide)
      rw [e3] at hr3
      have hu := Try.underlying75
      have hi : (Try.prog.info? 75).map (·.size) = some (U tab).size := by rw [U_size]; kernel_rfl
      have ho : (U none256).size = (U tab).size := by rw [U_size, U_size]; kernel_rfl
      go_wp2_with (first
        | (refine wpList_load_row rfl 75 _ rfl (w.heap.size + 1) rfl 75 _ (0, 0) _ hr3 hu rfl hi ?_)
        | (refine wpList_store_row rfl 75 _ _ rfl w.heap.size _ rfl rfl 75 _ hr2 hi ho (U_one _) ?_))
      refine bodyPost_ret (v := .agg (U tab)) ?_ rfl ⟨rfl, below_setRow hbel (by omega) _⟩
      exact results_cell_row rfl _ _ w.heap.size 75 _ (0, 0) _ rfl (hr2.laid _) hu rfl hi

theorem tab_cell {w : World} {g : Nat} {t : TypeId} (h : Row w g t tab) {j : Nat} (hj : j < 256) : w.cell? ⟨g, j, none⟩ = some (.int .u32 (byteStep j : Nat)) := by
  rw [h.cell (by simp only [tab, List.length_map, List.length_range]; exact hj), tab_at j hj]

theorem table_step (r x : Nat) (hx : x < 256) : byteStep (r ^^^ x) = r / 256 ^^^ byteStep (r % 256 ^^^ x) := by
  rw [byteStep_table, Nat.xor_comm]
  have e1 : (r ^^^ x) / 256 = r / 256 := by
    have h := Nat.shiftRight_xor_distrib (a := r) (b := x) (i := 8)
    simp only [Nat.shiftRight_eq_div_pow] at h
    rw [show (2 : Nat) ^ 8 = 256 from rfl, Nat.div_eq_of_lt hx, Nat.xor_zero] at h
    exact h
  have e2 : (r ^^^ x) % 256 = r % 256 ^^^ x := by
    have h := Nat.xor_mod_two_pow (a := r) (b := x) (n := 8)
    rw [show (2 : Nat) ^ 8 = 256 from rfl, Nat.mod_eq_of_lt hx] at h
    exact h
  rw [e1, e2]

set_option maxRecDepth 20000 in
theorem crcMore_any : ∀ (A : Option Addr) (c : Nat) (zs : List Int) (s : Nat) (w : World), Ints w w.heap.size .u8 A zs → (∀ z ∈ zs, 0 ≤ z ∧ z ≤ 255) → zs.length ≤ c → zs.length ≤ 9223372036854775807 → s < 2 ^ 32 →
    Calls Try.prog 32 #[.int .u32 (s : Int), .slice A zs.length c] w fun e w' => e = .returned (.int .u32 (moreN s (nb zs) : Nat)) ∧ Below w.heap.size w w' := by
  intro A c zs s w hr hz hc hm hs
  have HZ := Lib.hid hz
  have HS := Lib.hid hs
  have HR := Lib.hid hr
  have hs1 : s ≤ 4294967295 := by omega
  have hib := inv_bits s hs
  have hil := inv32_lt s
  obtain ⟨t, ht⟩ : ∃ t, t = inv32 s := ⟨_, rfl⟩
  rw [← ht] at hib hil
  have HT := Lib.hid ht
  obtain ⟨cs, hcs⟩ : ∃ cs, cs = U tab := ⟨_, rfl⟩
  obtain ⟨c0, hc0⟩ : ∃ c0, c0 = U none256 := ⟨_, rfl⟩
  have HC := Lib.hid changes_any
  have hz0 := (zero_of_info (P := Try.prog) (t := 75) (v := .agg (U none256)) (n := 256) (by kernel_rfl)).1
  have HI : Hid ((Try.prog.info? 75).map (·.size) = some cs.size) := by unfold Hid; rw [hcs, U_size]; kernel_rfl
  have HO : Hid (c0.size = cs.size) := by unfold Hid; rw [hcs, hc0, U_size, U_size]; kernel_rfl
  have H1 : Hid (cs.all (·.oneCell') = true) := by unfold Hid; rw [hcs]; exact U_one tab
  rw [← hcs] at HC
  rw [← hc0] at hz0
  have HT0 : Hid (∀ (w : World) (g : Nat) (t : TypeId), w.heap[g]? = some (.cells cs t (0, 0)) → Row w g t tab) := fun w g t h => by rw [hcs] at h; exact h
  clear hz hs ht hr hcs hc0
  go_enter Try.func32, Try.ntmps32
  go_wp2_with (first
    | (go_at_call 40; refine Calls.mono (HC.out _) ?_; rintro e w' ⟨rfl, hb⟩)
    | (refine wpList_store_row rfl 75 _ _ rfl w'.heap.size _ rfl rfl 75 c0 (heap_alloc_new _ _) HI.out HO.out H1.out ?_))
  have hrow := HT0.out _ _ _ (setRow_heap (w'.alloc (.cells c0 75)) w'.heap.size c0 cs 75 (0, 0) (heap_alloc_new _ _))
  have hbel := below_setRow (hb.alloc hb.size (.cells c0 75)) hb.size cs
  generalize (w'.alloc (.cells c0 75)).setRow w'.heap.size cs = W at hrow hbel ⊢
  have hints := HR.out.below hbel
  have HB := Lib.hid hbel
  clear hbel hz0
  go_loop [6, 14] (fun r i => ∃ k : Nat, k ≤ zs.length ∧ i = .int .i64 k ∧ r = .int .u32 (regs t (nb (zs.take k)) : Nat)) (fun _ i => zs.length - (intOf i).toNat)
  case atStart => exact ⟨0, Nat.zero_le _, rfl, rfl⟩
  case round =>
    obtain ⟨k, hk, rfl, rfl⟩ := hrel
    have hrl : regs t (nb (zs.take k)) < 2 ^ 32 := regs_lt _ hil (nb_lt fun z hz => HZ.out z (List.mem_of_mem_take hz))
    by_cases hlt : k < zs.length
    · obtain ⟨b, off, rfl, _, hcell⟩ := hints k hlt
      have hx := HZ.out _ (getD_mem hlt)
      have HN : Hid (regs t (nb (zs.take (k + 1))) = byteStep (regs t (nb (zs.take k)) ^^^ (zs.getD k 0).toNat)) := by rw [nb_take_snoc zs k hlt]; exact regs_snoc _ _ _
      obtain ⟨x, hx'⟩ : ∃ x : Nat, (x : Int) = zs.getD k 0 := ⟨(zs.getD k 0).toNat, by omega⟩
      have hxn : (zs.getD k 0).toNat = x := by omega
      rw [hxn] at HN
      rw [← hx'] at hcell hx
      obtain ⟨r, hr'⟩ : ∃ r, r = regs t (nb (zs.take k)) := ⟨_, rfl⟩
      rw [← hr'] at hrl HN ⊢
      have hx256 : x < 256 := by omega
      have HN2 := Lib.hid (HN.out.trans (table_step r x hx256))
      have hql : r % 256 ^^^ x < 256 := Nat.xor_lt_two_pow (n := 8) (by omega) hx256
      have hb8 := u8_xor_nat (r % 256) x (by omega) hx256
      rw [Int.natCast_emod] at hb8
      have hb8' : bits .xor .u8 ((r : Int) % 256) (x : Int) = ((r % 256 ^^^ x : Nat) : Int) := hb8
      have hct := tab_cell hrow hql
      obtain ⟨q, hq⟩ : ∃ q, q = r % 256 ^^^ x := ⟨_, rfl⟩
      rw [← hq] at HN2 hql hb8' hct
      have hyl : byteStep q < 2 ^ 32 := byteStep_lt (by omega)
      obtain ⟨y, hy⟩ : ∃ y, y = byteStep q := ⟨_, rfl⟩
      rw [← hy] at HN2 hyl hct
      have hxr := u32_x (r / 256) y (by omega) hyl
      rw [Int.natCast_ediv] at hxr
      have hxr' : bits .xor .u32 ((r : Int) / 256) (y : Int) = ((r / 256 ^^^ y : Nat) : Int) := hxr
      clear hx' hxn hr' HN hx hb8 hq hy hxr hrow
      go_wp2
      go_round
      case rel => exact ⟨k + 1, by omega, by go_num, by rw [HN2.out]⟩
      case measure => simp [intOf]; omega
    · have hkl : k = zs.length := by omega
      subst hkl
      rw [List.take_length] at hrl ⊢
      have hie := inv_bits _ hrl
      have HM : Hid (inv32 (regs t (nb zs)) = moreN s (nb zs)) := by unfold Hid moreN; rw [← HT.out]
      go_wp2
      go_ret
      rw [← HM.out]
      exact ⟨rfl, HB.out⟩

theorem crcSum_any : ∀ (A : Option Addr) (c : Nat) (zs : List Int) (w : World), Ints w w.heap.size .u8 A zs → (∀ z ∈ zs, 0 ≤ z ∧ z ≤ 255) → zs.length ≤ c → zs.length ≤ 9223372036854775807 →
    Calls Try.prog 22 #[.slice A zs.length c] w fun e w' => e = .returned (.int .u32 (moreN 0 (nb zs) : Nat)) ∧ Below w.heap.size w w' := by
  intro A c zs w hr hz hc hm
  have HM := Lib.hid (crcMore_any A c zs 0 w hr hz hc hm (by decide))
  clear hz hr
  go_enter Try.func22, Try.ntmps22
  go_wp2_with (go_at_call 32; refine Calls.mono HM.out ?_; rintro e w' ⟨rfl, hb⟩)
  go_ret
  exact ⟨rfl, hb⟩

end Go.Proofs.Ytbmgiekiildaaaa
