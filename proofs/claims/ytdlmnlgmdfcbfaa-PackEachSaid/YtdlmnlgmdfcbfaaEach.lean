/-
  The statement PackEach as a walk. Conditions: what comes in is of its type.
-/
import Derived.Test.YtdlmnlgmdfcbfaaBack
namespace Go.Proofs.Ytdlmnlgmdfcbfaa
open Go.RowKit

/-- Fields refuses. -/
theorem packEach_no (A1 A2 : Option Addr) (c1 c2 : Nat) (sizes list : List Int) (w : World) (hs : Ints w w.heap.size .i64 A1 sizes) (hn : Ints w w.heap.size .u64 A2 list)
    (hl : ∀ z ∈ list, 0 ≤ z ∧ z ≤ 18446744073709551615) (h : fieldsE list sizes ≠ 0) :
    Calls Try.prog 10 #[.slice A2 list.length c2, .slice A1 sizes.length c1] w fun e w' => e = .returned (.bool true) ∧ Below w.heap.size w w' := by
  have HF := Lib.hid (fields_any A1 A2 c1 c2 sizes list w hs hn hl)
  obtain ⟨l1, hl1⟩ : ∃ l, l = fieldsB list sizes := ⟨_, rfl⟩
  obtain ⟨E1, hE1⟩ : ∃ E, E = fieldsE list sizes := ⟨_, rfl⟩
  rw [← hl1, ← hE1] at HF
  rw [← hE1] at h
  have q5 : (E1 == 0) = false := by simpa using h
  have q6 : (E1 != 0) = true := by simpa using h
  clear hl1 hE1 hl h
  go_enter Try.func10, Try.ntmps10
  go_wp2_with (first
    | (go_at_call 16; refine Calls.mono HF.out ?_; rintro e w1 ⟨A4, c4, rfl, hc4, hi4, hb1⟩)
    | (go_at_call 13; refine Calls.mono (awake_any _) ?_; rintro e w7 ⟨rfl, hb7⟩))
  go_ret
  exact ⟨rfl, by repeat (first | assumption | refine chain ?_ (by assumption))⟩

set_option maxHeartbeats 1600000 in
/-- Fields puts all. -/
theorem packEach_yes (A1 A2 : Option Addr) (c1 c2 : Nat) (sizes list : List Int) (w : World) (hs : Ints w w.heap.size .i64 A1 sizes) (hn : Ints w w.heap.size .u64 A2 list)
    (hl : ∀ z ∈ list, 0 ≤ z ∧ z ≤ 18446744073709551615) (h : fieldsE list sizes = 0) :
    Calls Try.prog 10 #[.slice A2 list.length c2, .slice A1 sizes.length c1] w fun e w' => e = .returned (.bool true) ∧ Below w.heap.size w w' := by
  have hF := fields_any A1 A2 c1 c2 sizes list w hs hn hl
  obtain ⟨z1, z2, z3⟩ := fieldsE_zero h
  obtain ⟨z4, z5⟩ := szs_all z1
  have hB : fieldsB list sizes = fieldsTo list sizes list.length := by
    rw [fieldsB_flat h]; unfold fieldsTo flat; rw [List.take_of_length_le (by simp; omega)]
  rw [h, hB] at hF
  have hlb : list.length ≤ 4096 := by omega
  have HF := Lib.hid hF
  have HL := Lib.hid z2
  have HV := Lib.hid hl
  have HZ3 := Lib.hid z3
  have HZ5 := Lib.hid z5
  obtain ⟨l1, hl1⟩ : ∃ l, l = fieldsTo list sizes list.length := ⟨_, rfl⟩
  rw [← hl1] at HF
  have HL1 := Lib.hid hl1
  clear hl1 hF z1 z2 z3 z4 z5 hl h hB
  go_enter Try.func10, Try.ntmps10
  go_wp2_with (first
    | (go_at_call 16; refine Calls.mono HF.out ?_; rintro e w1 ⟨A4, c4, rfl, hc4, hi4, hb1⟩)
    | (go_at_call 13; refine Calls.mono (awake_any _) ?_; rintro e w7 ⟨rfl, hb7⟩; have hi7 := hi4.below hb7; have hb17 := chain hb1 hb7))
  have hB7 := hb7.size
  clear hi4
  go_loopw [7, 8] (fun s i wr => ∃ k : Nat, k ≤ list.length ∧ i = .int .i64 k ∧ s = .string (strOfNums (fieldsTo list sizes k)) ∧ Below w.heap.size w wr ∧ Ints wr w1.heap.size .u8 A4 l1 ∧ w1.heap.size ≤ wr.heap.size) (fun _ i _ => list.length - (intOf i).toNat)
  case atStart => exact ⟨0, Nat.zero_le _, rfl, by rw [fieldsTo_zero]; rfl, hb17, hi7, hB7⟩
  case round =>
    obtain ⟨k, hk, rfl, rfl, hbel, hi, hsz⟩ := hrel
    clear hi7 hb17
    by_cases hlt : k < list.length
    · have hlt2 : k < sizes.length := by have := HL.out; omega
      obtain ⟨b1, o1, e1, hbb1, hc1⟩ := hs.below hbel k hlt2
      obtain ⟨b2, o2, e2, hbb2, hc2⟩ := hn.below hbel k hlt
      have hso : szOk (sizes.getD k 0) = true := List.all_eq_true.1 HZ5.out _ (getD_mem hlt2)
      have hs1 : 1 ≤ sizes.getD k 0 ∧ sizes.getD k 0 ≤ 8 := by simpa only [szOk, decide_eq_true_eq] using hso
      have hx := HV.out _ (getD_mem hlt)
      have hfit : fitB (list.getD k 0) (sizes.getD k 0) = true := List.all_eq_true.1 HZ3.out _ (List.mem_of_getElem? (zip_at list sizes k hlt hlt2))
      have hfl := fieldsTo_len list sizes HZ5.out k
      have HS := Lib.hid (fieldsTo_succ list sizes k hlt hlt2)
      have hput := put_any (list.getD k 0) (sizes.getD k 0)
      have hE : fieldsE [list.getD k 0] [sizes.getD k 0] = 0 := by rw [fieldsE_one, if_pos hso, if_pos hfit]
      rw [hE, fieldsB_one _ _ hE] at hput
      obtain ⟨x, hx'⟩ : ∃ x, x = list.getD k 0 := ⟨_, rfl⟩
      obtain ⟨s, hs'⟩ : ∃ s : Nat, (s : Int) = sizes.getD k 0 := ⟨(sizes.getD k 0).toNat, by omega⟩
      rw [← hx'] at hc2 hx HS hput
      rw [← hs'] at hc1 hs1 HS hput
      obtain ⟨bs, hbs⟩ : ∃ bs, bs = bytesOf x s := ⟨_, rfl⟩
      have hbl : bs.length = s := by rw [hbs, bytesOf_len]
      have hput' : ∀ W : World, Calls Try.prog 11 #[.int .u64 x, .int .i64 s] W (Made W 0 bs) := fun W => by
        rw [hbs]; exact hput W hx
      have hcat := strCat (fieldsTo list sizes k) bs
      have hz1 : (strOfNums (fieldsTo list sizes k)).size ≤ 40000 := by rw [strOfNums_size]; omega
      have hz2 : (strOfNums bs).size ≤ 8 := by rw [strOfNums_size]; omega
      obtain ⟨ys, hys⟩ : ∃ ys, ys = fieldsTo list sizes k := ⟨_, rfl⟩
      rw [← hys] at HS hcat hz1 ⊢
      have HBS := Lib.hid hbs
      have hbl1 : ((bs.length : Int) == (s : Int)) = true := by simp; omega
      have hbl2 : ((bs.length : Int) != (s : Int)) = false := by simp; omega
      have HP := Lib.hid hput'
      have hk0 : (0 : Int) ≤ (k : Int) := by omega
      have hk1 : (k : Int) < (list.length : Int) := by omega
      have hk2 : (k : Int) < (sizes.length : Int) := by omega
      obtain rfl := e1
      obtain rfl := e2
      clear hx' hs' hso hs1 hfit hfl hput hE hbs hbl hput' hys hx
      go_wp2
      go_region_held3 (fun w' => w'.cell? ⟨b2, o2 + k, none⟩ = some (.int .u64 x) ∧ w'.cell? ⟨b1, o1 + k, none⟩ = some (.int .i64 s))
        (first
          | go_keep
          | exact ⟨(hbp.cell (p := ⟨b2, o2 + k, none⟩) (by have := hbel.size; simp; omega)).trans (by assumption), (hbp.cell (p := ⟨b1, o1 + k, none⟩) (by have := hbel.size; simp; omega)).trans (by assumption)⟩)
        (first
          | (go_at_call 11; refine Calls.mono (HP.out _) ?_; rintro e wp ⟨Ac, cc, rfl, hcc, hic, hbp⟩))
      have hkt := hic.text (P := Try.prog) Try.underlying23 Try.underlying5 Try.underlying9 cc
      have hsz' : wr.heap.size ≤ wp.heap.size := hbp.size
      have R : Below w.heap.size w wp ∧ Ints wp w1.heap.size .u8 A4 l1 ∧ w1.heap.size ≤ wp.heap.size :=
        ⟨hbel.drew.trans (hbp.mono hbel.size), hi.keep fun p hp => hbp.cell (p := p) (Nat.lt_of_lt_of_le hp hsz), Nat.le_trans hsz hsz'⟩
      clear hbp hbel hi hc1 hc2
      go_wp2
      go_roundw
      case rel => exact ⟨k + 1, by omega, by go_num, by rw [HS.out, HBS.out]; rfl, R.1, R.2.1, R.2.2⟩
      case measure => simp [intOf]; omega
    · have hkl : k = list.length := by omega
      subst hkl
      have hk1 := hi.text (P := Try.prog) Try.underlying23 Try.underlying5 Try.underlying9 c4
      rw [← HL1.out]
      go_wp2
      go_ret
      exact ⟨rfl, hbel⟩

theorem packEach_go (A1 A2 : Option Addr) (c1 c2 : Nat) (sizes list : List Int) (w : World) (hs : Ints w w.heap.size .i64 A1 sizes) (hn : Ints w w.heap.size .u64 A2 list)
    (hl : ∀ z ∈ list, 0 ≤ z ∧ z ≤ 18446744073709551615) :
    Calls Try.prog 10 #[.slice A2 list.length c2, .slice A1 sizes.length c1] w fun e w' => e = .returned (.bool true) ∧ Below w.heap.size w w' := by
  by_cases h : fieldsE list sizes = 0
  · exact packEach_yes A1 A2 c1 c2 sizes list w hs hn hl h
  · exact packEach_no A1 A2 c1 c2 sizes list w hs hn hl h

end Go.Proofs.Ytdlmnlgmdfcbfaa
