/-
  The statements PackSplits and PackBack as walks. Conditions: what comes in is of its type.
-/
import Derived.Test.YtdlmnlgmdfcbfaaSplitRef
import Derived.Test.YtdlmnlgmdfcbfaaOrder
namespace Go.Proofs.Ytdlmnlgmdfcbfaa
open Go.RowKit

theorem splitL_len (zs sizes : List Int) : (splitL zs sizes).length ≤ 4096 := by
  unfold splitL
  by_cases h : splitE zs sizes = 0
  · rw [if_pos h, partsOf_len]
    unfold splitE at h
    cases hz : szs sizes
    · rw [hz] at h; simp at h
    · simp only [szs, Bool.and_eq_true, decide_eq_true_eq] at hz
      exact hz.1
  · rw [if_neg h]; exact Nat.zero_le _

theorem splitE_zero {zs sizes : List Int} (h : splitE zs sizes = 0) : szs sizes = true ∧ total sizes = zs.length := by
  unfold splitE at h
  cases hz : szs sizes
  · rw [hz] at h; simp at h
  · rw [if_pos hz] at h
    refine ⟨rfl, ?_⟩
    by_cases h3 : (zs.length : Int) < total sizes
    · rw [if_pos h3] at h; omega
    · rw [if_neg h3] at h
      by_cases h4 : total sizes < (zs.length : Int)
      · rw [if_pos h4] at h; omega
      · omega
theorem splitE_of {zs sizes : List Int} (h : szs sizes = true) (hl : total sizes = zs.length) : splitE zs sizes = 0 := by
  unfold splitE
  rw [if_pos h, if_neg (by omega), if_neg (by omega)]
theorem szs_all {sizes : List Int} (h : szs sizes = true) : sizes.length ≤ 4096 ∧ sizes.all szOk = true := by
  simpa only [szs, Bool.and_eq_true, decide_eq_true_eq] using h

def flat (list sizes : List Int) : List Int := (list.zip sizes).flatMap fun p => bytesOf p.1 p.2.toNat
theorem flat_cons (n s : Int) (list sizes : List Int) : flat (n :: list) (s :: sizes) = bytesOf n s.toNat ++ flat list sizes := by simp [flat]
theorem flat_len : ∀ (list sizes : List Int), list.length = sizes.length → sizes.all szOk = true → ((flat list sizes).length : Int) = total sizes := by
  intro list sizes
  induction sizes generalizing list with
  | nil => intro _ _; simp [flat, total]
  | cons s ss ih =>
    intro hl hz
    cases list with
    | nil => simp at hl
    | cons n list =>
      simp only [List.all_cons, Bool.and_eq_true] at hz
      have hs : 1 ≤ s ∧ s ≤ 8 := by simpa only [szOk, decide_eq_true_eq] using hz.1
      have := ih list (by simpa using hl) hz.2
      rw [flat_cons, List.length_append, bytesOf_len, total_cons]
      omega
theorem parts_flat : ∀ (list sizes : List Int), list.length = sizes.length → (∀ z ∈ list, 0 ≤ z ∧ z ≤ 18446744073709551615) → (list.zip sizes).all (fun p => fitB p.1 p.2) = true → partsOf (flat list sizes) sizes = list := by
  intro list sizes
  induction sizes generalizing list with
  | nil => intro hl _ _; exact (List.eq_nil_of_length_eq_zero (by simpa using hl)).symm
  | cons s ss ih =>
    intro hl hb hf
    cases list with
    | nil => simp at hl
    | cons n list =>
      simp only [List.zip_cons_cons, List.all_cons, Bool.and_eq_true] at hf
      have hfn : n < 256 ^ s.toNat := by simpa only [fitB, decide_eq_true_eq] using hf.1
      rw [flat_cons, partsOf, List.take_left' (bytesOf_len n s.toNat), List.drop_left' (bytesOf_len n s.toNat), ih list (by simpa using hl) (fun z hz => hb z (List.mem_cons_of_mem _ hz)) hf.2,
        valOf_bytesOf n _ (hb n (by simp)).1 hfn]
theorem flat_parts : ∀ (b sizes : List Int), total sizes = b.length → sizes.all szOk = true → (∀ z ∈ b, 0 ≤ z ∧ z ≤ 255) →
    flat (partsOf b sizes) sizes = b ∧ ((partsOf b sizes).zip sizes).all (fun p => fitB p.1 p.2) = true := by
  intro b sizes
  induction sizes generalizing b with
  | nil =>
    intro hl _ _
    have : b = [] := List.eq_nil_of_length_eq_zero (by have : total [] = 0 := rfl; omega)
    subst this
    exact ⟨rfl, rfl⟩
  | cons s ss ih =>
    intro hl hz hb
    simp only [List.all_cons, Bool.and_eq_true] at hz
    have hs : 1 ≤ s ∧ s ≤ 8 := by simpa only [szOk, decide_eq_true_eq] using hz.1
    have ht := total_bd ss hz.2
    rw [total_cons] at hl
    have hlt : (b.take s.toNat).length = s.toNat := by rw [List.length_take]; omega
    have hm : ∀ z ∈ b.take s.toNat, 0 ≤ z ∧ z ≤ 255 := fun z hz => hb z (List.mem_of_mem_take hz)
    have h1 := ih (b.drop s.toNat) (by rw [List.length_drop]; omega) hz.2 fun z hz => hb z (List.mem_of_mem_drop hz)
    have hbv := bytesOf_valOf (b.take s.toNat) hm
    have hvb := valOf_bd (b.take s.toNat) hm
    rw [hlt] at hbv hvb
    rw [partsOf, flat_cons, h1.1, hbv, List.take_append_drop]
    refine ⟨rfl, ?_⟩
    rw [List.zip_cons_cons, List.all_cons, h1.2, Bool.and_true]
    simpa only [fitB, decide_eq_true_eq] using hvb.2

theorem fieldsE_zero {list sizes : List Int} (h : fieldsE list sizes = 0) : szs sizes = true ∧ list.length = sizes.length ∧ (list.zip sizes).all (fun p => fitB p.1 p.2) = true := by
  unfold fieldsE at h
  by_cases h1 : szs sizes = true ∧ list.length = sizes.length
  · rw [if_pos h1] at h
    by_cases h2 : (list.zip sizes).all (fun p => fitB p.1 p.2) = true
    · exact ⟨h1.1, h1.2, h2⟩
    · rw [if_neg h2] at h; omega
  · rw [if_neg h1] at h; omega
theorem fieldsB_flat {list sizes : List Int} (h : fieldsE list sizes = 0) : fieldsB list sizes = flat list sizes := by
  unfold fieldsB
  rw [if_pos h]; rfl
theorem back1 {list sizes : List Int} (hb : ∀ z ∈ list, 0 ≤ z ∧ z ≤ 18446744073709551615) (h : fieldsE list sizes = 0) : splitE (fieldsB list sizes) sizes = 0 ∧ splitL (fieldsB list sizes) sizes = list := by
  obtain ⟨h1, h2, h3⟩ := fieldsE_zero h
  have hE : splitE (fieldsB list sizes) sizes = 0 := splitE_of h1 (by rw [fieldsB_flat h]; exact (flat_len list sizes h2 (szs_all h1).2).symm)
  refine ⟨hE, ?_⟩
  unfold splitL
  rw [if_pos hE, fieldsB_flat h]
  exact parts_flat list sizes h2 hb h3
theorem back2 {b sizes : List Int} (hb : ∀ z ∈ b, 0 ≤ z ∧ z ≤ 255) (h : splitE b sizes = 0) : fieldsE (splitL b sizes) sizes = 0 ∧ fieldsB (splitL b sizes) sizes = b := by
  obtain ⟨h1, h2⟩ := splitE_zero h
  have hL : splitL b sizes = partsOf b sizes := by unfold splitL; rw [if_pos h]
  obtain ⟨f1, f2⟩ := flat_parts b sizes h2 (szs_all h1).2 hb
  have hE : fieldsE (splitL b sizes) sizes = 0 := by
    unfold fieldsE
    rw [hL, if_pos ⟨h1, partsOf_len b sizes⟩, if_pos f2]
  exact ⟨hE, by rw [fieldsB_flat hE, hL]; exact f1⟩
theorem fieldsB_mem (list sizes : List Int) : ∀ z ∈ fieldsB list sizes, 0 ≤ z ∧ z ≤ 255 := by
  intro z hz
  unfold fieldsB at hz
  by_cases h : fieldsE list sizes = 0
  · rw [if_pos h] at hz
    obtain ⟨p, _, hp⟩ := List.mem_flatMap.1 hz
    exact bytesOf_mem _ _ z hp
  · rw [if_neg h] at hz; simp at hz
theorem splitL_mem (zs sizes : List Int) (hb : ∀ z ∈ zs, 0 ≤ z ∧ z ≤ 255) : ∀ z ∈ splitL zs sizes, 0 ≤ z ∧ z ≤ 18446744073709551615 := by
  intro z hz
  unfold splitL at hz
  by_cases h : splitE zs sizes = 0
  · rw [if_pos h] at hz
    exact parts_mem zs sizes hb (szs_all (splitE_zero h).1).2 z hz
  · rw [if_neg h] at hz; simp at hz

theorem below_drawn (w : World) (n : Nat) : Below w.heap.size w (w.drewN n) := below_drewN (Below.refl _ _) n

theorem packSplits_go (A1 A2 : Option Addr) (c1 c2 : Nat) (sizes zs : List Int) (w : World) (hs : Ints w w.heap.size .i64 A1 sizes) (hn : Ints w w.heap.size .u8 A2 zs) (hc : zs.length ≤ c2)
    (hb : ∀ z ∈ zs, 0 ≤ z ∧ z ≤ 255) (hm64 : zs.length ≤ 9223372036854775807) :
    Calls Try.prog 6 #[.slice A2 zs.length c2, .slice A1 sizes.length c1] w fun e w' => e = .returned (.bool true) ∧ Below w.heap.size w w' := by
  have HP := Lib.hid (split_any A1 A2 c1 c2 sizes zs w hs hn hc hb)
  have HR := Lib.hid (fun w1 (hb1 : Below w.heap.size w w1) => refSplit_any A1 A2 c1 c2 sizes zs w1 ((hs.below hb1).more hb1.size) ((hn.below hb1).more hb1.size) hc hb hm64)
  have hlen := splitL_len zs sizes
  clear hb
  obtain ⟨l, hl⟩ : ∃ l, l = splitL zs sizes := ⟨_, rfl⟩
  obtain ⟨E, hE⟩ : ∃ E, E = splitE zs sizes := ⟨_, rfl⟩
  rw [← hl, ← hE] at HP HR
  rw [← hl] at hlen
  clear hl hE
  go_enter Try.func6, Try.ntmps6
  go_wp2_with (first
    | (go_at_call 17; refine Calls.mono HP.out ?_; rintro e w1 ⟨A1, c1, rfl, hc1, hi1, hb1⟩)
    | (go_at_call 18; refine Calls.mono (HR.out _ hb1) ?_; rintro e w2 ⟨A2, c2, rfl, hc2, hi2, hb2⟩)
    | (go_at_call 13; refine Calls.mono (awake_any _) ?_; rintro e w3 ⟨rfl, hb3⟩)
    | (go_at_call 19; refine Calls.mono (same_same A1 A2 c1 c2 _ l _ (((hi1.below hb2).below (hb3.mono hb2.size)).more hb2.size) (hi2.below hb3) hlen) ?_; rintro e w4 ⟨rfl, n4, rfl⟩; have hb4 := below_drawn w3 n4))
  go_ret
  exact ⟨rfl, by repeat (first | assumption | refine chain ?_ (by assumption))⟩

theorem packBack_go (A1 A2 A3 : Option Addr) (c1 c2 c3 : Nat) (sizes list zs : List Int) (w : World) (hs : Ints w w.heap.size .i64 A1 sizes) (hn : Ints w w.heap.size .u64 A2 list) (hm : Ints w w.heap.size .u8 A3 zs) (hc : zs.length ≤ c3)
    (hl : ∀ z ∈ list, 0 ≤ z ∧ z ≤ 18446744073709551615) (hb : ∀ z ∈ zs, 0 ≤ z ∧ z ≤ 255) :
    Calls Try.prog 7 #[.slice A2 list.length c2, .slice A1 sizes.length c1, .slice A3 zs.length c3] w fun e w' => e = .returned (.bool true) ∧ Below w.heap.size w w' := by
  have HF := Lib.hid (fields_any A1 A2 c1 c2 sizes list w hs hn hl)
  have HZ := Lib.hid (fun w1 (hb1 : Below w.heap.size w w1) => split_any A1 A3 c1 c3 sizes zs w1 ((hs.below hb1).more hb1.size) ((hm.below hb1).more hb1.size) hc hb)
  have HB := Lib.hid (fun (w1 : World) A4 c4 (hb1 : Below w.heap.size w w1) (hi : Ints w1 w1.heap.size .u8 A4 (fieldsB list sizes)) (hc4 : (fieldsB list sizes).length ≤ c4) =>
    split_any A1 A4 c1 c4 sizes (fieldsB list sizes) w1 ((hs.below hb1).more hb1.size) hi hc4 (fieldsB_mem list sizes))
  have HR := Lib.hid (fun (w1 : World) A6 c6 (hb1 : Below w.heap.size w w1) (hi : Ints w1 w1.heap.size .u64 A6 (splitL zs sizes)) =>
    fields_any A1 A6 c1 c6 sizes (splitL zs sizes) w1 ((hs.below hb1).more hb1.size) hi (splitL_mem zs sizes hb))
  have h1 := back1 (list := list) (sizes := sizes) hl
  have h2 := back2 (b := zs) (sizes := sizes) hb
  have hll0 : fieldsE list sizes = 0 → list.length ≤ 4096 := fun h => by
    obtain ⟨a, b, _⟩ := fieldsE_zero h
    rw [b]; exact (szs_all a).1
  obtain ⟨l1, hl1⟩ : ∃ l, l = fieldsB list sizes := ⟨_, rfl⟩
  obtain ⟨E1, hE1⟩ : ∃ E, E = fieldsE list sizes := ⟨_, rfl⟩
  obtain ⟨l2, hl2⟩ : ∃ l, l = splitL zs sizes := ⟨_, rfl⟩
  obtain ⟨E2, hE2⟩ : ∃ E, E = splitE zs sizes := ⟨_, rfl⟩
  rw [← hl1, ← hE1] at HF
  rw [← hl1] at HB h1
  rw [← hl2, ← hE2] at HZ
  rw [← hl2] at HR h2
  rw [← hE1] at h1 hll0
  rw [← hE2] at h2
  clear hl1 hE1 hl2 hE2 hl hb
  by_cases q1 : E1 = 0
  · have R1 := h1 q1
    rw [R1.1, R1.2] at HB
    have hll := hll0 q1
    subst q1
    clear h1 hll0 R1
    by_cases q2 : E2 = 0
    · have R2 := h2 q2
      rw [R2.1, R2.2] at HR
      subst q2
      clear h2 R2
      go_enter Try.func7, Try.ntmps7
      go_wp2_with (first
        | (go_at_call_of 16 (Value.slice A2 list.length c2); refine Calls.mono HF.out ?_; rintro e w1 ⟨A4, c4, rfl, hc4, hi4, hb1⟩)
        | (go_at_call_of 17 (Value.slice A3 zs.length c3); refine Calls.mono (HZ.out _ hbs) ?_; rintro e w5 ⟨A6, c6, rfl, hc6, hi6, hb5⟩)
        | (go_at_call 17; refine Calls.mono (HB.out _ A4 c4 hb1 hi4 hc4) ?_; rintro e w2 ⟨A5, c5, rfl, hc5, hi5, hb2⟩)
        | (go_at_call 19; refine Calls.mono (same_same A5 A2 c5 c2 _ list _ hi5 (((hn.below hb1).below (hb2.mono hb1.size)).more (Nat.le_trans hb1.size hb2.size)) hll) ?_; rintro e w3 ⟨rfl, n3, rfl⟩; have hb3 := below_drawn w2 n3; have hbs := chain (chain hb1 hb2) hb3)
        | (go_at_call 16; refine Calls.mono (HR.out _ A6 c6 (chain hbs hb5) hi6) ?_; rintro e w6 ⟨A7, c7, rfl, hc7, hi7, hb6⟩)
        | (go_at_call 13; refine Calls.mono (awake_any _) ?_; rintro e w7 ⟨rfl, hb7⟩; have hk1 := (hi7.below hb7).text (P := Try.prog) Try.underlying23 Try.underlying5 Try.underlying9 c7; have hk2 := (hm.below (chain (chain (chain hbs hb5) hb6) hb7)).text (P := Try.prog) Try.underlying23 Try.underlying5 Try.underlying9 c3))
      go_ret
      exact ⟨rfl, by repeat (first | assumption | refine chain ?_ (by assumption))⟩
    · have q3 : (E2 == 0) = false := by simpa using q2
      have q4 : (E2 != 0) = true := by simpa using q2
      clear h2 HR
      go_enter Try.func7, Try.ntmps7
      go_wp2_with (first
        | (go_at_call_of 16 (Value.slice A2 list.length c2); refine Calls.mono HF.out ?_; rintro e w1 ⟨A4, c4, rfl, hc4, hi4, hb1⟩)
        | (go_at_call_of 17 (Value.slice A3 zs.length c3); refine Calls.mono (HZ.out _ hbs) ?_; rintro e w5 ⟨A6, c6, rfl, hc6, hi6, hb5⟩)
        | (go_at_call 17; refine Calls.mono (HB.out _ A4 c4 hb1 hi4 hc4) ?_; rintro e w2 ⟨A5, c5, rfl, hc5, hi5, hb2⟩)
        | (go_at_call 19; refine Calls.mono (same_same A5 A2 c5 c2 _ list _ hi5 (((hn.below hb1).below (hb2.mono hb1.size)).more (Nat.le_trans hb1.size hb2.size)) hll) ?_; rintro e w3 ⟨rfl, n3, rfl⟩; have hb3 := below_drawn w2 n3; have hbs := chain (chain hb1 hb2) hb3)
        | (go_at_call 13; refine Calls.mono (awake_any _) ?_; rintro e w7 ⟨rfl, hb7⟩))
      go_ret
      exact ⟨rfl, by repeat (first | assumption | refine chain ?_ (by assumption))⟩
  · have q5 : (E1 == 0) = false := by simpa using q1
    have q6 : (E1 != 0) = true := by simpa using q1
    clear h1 hll0 HB
    by_cases q2 : E2 = 0
    · have R2 := h2 q2
      rw [R2.1, R2.2] at HR
      subst q2
      clear h2 R2
      go_enter Try.func7, Try.ntmps7
      go_wp2_with (first
        | (go_at_call_of 16 (Value.slice A2 list.length c2); refine Calls.mono HF.out ?_; rintro e w1 ⟨A4, c4, rfl, hc4, hi4, hb1⟩)
        | (go_at_call_of 17 (Value.slice A3 zs.length c3); refine Calls.mono (HZ.out _ hb1) ?_; rintro e w5 ⟨A6, c6, rfl, hc6, hi6, hb5⟩)
        | (go_at_call 16; refine Calls.mono (HR.out _ A6 c6 (chain hb1 hb5) hi6) ?_; rintro e w6 ⟨A7, c7, rfl, hc7, hi7, hb6⟩)
        | (go_at_call 13; refine Calls.mono (awake_any _) ?_; rintro e w7 ⟨rfl, hb7⟩; have hk1 := (hi7.below hb7).text (P := Try.prog) Try.underlying23 Try.underlying5 Try.underlying9 c7; have hk2 := (hm.below (chain (chain (chain hb1 hb5) hb6) hb7)).text (P := Try.prog) Try.underlying23 Try.underlying5 Try.underlying9 c3))
      go_ret
      exact ⟨rfl, by repeat (first | assumption | refine chain ?_ (by assumption))⟩
    · have q3 : (E2 == 0) = false := by simpa using q2
      have q4 : (E2 != 0) = true := by simpa using q2
      clear h2 HR
      go_enter Try.func7, Try.ntmps7
      go_wp2_with (first
        | (go_at_call_of 16 (Value.slice A2 list.length c2); refine Calls.mono HF.out ?_; rintro e w1 ⟨A4, c4, rfl, hc4, hi4, hb1⟩)
        | (go_at_call_of 17 (Value.slice A3 zs.length c3); refine Calls.mono (HZ.out _ hb1) ?_; rintro e w5 ⟨A6, c6, rfl, hc6, hi6, hb5⟩)
        | (go_at_call 13; refine Calls.mono (awake_any _) ?_; rintro e w7 ⟨rfl, hb7⟩))
      go_ret
      exact ⟨rfl, by repeat (first | assumption | refine chain ?_ (by assumption))⟩

end Go.Proofs.Ytdlmnlgmdfcbfaa
