/-
  'join' of the layer pack: whatever the sizes and the numbers are, what it answers; nothing that was there is changed.
-/
import Derived.Test.YtbmgiekiildaaaaLow
namespace Go.Proofs.Ytbmgiekiildaaaa
open Go.RowKit

theorem Made.nil {w w' : World} {E : Int} (hb : Below w.heap.size w w') : Made w E [] (.returned (.tuple #[.slice none 0 0, .int .i64 E])) w' :=
  ⟨none, 0, rfl, Nat.le_refl _, Ints.nil _ _ _ _, hb⟩
/-- The sizes, or how many there are, are refused. -/
theorem join_arg (A1 A2 : Option Addr) (c1 c2 B : Nat) (sizes list : List Int) (w : World) (hs : Ints w B .i64 A1 sizes) (h : szs sizes = false ∨ list.length ≠ sizes.length) :
    Calls Try.prog 31 #[.slice A1 sizes.length c1, .slice A2 list.length c2] w (Made w 1 []) := by
  by_cases hz : szs sizes = false
  · go_enter Try.func31, Try.ntmps31
    go_wp2_with (go_at_call 37; refine (extent_no A1 c1 B sizes _ hs hz).mono ?_; rintro e w' ⟨rfl, rfl⟩)
    go_ret2
    exact Made.nil (Below.refl _ _)
  · have hz' : szs sizes = true := by simpa using hz
    have hl : list.length ≠ sizes.length := h.resolve_left hz
    have hl1 : ((list.length : Int) == (sizes.length : Int)) = false := by simp; omega
    have hl2 : ((list.length : Int) != (sizes.length : Int)) = true := by simp; omega
    clear h hz hl
    have HZ := Lib.hid hz'
    clear hz'
    go_enter Try.func31, Try.ntmps31
    go_wp2_with (go_at_call 37; refine (extent_yes A1 c1 B sizes _ hs HZ.out).mono ?_; rintro e w' ⟨rfl, rfl⟩)
    go_ret2
    exact Made.nil (Below.refl _ _)

/-- The same, and the bytes lie in a row of the call's own. -/
def MadeOwn (w : World) (E : Int) (l : List Int) (e : Ending) (w' : World) : Prop :=
  ∃ A c, e = .returned (.tuple #[.slice A l.length c, .int .i64 E]) ∧ l.length ≤ c ∧ Ints w' w'.heap.size .u8 A l ∧ Below w.heap.size w w' ∧ (E = 0 → w'.ownsRow w.heap.size 5 1 (.slice A l.length c) l.length (l.map (Value.int .u8)))
theorem MadeOwn.made {w w' : World} {E : Int} {l : List Int} {e : Ending} (h : MadeOwn w E l e w') : Made w E l e w' := by
  obtain ⟨A, c, h1, h2, h3, h4, _⟩ := h
  exact ⟨A, c, h1, h2, h3, h4⟩
set_option maxHeartbeats 800000 in
/-- The sizes are sound, as many as the numbers. -/
theorem join_own (A1 A2 : Option Addr) (c1 c2 : Nat) (sizes list : List Int) (w : World) (hs : Ints w w.heap.size .i64 A1 sizes) (hn : Ints w w.heap.size .u64 A2 list)
    (hb : ∀ z ∈ list, 0 ≤ z ∧ z ≤ 18446744073709551615) (hz : szs sizes = true) (hl : list.length = sizes.length) :
    Calls Try.prog 31 #[.slice A1 sizes.length c1, .slice A2 list.length c2] w (MadeOwn w (fieldsE list sizes) (fieldsB list sizes)) := by
  obtain ⟨i0, hi, hz0, hz1, hz2⟩ := info_parts Try.infoU8
  have hz3 := hz
  simp only [szs, Bool.and_eq_true, decide_eq_true_eq] at hz3
  obtain ⟨hz4, hz5⟩ := hz3
  have htot := total_bd sizes hz5
  obtain ⟨T, hT⟩ : ∃ T : Nat, (T : Int) = total sizes := ⟨(total sizes).toNat, by omega⟩
  have hT1 : T ≤ 32768 := by omega
  have HT := Lib.hid hT
  have HZ := Lib.hid hz
  have HZ5 := Lib.hid hz5
  have HL := Lib.hid hl
  have HB := Lib.hid hb
  have hext : ∀ W : World, Ints W w.heap.size .i64 A1 sizes → Calls Try.prog 37 #[.slice A1 sizes.length c1] W fun e w' => e = .returned (.tuple #[.int .i64 T, .int .i64 0]) ∧ W = w' := fun W hW => by
    have := extent_yes A1 c1 w.heap.size sizes W hW hz
    rw [← hT] at this
    exact this
  have hl1 : ((list.length : Int) == (sizes.length : Int)) = true := by simp; omega
  have hl2 : ((list.length : Int) != (sizes.length : Int)) = false := by simp; omega
  have hlb : list.length ≤ 4096 := by omega
  clear hT hz hz5 hl hb htot
  have HX := Lib.hid hext
  clear hext
  go_enter Try.func31, Try.ntmps31
  go_wp2_with (first
    | (go_at_call 37; refine (HX.out _ hs).mono ?_; rintro e w' ⟨rfl, rfl⟩)
    | (at_make; refine wpList_make_own _ rfl _ _ 24 rfl w.heap.size 5 i0 (.int .u8 0) 1 Try.underlying24 hi hz0 hz1 .i64 .i64 (T : Int) T rfl rfl rfl (by rw [hz2]; omega) (by unfold maxLen; omega) (Nat.le_refl _) ?_; intro w1 hown1 hg1))
  have hbel1 : Below w.heap.size w w1 := (Below.refl _ _).grown hg1 (Nat.le_refl _) (fun _ h => by cases h)
  clear hg1
  go_loopw [8, 28] (fun v i wr => ∃ k : Nat, k ≤ list.length ∧ i = .int .i64 k ∧ wr.ownsRow w.heap.size 5 1 v (fieldsTo list sizes k).length ((fieldsTo list sizes k).map (Value.int .u8)) ∧
      Below w.heap.size w wr ∧ Hid (((list.zip sizes).take k).all (fun p => fitB p.1 p.2) = true)) (fun _ i _ => list.length - (intOf i).toNat)
  case atStart => exact ⟨0, Nat.zero_le _, rfl, by simpa [fieldsTo_zero] using hown1, hbel1, by simp [Hid]⟩
  case round =>
    obtain ⟨k, hk, rfl, hown, hbel, hall⟩ := hrel
    clear hown1 hbel1
    by_cases hlt : k < list.length
    · have hlt2 : k < sizes.length := by have := HL.out; omega
      obtain ⟨b1, o1, rfl, _, hc1⟩ := hs.below hbel k hlt2
      obtain ⟨b2, o2, rfl, _, hc2⟩ := hn.below hbel k hlt
      have hm : szOk (sizes.getD k 0) = true := List.all_eq_true.1 HZ5.out _ (getD_mem hlt2)
      have hm2 : 1 ≤ sizes.getD k 0 ∧ sizes.getD k 0 ≤ 8 := by simpa only [szOk, decide_eq_true_eq] using hm
      have hx := HB.out _ (getD_mem hlt)
      have hfl := fieldsTo_len list sizes HZ5.out k
      have HF := Lib.hid (fieldsTo_succ list sizes k hlt hlt2)
      have HA := Lib.hid (zip_take_snoc list sizes k hlt hlt2)
      have HR := Lib.hid (fieldsE_range HZ.out HL.out k hlt)
      obtain ⟨x, hx'⟩ : ∃ x, x = list.getD k 0 := ⟨_, rfl⟩
      obtain ⟨s, hs'⟩ : ∃ s : Nat, (s : Int) = sizes.getD k 0 := ⟨(sizes.getD k 0).toNat, by omega⟩
      rw [← hx'] at hc2 hx HF HA HR
      rw [← hs'] at hc1 hm2 HF HA HR
      clear hx' hs' hm
      obtain ⟨ys, hys⟩ : ∃ ys, ys = fieldsTo list sizes k := ⟨_, rfl⟩
      rw [← hys] at hown hfl HF
      clear hys
      by_cases hf : fitB x s = true
      · go_wp2_with (first
          | (go_at_call 38; refine (fits_any x s _ hx hm2).mono ?_; rintro e w' ⟨rfl, rfl⟩)
          | (go_at_call 39; refine (add_any w.heap.size _ ys x s _ hown hbel.size (by omega) (by omega)).mono ?_; rintro e w2 ⟨v2, rfl, hown2, hbel2⟩))
        go_roundw
        case rel =>
          refine ⟨k + 1, by omega, by go_num, ?_, hbel.trans hbel2, ?_⟩
          · rw [HF.out]; exact hown2
          · unfold Hid; rw [HA.out, List.all_append, hall.out, List.all_cons, hf]; rfl
        case measure => simp [intOf]; omega
      · have hf' : fitB x s = false := by simpa using hf
        clear hf
        go_wp2_with (go_at_call 38; refine (fits_any x s _ hx hm2).mono ?_; rintro e w' ⟨rfl, rfl⟩)
        go_ret2
        have R := HR.out hf'
        rw [R.1, R.2]
        exact ⟨none, 0, rfl, Nat.le_refl _, Ints.nil _ _ _ _, hbel, fun h => by cases h⟩
    · have : k = list.length := by omega
      subst this
      go_wp2
      go_ret2
      have R := fieldsE_ok HZ.out HL.out hall.out
      obtain ⟨A, c, hv⟩ := own_slice hown
      subst hv
      rw [R.1, R.2]
      exact ⟨A, c, rfl, own_le hown, Ints.of_own hown, hbel, fun _ => hown⟩

theorem join_go (A1 A2 : Option Addr) (c1 c2 : Nat) (sizes list : List Int) (w : World) (hs : Ints w w.heap.size .i64 A1 sizes) (hn : Ints w w.heap.size .u64 A2 list)
    (hb : ∀ z ∈ list, 0 ≤ z ∧ z ≤ 18446744073709551615) (hz : szs sizes = true) (hl : list.length = sizes.length) :
    Calls Try.prog 31 #[.slice A1 sizes.length c1, .slice A2 list.length c2] w (Made w (fieldsE list sizes) (fieldsB list sizes)) :=
  (join_own A1 A2 c1 c2 sizes list w hs hn hb hz hl).mono fun _ _ h => h.made

/-- 'join', whatever it is given. -/
theorem join_any (A1 A2 : Option Addr) (c1 c2 : Nat) (sizes list : List Int) (w : World) (hs : Ints w w.heap.size .i64 A1 sizes) (hn : Ints w w.heap.size .u64 A2 list)
    (hb : ∀ z ∈ list, 0 ≤ z ∧ z ≤ 18446744073709551615) :
    Calls Try.prog 31 #[.slice A1 sizes.length c1, .slice A2 list.length c2] w (Made w (fieldsE list sizes) (fieldsB list sizes)) := by
  by_cases h : szs sizes = false ∨ list.length ≠ sizes.length
  · have R := fieldsE_arg h
    rw [R.1, R.2]
    exact join_arg A1 A2 c1 c2 _ sizes list w hs h
  · have h1 : szs sizes = true := by
      cases e : szs sizes
      · exact absurd (Or.inl e) h
      · rfl
    have h2 : list.length = sizes.length := by
      rcases Nat.decEq list.length sizes.length with e | e
      · exact absurd (Or.inr e) h
      · exact e
    exact join_go A1 A2 c1 c2 sizes list w hs hn hb h1 h2

theorem Made.below {w0 w w' : World} {E : Int} {l : List Int} {e : Ending} (h : Made w E l e w') (hb : Below w0.heap.size w0 w) : Made w0 E l e w' := by
  obtain ⟨A, c, he, hc, hi, hw⟩ := h
  exact ⟨A, c, he, hc, hi, hb.trans (hw.mono hb.size)⟩

end Go.Proofs.Ytbmgiekiildaaaa
