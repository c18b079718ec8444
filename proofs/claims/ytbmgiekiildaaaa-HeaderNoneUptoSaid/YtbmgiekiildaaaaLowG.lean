/-
  The small functions of the layer pack: what each call answers. Conditions: what is said of each. 'join' of the layer pack: whatever the sizes and the numbers are, what it answers; nothing that was there is changed. 'Fields' of the layer pack: whatever it is given, what it answers; nothing that was there is changed. 'Put' of the layer pack: whatever the size and the number are, what it answers; nothing that was there is changed.
-/
import Derived.Test.YtbmgiekiildaaaaWordsG
import Derived.Test.YtbmgiekiildaaaaChecked
import Derived.Tactics
import Derived.Tactics2
import Derived.LoopTactic
import Derived.OpenShut
namespace Go.Proofs.Ytbmgiekiildaaaa
open Go.RowKit

/-- 'fits'. -/
theorem fits_any (n : Int) (s : Int) (w : World) (hn : 0 ≤ n ∧ n ≤ 18446744073709551615) (hs : 1 ≤ s ∧ s ≤ 8) :
    Calls Try.prog 38 #[.int .u64 n, .int .i64 s] w fun e w' => e = .returned (.bool (fitB n s)) ∧ w = w' := by
  go_enter Try.func38, Try.ntmps38
  go_wp2
  go_ret
  refine ⟨ret_bool ?_, rfl⟩
  obtain ⟨k, rfl⟩ : ∃ k : Nat, s = k := ⟨s.toNat, by omega⟩
  have e : ((8 : Int) * (k : Int)).toNat = 8 * k := by omega
  rw [e, pow_8]
  unfold fitB
  have hp := pow_pos k
  have hd : n / 256 ^ k = 0 ↔ n < 256 ^ k := by
    constructor
    · intro h
      have := Int.lt_ediv_add_one_mul_self n hp
      rw [h] at this
      omega
    · intro h; exact Int.ediv_eq_zero_of_lt hn.1 h
  rw [Int.toNat_natCast, Bool.eq_iff_iff]
  simp only [beq_iff_eq, decide_eq_true_eq]
  exact hd

/-- 'extent': all sizes are sound. -/
theorem extent_yes (A : Option Addr) (c B : Nat) (ss : List Int) (w : World) (hr : Ints w B .i64 A ss) (h : szs ss = true) :
    Calls Try.prog 37 #[.slice A ss.length c] w fun e w' => e = .returned (.tuple #[.int .i64 (total ss), .int .i64 0]) ∧ w = w' := by
  simp only [szs, Bool.and_eq_true, decide_eq_true_eq] at h
  obtain ⟨h1, h2⟩ := h
  have hh : ¬ (4096 < (ss.length : Int)) := by omega
  go_enter Try.func37, Try.ntmps37
  go_wp2
  go_loop [4, 12] (fun t i => ∃ k : Nat, k ≤ ss.length ∧ i = .int .i64 k ∧ t = .int .i64 (total (ss.take k))) (fun _ i => ss.length - (intOf i).toNat)
  case atStart => exact ⟨0, Nat.zero_le _, rfl, rfl⟩
  case round =>
    obtain ⟨k, hk, rfl, rfl⟩ := hrel
    by_cases hlt : k < ss.length
    · obtain ⟨b, off, rfl, _, hc⟩ := hr k hlt
      have hm : szOk (ss.getD k 0) = true := List.all_eq_true.1 h2 _ (getD_mem hlt)
      have hm2 : 1 ≤ ss.getD k 0 ∧ ss.getD k 0 ≤ 8 := by simpa only [szOk, decide_eq_true_eq] using hm
      have htk := take_snoc ss k hlt
      have htb := total_bd (ss.take k) (by rw [List.all_eq_true] at h2 ⊢; exact fun x hx => h2 x (List.mem_of_mem_take hx))
      have hln : (ss.take k).length = k := by simp; omega
      rw [hln] at htb
      have HT : Hid (total (ss.take (k + 1)) = total (ss.take k) + ss.getD k 0) := by rw [htk]; exact total_snoc _ _
      clear htk hln hm h2
      obtain ⟨x, hx⟩ : ∃ x, x = ss.getD k 0 := ⟨_, rfl⟩
      rw [← hx] at hc hm2 HT
      clear hx
      obtain ⟨hm3, hm4⟩ := hm2
      have hn1 : ¬ x < 1 := by omega
      have hn2 : ¬ 8 < x := by omega
      go_wp2
      go_round
      case rel => exact ⟨k + 1, by omega, by go_num, by rw [HT.out]⟩
      case measure => simp [intOf]; omega
    · have : k = ss.length := by omega
      subst this
      go_wp2
      go_ret2
      exact ⟨rfl, rfl⟩

/-- 'extent': too many sizes, or one that is not sound. -/
theorem extent_no (A : Option Addr) (c B : Nat) (ss : List Int) (w : World) (hr : Ints w B .i64 A ss) (h : szs ss = false) :
    Calls Try.prog 37 #[.slice A ss.length c] w fun e w' => e = .returned (.tuple #[.int .i64 0, .int .i64 1]) ∧ w = w' := by
  by_cases h4 : 4096 < ss.length
  · have hh : (4096 < (ss.length : Int)) := by omega
    go_enter Try.func37, Try.ntmps37
    go_wp2
    go_ret2
    exact ⟨rfl, rfl⟩
  · have hh : ¬ (4096 < (ss.length : Int)) := by omega
    have h2 : ss.all szOk = false := by
      unfold szs at h
      rw [decide_eq_true (by omega : ss.length ≤ 4096)] at h
      simpa using h
    have hb64 : ss.length ≤ 4096 := by omega
    clear h h4
    have H2 := Lib.hid h2
    clear h2
    go_enter Try.func37, Try.ntmps37
    go_wp2
    go_loop [4, 12] (fun t i => ∃ k : Nat, k ≤ ss.length ∧ i = .int .i64 k ∧ t = .int .i64 (total (ss.take k)) ∧ (ss.take k).all szOk = true) (fun _ i => ss.length - (intOf i).toNat)
    case atStart => exact ⟨0, Nat.zero_le _, rfl, rfl, rfl⟩
    case round =>
      obtain ⟨k, hk, rfl, rfl, hall⟩ := hrel
      by_cases hlt : k < ss.length
      · obtain ⟨b, off, rfl, _, hc⟩ := hr k hlt
        have htb := total_bd (ss.take k) hall
        have hln : (ss.take k).length = k := by simp; omega
        rw [hln] at htb
        have HT : Hid (total (ss.take (k + 1)) = total (ss.take k) + ss.getD k 0) := by rw [take_snoc ss k hlt]; exact total_snoc _ _
        have HA : Hid (szOk (ss.getD k 0) = true → (ss.take (k + 1)).all szOk = true) := fun hz => by
          rw [take_snoc ss k hlt, List.all_append, hall, List.all_cons, hz]; rfl
        clear hln hall
        obtain ⟨x, hx⟩ : ∃ x, x = ss.getD k 0 := ⟨_, rfl⟩
        rw [← hx] at hc HT HA
        clear hx
        by_cases ho : 1 ≤ x ∧ x ≤ 8
        · obtain ⟨hm3, hm4⟩ := ho
          have hn1 : ¬ x < 1 := by omega
          have hn2 : ¬ 8 < x := by omega
          go_wp2
          go_round
          case rel => exact ⟨k + 1, by omega, by go_num, by rw [HT.out], HA.out (by simp only [szOk, decide_eq_true_eq]; omega)⟩
          case measure => simp [intOf]; omega
        · clear HT HA htb
          by_cases hn1 : x < 1
          · go_wp2
            go_ret2
            exact ⟨rfl, rfl⟩
          · have hn2 : 8 < x := by omega
            clear ho
            go_wp2
            go_ret2
            exact ⟨rfl, rfl⟩
      · have : k = ss.length := by omega
        subst this
        rw [List.take_length] at hall
        have := H2.out
        rw [hall] at this
        cases this

theorem or_byte (v x : Int) (hv : 0 ≤ v ∧ v < 72057594037927936) (hx : 0 ≤ x ∧ x ≤ 255) : bits .or .u64 (v * 256) x = v * 256 + x := by
  rw [u64_or _ _ (by omega) (by omega) (by omega) (by omega), nat_join 8 _ _ (by omega) (by omega)]
  omega

/-- 'number'. -/
theorem number_any (A : Option Addr) (c B : Nat) (zs : List Int) (w : World) (hr : Ints w B .u8 A zs) (hz : ∀ z ∈ zs, 0 ≤ z ∧ z ≤ 255) (h8 : zs.length ≤ 8) :
    Calls Try.prog 41 #[.slice A zs.length c] w fun e w' => e = .returned (.int .u64 (valOf zs)) ∧ w = w' := by
  have HZ := Lib.hid hz
  clear hz
  go_enter Try.func41, Try.ntmps41
  go_wp2
  go_loop [3, 8] (fun t i => ∃ k : Nat, k ≤ zs.length ∧ i = .int .i64 k ∧ t = .int .u64 (valOf (zs.take k))) (fun _ i => zs.length - (intOf i).toNat)
  case atStart => exact ⟨0, Nat.zero_le _, rfl, rfl⟩
  case round =>
    obtain ⟨k, hk, rfl, rfl⟩ := hrel
    by_cases hlt : k < zs.length
    · obtain ⟨b, off, rfl, _, hc⟩ := hr k hlt
      have hx := HZ.out _ (getD_mem hlt)
      have hv := valOf_bd (zs.take k) fun z hz => HZ.out z (List.mem_of_mem_take hz)
      have hln : (zs.take k).length = k := by simp; omega
      rw [hln] at hv
      have hp := pow_le7 k (by omega)
      have HT : Hid (valOf (zs.take (k + 1)) = valOf (zs.take k) * 256 + zs.getD k 0) := by rw [take_snoc zs k hlt]; exact valOf_snoc _ _
      obtain ⟨x, hx'⟩ : ∃ x, x = zs.getD k 0 := ⟨_, rfl⟩
      rw [← hx'] at hc HT hx
      obtain ⟨v, hv'⟩ : ∃ v, v = valOf (zs.take k) := ⟨_, rfl⟩
      rw [← hv'] at HT hv ⊢
      have hv1 : v < 72057594037927936 := by omega
      clear hx' hv' hln hp
      obtain ⟨hv0, _⟩ := hv
      obtain ⟨hx0, hx1⟩ := hx
      go_wp2
      go_round
      case rel => exact ⟨k + 1, by omega, by go_num, by rw [HT.out, or_byte v x ⟨hv0, hv1⟩ ⟨hx0, hx1⟩]⟩
      case measure => simp [intOf]; omega
    · have : k = zs.length := by omega
      subst this
      go_wp2
      go_ret
      exact ⟨rfl, rfl⟩

theorem Try.infoU8 : (Try.prog.info? 5).map (fun i => (i.zero, i.size, i.bytes)) = some (some (.int .u8 0), 1, 1) := by kernel_rfl

set_option maxRecDepth 20000 in
/-- 'add'. -/
theorem add_any (base : Nat) (v : Value) (xs : List Int) (n : Int) (s : Nat) (w : World) (hown : w.ownsRow base 5 1 v xs.length (xs.map (Value.int .u8))) (hb : base ≤ w.heap.size)
    (hs : 1 ≤ s ∧ s ≤ 8) (hx : xs.length ≤ 1000000) :
    Calls Try.prog 39 #[v, .int .u64 n, .int .i64 s] w fun e w' =>
      ∃ v', e = .returned v' ∧ w'.ownsRow base 5 1 v' (xs ++ bytesOf n s).length ((xs ++ bytesOf n s).map (Value.int .u8)) ∧ Below base w w' := by
  obtain ⟨i0, hi, hz0, hz1, hz2⟩ := info_parts Try.infoU8
  go_enter Try.func39, Try.ntmps39
  go_wp2
  go_loopw [0, 7] (fun v i wr => ∃ k : Nat, k ≤ s ∧ i = .int .i64 (8 * ((s : Int) - 1 - k)) ∧ wr.ownsRow base 5 1 v (xs ++ bytesTo n s k).length ((xs ++ bytesTo n s k).map (Value.int .u8)) ∧ Below base w wr)
    (fun _ i _ => (intOf i + 8).toNat)
  case atStart => exact ⟨0, Nat.zero_le _, by go_num, by simpa [bytesTo_zero] using hown, Below.refl _ _⟩
  case round =>
    obtain ⟨k, hk, rfl, hownr, hbel⟩ := hrel
    by_cases hlt : k < s
    · obtain ⟨sh, hsh⟩ : ∃ sh : Int, sh = 8 * ((s : Int) - 1 - k) := ⟨_, rfl⟩
      rw [← hsh]
      have hsh0 : 0 ≤ sh := by omega
      have hsh1 : sh ≤ 56 := by omega
      have HS := Lib.hid hsh
      clear hsh
      have hln : (xs ++ bytesTo n s k).length ≤ 1000008 := by rw [List.length_append, bytesTo_len]; omega
      obtain ⟨ys, hys⟩ : ∃ ys, ys = xs ++ bytesTo n s k := ⟨_, rfl⟩
      rw [← hys] at hln hownr
      have HY := Lib.hid hys
      clear hys
      go_wp2_with (at_builtin; refine wpList_append_own_at _ rfl _ _ 24 rfl base 5 i0 (.int .u8 0) 1 1 Try.underlying24 hi hz0 hz1 hz2 rfl (by decide) _ _ _ rfl (hownr.alloc _) ⟨wr.heap.size, 0, none⟩ 1 1 [_] rfl rfl (cell_one_new _ _ _) ?c2 ?c3 ?c4 ?c5 ?_)
      case c2 => intro u hu; simp at hu; subst hu; rfl
      case c3 => unfold maxLen; omega
      case c4 => omega
      case c5 => have := hbel.size; simp; omega
      intro v1 w1 hown1 hgrow _ _
      have R : w1.ownsRow base 5 1 v1 (xs ++ bytesTo n s (k + 1)).length ((xs ++ bytesTo n s (k + 1)).map (Value.int .u8)) ∧ Below base w w1 := by
        have e1 : xs ++ bytesTo n s (k + 1) = ys ++ [n / 2 ^ sh.toNat % 256] := by
          rw [bytesTo_succ, HY.out, List.append_assoc, HS.out, show (8 * ((s : Int) - 1 - k)).toNat = 8 * (s - 1 - k) by omega, pow_8]
        rw [e1, List.length_append, List.map_append]
        refine ⟨hown1, (hbel.alloc (Nat.le_trans hb hbel.size) _).grown hgrow (by have := hbel.size; simp; omega) fun q hq => ?_⟩
        exact (hownr.lt q hq).1
      clear hown1 hgrow hownr hbel
      go_wp2
      go_roundw
      case rel => exact ⟨k + 1, by omega, by have := HS.out; go_num, R.1, R.2⟩
      case measure => have := HS.out; simp [intOf]; omega
    · have : k = s := by omega
      subst this
      go_wp2
      go_ret
      exact ⟨_, rfl, hownr, hbel⟩

end Go.Proofs.Ytbmgiekiildaaaa

namespace Go.Proofs.Ytbmgiekiildaaaa
open Go.RowKit

theorem Made.nil {w w' : World} {E : Int} (hb : Below w.heap.size w w') : Made w E [] (.returned (.tuple #[.slice none 0 0, .int .i64 E])) w' :=
  ⟨none, 0, rfl, Nat.le_refl _, Ints.nil _ _ _ _, hb⟩
/-- The sizes, or how many there are, are refused. -/
theorem join_arg (A1 A2 : Option Addr) (c1 c2 B : Nat) (sizes list : List Int) (w : World) (hs : Ints w B .i64 A1 sizes) (h : szs sizes = false ∨ list.length ≠ sizes.length) :
    Calls Try.prog 31 #[.slice A1 sizes.length c1, .slice A2 list.length c2] w (Made w 1 []) := by
  by_cases hz : szs sizes = false
  · go_enter Try.func31, Try.ntmps31
    go_wp2_with (go_at_call 37; refine (extent_no A1 c1 B sizes _ hs hz).mono ?_; rintro e w' ⟨rfl, rfl⟩)
    go_ret2
    exact Made.nil (Below.refl _ _)
  · have hz' : szs sizes = true := by simpa using hz
    have hl : list.length ≠ sizes.length := h.resolve_left hz
    have hl1 : ((list.length : Int) == (sizes.length : Int)) = false := by simp; omega
    have hl2 : ((list.length : Int) != (sizes.length : Int)) = true := by simp; omega
    clear h hz hl
    have HZ := Lib.hid hz'
    clear hz'
    go_enter Try.func31, Try.ntmps31
    go_wp2_with (go_at_call 37; refine (extent_yes A1 c1 B sizes _ hs HZ.out).mono ?_; rintro e w' ⟨rfl, rfl⟩)
    go_ret2
    exact Made.nil (Below.refl _ _)

/-- The same, and the bytes lie in a row of the call's own. -/
def MadeOwn (w : World) (E : Int) (l : List Int) (e : Ending) (w' : World) : Prop :=
  ∃ A c, e = .returned (.tuple #[.slice A l.length c, .int .i64 E]) ∧ l.length ≤ c ∧ Ints w' w'.heap.size .u8 A l ∧ Below w.heap.size w w' ∧ (E = 0 → w'.ownsRow w.heap.size 5 1 (.slice A l.length c) l.length (l.map (Value.int .u8)))
theorem MadeOwn.made {w w' : World} {E : Int} {l : List Int} {e : Ending} (h : MadeOwn w E l e w') : Made w E l e w' := by
  obtain ⟨A, c, h1, h2, h3, h4, _⟩ := h
  exact ⟨A, c, h1, h2, h3, h4⟩
set_option maxHeartbeats 800000 in
/-- The sizes are sound, as many as the numbers. -/
theorem join_own (A1 A2 : Option Addr) (c1 c2 : Nat) (sizes list : List Int) (w : World) (hs : Ints w w.heap.size .i64 A1 sizes) (hn : Ints w w.heap.size .u64 A2 list)
    (hb : ∀ z ∈ list, 0 ≤ z ∧ z ≤ 18446744073709551615) (hz : szs sizes = true) (hl : list.length = sizes.length) :
    Calls Try.prog 31 #[.slice A1 sizes.length c1, .slice A2 list.length c2] w (MadeOwn w (fieldsE list sizes) (fieldsB list sizes)) := by
  obtain ⟨i0, hi, hz0, hz1, hz2⟩ := info_parts Try.infoU8
  have hz3 := hz
  simp only [szs, Bool.and_eq_true, decide_eq_true_eq] at hz3
  obtain ⟨hz4, hz5⟩ := hz3
  have htot := total_bd sizes hz5
  obtain ⟨T, hT⟩ : ∃ T : Nat, (T : Int) = total sizes := ⟨(total sizes).toNat, by omega⟩
  have hT1 : T ≤ 32768 := by omega
  have HT := Lib.hid hT
  have HZ := Lib.hid hz
  have HZ5 := Lib.hid hz5
  have HL := Lib.hid hl
  have HB := Lib.hid hb
  have hext : ∀ W : World, Ints W w.heap.size .i64 A1 sizes → Calls Try.prog 37 #[.slice A1 sizes.length c1] W fun e w' => e = .returned (.tuple #[.int .i64 T, .int .i64 0]) ∧ W = w' := fun W hW => by
    have := extent_yes A1 c1 w.heap.size sizes W hW hz
    rw [← hT] at this
    exact this
  have hl1 : ((list.length : Int) == (sizes.length : Int)) = true := by simp; omega
  have hl2 : ((list.length : Int) != (sizes.length : Int)) = false := by simp; omega
  have hlb : list.length ≤ 4096 := by omega
  clear hT hz hz5 hl hb htot
  have HX := Lib.hid hext
  clear hext
  go_enter Try.func31, Try.ntmps31
  go_wp2_with (first
    | (go_at_call 37; refine (HX.out _ hs).mono ?_; rintro e w' ⟨rfl, rfl⟩)
    | (at_make; refine wpList_make_own _ rfl _ _ 24 rfl w.heap.size 5 i0 (.int .u8 0) 1 Try.underlying24 hi hz0 hz1 .i64 .i64 (T : Int) T rfl rfl rfl (by rw [hz2]; omega) (by unfold maxLen; omega) (Nat.le_refl _) ?_; intro w1 hown1 hg1))
  have hbel1 : Below w.heap.size w w1 := (Below.refl _ _).grown hg1 (Nat.le_refl _) (fun _ h => by cases h)
  clear hg1
  go_loopw [8, 28] (fun v i wr => ∃ k : Nat, k ≤ list.length ∧ i = .int .i64 k ∧ wr.ownsRow w.heap.size 5 1 v (fieldsTo list sizes k).length ((fieldsTo list sizes k).map (Value.int .u8)) ∧
      Below w.heap.size w wr ∧ Hid (((list.zip sizes).take k).all (fun p => fitB p.1 p.2) = true)) (fun _ i _ => list.length - (intOf i).toNat)
  case atStart => exact ⟨0, Nat.zero_le _, rfl, by simpa [fieldsTo_zero] using hown1, hbel1, by simp [Hid]⟩
  case round =>
    obtain ⟨k, hk, rfl, hown, hbel, hall⟩ := hrel
    clear hown1 hbel1
    by_cases hlt : k < list.length
    · have hlt2 : k < sizes.length := by have := HL.out; omega
      obtain ⟨b1, o1, rfl, _, hc1⟩ := hs.below hbel k hlt2
      obtain ⟨b2, o2, rfl, _, hc2⟩ := hn.below hbel k hlt
      have hm : szOk (sizes.getD k 0) = true := List.all_eq_true.1 HZ5.out _ (getD_mem hlt2)
      have hm2 : 1 ≤ sizes.getD k 0 ∧ sizes.getD k 0 ≤ 8 := by simpa only [szOk, decide_eq_true_eq] using hm
      have hx := HB.out _ (getD_mem hlt)
      have hfl := fieldsTo_len list sizes HZ5.out k
      have HF := Lib.hid (fieldsTo_succ list sizes k hlt hlt2)
      have HA := Lib.hid (zip_take_snoc list sizes k hlt hlt2)
      have HR := Lib.hid (fieldsE_range HZ.out HL.out k hlt)
      obtain ⟨x, hx'⟩ : ∃ x, x = list.getD k 0 := ⟨_, rfl⟩
      obtain ⟨s, hs'⟩ : ∃ s : Nat, (s : Int) = sizes.getD k 0 := ⟨(sizes.getD k 0).toNat, by omega⟩
      rw [← hx'] at hc2 hx HF HA HR
      rw [← hs'] at hc1 hm2 HF HA HR
      clear hx' hs' hm
      obtain ⟨ys, hys⟩ : ∃ ys, ys = fieldsTo list sizes k := ⟨_, rfl⟩
      rw [← hys] at hown hfl HF
      clear hys
      by_cases hf : fitB x s = true
      · go_wp2_with (first
          | (go_at_call 38; refine (fits_any x s _ hx hm2).mono ?_; rintro e w' ⟨rfl, rfl⟩)
          | (go_at_call 39; refine (add_any w.heap.size _ ys x s _ hown hbel.size (by omega) (by omega)).mono ?_; rintro e w2 ⟨v2, rfl, hown2, hbel2⟩))
        go_roundw
        case rel =>
          refine ⟨k + 1, by omega, by go_num, ?_, hbel.trans hbel2, ?_⟩
          · rw [HF.out]; exact hown2
          · unfold Hid; rw [HA.out, List.all_append, hall.out, List.all_cons, hf]; rfl
        case measure => simp [intOf]; omega
      · have hf' : fitB x s = false := by simpa using hf
        clear hf
        go_wp2_with (go_at_call 38; refine (fits_any x s _ hx hm2).mono ?_; rintro e w' ⟨rfl, rfl⟩)
        go_ret2
        have R := HR.out hf'
        rw [R.1, R.2]
        exact ⟨none, 0, rfl, Nat.le_refl _, Ints.nil _ _ _ _, hbel, fun h => by cases h⟩
    · have : k = list.length := by omega
      subst this
      go_wp2
      go_ret2
      have R := fieldsE_ok HZ.out HL.out hall.out
      obtain ⟨A, c, hv⟩ := own_slice hown
      subst hv
      rw [R.1, R.2]
      exact ⟨A, c, rfl, own_le hown, Ints.of_own hown, hbel, fun _ => hown⟩

theorem join_go (A1 A2 : Option Addr) (c1 c2 : Nat) (sizes list : List Int) (w : World) (hs : Ints w w.heap.size .i64 A1 sizes) (hn : Ints w w.heap.size .u64 A2 list)
    (hb : ∀ z ∈ list, 0 ≤ z ∧ z ≤ 18446744073709551615) (hz : szs sizes = true) (hl : list.length = sizes.length) :
    Calls Try.prog 31 #[.slice A1 sizes.length c1, .slice A2 list.length c2] w (Made w (fieldsE list sizes) (fieldsB list sizes)) :=
  (join_own A1 A2 c1 c2 sizes list w hs hn hb hz hl).mono fun _ _ h => h.made

/-- 'join', whatever it is given. -/
theorem join_any (A1 A2 : Option Addr) (c1 c2 : Nat) (sizes list : List Int) (w : World) (hs : Ints w w.heap.size .i64 A1 sizes) (hn : Ints w w.heap.size .u64 A2 list)
    (hb : ∀ z ∈ list, 0 ≤ z ∧ z ≤ 18446744073709551615) :
    Calls Try.prog 31 #[.slice A1 sizes.length c1, .slice A2 list.length c2] w (Made w (fieldsE list sizes) (fieldsB list sizes)) := by
  by_cases h : szs sizes = false ∨ list.length ≠ sizes.length
  · have R := fieldsE_arg h
    rw [R.1, R.2]
    exact join_arg A1 A2 c1 c2 _ sizes list w hs h
  · have h1 : szs sizes = true := by
      cases e : szs sizes
      · exact absurd (Or.inl e) h
      · rfl
    have h2 : list.length = sizes.length := by
      rcases Nat.decEq list.length sizes.length with e | e
      · exact absurd (Or.inr e) h
      · exact e
    exact join_go A1 A2 c1 c2 sizes list w hs hn hb h1 h2

theorem Made.below {w0 w w' : World} {E : Int} {l : List Int} {e : Ending} (h : Made w E l e w') (hb : Below w0.heap.size w0 w) : Made w0 E l e w' := by
  obtain ⟨A, c, he, hc, hi, hw⟩ := h
  exact ⟨A, c, he, hc, hi, hb.trans (hw.mono hb.size)⟩

end Go.Proofs.Ytbmgiekiildaaaa

namespace Go.Proofs.Ytbmgiekiildaaaa
open Go.RowKit

/-- 'Fields'. -/
theorem fields_any (A1 A2 : Option Addr) (c1 c2 : Nat) (sizes list : List Int) (w : World) (hs : Ints w w.heap.size .i64 A1 sizes) (hn : Ints w w.heap.size .u64 A2 list)
    (hb : ∀ z ∈ list, 0 ≤ z ∧ z ≤ 18446744073709551615) :
    Calls Try.prog 18 #[.slice A2 list.length c2, .slice A1 sizes.length c1] w (Made w (fieldsE list sizes) (fieldsB list sizes)) := by
  have HJ := Lib.hid (join_any A1 A2 c1 c2 sizes list w hs hn hb)
  clear hb
  go_enter Try.func18, Try.ntmps18
  go_wp2_with (go_at_call 31; refine Calls.mono HJ.out ?_; rintro e w1 ⟨A, c, rfl, hcap, hi, hbel⟩)
  go_ret2
  exact ⟨A, c, rfl, hcap, hi, hbel⟩

/-- 'Fields', where it refuses nothing: the bytes lie in a row of the call's own. -/
theorem fields_own (A1 A2 : Option Addr) (c1 c2 : Nat) (sizes list : List Int) (w : World) (hs : Ints w w.heap.size .i64 A1 sizes) (hn : Ints w w.heap.size .u64 A2 list)
    (hb : ∀ z ∈ list, 0 ≤ z ∧ z ≤ 18446744073709551615) (hz : szs sizes = true) (hl : list.length = sizes.length) :
    Calls Try.prog 18 #[.slice A2 list.length c2, .slice A1 sizes.length c1] w (MadeOwn w (fieldsE list sizes) (fieldsB list sizes)) := by
  have HJ := Lib.hid (join_own A1 A2 c1 c2 sizes list w hs hn hb hz hl)
  clear hb hz hl
  go_enter Try.func18, Try.ntmps18
  go_wp2_with (go_at_call 31; refine Calls.mono HJ.out ?_; rintro e w1 ⟨A, c, rfl, hcap, hi, hbel, hown⟩)
  go_ret2
  exact ⟨A, c, rfl, hcap, hi, hbel, hown⟩

end Go.Proofs.Ytbmgiekiildaaaa

namespace Go.Proofs.Ytbmgiekiildaaaa
open Go.RowKit

/-- 'Put'. -/
theorem put_any (n s : Int) (w : World) (hn : 0 ≤ n ∧ n ≤ 18446744073709551615) :
    Calls Try.prog 21 #[.int .u64 n, .int .i64 s] w (Made w (fieldsE [n] [s]) (fieldsB [n] [s])) := by
  have HJ : ∀ t1 t2 : Nat, Hid (Calls Try.prog 31 #[.slice (some ⟨w.heap.size, 0, none⟩) 1 1, .slice (some ⟨w.heap.size + 1, 0, none⟩) 1 1] ((w.alloc (.cells #[.int .i64 s] t1)).alloc (.cells #[.int .u64 n] t2))
      (Made w (fieldsE [n] [s]) (fieldsB [n] [s]))) := fun t1 t2 => by
    have hb : Below w.heap.size w ((w.alloc (.cells #[.int .i64 s] t1)).alloc (.cells #[.int .u64 n] t2)) := ((Below.refl _ _).alloc (Nat.le_refl _) _).alloc (by simp) _
    refine Calls.mono (join_any (some ⟨w.heap.size, 0, none⟩) (some ⟨w.heap.size + 1, 0, none⟩) 1 1 [s] [n] _ ?_ ?_ ?_) fun e w' h => h.below hb
    · exact ((Ints.new w t1 .i64 [s] #[.int .i64 s] rfl).alloc (by simp) _).more (by simp)
    · have := Ints.new (w.alloc (.cells #[.int .i64 s] t1)) t2 .u64 [n] #[.int .u64 n] rfl
      simp only [World.size_alloc] at this ⊢
      exact this
    · intro z hz
      simp only [List.mem_singleton] at hz
      subst hz; exact hn
  go_enter Try.func21, Try.ntmps21
  go_wp2_with (go_at_call 31; refine Calls.mono (HJ _ _).out ?_; rintro e w1 ⟨A, c, rfl, hcap, hi, hbel⟩)
  go_ret2
  exact ⟨A, c, rfl, hcap, hi, hbel⟩

end Go.Proofs.Ytbmgiekiildaaaa
