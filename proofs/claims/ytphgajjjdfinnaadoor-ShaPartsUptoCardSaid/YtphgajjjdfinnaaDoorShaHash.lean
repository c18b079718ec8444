/-
  ShaBytes as a walk, from what is asked of the layer's calls.
-/
import Derived.Test.YtphgajjjdfinnaaDoorShaLaws
namespace Go.Proofs.YtphgajjjdfinnaaDoor
open Go.RowKit

/-- One byte of a slice, as a slice. -/
theorem ints_byte {w : World} {B : Nat} {b : List Nat} {blk off k : Nat} (hr : Ints w B .u8 (some ⟨blk, off, none⟩) (up b)) (hk : k < b.length) : Ints w B .u8 (some ⟨blk, off + k, none⟩) (up [b.getD k 0]) := fun i hi => by
  rw [up_len, List.length_singleton] at hi
  obtain ⟨b2, o2, e, hb, hcell⟩ := hr k (by rw [up_len]; exact hk)
  obtain ⟨rfl, rfl⟩ : blk = b2 ∧ off = o2 := by simpa using e
  have h0 : i = 0 := by omega
  subst h0
  refine ⟨blk, off + k, rfl, hb, ?_⟩
  rw [Nat.add_zero, hcell, up_getD]
  rfl
theorem take_next (b : List Nat) (k : Nat) (h : k < b.length) : b.take k ++ [b.getD k 0] = b.take (k + 1) := by
  rw [List.take_add_one, List.getElem?_eq_getElem h, List.getD_eq_getElem?_getD, List.getElem?_eq_getElem h]; rfl

theorem shaBytes_go {R : World → (Nat → Prop) → Addr → List Nat → Prop} (A : Option Addr) (c : Nat) (b : List Nat) (w : World) (HH : HashSpec w R) (HD : DigestSpec w) (hr : Ints w w.heap.size .u8 A (up b)) (hA : A = none → c = 0) (hb : ∀ x ∈ b, x < 256) (hc : b.length ≤ c) (hm : b.length ≤ 140737488355000) :
    Calls Tryd.prog 6 #[.slice A b.length c] w fun e w' => e = .returned (.bool true) ∧ Below w.heap.size w w' := by
  obtain ⟨i0, hi, hz0, hz1, hz2⟩ := info_parts Tryd.infoU8'
  have HA := Lib.hid (shaAwake HD)
  have HN := Lib.hid HH.new
  have HB := Lib.hid hb
  have HRR := Lib.hid hr
  have HAA := Lib.hid hA
  clear hb hr hA
  go_enter Tryd.func6, Tryd.ntmps6
  go_upto_if 7 with fail
  go_cut [0] (fun s wx => (∃ b' : List Nat, s = .slice A b'.length c ∧ b'.length ≤ 300 ∧ b'.length ≤ c ∧ Ints w w.heap.size .u8 A (up b') ∧ ∀ x ∈ b', x < 256) ∧ wx = w)
  case first =>
    by_cases h3 : (300 : Int) < b.length
    · go_wp2
      go_meet
      refine ⟨⟨b.take 300, by rw [List.length_take, show min 300 b.length = 300 by omega], by rw [List.length_take]; omega, by rw [List.length_take]; omega, ?_, fun x hx => HB.out x (List.mem_of_mem_take hx)⟩, rfl⟩
      have := HRR.out.take 300
      simpa [up] using this
    · go_wp2
      go_meet
      exact ⟨⟨b, rfl, by omega, hc, HRR.out, HB.out⟩, rfl⟩
  case rest =>
    obtain ⟨⟨b', rfl, h300, hcb, hrb, hbb⟩, hw⟩ := hcut
    have hw' := hw.symm
    subst hw'
    have HB' := Lib.hid hbb
    have HR' := Lib.hid hrb
    obtain ⟨n, hn⟩ : ∃ n, n = b'.length := ⟨_, rfl⟩
    rw [← hn] at h300 hcb ⊢
    have HNN := Lib.hid hn
    clear hbb hrb hn hm hc
    go_wp2_with (first
      | (go_at_call 10; refine Calls.mono (HN.out _ (Below.refl _ _)) ?_; rintro e w1 ⟨a, F, rfl, hR, hF, hb1⟩))
    have HR1 := Lib.hid hR
    have HF1 := Lib.hid hF
    have HB1 := Lib.hid hb1
    clear hR hF hb1
    go_loopw [4] (fun i wr => ∃ k : Nat, k ≤ n ∧ i = .int .i64 k ∧ ∃ F : Nat → Prop, R wr F a (b'.take k) ∧ (∀ q, F q → w.heap.size ≤ q ∧ q < wr.heap.size) ∧ Below w.heap.size w wr) (fun i _ => n - (intOf i).toNat)
    case atStart => exact ⟨0, Nat.zero_le _, rfl, F, by rw [List.take_zero]; exact HR1.out, HF1.out, HB1.out⟩
    case round =>
      obtain ⟨k, hk, rfl, F, hR, hF, hbel⟩ := hrel
      by_cases hlt : k < n
      · have hlt' : k < b'.length := by have := HNN.out; omega
        obtain ⟨blk, off, e1, hblk, _⟩ := HR'.out k (by rw [up_len]; exact hlt')
        have hr1 := HR'.out
        rw [e1] at hr1
        have h1 := (ints_byte hr1 hlt').below hbel
        have H := HH.write wr F a (b'.take k) (some ⟨blk, off + k, none⟩) (c - k) w.heap.size [b'.getD k 0] hbel hR hF hbel.size h1 (fun h => by cases h)
          (by intro x hx; simp only [List.mem_singleton] at hx; subst hx; exact getD_lt (by decide) HB'.out k) (by simp; omega) (by rw [List.length_take, List.length_singleton]; omega)
        rw [take_next b' k hlt'] at H
        have HW := Lib.hid H
        have HFF := Lib.hid hF
        obtain rfl := e1
        have hq3 : ¬ c = k := by omega
        have hq4 : k + 1 ≤ c := by omega
        clear H h1 hr1 hR hF hlt'
        go_wp2_with (go_at_call 11; refine Calls.mono HW.out ?_; rintro e w1 ⟨rfl, F2, hR2, hF2, hoff⟩)
        go_roundw
        case rel => exact ⟨k + 1, by omega, by go_num, F2, hR2, fun q hq => ⟨by rcases (hF2 q hq).1 with h | h; exact (HFF.out q h).1; exact Nat.le_trans hbel.size h, (hF2 q hq).2⟩, hoff.below hbel fun q hq => (HFF.out q hq).1⟩
        case measure => simp [intOf]; omega
      · have hkn : k = n := by omega
        subst hkn
        have et : b'.take k = b' := List.take_of_length_le (by have := HNN.out; omega)
        rw [et] at hR
        have H := HH.write wr F a b' none 0 w.heap.size [] hbel hR hF hbel.size (Ints.nil _ _ _ _) (fun _ => rfl) (by intro x hx; cases hx) (Nat.le_refl _) (by have := HNN.out; simp; omega)
        rw [List.append_nil] at H
        have HW := Lib.hid H
        have HFF := Lib.hid hF
        clear H hR hF et
        have HDD : Hid (∀ w1, Below w.heap.size w w1 → Calls Tryd.prog 7 #[.slice A (k : Int).toNat c] w1 fun e w' => e = .returned (.agg (BA (digestN b'))) ∧ Below w1.heap.size w1 w') := fun w1 h1 => by
          have h := HD A c b' w1 h1 ((HR'.out.below h1).more h1.size) HAA.out HB'.out (by have := HNN.out; omega) (by have := HNN.out; omega)
          rw [← HNN.out] at h
          exact h
        rw [Int.toNat_natCast] at HDD
        have HSUM : Hid (∀ (w1 : World) (F : Nat → Prop), Below w.heap.size w w1 → R w1 F a b' → (∀ q, F q → q < w1.heap.size) → Calls Tryd.prog 12 #[.pointer (some a)] w1 fun e w' => e = .returned (.agg (BA (digestN b'))) ∧ ∃ F', R w' F' a b' ∧ (∀ q, F' q → (F q ∨ w1.heap.size ≤ q) ∧ q < w'.heap.size) ∧ Off F w1 w') :=
          fun w F h0 h1 h2 => HH.sum w F a b' h0 h1 h2 HB'.out (by have := HNN.out; omega)
        obtain ⟨D, hD⟩ : ∃ D, D = BA (digestN b') := ⟨_, rfl⟩
        rw [← hD] at HDD HSUM
        have heq : ∀ w : World, (Op.equalIn 10000 23 (.agg D) (.agg D)).run Tryd.prog w = .ok true w := fun w => by
          have := run_eqArrays (P := Tryd.prog) (t := 23) (e := 5) (n := 32) (i := i0) (by kernel_rfl) Tryd.underlying5 Tryd.underlying23 hi hz1 (digestN b') (digestN b') rfl rfl w
          rw [← hD] at this
          rw [this, beq_self_eq_true]
        clear hD
        go_wp2_with (first
          | (go_at_call 11; refine Calls.mono HW.out ?_; rintro e w1 ⟨rfl, F1, hR1, hF1, hoff1⟩; have hbel1 := hoff1.below hbel (fun q hq => (HFF.out q hq).1); have hG1 : ∀ q, F1 q → w.heap.size ≤ q := fun q hq => (hF1 q hq).1.elim (fun h => (HFF.out q h).1) (Nat.le_trans hbel.size))
          | (go_at_call 8; refine Calls.mono (HA.out _ hbel1) ?_; rintro e w2 ⟨rfl, hb2⟩; have hR2 := HH.keep _ w2 _ _ _ hR1 (fun q hq => hb2.block q (hF1 q hq).2); have hbel2 := chain hbel1 hb2; have hF2 : ∀ q, F1 q → q < w2.heap.size := fun q hq => Nat.lt_of_lt_of_le (hF1 q hq).2 hb2.size)
          | (go_at_call 12; refine Calls.mono (HSUM.out _ _ hbel4 hR4 hF4) ?_; rintro e w5 ⟨rfl, F5, hR5, hF5, hoff5⟩; have hbel5 := hoff5.below hbel4 hG4)
          | (go_at_call 12; refine Calls.mono (HSUM.out _ _ hbel2 hR2 hF2) ?_; rintro e w3 ⟨rfl, F3, hR3, hF3, hoff3⟩; have hbel3 := hoff3.below hbel2 hG1)
          | (go_at_call 7; refine Calls.mono (HDD.out _ hbel5) ?_; rintro e w6 ⟨rfl, hb6⟩)
          | (go_at_call 7; refine Calls.mono (HDD.out _ hbel3) ?_; rintro e w4 ⟨rfl, hb4⟩; have hR4 := HH.keep _ w4 _ _ _ hR3 (fun q hq => hb4.block q (hF3 q hq).2); have hbel4 := chain hbel3 hb4; have hF4 : ∀ q, F3 q → q < w4.heap.size := (fun q hq => Nat.lt_of_lt_of_le (hF3 q hq).2 hb4.size); have hG4 : ∀ q, F3 q → w.heap.size ≤ q := fun q hq => (hF3 q hq).1.elim (hG1 q) (Nat.le_trans hbel2.size)))
        go_ret
        exact ⟨rfl, chain hbel5 hb6⟩

end Go.Proofs.YtphgajjjdfinnaaDoor
