/-
  ClockFirst, ClockNone.
-/
import Derived.Test.YtdfalnjdjkoofaaClockSpec
namespace Go.Proofs.Ytdfalnjdjkoofaa
open Go.RowKit

/-- k places, the first i of them taken. -/
def stK (k : Nat) : Nat → Ck
  | 0 => newC k
  | i + 1 => putS (stK k i) (i : Int)
def firstB (s : Ck) (x : Nat) : Bool := putA s 1000 == (x : Int) && (putE s 1000 == 0) && (putE (putS s 1000) 1001 == 6) && (touchE (putS s 1000) (x : Int) == 4) && (touchE (dropS (putS (putS s 1000) 1001) (x : Int)) 1000 == 0) && (touchE (putS (putS s 1000) 1001) (x : Int) == 4)
theorem st_puts : ∀ k, k < 21 → ∀ i, i < k → putA (stK k i) (i : Int) = (i : Int) ∧ putE (stK k i) (i : Int) = 0 := by decide +kernel
theorem st_first : ∀ k, k < 21 → ∀ x, x < k → leaveN (stK k k) [(x : Int)] = (x : Int) ∧ leaveE (stK k k) [(x : Int)] = 0 ∧ touchE (stK k k) (x : Int) = 0 ∧ firstB (leaveS (stK k k) [(x : Int)]) x = true ∧ firstB (dropS (stK k k) (x : Int)) x = true := by decide +kernel
theorem firstB_iff {s : Ck} {x : Nat} (h : firstB s x = true) : putA s 1000 = (x : Int) ∧ putE s 1000 = 0 ∧ putE (putS s 1000) 1001 = 6 ∧ touchE (putS (putS s 1000) 1001) (x : Int) = 4 ∧ touchE (dropS (putS (putS s 1000) 1001) (x : Int)) 1000 = 0 := by
  unfold firstB at h
  simp only [Bool.and_eq_true, beq_iff_eq] at h
  exact ⟨h.1.1.1.1.1, h.1.1.1.1.2, h.1.1.1.2, h.2, h.1.2⟩

section
variable {w : World} {Rep : World → Nat → (Nat → Prop) → Ck → Prop}
/-- A ring of one's own. -/
def OwnK (Rep : World → Nat → (Nat → Prop) → Ck → Prop) (w W : World) (p : Nat) (s : Ck) : Prop := ∃ F, Rep W p F s ∧ (∀ b, F b → w.heap.size ≤ b) ∧ Below w.heap.size w W
theorem own_put (HS : ClockSpec w Rep) {W : World} {p : Nat} {s : Ck} {n : Int} (h : OwnK Rep w W p s) (hn : I64c n) : Calls Try.prog 11 #[.pointer (some ⟨p, 0, none⟩), .int .i64 n] W fun e w' => e = .returned (.tuple #[.int .i64 (putA s n), .int .i64 (putE s n)]) ∧ OwnK Rep w w' p (putS s n) := by
  obtain ⟨F, hr, hF, hb⟩ := h
  exact (HS.put n p F s W hb hn hr hF).mono fun e w' ⟨F', q1, q2, q3, q4⟩ => ⟨q1, F', q2, fun b q => (q3 b q).elim (hF b) (fun q => Nat.le_trans hb.size q), q4.below hF hb hb.size⟩
theorem own_touch (HS : ClockSpec w Rep) {W : World} {p : Nat} {s : Ck} {n : Int} (h : OwnK Rep w W p s) (hn : I64c n) : Calls Try.prog 13 #[.pointer (some ⟨p, 0, none⟩), .int .i64 n] W fun e w' => e = .returned (.int .i64 (touchE s n)) ∧ OwnK Rep w w' p (touchS s n) := by
  obtain ⟨F, hr, hF, hb⟩ := h
  exact (HS.touch n p F s W hb hn hr hF).mono fun e w' ⟨F', q1, q2, q3, q4⟩ => ⟨q1, F', q2, fun b q => (q3 b q).elim (hF b) (fun q => Nat.le_trans hb.size q), q4.below hF hb hb.size⟩
theorem own_drop (HS : ClockSpec w Rep) {W : World} {p : Nat} {s : Ck} {n : Int} (h : OwnK Rep w W p s) (hn : I64c n) : Calls Try.prog 15 #[.pointer (some ⟨p, 0, none⟩), .int .i64 n] W fun e w' => e = .returned (.int .i64 (touchE s n)) ∧ OwnK Rep w w' p (dropS s n) := by
  obtain ⟨F, hr, hF, hb⟩ := h
  exact (HS.drop n p F s W hb hn hr hF).mono fun e w' ⟨F', q1, q2, q3, q4⟩ => ⟨q1, F', q2, fun b q => (q3 b q).elim (hF b) (fun q => Nat.le_trans hb.size q), q4.below hF hb hb.size⟩
theorem own_new (HS : ClockSpec w Rep) {W : World} {n : Nat} (hb : Below w.heap.size w W) (h1 : 1 ≤ n) (h2 : n ≤ 4096) : Calls Try.prog 8 #[.int .i64 (n : Int)] W fun e w' => ∃ p, e = .returned (.tuple #[.pointer (some ⟨p, 0, none⟩), .int .i64 0]) ∧ OwnK Rep w w' p (newC n) :=
  (HS.new n W hb h1 h2).mono fun _ _ ⟨p, F, q1, q2, q3, q4⟩ => ⟨p, q1, F, q2, fun b q => Nat.le_trans hb.size (q3 b q), chain hb q4⟩
theorem OwnK.later (HS : ClockSpec w Rep) {W W' : World} {p : Nat} {s : Ck} (h : OwnK Rep w W p s) (hb : Below W.heap.size W W') : OwnK Rep w W' p s := by
  obtain ⟨F, hr, hF, hB⟩ := h
  exact ⟨F, HS.later hr hb, hF, chain hB hb⟩
/-- One thing, or several, written out for the call. -/
theorem own_leave_one (HS : ClockSpec w Rep) {W : World} {p : Nat} {s : Ck} {x : Int} (h : OwnK Rep w W p s) (hx : I64c x) (t : TypeId) : Calls Try.prog 17 #[.pointer (some ⟨p, 0, none⟩), .slice (some ⟨W.heap.size, 0, none⟩) 1 1] (W.alloc (.cells #[.int .i64 x] t)) fun e w' => e = .returned (.tuple #[.int .i64 (leaveN s [x]), .int .i64 (leaveE s [x])]) ∧ OwnK Rep w w' p (leaveS s [x]) := by
  obtain ⟨F, hr, hF, hb⟩ := h
  have hb2 : Below w.heap.size w (W.alloc (.cells #[.int .i64 x] t)) := hb.alloc hb.size _
  have hr2 := HS.later hr ((Below.refl _ W).alloc (Nat.le_refl _) (.cells #[.int .i64 x] t))
  have hi : Ints (W.alloc (.cells #[.int .i64 x] t)) (W.alloc (.cells #[.int .i64 x] t)).heap.size .i64 (some ⟨W.heap.size, 0, none⟩) [x] := (Ints.new W t .i64 [x] #[.int .i64 x] rfl).more (by simp)
  exact (HS.leave _ 1 [x] p F s _ hb2 hi (fun z hz => by simp at hz; subst hz; exact hx) (by simp) (by simp) (fun _ b o e => HS.fresh hr e) hr2 hF).mono fun e w' ⟨F', q1, q2, q3, q4⟩ => ⟨q1, F', q2, fun b q => (q3 b q).elim (hF b) (fun q => Nat.le_trans hb2.size q), q4.below hF hb2 hb2.size⟩

set_option maxHeartbeats 3200000 in
set_option maxRecDepth 20000 in
/-- ClockFirst. -/
theorem clockFirst_go (n dr : Nat) (lv : Bool) (w : World) (HS : ClockSpec w Rep) (hn : n < 256) (hd : dr < 256) :
    Calls Try.prog 7 #[.int .u8 (n : Int), .int .u8 (dr : Int), .bool lv] w fun e w' => e = .returned (.bool true) ∧ Below w.heap.size w w' := by
  have HA := Lib.hid (fun (W : World) (hb : Below w.heap.size w W) => clockAwake HS W hb)
  obtain ⟨M, hM⟩ : ∃ M, M = n % 20 := ⟨_, rfl⟩
  obtain ⟨k, hk⟩ : ∃ k, k = M + 1 := ⟨_, rfl⟩
  have f1 : IntKind.u8.wrap ((n : Int) % 20) = (M : Int) := by show ((n : Int) % 20) % 256 = _; omega
  have f2 : ((n : Int)).tmod 20 = (M : Int) := by rw [Int.tmod_eq_emod_of_nonneg (by omega)]; omega
  have f4 : (M : Int) + 1 = (k : Int) := by omega
  have f6 : IntKind.i64.wrap (M : Int) = (M : Int) := IntWalk.i64_in _ (by omega)
  have f7 : IntKind.i64.wrap (dr : Int) = (dr : Int) := IntWalk.i64_in _ (by omega)
  have f5 : IntKind.i64.wrap ((M : Int) + 1) = (k : Int) := by rw [f4]; exact IntWalk.i64_in _ (by omega)
  obtain ⟨x, hx⟩ : ∃ x, x = dr % k := ⟨_, rfl⟩
  have hxk : x < k := by rw [hx]; exact Nat.mod_lt _ (by omega)
  have g2 : ((dr : Int)).tmod (k : Int) = (x : Int) := by rw [Int.tmod_eq_emod_of_nonneg (by omega), hx]; rfl
  have g3 : (dr : Int) % (k : Int) = (x : Int) := by rw [hx]; rfl
  have g1 : IntKind.i64.wrap ((dr : Int) % (k : Int)) = (x : Int) := by rw [g3]; exact IntWalk.i64_in _ (by omega)
  have g4 : ((k : Int) == 0) = false := beq_eq_false_iff_ne.2 (by omega)
  have hk21 : k < 21 := by omega
  have H1 := Lib.hid (own_new (Rep := Rep) HS (W := w) (n := k) (Below.refl _ _) (by omega) (by omega))
  have H2 : Hid (∀ i, i < k → ∀ W p, OwnK Rep w W p (stK k i) → Calls Try.prog 11 #[.pointer (some ⟨p, 0, none⟩), .int .i64 (i : Int)] W fun e w' => e = .returned (.tuple #[.int .i64 (i : Int), .int .i64 0]) ∧ OwnK Rep w w' p (stK k (i + 1))) := fun i hi W p h => by
    obtain ⟨q1, q2⟩ := st_puts k hk21 i hi
    have h2 := own_put HS (n := (i : Int)) h (by unfold I64c; omega)
    rw [q1, q2] at h2
    exact h2
  have HLT : Hid (∀ W W' p s, OwnK Rep w W p s → Below W.heap.size W W' → OwnK Rep w W' p s) := fun W W' p s h hb => h.later HS hb
  have HOB : Hid (∀ W p s, OwnK Rep w W p s → Below w.heap.size w W) := fun W p s h => h.choose_spec.2.2
  have H0 : Hid (stK k 0 = newC k) := rfl
  obtain ⟨q1, q2, q3, q4, q5⟩ := st_first k hk21 x hxk
  have HLV : Hid (∀ W p, OwnK Rep w W p (stK k k) → Calls Try.prog 17 #[.pointer (some ⟨p, 0, none⟩), .slice (some ⟨W.heap.size, 0, none⟩) 1 1] (W.alloc (.cells #[.int .i64 (x : Int)] 3)) fun e w' => e = .returned (.tuple #[.int .i64 (x : Int), .int .i64 0]) ∧ OwnK Rep w w' p (leaveS (stK k k) [(x : Int)])) := fun W p h => by
    have h2 := own_leave_one HS (x := (x : Int)) h (by unfold I64c; omega) 3
    rw [q1, q2] at h2
    exact h2
  have HDR : Hid (∀ W p, OwnK Rep w W p (stK k k) → Calls Try.prog 15 #[.pointer (some ⟨p, 0, none⟩), .int .i64 (x : Int)] W fun e w' => e = .returned (.int .i64 0) ∧ OwnK Rep w w' p (dropS (stK k k) (x : Int))) := fun W p h => by
    have h2 := own_drop HS (n := (x : Int)) h (by unfold I64c; omega)
    rw [q3] at h2
    exact h2
  have HP1 : Hid (∀ W p s, firstB s x = true → OwnK Rep w W p s → Calls Try.prog 11 #[.pointer (some ⟨p, 0, none⟩), .int .i64 1000] W fun e w' => e = .returned (.tuple #[.int .i64 (x : Int), .int .i64 0]) ∧ OwnK Rep w w' p (putS s 1000)) := fun W p s hf h => by
    have h2 := own_put HS (n := 1000) h (by unfold I64c; omega)
    rw [(firstB_iff hf).1, (firstB_iff hf).2.1] at h2
    exact h2
  have HP2 : Hid (∀ W p s, firstB s x = true → OwnK Rep w W p (putS s 1000) → Calls Try.prog 11 #[.pointer (some ⟨p, 0, none⟩), .int .i64 1001] W fun e w' => ∃ a, e = .returned (.tuple #[.int .i64 a, .int .i64 6]) ∧ OwnK Rep w w' p (putS (putS s 1000) 1001)) := fun W p s hf h => by
    have h2 := own_put HS (n := 1001) h (by unfold I64c; omega)
    rw [(firstB_iff hf).2.2.1] at h2
    exact h2.mono fun e w' h3 => ⟨_, h3⟩
  have HD2 : Hid (∀ W p s, firstB s x = true → OwnK Rep w W p (putS (putS s 1000) 1001) → Calls Try.prog 15 #[.pointer (some ⟨p, 0, none⟩), .int .i64 (x : Int)] W fun e w' => e = .returned (.int .i64 4) ∧ OwnK Rep w w' p (dropS (putS (putS s 1000) 1001) (x : Int))) := fun W p s hf h => by
    have h2 := own_drop HS (n := (x : Int)) h (by unfold I64c; omega)
    rw [(firstB_iff hf).2.2.2.1] at h2
    exact h2
  have HT2 : Hid (∀ W p s, firstB s x = true → OwnK Rep w W p (dropS (putS (putS s 1000) 1001) (x : Int)) → Calls Try.prog 13 #[.pointer (some ⟨p, 0, none⟩), .int .i64 1000] W fun e w' => e = .returned (.int .i64 0) ∧ OwnK Rep w w' p (touchS (dropS (putS (putS s 1000) 1001) (x : Int)) 1000)) := fun W p s hf h => by
    have h2 := own_touch HS (n := 1000) h (by unfold I64c; omega)
    rw [(firstB_iff hf).2.2.2.2] at h2
    exact h2
  have k1 : (1 : Int) ≤ (k : Int) := by omega
  have k20 : (k : Int) ≤ 20 := by omega
  have x0 : (x : Int) < (k : Int) := by omega
  have Q4 := Lib.hid q4
  have Q5 := Lib.hid q5
  clear HS hM hk hx g3 f4 q1 q2 q3 q4 q5 hn hd
  go_enter Try.func7, Try.ntmps7
  go_wp2_with (first
    | (go_at_call 8; with_reducible (refine Calls.mono H1.out ?_); rintro e w1 ⟨p, rfl, ho1⟩)
    | (go_at_call 9; with_reducible (refine Calls.mono (HA.out _ (HOB.out _ _ _ ho1)) ?_); rintro e w2 ⟨rfl, hb2⟩; have ho2 := HLT.out _ _ _ _ ho1 hb2))
  have HO2 := Lib.hid ho2
  clear ho1 ho2 hb2
  go_loopw [10] (fun i wx => ∃ j : Nat, j ≤ k ∧ i = .int .i64 j ∧ Hid (OwnK Rep w wx p (stK k j))) (fun i _ => k - (intOf i).toNat)
  case atStart => exact ⟨0, Nat.zero_le _, rfl, by rw [H0.out]; exact HO2.out⟩
  case round =>
    obtain ⟨j, hj, rfl, ho⟩ := hrel
    by_cases hlt : j < k
    · have HPJ := Lib.hid (H2.out j hlt _ _ ho.out)
      have j1 : (j : Int) < (k : Int) := by omega
      clear ho
      go_wp2_with (go_at_call 11; with_reducible (refine Calls.mono HPJ.out ?_); rintro e w3 ⟨rfl, ho3⟩; replace ho3 := Lib.hid ho3)
      go_roundw
      case rel => first | exact ⟨j + 1, by omega, by go_num, ho3⟩ | ((repeat apply Exists.intro); exact ⟨⟨j + 1, by omega, by go_num, ho3⟩, rfl⟩)
      case measure => simp [intOf]; omega
    · have hjk : k = j := by omega
      subst hjk
      cases lv with
      | true =>
        have HLVJ := Lib.hid (HLV.out _ _ ho.out)
        clear ho
        go_wp2_with (first
          | (go_at_call 17; with_reducible (refine Calls.mono HLVJ.out ?_); rintro e w3 ⟨rfl, ho3⟩; replace ho3 := Lib.hid ho3)
          | (go_at_call 11; with_reducible (refine Calls.mono (HP2.out _ _ _ Q4.out ho4.out) ?_); rintro e w5 ⟨a5, rfl, ho5⟩; replace ho5 := Lib.hid ho5)
          | (go_at_call 11; with_reducible (refine Calls.mono (HP1.out _ _ _ Q4.out ho3.out) ?_); rintro e w4 ⟨rfl, ho4⟩; replace ho4 := Lib.hid ho4)
          | (go_at_call 15; with_reducible (refine Calls.mono (HD2.out _ _ _ Q4.out ho5.out) ?_); rintro e w6 ⟨rfl, ho6⟩; replace ho6 := Lib.hid ho6)
          | (go_at_call 13; with_reducible (refine Calls.mono (HT2.out _ _ _ Q4.out ho6.out) ?_); rintro e w7 ⟨rfl, ho7⟩; replace ho7 := Lib.hid ho7))
        go_ret
        exact ⟨rfl, HOB.out _ _ _ ho7.out⟩
      | false =>
        have HDRJ := Lib.hid (HDR.out _ _ ho.out)
        clear ho
        go_wp2_with (first
          | (go_at_call 11; with_reducible (refine Calls.mono (HP2.out _ _ _ Q5.out ho4.out) ?_); rintro e w5 ⟨a5, rfl, ho5⟩; replace ho5 := Lib.hid ho5)
          | (go_at_call 11; with_reducible (refine Calls.mono (HP1.out _ _ _ Q5.out ho3.out) ?_); rintro e w4 ⟨rfl, ho4⟩; replace ho4 := Lib.hid ho4)
          | (go_at_call 15; with_reducible (refine Calls.mono (HD2.out _ _ _ Q5.out ho5.out) ?_); rintro e w6 ⟨rfl, ho6⟩; replace ho6 := Lib.hid ho6)
          | (go_at_call 15; with_reducible (refine Calls.mono HDRJ.out ?_); rintro e w3 ⟨rfl, ho3⟩; replace ho3 := Lib.hid ho3)
          | (go_at_call 13; with_reducible (refine Calls.mono (HT2.out _ _ _ Q5.out ho6.out) ?_); rintro e w7 ⟨rfl, ho7⟩; replace ho7 := Lib.hid ho7))
        go_ret
        exact ⟨rfl, HOB.out _ _ _ ho7.out⟩

set_option maxHeartbeats 1600000 in
/-- ClockNone. -/
theorem clockNone_go (n : Int) (A : Option Addr) (l c : Nat) (w : World) (HS : ClockSpec w Rep) :
    Calls Try.prog 5 #[.int .i64 n, .slice A l c] w fun e w' => e = .returned (.bool true) ∧ Below w.heap.size w w' := by
  have HA := Lib.hid (fun (W : World) (hb : Below w.heap.size w W) => clockAwake HS W hb)
  have HP := Lib.hid (fun W => HS.nput n W)
  have HT := Lib.hid (fun W => HS.ntouch n W)
  have HD := Lib.hid (fun W => HS.ndrop n W)
  have HL := Lib.hid (fun W => HS.nleave A l c W)
  have HG := Lib.hid HS.nthings
  have hw := Below.refl w.heap.size w
  clear HS
  go_enter Try.func5, Try.ntmps5
  go_wp2_with (first
    | (go_at_call 11; with_reducible (refine Calls.mono (HP.out _ hw) ?_); rintro e w1 ⟨rfl, hb1⟩)
    | (go_at_call 17; with_reducible (refine Calls.mono (HL.out _ hb1) ?_); rintro e w2 ⟨rfl, hb2⟩; have hx2 := chain hb1 hb2)
    | (go_at_call 9; with_reducible (refine Calls.mono (HA.out _ hx2) ?_); rintro e w3 ⟨rfl, hb3⟩; have hx3 := chain hx2 hb3)
    | (go_at_call 13; with_reducible (refine Calls.mono (HT.out _ hx3) ?_); rintro e w4 ⟨rfl, hb4⟩; have hx4 := chain hx3 hb4)
    | (go_at_call 15; with_reducible (refine Calls.mono (HD.out _ hx4) ?_); rintro e w5 ⟨rfl, hb5⟩; have hx5 := chain hx4 hb5)
    | (go_at_call 21; with_reducible (refine Calls.mono (HG.out _ hx5) ?_); rintro e w6 ⟨A6, c6, rfl, hb6⟩; have hx6 := chain hx5 hb6))
  go_ret
  exact ⟨rfl, hx6⟩
end

end Go.Proofs.Ytdfalnjdjkoofaa
