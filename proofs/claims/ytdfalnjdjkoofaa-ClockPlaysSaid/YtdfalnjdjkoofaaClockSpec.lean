/-
  What is asked of the layer clock, as properties of its calls; the law's own 'awake'.
-/
import Derived.Test.YtdfalnjdjkoofaaClockNums
import Derived.Test.YtdfalnjdjkoofaaAway
import Derived.Test.YtdfalnjdjkoofaaWords
import Derived.Test.YtdfalnjdjkoofaaChecked
import Derived.Tactics
import Derived.Tactics2
import Derived.LoopTactic
import Derived.OpenShut
import Derived.WalkLawsBesides
import Derived.BigQuiet
import Derived.Laws.Rows
namespace Go.Proofs.Ytdfalnjdjkoofaa
open Go.RowKit

structure ClockSpec (w0 : World) (Rep : World → Nat → (Nat → Prop) → Ck → Prop) : Prop where
  keep : ∀ (w w' : World) (p : Nat) (F : Nat → Prop) (s : Ck), Rep w p F s → (∀ b, F b → w'.heap[b]? = w.heap[b]?) → Rep w' p F s
  lt : ∀ (w : World) (p : Nat) (F : Nat → Prop) (s : Ck), Rep w p F s → ∀ b, F b → b < w.heap.size
  no : ∀ (n : Int) (w : World), Below w0.heap.size w0 w → I64c n → n < 1 ∨ 4096 < n → Calls Try.prog 8 #[.int .i64 n] w fun e w' => e = .returned (.tuple #[.pointer none, .int .i64 1]) ∧ Below w.heap.size w w'
  new : ∀ (n : Nat) (w : World), Below w0.heap.size w0 w → 1 ≤ n → n ≤ 4096 → Calls Try.prog 8 #[.int .i64 (n : Int)] w fun e w' => ∃ (p : Nat) (F : Nat → Prop), e = .returned (.tuple #[.pointer (some ⟨p, 0, none⟩), .int .i64 0]) ∧ Rep w' p F (newC n) ∧ (∀ b, F b → w.heap.size ≤ b) ∧ Below w.heap.size w w'
  put : ∀ (n : Int) (p : Nat) (F : Nat → Prop) (s : Ck) (w : World), Below w0.heap.size w0 w → I64c n → Rep w p F s → (∀ b, F b → w0.heap.size ≤ b) → Calls Try.prog 11 #[.pointer (some ⟨p, 0, none⟩), .int .i64 n] w fun e w' => ∃ F', e = .returned (.tuple #[.int .i64 (putA s n), .int .i64 (putE s n)]) ∧ Rep w' p F' (putS s n) ∧ More F F' w.heap.size ∧ Away F w w'
  touch : ∀ (n : Int) (p : Nat) (F : Nat → Prop) (s : Ck) (w : World), Below w0.heap.size w0 w → I64c n → Rep w p F s → (∀ b, F b → w0.heap.size ≤ b) → Calls Try.prog 13 #[.pointer (some ⟨p, 0, none⟩), .int .i64 n] w fun e w' => ∃ F', e = .returned (.int .i64 (touchE s n)) ∧ Rep w' p F' (touchS s n) ∧ More F F' w.heap.size ∧ Away F w w'
  drop : ∀ (n : Int) (p : Nat) (F : Nat → Prop) (s : Ck) (w : World), Below w0.heap.size w0 w → I64c n → Rep w p F s → (∀ b, F b → w0.heap.size ≤ b) → Calls Try.prog 15 #[.pointer (some ⟨p, 0, none⟩), .int .i64 n] w fun e w' => ∃ F', e = .returned (.int .i64 (touchE s n)) ∧ Rep w' p F' (dropS s n) ∧ More F F' w.heap.size ∧ Away F w w'
  leave : ∀ (A : Option Addr) (c : Nat) (l : List Int) (p : Nat) (F : Nat → Prop) (s : Ck) (w : World), Below w0.heap.size w0 w → Ints w w.heap.size .i64 A l → (∀ z ∈ l, I64c z) → l.length ≤ c → l.length ≤ 17592186043904 → (0 < l.length → ∀ b o, A = some ⟨b, o, none⟩ → ¬ F b) → Rep w p F s → (∀ b, F b → w0.heap.size ≤ b) →
    Calls Try.prog 17 #[.pointer (some ⟨p, 0, none⟩), .slice A l.length c] w fun e w' => ∃ F', e = .returned (.tuple #[.int .i64 (leaveN s l), .int .i64 (leaveE s l)]) ∧ Rep w' p F' (leaveS s l) ∧ More F F' w.heap.size ∧ Away F w w'
  things : ∀ (p : Nat) (F : Nat → Prop) (s : Ck) (w : World), Below w0.heap.size w0 w → Rep w p F s → (∀ b, F b → w0.heap.size ≤ b) → Calls Try.prog 21 #[.pointer (some ⟨p, 0, none⟩)] w fun e w' => ∃ A c, e = .returned (.slice A s.t.length c) ∧ Ints w' w'.heap.size .i64 A s.t ∧ Below w.heap.size w w'
  nput : ∀ (n : Int) (w : World), Below w0.heap.size w0 w → Calls Try.prog 11 #[.pointer none, .int .i64 n] w fun e w' => e = .returned (.tuple #[.int .i64 0, .int .i64 11]) ∧ Below w.heap.size w w'
  ntouch : ∀ (n : Int) (w : World), Below w0.heap.size w0 w → Calls Try.prog 13 #[.pointer none, .int .i64 n] w fun e w' => e = .returned (.int .i64 11) ∧ Below w.heap.size w w'
  ndrop : ∀ (n : Int) (w : World), Below w0.heap.size w0 w → Calls Try.prog 15 #[.pointer none, .int .i64 n] w fun e w' => e = .returned (.int .i64 11) ∧ Below w.heap.size w w'
  nleave : ∀ (A : Option Addr) (n c : Nat) (w : World), Below w0.heap.size w0 w → Calls Try.prog 17 #[.pointer none, .slice A n c] w fun e w' => e = .returned (.tuple #[.int .i64 0, .int .i64 11]) ∧ Below w.heap.size w w'
  nthings : ∀ (w : World), Below w0.heap.size w0 w → Calls Try.prog 21 #[.pointer none] w fun e w' => ∃ A c, e = .returned (.slice A 0 c) ∧ Below w.heap.size w w'

section
variable {w0 : World} {Rep : World → Nat → (Nat → Prop) → Ck → Prop}
theorem ClockSpec.later (HS : ClockSpec w0 Rep) {w w' : World} {p : Nat} {F : Nat → Prop} {s : Ck} (h : Rep w p F s) (hb : Below w.heap.size w w') : Rep w' p F s := HS.keep w w' p F s h (fun b hF => hb.block b (HS.lt w p F s h b hF))

theorem ClockSpec.fresh (HS : ClockSpec w0 Rep) {w : World} {p : Nat} {F : Nat → Prop} {s : Ck} (h : Rep w p F s) {b o : Nat} (e : some (⟨w.heap.size, 0, none⟩ : Addr) = some ⟨b, o, none⟩) : ¬ F b := fun q => by
  have := HS.lt w p F s h b q
  injection e with e
  injection e with e1 _
  omega

theorem wake_put : putA (newC 2) 7 = 0 ∧ putE (newC 2) 7 = 0 := by decide +kernel
theorem wake_leave : leaveN (putS (newC 2) 7) [7, 8] = 7 ∧ leaveE (putS (newC 2) 7) [7, 8] = 0 ∧ (leaveS (putS (newC 2) 7) [7, 8]).t = [-1, -1] := by decide +kernel

set_option maxHeartbeats 1600000 in
set_option maxRecDepth 20000 in
theorem clockAwake (HS : ClockSpec w0 Rep) (w : World) (hw : Below w0.heap.size w0 w) : Calls Try.prog 9 #[] w fun e w' => e = .returned (.bool true) ∧ Below w.heap.size w w' := by
  have i7 : I64c 7 := by unfold I64c; omega
  have H1 : Hid (Calls Try.prog 8 #[.int .i64 2] w fun e w' => ∃ (p : Nat) (F : Nat → Prop), e = .returned (.tuple #[.pointer (some ⟨p, 0, none⟩), .int .i64 0]) ∧ Rep w' p F (newC 2) ∧ (∀ b, F b → w.heap.size ≤ b) ∧ Below w.heap.size w w') := HS.new 2 w hw (by decide) (by decide)
  have H2 : Hid (∀ (p : Nat) (F : Nat → Prop) (W : World), Below w.heap.size w W → Rep W p F (newC 2) → (∀ b, F b → w.heap.size ≤ b) → Calls Try.prog 11 #[.pointer (some ⟨p, 0, none⟩), .int .i64 7] W fun e w' => ∃ F', e = .returned (.tuple #[.int .i64 0, .int .i64 0]) ∧ Rep w' p F' (putS (newC 2) 7) ∧ (∀ b, F' b → w.heap.size ≤ b) ∧ Below w.heap.size w w') := fun p F W hb hr hF => by
    have h := HS.put 7 p F (newC 2) W (hw.trans (hb.mono hw.size)) i7 hr (fun b q => Nat.le_trans hw.size (hF b q))
    rw [wake_put.1, wake_put.2] at h
    exact h.mono fun e w' ⟨F', q1, q2, q3, q4⟩ => ⟨F', q1, q2, fun b q => (q3 b q).elim (hF b) (fun q => Nat.le_trans hb.size q), q4.below hF hb hb.size⟩
  have H3 : Hid (∀ (p : Nat) (F : Nat → Prop) (W : World) (A : Option Addr), Below w.heap.size w W → Rep W p F (putS (newC 2) 7) → (∀ b, F b → w.heap.size ≤ b) → Ints W W.heap.size .i64 A [7, 8] → (∀ b o, A = some ⟨b, o, none⟩ → ¬ F b) → Calls Try.prog 17 #[.pointer (some ⟨p, 0, none⟩), .slice A 2 2] W fun e w' => ∃ F', e = .returned (.tuple #[.int .i64 7, .int .i64 0]) ∧ Rep w' p F' (leaveS (putS (newC 2) 7) [7, 8]) ∧ (∀ b, F' b → w.heap.size ≤ b) ∧ Below w.heap.size w w') := fun p F W A hb hr hF hI hn => by
    have h := HS.leave A 2 [7, 8] p F (putS (newC 2) 7) W (hw.trans (hb.mono hw.size)) hI (fun z hz => by simp at hz; unfold I64c; omega) (by decide) (by decide) (fun _ => hn) hr (fun b q => Nat.le_trans hw.size (hF b q))
    rw [wake_leave.1, wake_leave.2.1] at h
    exact h.mono fun e w' ⟨F', q1, q2, q3, q4⟩ => ⟨F', q1, q2, fun b q => (q3 b q).elim (hF b) (fun q => Nat.le_trans hb.size q), q4.below hF hb hb.size⟩
  have H4 : Hid (∀ (p : Nat) (F : Nat → Prop) (W : World), Below w.heap.size w W → Rep W p F (leaveS (putS (newC 2) 7) [7, 8]) → (∀ b, F b → w.heap.size ≤ b) → Calls Try.prog 21 #[.pointer (some ⟨p, 0, none⟩)] W fun e w' => ∃ g o c, e = .returned (.slice (some ⟨g, o, none⟩) 2 c) ∧ w'.cell? ⟨g, o, none⟩ = some (.int .i64 (-1)) ∧ Rep w' p F (leaveS (putS (newC 2) 7) [7, 8]) ∧ Below w.heap.size w w') := fun p F W hb hr hF => by
    have h := HS.things p F _ W (hw.trans (hb.mono hw.size)) hr (fun b q => Nat.le_trans hw.size (hF b q))
    rw [wake_leave.2.2] at h
    refine h.mono fun e w' ⟨A, c, q1, q2, q3⟩ => ?_
    obtain ⟨g, o, e1, _, hc⟩ := q2 0 (by decide)
    subst e1
    exact ⟨g, o, c, q1, hc, HS.later hr q3, chain hb q3⟩
  have HL : Hid (∀ (W W' : World) (p : Nat) (F : Nat → Prop) (s : Ck), Rep W p F s → Below W.heap.size W W' → Rep W' p F s) := fun W W' p F s h hb => HS.later h hb
  have HLT : Hid (∀ (W : World) (p : Nat) (F : Nat → Prop) (s : Ck), Rep W p F s → ∀ b o, some (⟨W.heap.size, 0, none⟩ : Addr) = some ⟨b, o, none⟩ → ¬ F b) := fun W p F s h b o e => HS.fresh h e
  clear HS hw i7
  go_enter Try.func9, Try.ntmps9
  go_wp2_with (first
    | (go_at_call 8; with_reducible (refine Calls.mono H1.out ?_); rintro e w1 ⟨p, F, rfl, hr1, hF1, hb1⟩)
    | (go_at_call 11; with_reducible (refine Calls.mono (H2.out _ _ _ hb1 hr1 hF1) ?_); rintro e w2 ⟨F2, rfl, hr2, hF2, hb2⟩; have hr3 := HL.out _ (w2.alloc (.cells #[.int .i64 7, .int .i64 8] 3)) p F2 _ hr2 ((Below.refl _ _).alloc (Nat.le_refl _) _); have hb3 := hb2.alloc hb2.size (.cells #[.int .i64 7, .int .i64 8] 3); have hi3 := (Ints.new w2 3 .i64 [7, 8] #[.int .i64 7, .int .i64 8] rfl).more (B' := (w2.alloc (.cells #[.int .i64 7, .int .i64 8] 3)).heap.size) (by simp); have hn3 := HLT.out w2 p F2 _ hr2)
    | (go_at_call 17; with_reducible (refine Calls.mono (H3.out _ _ _ _ hb3 hr3 hF2 hi3 hn3) ?_); rintro e w4 ⟨F4, rfl, hr4, hF4, hb4⟩)
    | (go_at_call 21; with_reducible (refine Calls.mono (H4.out _ _ _ hb5 hr5 hF4) ?_); rintro e w6 ⟨g6, o6, c6, rfl, hc6, hr6, hb6⟩)
    | (go_at_call 21; with_reducible (refine Calls.mono (H4.out _ _ _ hb4 hr4 hF4) ?_); rintro e w5 ⟨g5, o5, c5, rfl, hc5, hr5, hb5⟩))
  go_ret
  exact ⟨rfl, hb6⟩
end

end Go.Proofs.Ytdfalnjdjkoofaa
