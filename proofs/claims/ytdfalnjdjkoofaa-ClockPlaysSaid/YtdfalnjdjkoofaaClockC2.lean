/-
  The landed clock: where a number is in a row, whether a flag is, a row anew; what is done with a thing where it is; Touch, Drop.
-/
import Derived.Test.YtdfalnjdjkoofaaClockC1
import Derived.Test.YtdfalnjdjkoofaaMapLook
import Derived.Test.YtdfalnjdjkoofaaArrs
import Derived.Shelf.RegionOpenPlain
import Derived.Tactics
import Derived.Tactics2
import Derived.LoopTactic
import Derived.OpenShut
import Derived.WalkLawsBesides
import Derived.BigQuiet
namespace Go.Proofs.Ytdfalnjdjkoofaa
open Go.RowKit

theorem idx_first : ∀ {l : List Int} {x : Int} {k : Nat}, k < l.length → l.getD k 0 = x → (∀ j, j < k → l.getD j 0 ≠ x) → l.contains x = true ∧ l.idxOf x = k
  | [], x, k, h, _, _ => absurd h (by simp)
  | a :: l, x, 0, _, e, _ => by
    have e : a = x := e
    subst e
    simp
  | a :: l, x, k + 1, h, e, hall => by
    have ha : a ≠ x := hall 0 (by omega)
    obtain ⟨h1, h2⟩ := idx_first (l := l) (x := x) (k := k) (by simpa using h) e (fun j hj => hall (j + 1) (by omega))
    refine ⟨by rw [List.contains_cons, h1]; simp, ?_⟩
    rw [List.idxOf_cons, show (a == x) = false by simpa using ha, h2]; rfl
theorem idx_none {l : List Int} {x : Int} (hall : ∀ j, j < l.length → l.getD j 0 ≠ x) : l.contains x = false := by
  cases h : l.contains x
  · rfl
  · exact absurd (idx_at h) (hall _ (idx_lt h))

set_option maxHeartbeats 1600000 in
/-- 'slices.Index' of numbers. -/
theorem indexN_any (A : Option Addr) (c B : Nat) (l : List Int) (x : Int) (w : World) (h : Ints w B .i64 A l) (hl : l.length ≤ 4096) :
    Calls Try.prog 23 #[.slice A l.length c, .int .i64 x] w fun e w' => e = .returned (.int .i64 (if l.contains x then (l.idxOf x : Int) else -1)) ∧ w' = w := by
  have HA := Lib.hid h
  have HY : Hid (∀ k, k < l.length → l.getD k 0 = x → (∀ j, j < k → l.getD j 0 ≠ x) → (if l.contains x then (l.idxOf x : Int) else -1) = (k : Int)) := fun k hk e hall => by
    obtain ⟨h1, h2⟩ := idx_first hk e hall
    rw [if_pos h1, h2]
  have HNo : Hid ((∀ j, j < l.length → l.getD j 0 ≠ x) → (if l.contains x then (l.idxOf x : Int) else -1) = -1) := fun hall => by rw [idx_none hall]; rfl
  obtain ⟨V, hV⟩ : ∃ V : Int, V = (if l.contains x then (l.idxOf x : Int) else -1) := ⟨_, rfl⟩
  rw [← hV] at HY HNo ⊢
  obtain ⟨N, hN⟩ : ∃ N, N = l.length := ⟨_, rfl⟩
  have HN := Lib.hid hN
  have n1 : (N : Int) ≤ 4096 := by omega
  rw [← hN] at HY HNo ⊢
  clear h hV hN hl
  go_enter Try.func23, Try.ntmps23
  go_wp2
  go_loopw [8] (fun i wr => ∃ k : Nat, k ≤ N ∧ i = .int .i64 k ∧ Hid (∀ j, j < k → l.getD j 0 ≠ x) ∧ wr = w) (fun i _ => N - (intOf i).toNat)
  case atStart => exact ⟨0, Nat.zero_le _, rfl, fun j hj => absurd hj (Nat.not_lt_zero j), rfl⟩
  case round =>
    obtain ⟨k, hk, rfl, hall, rfl⟩ := hrel
    by_cases hlt : k < N
    · obtain ⟨b, o, rfl, _, q0⟩ := HA.out k (by have := HN.out; omega)
      have k1 : (k : Int) < (N : Int) := by omega
      have k0 : (0 : Int) ≤ (k : Int) := by omega
      by_cases he : l.getD k 0 = x
      · have H2 := Lib.hid (HY.out k hlt he hall.out)
        rw [he] at q0
        clear hall HA HY HNo he
        go_wp2
        go_ret
        exact ⟨by rw [H2.out]; rfl, rfl⟩
      · have H2 : Hid (∀ j, j < k + 1 → l.getD j 0 ≠ x) := fun j hj => by
          rcases Nat.lt_or_ge j k with g | g
          · exact hall.out j g
          · rw [show j = k by omega]; exact he
        obtain ⟨y, hy⟩ : ∃ y, y = l.getD k 0 := ⟨_, rfl⟩
        rw [← hy] at q0 he
        have he2 : ¬ x = y := fun e => he e.symm
        clear hall HA HY HNo hy he
        go_wp2
        go_roundw
        case rel => first | exact ⟨k + 1, by omega, by go_num, H2.out, by first | rfl | trivial⟩ | ((repeat apply Exists.intro); exact ⟨⟨k + 1, by omega, by go_num, H2.out, by first | rfl | trivial⟩, rfl⟩)
        case measure => simp [intOf]; omega
    · have hk8 : k = N := by omega
      subst hk8
      have hn := Lib.hid (HNo.out hall.out)
      clear hall HA HY HNo
      have k1 : ¬ (k : Int) < (k : Int) := by omega
      go_wp2
      go_ret
      exact ⟨by rw [hn.out]; rfl, rfl⟩

theorem anyB_at {l : List Bool} {k : Nat} (hk : k < l.length) (e : l.getD k false = true) : l.contains true = true := by
  rw [List.contains_iff_mem, ← e, List.getD_eq_getElem?_getD, List.getElem?_eq_getElem hk]
  exact List.getElem_mem hk
theorem anyB_none {l : List Bool} (hall : ∀ j, j < l.length → l.getD j false = false) : l.contains true = false := by
  cases h : l.contains true
  · rfl
  · rw [List.contains_iff_mem] at h
    obtain ⟨k, hk, e⟩ := List.getElem_of_mem h
    have := hall k hk
    rw [List.getD_eq_getElem?_getD, List.getElem?_eq_getElem hk, Option.getD_some, e] at this
    cases this

set_option maxHeartbeats 1600000 in
/-- 'slices.Index' of flags: the first one that is set. -/
theorem indexB_any (g c : Nat) (l : List Bool) (w : World) (h : BRow 4 g l w) (hl : l.length ≤ 4096) :
    Calls Try.prog 34 #[.slice (some ⟨g, 0, none⟩) l.length c, .bool true] w fun e w' => ∃ r : Int, e = .returned (.int .i64 r) ∧ decide (0 ≤ r) = l.contains true ∧ w' = w := by
  have HA : Hid (∀ i, i < l.length → w.cell? ⟨g, i, none⟩ = some (.bool (l.getD i false))) := fun i hi => h.cell hi
  have HY : Hid (∀ k, k < l.length → l.getD k false = true → l.contains true = true) := fun k hk e => anyB_at hk e
  have HNo : Hid ((∀ j, j < l.length → l.getD j false = false) → l.contains true = false) := fun hall => anyB_none hall
  obtain ⟨V, hV⟩ : ∃ V, V = l.contains true := ⟨_, rfl⟩
  rw [← hV] at HY HNo ⊢
  obtain ⟨N, hN⟩ : ∃ N, N = l.length := ⟨_, rfl⟩
  have HN := Lib.hid hN
  have n1 : (N : Int) ≤ 4096 := by omega
  rw [← hN] at HA HY HNo ⊢
  clear h hV hN hl
  go_enter Try.func34, Try.ntmps34
  go_wp2
  go_loopw [8] (fun i wr => ∃ k : Nat, k ≤ N ∧ i = .int .i64 k ∧ Hid (∀ j, j < k → l.getD j false = false) ∧ wr = w) (fun i _ => N - (intOf i).toNat)
  case atStart => exact ⟨0, Nat.zero_le _, rfl, fun j hj => absurd hj (Nat.not_lt_zero j), rfl⟩
  case round =>
    obtain ⟨k, hk, rfl, hall, rfl⟩ := hrel
    by_cases hlt : k < N
    · have q0 := HA.out k hlt
      have k1 : (k : Int) < (N : Int) := by omega
      have k0 : (0 : Int) ≤ (k : Int) := by omega
      rcases he : l.getD k false with _ | _
      · have H2 : Hid (∀ j, j < k + 1 → l.getD j false = false) := fun j hj => by
          rcases Nat.lt_or_ge j k with g | g
          · exact hall.out j g
          · rw [show j = k by omega]; exact he
        rw [he] at q0
        clear hall HA HY HNo he
        go_wp2
        go_roundw
        case rel => first | exact ⟨k + 1, by omega, by go_num, H2.out, by first | rfl | trivial⟩ | ((repeat apply Exists.intro); exact ⟨⟨k + 1, by omega, by go_num, H2.out, by first | rfl | trivial⟩, rfl⟩)
        case measure => simp [intOf]; omega
      · have H2 := Lib.hid (HY.out k hlt he)
        rw [he] at q0
        clear hall HA HY HNo he
        go_wp2
        go_ret
        exact ⟨(k : Int), rfl, by rw [H2.out]; exact decide_eq_true k0, rfl⟩
    · have hk8 : k = N := by omega
      subst hk8
      have hn := Lib.hid (HNo.out hall.out)
      clear hall HA HY HNo
      have k1 : ¬ (k : Int) < (k : Int) := by omega
      go_wp2
      go_ret
      exact ⟨-1, rfl, by rw [hn.out]; decide, rfl⟩

set_option maxHeartbeats 800000 in
/-- 'slices.Contains' of flags. -/
theorem containsB_any (g c : Nat) (l : List Bool) (w : World) (h : BRow 4 g l w) (hl : l.length ≤ 4096) :
    Calls Try.prog 29 #[.slice (some ⟨g, 0, none⟩) l.length c, .bool true] w fun e w' => e = .returned (.bool (l.contains true)) ∧ w' = w := by
  have HI := Lib.hid (indexB_any g c l w h hl)
  obtain ⟨V, hV⟩ : ∃ V, V = l.contains true := ⟨_, rfl⟩
  rw [← hV] at HI ⊢
  obtain ⟨N, hN⟩ : ∃ N, N = l.length := ⟨_, rfl⟩
  rw [← hN] at HI ⊢
  clear h hV hN hl
  go_enter Try.func29, Try.ntmps29
  go_wp2_with (go_at_call 34; with_reducible (refine Calls.mono HI.out ?_); rintro e w2 ⟨r, rfl, hr, rfl⟩)
  go_ret
  exact ⟨by rw [← hr]; rfl, rfl⟩

set_option maxHeartbeats 800000 in
theorem at_nil (n : Int) (fv : Value) (w : World) : Calls Try.prog 25 #[.pointer none, .int .i64 n, fv] w fun e w' => e = .returned (.int .i64 11) ∧ w' = w := by
  go_enter Try.func25, Try.ntmps25
  go_wp2
  go_ret
  exact ⟨rfl, rfl⟩

section
variable {w : World} {p gt gm gb ct cm : Nat} {D : DataW Unit} {s : Ck}
theorem touchE_iff (n : Int) : touchE s n = 0 ↔ 0 ≤ n ∧ s.t.contains n = true := by
  unfold touchE
  split
  · constructor
    · intro h; cases h
    · intro h; omega
  · split
    · rename_i h1 h2; exact ⟨fun _ => ⟨by omega, h2⟩, fun _ => rfl⟩
    · rename_i h1 h2
      constructor
      · intro h; cases h
      · rintro ⟨_, h⟩; exact absurd h h2
theorem touchE_or (n : Int) : touchE s n = 0 ∨ touchE s n = 4 := by
  unfold touchE
  split
  · exact .inr rfl
  · split
    · exact .inl rfl
    · exact .inr rfl

set_option maxHeartbeats 1600000 in
/-- Of a thing that is not there. -/
theorem at_none (h : ClockIn w p gt gm gb ct cm D s) (n : Int) (hn : I64c n) (fv : Value) (hc : touchE s n = 4) :
    Calls Try.prog 25 #[.pointer (some ⟨p, 0, none⟩), .int .i64 n, fv] w fun e w' => e = .returned (.int .i64 4) ∧ w' = w := by
  obtain ⟨_, _, c2, _⟩ := h.cells
  have hh : Maps.has D (.int .i64 n) = false := by
    cases hb : Maps.has D (.int .i64 n)
    · rfl
    · rw [(touchE_iff n).2 ((h.says.has_iff n).1 hb)] at hc; cases hc
  have hat := Lib.hid (Maps.atKey_of_not_has hh (.lit (.int .i64 0)))
  replace hh := Lib.hid hh
  have HM := Lib.hid h.map
  have hkey := Lib.hid (keyOfC hn)
  clear h hc hn
  go_enter Try.func25, Try.ntmps25
  go_wp2_with (at_lookup; refine wpList_lookM _ rfl _ _ 51 rfl 3 3 .i64 keyC Try.undMapC Try.undIntC (zeroC _) gb _ D rfl HM.out _ _ rfl hkey.out _ _ hat.out hh.out ?_)
  go_ret
  exact ⟨rfl, rfl⟩

set_option maxHeartbeats 1600000 in
/-- Of a thing that is there: what is done is done with its place. -/
theorem at_go (h : ClockIn w p gt gm gb ct cm D s) (n : Int) (hn : I64c n) (hc : touchE s n = 0) (fn : FuncId) (cb : Array Value) (Q : World → Prop)
    (he : ∀ args w, (callFunc fn args).run Try.prog w = .ok (.enter fn args) w) (hf : Calls Try.prog fn (#[.int .i64 (s.t.idxOf n : Int)] ++ cb) w fun e w' => e = .returned (.tuple #[]) ∧ Q w') :
    Calls Try.prog 25 #[.pointer (some ⟨p, 0, none⟩), .int .i64 n, .func (.func fn) #[] cb] w fun e w' => e = .returned (.int .i64 0) ∧ Q w' := by
  obtain ⟨_, _, c2, _⟩ := h.cells
  have hq := (touchE_iff n).1 hc
  have hh := Lib.hid ((h.says.has_iff n).2 hq)
  have hat := Lib.hid (h.says.at_ hq.1 hq.2)
  have HM := Lib.hid h.map
  have hkey := Lib.hid (keyOfC hn)
  have HF := Lib.hid hf
  obtain ⟨i, hi⟩ : ∃ i, i = s.t.idxOf n := ⟨_, rfl⟩
  rw [← hi] at HF hat
  have eg := he
  clear h hc hn hq hf hi
  go_enter Try.func25, Try.ntmps25
  go_wp2_with (first
    | (at_lookup; refine wpList_lookM _ rfl _ _ 51 rfl 3 3 .i64 keyC Try.undMapC Try.undIntC (zeroC _) gb _ D rfl HM.out _ _ rfl hkey.out _ _ hat.out hh.out ?_)
    | (go_at_fn fn; with_reducible (refine Calls.mono HF.out ?_); rintro e w2 ⟨rfl, hq2⟩))
  go_ret
  exact ⟨rfl, hq2⟩
end

end Go.Proofs.Ytdfalnjdjkoofaa
