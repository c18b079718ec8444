/-
  ClockUsed: a thing that is touched ahead of each Leave does not leave, as long as another one may that is not.
-/
import Derived.Test.YtdfalnjdjkoofaaClockAll
namespace Go.Proofs.Ytdfalnjdjkoofaa
open Go.RowKit

def upL (k : Nat) : List Int := (List.range k).map fun j : Nat => (j : Int)
theorem upL_succ (i : Nat) : upL (i + 1) = upL i ++ [(i : Int)] := by unfold upL; rw [List.range_succ, List.map_append]; rfl
theorem upL_len (i : Nat) : (upL i).length = i := by simp [upL]
theorem upL_mem {i : Nat} {z : Int} : z ∈ upL i ↔ ∃ j : Nat, j < i ∧ z = (j : Int) := by
  unfold upL
  rw [List.mem_map]
  constructor
  · rintro ⟨j, hj, e⟩; exact ⟨j, List.mem_range.1 hj, e.symm⟩
  · rintro ⟨j, hj, e⟩; exact ⟨j, List.mem_range.2 hj, e.symm⟩
/-- Each thing in its own place; only the one kept may be marked. -/
structure Used (k kept : Nat) (s : Ck) : Prop where
  ok : s.ok k
  val : ∀ p, p < k → s.t.getD p 0 = (p : Int) ∨ s.t.getD p 0 = -1
  mrk : ∀ p, p < k → p ≠ kept → s.m.getD p false = false
def usedB (k : Nat) (s : Ck) : Bool := (s.t.length == k) && (s.m.length == k) && decide (s.h < k) && (List.range k).all fun p => (s.t.getD p 0 == (p : Int) || s.t.getD p 0 == -1) && (s.m.getD p false == false)
theorem used_of {k : Nat} {s : Ck} (h1 : 1 ≤ k) (h : usedB k s = true) (kept : Nat) : Used k kept s := by
  unfold usedB at h
  simp only [Bool.and_eq_true, beq_iff_eq, decide_eq_true_eq, List.all_eq_true, List.mem_range, Bool.or_eq_true] at h
  exact ⟨⟨h.1.1.1, h.1.1.2, h1, h.1.2⟩, fun p hp => (h.2 p hp).1, fun p hp _ => (h.2 p hp).2⟩
theorem used_start : ∀ k, k < 22 → 2 ≤ k → usedB k (leaveS (stK k k) (upL k)) = true := by decide +kernel
theorem idx_of {l : List Int} {z : Int} {a : Nat} (ha : a < l.length) (h : l.getD a 0 = z) (hu : ∀ i, i < l.length → l.getD i 0 = z → i = a) : l.contains z = true ∧ l.idxOf z = a := by
  have hm : z ∈ l := by
    rw [← h, List.getD_eq_getElem?_getD, List.getElem?_eq_getElem ha]; exact List.getElem_mem ha
  have hc := contains_true hm
  exact ⟨hc, hu _ (idx_lt hc) (idx_at hc)⟩
theorem used_step {k kept q : Nat} {s : Ck} (h : Used k kept s) (hk : kept < k) (hkt : s.t.getD kept 0 = (kept : Int)) (hq : q < k) (hqk : q ≠ kept) (hq0 : 0 ≤ s.t.getD q 0) :
    touchE s (kept : Int) = 0 ∧ leaveE (touchS s (kept : Int)) (upL k) = 0 ∧ leaveN (touchS s (kept : Int)) (upL k) ≠ (kept : Int) ∧ Used k kept (leaveS (touchS s (kept : Int)) (upL k)) := by
  have hun : ∀ i, i < k → s.t.getD i 0 = (kept : Int) → i = kept := fun i hi e => by
    rcases h.val i hi with g | g <;> omega
  obtain ⟨hc, hx⟩ := idx_of (l := s.t) (z := (kept : Int)) (a := kept) (by rw [h.ok.len]; exact hk) hkt (fun i hi => hun i (by rw [← h.ok.len]; exact hi))
  have hE : touchE s (kept : Int) = 0 := by unfold touchE; rw [if_neg (by omega), hc]; rfl
  have hS : touchS s (kept : Int) = ⟨s.t, s.m.set kept true, s.h⟩ := by unfold touchS; rw [if_pos hE, hx]
  have hok := touch_ok h.ok (kept : Int)
  obtain ⟨s2, hs2⟩ : ∃ s2, s2 = touchS s (kept : Int) := ⟨_, rfl⟩
  rw [← hs2] at hok hS ⊢
  have ht : s2.t = s.t := by rw [hS]
  have hm2 : ∀ p, p < k → p ≠ kept → s2.m.getD p false = false := fun p hp hpk => by
    rw [hS]
    simp only [getD_setB]
    rw [if_neg (fun e => hpk e.1.symm)]
    exact h.mrk p hp hpk
  have hmk : s2.m.getD kept false = true := by
    rw [hS]
    simp only [getD_setB]
    rw [if_pos ⟨trivial, by rw [h.ok.mrk]; exact hk⟩]
  have hqv : s.t.getD q 0 = (q : Int) := (h.val q hq).elim id (fun e => by omega)
  have hmay : May13 s2 (upL k) q := ⟨by rw [ht]; exact hq0, by rw [ht, hqv]; exact contains_true (upL_mem.2 ⟨q, hq, rfl⟩)⟩
  have hany : anyK s2 (upL k) = true := place_any (p := q) (by rw [hok.len]; exact hq) hmay
  obtain ⟨n, hn⟩ := leave_some hok hany
  have hg : goK (upL k) (2 * s2.t.length + 1) s2 = ((goK (upL k) (2 * s2.t.length + 1) s2).1, some n) := by
    have h2 : leaveR s2 (upL k) = goK (upL k) (2 * s2.t.length + 1) s2 := by unfold leaveR; rw [if_pos hany]
    rw [h2] at hn; exact hn
  obtain ⟨p, hp, e1, e2, e3, e4, e5⟩ := go_gone (upL k) _ hok hg
  have hne := go_kept (upL k) (kept := (kept : Int)) hq hk hqk _ hok (fun i hi => by rw [ht]; exact hun i hi) (fun i hi hik => .inl (hm2 i hi hik)) hmay (hm2 q hq hqk) (fun e => by rw [hmk] at e; cases e) hg
  have hE2 : leaveE s2 (upL k) = 0 := by unfold leaveE; rw [hn]
  have hN : leaveN s2 (upL k) = n := by unfold leaveN; rw [hn]; rfl
  have hS2 : leaveS s2 (upL k) = (goK (upL k) (2 * s2.t.length + 1) s2).1 := by unfold leaveS; rw [hn]
  have hok2 := leave_ok hok (upL k)
  rw [hE2, hN, hS2]
  rw [hS2] at hok2
  refine ⟨hE, rfl, hne, hok2, fun j hj => ?_, fun j hj hjk => ?_⟩
  · rw [e4, getD_setI13]
    split
    · exact .inr rfl
    · rw [ht]; exact h.val j hj
  · cases hb : (goK (upL k) (2 * s2.t.length + 1) s2).1.m.getD j false
    · rfl
    · have := e5 j hb
      rw [hm2 j hj hjk] at this; cases this

section
variable {w : World} {Rep : World → Nat → (Nat → Prop) → Ck → Prop}
/-- A ring, and a row of one's own beside it. -/
def RowR (Rep : World → Nat → (Nat → Prop) → Ck → Prop) (w : World) (p : Nat) (s : Ck) (v : Value) (n : Nat) (l : List Int) (W : World) : Prop :=
  ∃ F, Rep W p F s ∧ (∀ b, F b → w.heap.size ≤ b) ∧ W.ownsRow w.heap.size 3 1 v n (l.map (Value.int .i64)) ∧ Free F v ∧ Below w.heap.size w W
theorem rowR_put (HS : ClockSpec w Rep) {W : World} {p n : Nat} {s : Ck} {v : Value} {l : List Int} (h : RowR Rep w p s v n l W) {x : Int} (hx : I64c x) : Calls Try.prog 11 #[.pointer (some ⟨p, 0, none⟩), .int .i64 x] W fun e w' => ∃ a b : Int, e = .returned (.tuple #[.int .i64 a, .int .i64 b]) ∧ RowR Rep w p (putS s x) v n l w' := by
  obtain ⟨F, hr, hF, ho, hf, hb⟩ := h
  exact (HS.put x p F s W hb hx hr hF).mono fun e w' ⟨F', r1, r2, r3, r4⟩ => ⟨_, _, r1, F', r2, fun b q => (r3 b q).elim (hF b) (fun q => Nat.le_trans hb.size q), own_away ho r4 hf, free_more ho hf r3, r4.below hF hb hb.size⟩
theorem rowR_touch (HS : ClockSpec w Rep) {W : World} {p n : Nat} {s : Ck} {v : Value} {l : List Int} (h : RowR Rep w p s v n l W) {x : Int} (hx : I64c x) : Calls Try.prog 13 #[.pointer (some ⟨p, 0, none⟩), .int .i64 x] W fun e w' => e = .returned (.int .i64 (touchE s x)) ∧ RowR Rep w p (touchS s x) v n l w' := by
  obtain ⟨F, hr, hF, ho, hf, hb⟩ := h
  exact (HS.touch x p F s W hb hx hr hF).mono fun e w' ⟨F', r1, r2, r3, r4⟩ => ⟨r1, F', r2, fun b q => (r3 b q).elim (hF b) (fun q => Nat.le_trans hb.size q), own_away ho r4 hf, free_more ho hf r3, r4.below hF hb hb.size⟩
theorem rowR_leave (HS : ClockSpec w Rep) {W : World} {p n c : Nat} {s : Ck} {A : Option Addr} {l : List Int} (h : RowR Rep w p s (.slice A n c) n l W) (hl : l.length = n) (hv : ∀ z ∈ l, I64c z) (hn : n ≤ 17592186043904) : Calls Try.prog 17 #[.pointer (some ⟨p, 0, none⟩), .slice A n c] W fun e w' => e = .returned (.tuple #[.int .i64 (leaveN s l), .int .i64 (leaveE s l)]) ∧ RowR Rep w p (leaveS s l) (.slice A n c) n l w' := by
  obtain ⟨F, hr, hF, ho, hf, hb⟩ := h
  have hI : Ints W W.heap.size .i64 A l := Ints.of_own (n := n) (c := c) (by rw [hl]; exact ho)
  have hc := HS.leave A c l p F s W hb hI hv (by rw [hl]; exact own_roomK ho) (by rw [hl]; exact hn) (fun _ b o e => hf b (by rw [e]; rfl)) hr hF
  rw [hl] at hc
  exact hc.mono fun e w' ⟨F', r1, r2, r3, r4⟩ => ⟨r1, F', r2, fun b q => (r3 b q).elim (hF b) (fun q => Nat.le_trans hb.size q), own_away ho r4 hf, free_more ho hf r3, r4.below hF hb hb.size⟩
theorem RowR.later (HS : ClockSpec w Rep) {W W' : World} {p n : Nat} {s : Ck} {v : Value} {l : List Int} (h : RowR Rep w p s v n l W) (hb : Below W.heap.size W W') : RowR Rep w p s v n l W' := by
  obtain ⟨F, hr, hF, ho, hf, hB⟩ := h
  refine ⟨F, HS.later hr hb, hF, ?_, hf, chain hB hb⟩
  exact own_away ho (Away.of_below (F := F) hb) hf
theorem rowR_things (HS : ClockSpec w Rep) {W : World} {p n : Nat} {s : Ck} {v : Value} {l : List Int} (h : RowR Rep w p s v n l W) : Calls Try.prog 21 #[.pointer (some ⟨p, 0, none⟩)] W fun e w' => ∃ A c, e = .returned (.slice A s.t.length c) ∧ Ints w' w'.heap.size .i64 A s.t ∧ RowR Rep w p s v n l w' := by
  have h0 := h
  obtain ⟨F, hr, hF, ho, hf, hb⟩ := h
  exact (HS.things p F s W hb hr hF).mono fun e w' ⟨A, c, r1, r2, r3⟩ => ⟨A, c, r1, r2, h0.later HS r3⟩
/-- Behind an append. -/
theorem rowR_app (HS : ClockSpec w Rep) {W W2 : World} {p n : Nat} {s : Ck} {v v5 : Value} {l : List Int} {x : Int} (h : RowR Rep w p s v n l W) (h5 : W2.ownsRow w.heap.size 3 1 v5 (n + 1) (l.map (Value.int .i64) ++ [.int .i64 x])) (hg : (W.alloc (.cells #[.int .i64 x] 3)).grownBy W2 v.ownBlock) (hv5 : v5.ownBlock = v.ownBlock ∨ v5.ownBlock = some (W.heap.size + 1)) :
    RowR Rep w p s v5 (n + 1) (l ++ [x]) W2 := by
  obtain ⟨F, hr, hF, ho, hf, hb⟩ := h
  have hr2 := HS.later hr ((Below.refl _ _).alloc (Nat.le_refl _) (.cells #[.int .i64 x] 3))
  have hs : (W.alloc (.cells #[.int .i64 x] 3)).heap.size = W.heap.size + 1 := by simp
  exact ⟨F, rep_grown HS hr2 hg hf, hF, by rw [List.map_append]; exact h5, free_grown HS hr2 hf (by rw [hs]; exact hv5), (hb.alloc hb.size _).grown hg (by have := hb.size; omega) fun q hq => (ho.lt q hq).1⟩
theorem rowR_start (HS : ClockSpec w Rep) {W : World} {p : Nat} {s : Ck} (h : OwnK Rep w W p s) : RowR Rep w p s (.slice (some ⟨W.heap.size, 0, none⟩) 0 0) 0 [] (W.alloc (.cells #[] 3)) := by
  obtain ⟨F, hr, hF, hb⟩ := h
  refine ⟨F, HS.later hr ((Below.refl _ _).alloc (Nat.le_refl _) _), hF, World.ownsRow_made W #[] 0 hb.size (Nat.zero_le _) rfl, fun q hq hq2 => ?_, hb.alloc hb.size _⟩
  have : q = W.heap.size := by simp [Value.ownBlock] at hq; exact hq.symm
  have := HS.lt W p F _ hr q hq2
  omega

set_option maxHeartbeats 3200000 in
set_option maxRecDepth 20000 in
/-- ClockUsed. -/
theorem clockUsed_go (n wh ro : Nat) (w : World) (HS : ClockSpec w Rep) (hn : n < 256) (hw : wh < 256) (hro : ro < 256) :
    Calls Try.prog 4 #[.int .u8 (n : Int), .int .u8 (wh : Int), .int .u8 (ro : Int)] w fun e w' => e = .returned (.bool true) ∧ Below w.heap.size w w' := by
  obtain ⟨i0, hif, hz0, hz1, hz2⟩ := info_parts Try.infoI64k
  have HA := Lib.hid (fun (W : World) (hb : Below w.heap.size w W) => clockAwake HS W hb)
  obtain ⟨M, hM⟩ : ∃ M, M = n % 20 := ⟨_, rfl⟩
  obtain ⟨k, hk⟩ : ∃ k, k = M + 2 := ⟨_, rfl⟩
  have f1 : IntKind.u8.wrap ((n : Int) % 20) = (M : Int) := by show ((n : Int) % 20) % 256 = _; omega
  have f2 : ((n : Int)).tmod 20 = (M : Int) := by rw [Int.tmod_eq_emod_of_nonneg (by omega)]; omega
  have f4 : (M : Int) + 2 = (k : Int) := by omega
  have f5 : IntKind.i64.wrap ((M : Int) + 2) = (k : Int) := by rw [f4]; exact IntWalk.i64_in _ (by omega)
  have f6 : IntKind.i64.wrap (M : Int) = (M : Int) := IntWalk.i64_in _ (by omega)
  have f7 : IntKind.i64.wrap (wh : Int) = (wh : Int) := IntWalk.i64_in _ (by omega)
  obtain ⟨x, hx⟩ : ∃ x, x = wh % k := ⟨_, rfl⟩
  have hxk : x < k := by rw [hx]; exact Nat.mod_lt _ (by omega)
  have g2 : ((wh : Int)).tmod (k : Int) = (x : Int) := by rw [Int.tmod_eq_emod_of_nonneg (by omega), hx]; rfl
  have g3 : (wh : Int) % (k : Int) = (x : Int) := by rw [hx]; rfl
  have g1 : IntKind.i64.wrap ((wh : Int) % (k : Int)) = (x : Int) := by rw [g3]; exact IntWalk.i64_in _ (by omega)
  have g4 : ((k : Int) == 0) = false := beq_eq_false_iff_ne.2 (by omega)
  obtain ⟨R, hR⟩ : ∃ R, R = ro % 20 := ⟨_, rfl⟩
  have r1 : IntKind.u8.wrap ((ro : Int) % 20) = (R : Int) := by show ((ro : Int) % 20) % 256 = _; omega
  have r2 : ((ro : Int)).tmod 20 = (R : Int) := by rw [Int.tmod_eq_emod_of_nonneg (by omega)]; omega
  have r3 : IntKind.i64.wrap (R : Int) = (R : Int) := IntWalk.i64_in _ (by omega)
  have R19 : (R : Int) ≤ 19 := by omega
  have hk22 : k < 22 := by omega
  have hk2 : 2 ≤ k := by omega
  have H1 := Lib.hid (own_new (Rep := Rep) HS (W := w) (n := k) (Below.refl _ _) (by omega) (by omega))
  have HLT : Hid (∀ W W' p s, OwnK Rep w W p s → Below W.heap.size W W' → OwnK Rep w W' p s) := fun W W' p s h hb => h.later HS hb
  have HOB : Hid (∀ W p s, OwnK Rep w W p s → Below w.heap.size w W) := fun W p s h => h.choose_spec.2.2
  have H0 : Hid (∀ W p, OwnK Rep w W p (newC k) → RowR Rep w p (stK k 0) (.slice (some ⟨W.heap.size, 0, none⟩) 0 0) 0 (upL 0) (W.alloc (.cells #[] 3))) := fun W p h => rowR_start HS h
  have HPUT : Hid (∀ i v W p, i < k → RowR Rep w p (stK k i) v i (upL i) W → Calls Try.prog 11 #[.pointer (some ⟨p, 0, none⟩), .int .i64 (i : Int)] W fun e w' => ∃ a b : Int, e = .returned (.tuple #[.int .i64 a, .int .i64 b]) ∧ RowR Rep w p (stK k (i + 1)) v i (upL i) w') := fun i v W p hi h => rowR_put HS h (x := (i : Int)) (by unfold I64c; omega)
  have HAPP : Hid (∀ i v W W2 v5 p, RowR Rep w p (stK k (i + 1)) v i (upL i) W → W2.ownsRow w.heap.size 3 1 v5 (i + 1) ((upL i).map (Value.int .i64) ++ [.int .i64 (i : Int)]) → (W.alloc (.cells #[.int .i64 (i : Int)] 3)).grownBy W2 v.ownBlock → (v5.ownBlock = v.ownBlock ∨ v5.ownBlock = some (W.heap.size + 1)) → RowR Rep w p (stK k (i + 1)) v5 (i + 1) (upL (i + 1)) W2) := fun i v W W2 v5 p h h5 hg hv5 => by
    rw [upL_succ]; exact rowR_app HS h h5 hg hv5
  have hupv : ∀ z ∈ upL k, I64c z := fun z hz => by obtain ⟨j, hj, e⟩ := upL_mem.1 hz; unfold I64c; omega
  have HLV0 : Hid (∀ A c W p, RowR Rep w p (stK k k) (.slice A k c) k (upL k) W → Calls Try.prog 17 #[.pointer (some ⟨p, 0, none⟩), .slice A k c] W fun e w' => ∃ a b : Int, e = .returned (.tuple #[.int .i64 a, .int .i64 b]) ∧ ∃ s, Used k x s ∧ RowR Rep w p s (.slice A k c) k (upL k) w') := fun A c W p h =>
    (rowR_leave HS h (upL_len k) hupv (by omega)).mono fun e w' ⟨q1, q2⟩ => ⟨_, _, q1, _, used_of (by omega) (used_start k hk22 hk2) x, q2⟩
  have HTH : Hid (∀ A c s W p, s.t.length = k → RowR Rep w p s (.slice A k c) k (upL k) W → Calls Try.prog 21 #[.pointer (some ⟨p, 0, none⟩)] W fun e w' => ∃ A' c', e = .returned (.slice A' k c') ∧ Ints w' w'.heap.size .i64 A' s.t ∧ RowR Rep w p s (.slice A k c) k (upL k) w') := fun A c s W p hl h => by
    have h2 := rowR_things HS h
    rw [hl] at h2; exact h2
  have HTO : Hid (∀ A c s W p, RowR Rep w p s (.slice A k c) k (upL k) W → Calls Try.prog 13 #[.pointer (some ⟨p, 0, none⟩), .int .i64 (x : Int)] W fun e w' => ∃ a : Int, e = .returned (.int .i64 a) ∧ RowR Rep w p (touchS s (x : Int)) (.slice A k c) k (upL k) w') := fun A c s W p h =>
    (rowR_touch HS h (x := (x : Int)) (by unfold I64c; omega)).mono fun e w' ⟨q1, q2⟩ => ⟨_, q1, q2⟩
  have HLV : Hid (∀ A c s W p q, Used k x s → s.t.getD x 0 = (x : Int) → q < k → q ≠ x → 0 ≤ s.t.getD q 0 → RowR Rep w p (touchS s (x : Int)) (.slice A k c) k (upL k) W → Calls Try.prog 17 #[.pointer (some ⟨p, 0, none⟩), .slice A k c] W fun e w' => ∃ a : Int, e = .returned (.tuple #[.int .i64 a, .int .i64 0]) ∧ (a == (x : Int)) = false ∧ ∃ s', Used k x s' ∧ RowR Rep w p s' (.slice A k c) k (upL k) w') := fun A c s W p q hu h1 h2 h3 h4 h => by
    obtain ⟨_, q2, q3, q4⟩ := used_step hu hxk h1 h2 h3 h4
    have h5 := rowR_leave HS h (upL_len k) hupv (by omega)
    rw [q2] at h5
    exact h5.mono fun e w' ⟨q1, q5⟩ => ⟨_, q1, beq_eq_false_iff_ne.2 q3, _, q4, q5⟩
  have HBB : Hid (∀ s v n l W p, RowR Rep w p s v n l W → Below w.heap.size w W ∧ W.ownsRow w.heap.size 3 1 v n (l.map (Value.int .i64))) := fun s v n l W p h => ⟨h.choose_spec.2.2.2.2, h.choose_spec.2.2.1⟩
  have k1 : (2 : Int) ≤ (k : Int) := by omega
  have k21 : (k : Int) ≤ 21 := by omega
  have x0 : (0 : Int) ≤ (x : Int) := by omega
  clear HS hM hk hx g3 f4 hn hw hro hR hupv
  go_enter Try.func4, Try.ntmps4
  go_wp2_with (first
    | (go_at_call 8; with_reducible (refine Calls.mono H1.out ?_); rintro e w1 ⟨p, rfl, ho1⟩)
    | (go_at_call 9; with_reducible (refine Calls.mono (HA.out _ (HOB.out _ _ _ ho1)) ?_); rintro e w2 ⟨rfl, hb2⟩; have ho2 := Lib.hid (HLT.out _ _ _ _ ho1 hb2)))
  have R0 := Lib.hid (H0.out _ _ ho2.out)
  clear ho1 ho2 hb2 HA H1
  go_loopw [10, 11] (fun v i wx => ∃ j : Nat, j ≤ k ∧ i = .int .i64 j ∧ (∃ A c, v = .slice A j c) ∧ Hid (RowR Rep w p (stK k j) v j (upL j) wx)) (fun _ i _ => k - (intOf i).toNat)
  case atStart => exact ⟨0, Nat.zero_le _, rfl, ⟨_, _, rfl⟩, R0.out⟩
  case round =>
    clear R0
    obtain ⟨j, hj, rfl, ⟨A3, c3, rfl⟩, hR⟩ := hrel
    by_cases hlt : j < k
    · have HPJ := Lib.hid (HPUT.out j _ _ _ hlt hR.out)
      have j1 : (j : Int) < (k : Int) := by omega
      clear hR
      go_wp2_with (first
        | (go_at_call 11; with_reducible (refine Calls.mono HPJ.out ?_); rintro e w3 ⟨a3, b3, rfl, hr3⟩; have HR3 := Lib.hid hr3; obtain ⟨hb3, ho3⟩ := HBB.out _ _ _ _ _ _ hr3; clear hr3)
        | (at_builtin; refine wpList_append_own_at _ rfl _ _ 30 rfl w.heap.size 3 i0 (.int .i64 0) 1 8 Try.underlying30 hif hz0 hz1 hz2 rfl (by decide) _ _ _ rfl (ho3.alloc _) ⟨w3.heap.size, 0, none⟩ 1 1 [.int .i64 (j : Int)] rfl rfl (cell_one_new _ _ _) ?d1 ?d2 ?d3 ?d4 ?_))
      case d1 => first | rfl | (intro u hu; simp at hu; subst hu; rfl)
      case d2 => unfold maxLen; omega
      case d3 => omega
      case d4 => have := hb3.size; simp; omega
      intro v5 w5 hown5 hg5 _ hv5
      have R : Hid (RowR Rep w p (stK k (j + 1)) v5 (j + 1) (upL (j + 1)) w5) := HAPP.out j _ w3 w5 v5 p HR3.out hown5 hg5 hv5
      obtain ⟨A6, c6, rfl⟩ := own_slice hown5
      clear ho3 hb3 hown5 hg5 hv5
      go_wp2
      go_roundw
      case rel => first | exact ⟨j + 1, by omega, by go_num, ⟨A6, c6, rfl⟩, R⟩ | ((repeat apply Exists.intro); exact ⟨⟨j + 1, by omega, by go_num, ⟨A6, c6, rfl⟩, R⟩, rfl⟩)
      case measure => simp [intOf]; omega
    · have hjk : k = j := by omega
      subst hjk
      have HLJ := Lib.hid (HLV0.out _ _ _ _ hR.out)
      clear hR HPUT HAPP HLV0 H0 HLT HOB
      go_wp2_with (go_at_call 17; with_reducible (refine Calls.mono HLJ.out ?_); rintro e w3 ⟨a3, b3, rfl, hr3⟩; have HR3 := Lib.hid hr3; clear hr3)
      go_loopw [13] (fun i wx => ∃ j : Nat, j ≤ R ∧ i = .int .i64 j ∧ Hid (∃ s, Used k x s ∧ RowR Rep w p s (.slice A3 k c3) k (upL k) wx)) (fun i _ => R - (intOf i).toNat)
      case atStart => exact ⟨0, Nat.zero_le _, rfl, HR3.out⟩
      case round =>
        clear HR3
        obtain ⟨j, hj, rfl, hR⟩ := hrel
        obtain ⟨wo, hwo⟩ : ∃ x, x = wr := ⟨_, rfl⟩
        subst hwo
        obtain ⟨s, hu, hr⟩ := hR.out
        have HU := Lib.hid hu
        have HR4 := Lib.hid hr
        clear hR hu hr
        by_cases hlt : j < R
        · have j1 : (j : Int) < (R : Int) := by omega
          have HTJ := Lib.hid (HTH.out _ _ s _ _ HU.out.ok.len HR4.out)
          go_wp2_with (go_at_call 21; with_reducible (refine Calls.mono HTJ.out ?_); rintro e w5 ⟨A5, c5, rfl, hi5, hr5⟩; have HI5 := Lib.hid hi5; have HR5 := Lib.hid hr5; clear hi5 hr5)
          go_loopw [14, 16] (fun a i wx => ∃ m : Nat, m ≤ k ∧ i = .int .i64 m ∧ Hid ((a = .int .i64 (-1)) ∨ (a = .int .i64 (x : Int) ∧ s.t.getD x 0 = (x : Int))) ∧ (∃ y : Int, a = .int .i64 y) ∧ wx = w5) (fun _ i _ => k - (intOf i).toNat)
          case atStart => exact ⟨0, Nat.zero_le _, rfl, .inl rfl, ⟨_, rfl⟩, rfl⟩
          case round =>
            obtain ⟨m, hm, rfl, hat, ⟨y0, rfl⟩, hwr⟩ := hrel
            by_cases hmk : m < k
            · have m1 : (m : Int) < (k : Int) := by omega
              have m0 : (0 : Int) ≤ (m : Int) := by omega
              obtain ⟨b5, o5, rfl, _, cm⟩ := HI5.out m (by rw [HU.out.ok.len]; exact hmk)
              rw [← hwr] at cm
              have hval := HU.out.val m hmk
              have HZ : Hid (s.t.getD m 0 = s.t.getD m 0) := rfl
              obtain ⟨z, hz⟩ : ∃ z, z = s.t.getD m 0 := ⟨_, rfl⟩
              rw [← hz] at cm hval
              have HZ2 := Lib.hid hz
              have HWR := Lib.hid hwr
              clear hz hwr HZ
              by_cases hzx : z = (x : Int)
              · have hmx : m = x := by omega
                have he : (z == (x : Int)) = true := beq_iff_eq.2 hzx
                have HN : Hid ((Value.int .i64 (m : Int) = .int .i64 (-1)) ∨ (Value.int .i64 (m : Int) = .int .i64 (x : Int) ∧ s.t.getD x 0 = (x : Int))) := .inr ⟨by rw [hmx], by rw [← hmx, ← HZ2.out, hzx, hmx]⟩
                clear hzx hmx hval hat
                go_wp2
                go_roundw
                case rel => first | exact ⟨m + 1, by omega, by go_num, HN, ⟨_, rfl⟩, HWR.out⟩ | ((repeat apply Exists.intro); exact ⟨⟨m + 1, by omega, by go_num, HN, ⟨_, rfl⟩, HWR.out⟩, rfl⟩)
                case measure => simp [intOf]; omega
              · have he : (z == (x : Int)) = false := beq_eq_false_iff_ne.2 hzx
                clear hzx hval
                go_wp2
                go_roundw
                case rel => first | exact ⟨m + 1, by omega, by go_num, hat, ⟨_, rfl⟩, HWR.out⟩ | ((repeat apply Exists.intro); exact ⟨⟨m + 1, by omega, by go_num, hat, ⟨_, rfl⟩, HWR.out⟩, rfl⟩)
                case measure => simp [intOf]; omega
            · have hmk2 : m = k := by omega
              subst hmk2
              subst hwr
              have HAT := hat
              clear hat
              go_wp2
              obtain ⟨wq, hwq⟩ : ∃ x, x = wr := ⟨_, rfl⟩
              subst hwq
              go_loopw [17, 18] (fun o i wx => ∃ (m' : Nat) (y : Nat), m' ≤ m ∧ y ≤ m' ∧ i = .int .i64 m' ∧ o = .int .i64 (y : Int) ∧ Hid (y = 0 ∨ ∃ q, q < m ∧ q ≠ x ∧ 0 ≤ s.t.getD q 0) ∧ wx = wq) (fun _ i _ => m - (intOf i).toNat)
              case atStart => exact ⟨0, 0, Nat.zero_le _, Nat.le_refl _, rfl, rfl, .inl rfl, rfl⟩
              case round =>
                obtain ⟨r, y, hrm, hyr, rfl, rfl, hoth, hwr⟩ := hrel
                by_cases hrk : r < m
                · have m1 : (r : Int) < (m : Int) := by omega
                  have m0 : (0 : Int) ≤ (r : Int) := by omega
                  obtain ⟨b5, o5, rfl, _, cm⟩ := HI5.out r (by rw [HU.out.ok.len]; exact hrk)
                  rw [← hwr] at cm
                  have hval := HU.out.val r hrk
                  obtain ⟨z, hz⟩ : ∃ z, z = s.t.getD r 0 := ⟨_, rfl⟩
                  rw [← hz] at cm hval
                  have HZ2 := Lib.hid hz
                  have HWR := Lib.hid hwr
                  have vy : IntKind.i64.wrap ((y : Int) + 1) = (y : Int) + 1 := IntWalk.i64_in _ (by omega)
                  clear hz hwr
                  by_cases hz0 : 0 ≤ z
                  · have d0 : decide (0 ≤ z) = true := decide_eq_true hz0
                    by_cases hzx : z = (x : Int)
                    · have he : (z == (x : Int)) = true := beq_iff_eq.2 hzx
                      have hf : (z != (x : Int)) = false := by rw [bne, he]; rfl
                      clear hzx hval
                      go_wp2
                      go_roundw
                      case rel => first | exact ⟨r + 1, y, by omega, by omega, by go_num, rfl, hoth, HWR.out⟩ | ((repeat apply Exists.intro); exact ⟨⟨r + 1, y, by omega, by omega, by go_num, rfl, hoth, HWR.out⟩, rfl⟩)
                      case measure => simp [intOf]; omega
                    · have he : (z == (x : Int)) = false := beq_eq_false_iff_ne.2 hzx
                      have hf : (z != (x : Int)) = true := by rw [bne, he]; rfl
                      have HN : Hid (y + 1 = 0 ∨ ∃ q, q < m ∧ q ≠ x ∧ 0 ≤ s.t.getD q 0) := .inr ⟨r, hrk, fun e => by subst e; omega, by rw [← HZ2.out]; exact hz0⟩
                      clear hzx hval hoth
                      go_wp2
                      go_roundw
                      case rel => first | exact ⟨r + 1, y + 1, by omega, by omega, by go_num, by go_num, HN, HWR.out⟩ | ((repeat apply Exists.intro); exact ⟨⟨r + 1, y + 1, by omega, by omega, by go_num, by go_num, HN, HWR.out⟩, rfl⟩)
                      case measure => simp [intOf]; omega
                  · have d0 : decide (0 ≤ z) = false := decide_eq_false hz0
                    clear hval
                    go_wp2
                    go_roundw
                    case rel => first | exact ⟨r + 1, y, by omega, by omega, by go_num, rfl, hoth, HWR.out⟩ | ((repeat apply Exists.intro); exact ⟨⟨r + 1, y, by omega, by omega, by go_num, rfl, hoth, HWR.out⟩, rfl⟩)
                    case measure => simp [intOf]; omega
                · have hrm2 : r = m := by omega
                  subst hrm2
                  subst hwr
                  have HB9 := Lib.hid (HBB.out _ _ _ _ _ _ HR5.out).1
                  rcases HAT.out with e | ⟨e, hxt⟩
                  · injection e with _ e
                    subst e
                    clear HAT hoth
                    go_wp2
                    go_ret
                    exact ⟨rfl, HB9.out⟩
                  · injection e with _ e
                    subst e
                    have HXT := Lib.hid hxt
                    clear HAT hxt
                    rcases hoth.out with e | ⟨q, q1, q2, q3⟩
                    · subst e
                      clear hoth
                      go_wp2
                      go_ret
                      exact ⟨rfl, HB9.out⟩
                    · clear hoth
                      by_cases hy0 : y = 0
                      · subst hy0
                        clear q1 q2 q3
                        go_wp2
                        go_ret
                        exact ⟨rfl, HB9.out⟩
                      · have he : ((y : Int) == 0) = false := beq_eq_false_iff_ne.2 (by omega)
                        have hxn : ¬ (x : Int) < 0 := by omega
                        have HTT := Lib.hid (HTO.out _ _ s _ _ HR5.out)
                        have HLL := Lib.hid (fun W h => HLV.out A3 c3 s W p q HU.out HXT.out q1 q2 q3 h)
                        clear q1 q2 q3 hy0
                        go_wp2_with (first
                          | (go_at_call 13; with_reducible (refine Calls.mono HTT.out ?_); rintro e w6 ⟨a6, rfl, hr6⟩; have HR6 := Lib.hid hr6; clear hr6)
                          | (go_at_call 17; with_reducible (refine Calls.mono (HLL.out _ HR6.out) ?_); rintro e w7 ⟨a7, rfl, ha7, hr7⟩; have HR7 := Lib.hid hr7; clear hr7))
                        go_roundw
                        case rel => first | exact ⟨j + 1, by omega, by go_num, HR7⟩ | ((repeat apply Exists.intro); exact ⟨⟨j + 1, by omega, by go_num, HR7⟩, rfl⟩)
                        case measure => simp [intOf]; omega
        · have j1 : ¬ (j : Int) < (R : Int) := by omega
          have HB9 := Lib.hid (HBB.out _ _ _ _ _ _ HR4.out).1
          go_wp2
          go_ret
          exact ⟨rfl, HB9.out⟩
end

end Go.Proofs.Ytdfalnjdjkoofaa
