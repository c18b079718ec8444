/-
  The document's own disk (stowageref14): Now, Read, spend.
-/
import Derived.Test.YtnbgnllkikajpaaDiskMay
namespace Go.Proofs.Ytnbgnllkikajpaa
open Go.RowKit

def pendV (ps : List (Nat × List Nat)) : List Value := ps.flatMap fun p => [.int .i64 (p.1 : Int), txtV p.2]
theorem pendV_len (ps : List (Nat × List Nat)) : (pendV ps).length = ps.length * 2 := by
  induction ps with
  | nil => rfl
  | cons p ps ih => unfold pendV at ih ⊢; rw [List.flatMap_cons, List.length_append, ih, List.length_cons]; simp; omega
theorem pendV_app (ps : List (Nat × List Nat)) (p : Nat × List Nat) : pendV (ps ++ [p]) = pendV ps ++ [.int .i64 (p.1 : Int), txtV p.2] := by
  unfold pendV; rw [List.flatMap_append]; rfl
theorem pendV_at (ps : List (Nat × List Nat)) : ∀ {i : Nat}, i < ps.length → (pendV ps)[i * 2]? = some (.int .i64 ((ps.getD i (0, [])).1 : Int)) ∧ (pendV ps)[i * 2 + 1]? = some (txtV (ps.getD i (0, [])).2) := by
  induction ps with
  | nil => intro i hi; exact absurd hi (Nat.not_lt_zero _)
  | cons p ps ih =>
    intro i hi
    have e : pendV (p :: ps) = .int .i64 (p.1 : Int) :: txtV p.2 :: pendV ps := rfl
    rw [e]
    cases i with
    | zero => exact ⟨rfl, rfl⟩
    | succ i =>
      have h := ih (i := i) (by simpa using hi)
      rw [show (i + 1) * 2 = i * 2 + 1 + 1 by omega]
      exact h
def limOf (z : Int) : Option Nat := if z < 0 then none else some z.toNat
structure RefD (base : Nat) (W : World) (q lg lc : Nat) (v : Value) (z : Int) (s : Dk) : Prop where
  cell : W.heap[q]? = some (.cells #[.slice (some ⟨lg, 0, none⟩) s.last.length lc, v, .int .i64 z, .bool s.off] 44 (0, 0))
  last : W.ownsRow base 9 1 (.slice (some ⟨lg, 0, none⟩) s.last.length lc) s.last.length (s.last.map txtV)
  pend : W.ownsRow base 69 2 v s.pend.length (pendV s.pend)
  lim : s.lim = limOf z
  d1 : lg ≠ q
  d2 : v.ownBlock ≠ some q
  d3 : v.ownBlock ≠ some lg
  bq : base ≤ q
  zi : I64c z
  ok : s.ok
theorem ob_lit {g o n c b : Nat} (h : (Value.slice (some ⟨g, o, none⟩) n c).ownBlock = some b) : g = b := by injection h
/-- The blocks of the document's disk. -/
def RefF (q lg : Nat) (v : Value) : Nat → Prop := fun b => b = q ∨ b = lg ∨ v.ownBlock = some b
theorem own_heapV {w w' : World} {base e size n : Nat} {v : Value} {xs : List Value} (h : w.ownsRow base e size v n xs) (hk : ∀ g, v.ownBlock = some g → w'.heap[g]? = w.heap[g]?) : w'.ownsRow base e size v n xs := by
  refine ⟨h.1, ?_⟩
  rcases h.2 with hn | ⟨g, cap, cur, rfl, hb, hg, rest⟩
  · exact .inl hn
  · exact .inr ⟨g, cap, cur, rfl, hb, (hk g rfl).trans hg, rest⟩
section
variable {base : Nat} {W : World} {q lg lc : Nat} {v : Value} {z : Int} {s : Dk}
theorem RefD.cells (h : RefD base W q lg lc v z s) : W.cell? ⟨q, 0, none⟩ = some (.slice (some ⟨lg, 0, none⟩) s.last.length lc) ∧ W.cell? ⟨q, 1, none⟩ = some v ∧ W.cell? ⟨q, 2, none⟩ = some (.int .i64 z) ∧ W.cell? ⟨q, 3, none⟩ = some (.bool s.off) :=
  ⟨cell_of_row W q 0 _ _ _ h.cell, cell_of_row W q 1 _ _ _ h.cell, cell_of_row W q 2 _ _ _ h.cell, cell_of_row W q 3 _ _ _ h.cell⟩
theorem RefD.thaw (h : RefD base W q lg lc v z s) (i : Nat) : W.frozen? ⟨q, i, none⟩ = false := frozen_of_row W q i _ _ h.cell
theorem RefD.sect (h : RefD base W q lg lc v z s) {i : Nat} (hi : i < s.last.length) : W.cell? ⟨lg, i, none⟩ = some (txtV (s.last.getD i [])) := by
  rw [h.last.cellAt i (by omega), List.getElem?_map, List.getElem?_eq_getElem hi]
  simp [List.getD_eq_getElem?_getD, hi]
/-- Where the pending writes lie. -/
theorem RefD.form (h : RefD base W q lg lc v z s) : (v = .slice none 0 0 ∧ s.pend = []) ∨ ∃ g c, v = .slice (some ⟨g, 0, none⟩) s.pend.length c ∧ ∀ i, i < s.pend.length → W.cell? ⟨g, i * 2, none⟩ = some (.int .i64 ((s.pend.getD i (0, [])).1 : Int)) ∧ W.cell? ⟨g, i * 2 + 1, none⟩ = some (txtV (s.pend.getD i (0, [])).2) := by
  have hp := h.pend
  rcases hp.2 with ⟨hv, hn⟩ | ⟨g, cap, cur, hv, _⟩
  · exact .inl ⟨hv, List.eq_nil_of_length_eq_zero hn⟩
  · subst hv
    refine .inr ⟨g, cap, rfl, fun i hi => ?_⟩
    obtain ⟨h1, h2⟩ := pendV_at s.pend hi
    exact ⟨(hp.cellAt (i * 2) (by omega)).trans h1, (hp.cellAt (i * 2 + 1) (by omega)).trans h2⟩
theorem RefD.away {W' : World} {F : Nat → Prop} (h : RefD base W q lg lc v z s) (ha : Away F W W') (n1 : ¬ F q) (n2 : ¬ F lg) (n3 : Free F v) : RefD base W' q lg lc v z s :=
  ⟨(ha.block q (Array.getElem?_eq_some_iff.1 h.cell).1 n1).trans h.cell, own_heapV h.last (fun g hg => by injection hg with hg; subst hg; exact ha.block lg (h.last.lt lg rfl).2 n2), own_heapV h.pend (fun g hg => ha.block g (h.pend.lt g hg).2 (n3 g hg)), h.lim, h.d1, h.d2, h.d3, h.bq, h.zi, h.ok⟩
theorem RefD.drewN (h : RefD base W q lg lc v z s) (n : Nat) : RefD base (W.drewN n) q lg lc v z s := ⟨h.cell, h.last, h.pend, h.lim, h.d1, h.d2, h.d3, h.bq, h.zi, h.ok⟩
/-- The limit's cell is another one now. -/
theorem RefD.setZ (h : RefD base W q lg lc v z s) {z' : Int} (hz : I64c z') : RefD base (W.setCell ⟨q, 2, none⟩ (.int .i64 z')) q lg lc v z' ⟨s.last, s.pend, limOf z', s.off⟩ :=
  ⟨setc_same W q 2 _ _ _ h.cell, own_heapV h.last (fun g hg => setc_other W q g 2 _ (fun e => h.d1 ((ob_lit hg).trans e.symm))), own_heapV h.pend (fun g hg => setc_other W q g 2 _ (fun e => h.d2 (by rw [hg, e]))), rfl, h.d1, h.d2, h.d3, h.bq, hz, ⟨h.ok.pos, h.ok.le, h.ok.sec, h.ok.pen⟩⟩
theorem RefD.setOff (h : RefD base W q lg lc v z s) (b : Bool) : RefD base (W.setCell ⟨q, 3, none⟩ (.bool b)) q lg lc v z ⟨s.last, s.pend, s.lim, b⟩ :=
  ⟨setc_same W q 3 _ _ _ h.cell, own_heapV h.last (fun g hg => setc_other W q g 3 _ (fun e => h.d1 ((ob_lit hg).trans e.symm))), own_heapV h.pend (fun g hg => setc_other W q g 3 _ (fun e => h.d2 (by rw [hg, e]))), h.lim, h.d1, h.d2, h.d3, h.bq, h.zi, ⟨h.ok.pos, h.ok.le, h.ok.sec, h.ok.pen⟩⟩
/-- The pending writes are forgotten. -/
theorem RefD.setNil (h : RefD base W q lg lc v z s) : RefD base (W.setCell ⟨q, 1, none⟩ (.slice none 0 0)) q lg lc (.slice none 0 0) z ⟨s.last, [], s.lim, s.off⟩ :=
  ⟨setc_same W q 1 _ _ _ h.cell, own_heapV h.last (fun g hg => setc_other W q g 1 _ (fun e => h.d1 ((ob_lit hg).trans e.symm))), ⟨rfl, .inl ⟨rfl, rfl⟩⟩, h.lim, h.d1, by simp [Value.ownBlock], by simp [Value.ownBlock], h.bq, h.zi, ⟨h.ok.pos, h.ok.le, h.ok.sec, fun i hi => by simp at hi⟩⟩
/-- A sector lasts. -/
theorem RefD.setSec (h : RefD base W q lg lc v z s) (i : Nat) {t : List Nat} (ht : Sec t) : RefD base (W.setCell ⟨lg, i, none⟩ (txtV t)) q lg lc v z ⟨s.last.set i t, s.pend, s.lim, s.off⟩ := by
  have h1 := (h.last.stored i (txtV t)).1
  rw [← List.map_set] at h1
  refine ⟨(setc_other W lg q i _ h.d1).trans (by rw [List.length_set]; exact h.cell), by rw [List.length_set]; exact h1, own_heapV h.pend (fun g hg => setc_other W lg g i _ (fun e => h.d3 (by rw [hg, e]))), h.lim, h.d1, h.d2, h.d3, h.bq, h.zi, ⟨by rw [List.length_set]; exact h.ok.pos, by rw [List.length_set]; exact h.ok.le, fun j hj => ?_, fun j hj => by rw [List.length_set]; exact h.ok.pen j hj⟩⟩
  rw [List.length_set] at hj
  rw [set_getD _ _ _ _ hj]
  split
  · exact ht
  · exact h.ok.sec j hj

theorem seen_none (n : Nat) : ∀ (ps : List (Nat × List Nat)) (t : List Nat), (∀ i, i < ps.length → (ps.getD i (0, [])).1 ≠ n) → seenP n ps t = t
  | [], _, _ => rfl
  | p :: ps, t, h => by
    unfold seenP
    have h0 : p.1 ≠ n := h 0 (Nat.succ_pos _)
    rw [if_neg h0]
    exact seen_none n ps t fun i hi => h (i + 1) (by simpa using hi)
theorem seen_at (n : Nat) : ∀ (ps : List (Nat × List Nat)) (t : List Nat) (j : Nat), j < ps.length → (ps.getD j (0, [])).1 = n → (∀ i, j < i → i < ps.length → (ps.getD i (0, [])).1 ≠ n) → seenP n ps t = (ps.getD j (0, [])).2
  | [], _, _, hj, _, _ => absurd hj (Nat.not_lt_zero _)
  | p :: ps, t, 0, _, he, hn => by
    unfold seenP
    have he' : p.1 = n := he
    rw [if_pos he']
    exact seen_none n ps _ fun i hi => hn (i + 1) (Nat.succ_pos _) (by simpa using hi)
  | p :: ps, t, j + 1, hj, he, hn => by
    unfold seenP
    exact seen_at n ps _ j (by simpa using hj) he fun i h1 h2 => hn (i + 1) (by omega) (by simpa using h2)

set_option maxHeartbeats 1600000 in
set_option maxRecDepth 20000 in
theorem refNow_any (h : RefD base W q lg lc v z s) {n : Nat} (hn : n < s.last.length) (hm : s.pend.length ≤ 100000) : Calls Try.prog 32 #[.pointer (some ⟨q, 0, none⟩), .int .i64 (n : Int)] W fun e w' => e = .returned (txtV (nowD s n)) ∧ w' = W := by
  obtain ⟨c0, c1, _, _⟩ := h.cells
  have cn := h.sect hn
  have hle := h.ok.le
  have HN0 : Hid ((∀ i, i < s.pend.length → (s.pend.getD i (0, [])).1 ≠ n) → txtV (nowD s n) = txtV (s.last.getD n [])) := fun h0 => congrArg txtV (seen_none n s.pend _ h0)
  have HN1 : Hid (∀ j, j < s.pend.length → (s.pend.getD j (0, [])).1 = n → (∀ i, j < i → i < s.pend.length → (s.pend.getD i (0, [])).1 ≠ n) → txtV (nowD s n) = txtV (s.pend.getD j (0, [])).2) := fun j h1 h2 h3 => congrArg txtV (seen_at n s.pend _ j h1 h2 h3)
  obtain ⟨R, hR⟩ : ∃ R, R = strOfNums (up (nowD s n)) := ⟨_, rfl⟩
  have hRR : txtV (nowD s n) = .string R := by rw [hR]; rfl
  rw [hRR] at HN0 HN1 ⊢
  obtain ⟨N, hN⟩ : ∃ N, N = s.last.length := ⟨_, rfl⟩
  rw [← hN] at c0 hn hle
  have n0 : (0 : Int) ≤ (n : Int) := by omega
  have n1 : (n : Int) < (N : Int) := by omega
  have hst : ∃ tb, txtV (s.last.getD n []) = .string tb := ⟨_, rfl⟩
  obtain ⟨tb, htb⟩ := hst
  rw [htb] at cn HN0
  rcases h.form with ⟨rfl, hp⟩ | ⟨g, c, rfl, hp⟩
  · have hR0 := HN0.out (fun i hi => by rw [hp] at hi; exact absurd hi (Nat.not_lt_zero _))
    injection hR0 with hR0
    have HR0 := Lib.hid hR0
    clear h HN0 HN1 hR hRR hN htb hp hm hR0
    go_enter Try.func32, Try.ntmps32
    go_wp2
    go_loopw [5] (fun i wr => (∃ y : Int, y < 0 ∧ i = .int .i64 y) ∧ wr = W) (fun _ _ => 0)
    case atStart => exact ⟨⟨-1, by decide, rfl⟩, rfl⟩
    case round =>
      obtain ⟨⟨y, hy, rfl⟩, rfl⟩ := hrel
      have ny : ¬ (0 : Int) ≤ y := by omega
      go_wp2
      go_ret
      exact ⟨by rw [HR0.out]; rfl, rfl⟩
  · have HP := Lib.hid hp
    obtain ⟨M, hM⟩ : ∃ M, M = s.pend.length := ⟨_, rfl⟩
    rw [← hM] at c1 HP HN0 HN1 hm
    have hMi : (M : Int) ≤ 100000 := by omega
    clear h hR hRR hN htb hp hM
    go_enter Try.func32, Try.ntmps32
    go_wp2
    go_loopw [5] (fun i wr => ∃ k : Nat, k ≤ M ∧ i = .int .i64 ((k : Int) - 1) ∧ Hid (∀ i, k ≤ i → i < M → (s.pend.getD i (0, [])).1 ≠ n) ∧ wr = W) (fun i _ => (intOf i + 1).toNat)
    case atStart => exact ⟨M, Nat.le_refl _, rfl, fun i h1 h2 => absurd h2 (by omega), rfl⟩
    case round =>
      obtain ⟨k, hk, rfl, hno, rfl⟩ := hrel
      rcases Nat.eq_zero_or_pos k with hk0 | hk0
      · subst hk0
        have hR0 := HN0.out (fun i hi => hno.out i (Nat.zero_le _) hi)
        injection hR0 with hR0
        have HR0 := Lib.hid hR0
        clear hR0 hno HN0 HN1
        obtain ⟨y, hy⟩ : ∃ y, y = ((0 : Nat) : Int) - 1 := ⟨_, rfl⟩
        rw [← hy]
        have ny : ¬ (0 : Int) ≤ y := by omega
        clear hy
        go_wp2
        go_ret
        exact ⟨by rw [HR0.out]; rfl, rfl⟩
      · obtain ⟨j, rfl⟩ : ∃ j, k = j + 1 := ⟨k - 1, by omega⟩
        have ej : ((j + 1 : Nat) : Int) - 1 = (j : Int) := by omega
        rw [ej]
        have j0 : (0 : Int) ≤ (j : Int) := by omega
        have j1 : (j : Int) < (M : Int) := by omega
        obtain ⟨p1, p2⟩ := HP.out j (by omega)
        obtain ⟨x, hx⟩ : ∃ x, x = (s.pend.getD j (0, [])).1 := ⟨_, rfl⟩
        rw [← hx] at p1
        have hst : ∃ tq, txtV (s.pend.getD j (0, [])).2 = .string tq := ⟨_, rfl⟩
        obtain ⟨tq, htq⟩ := hst
        rw [htq] at p2
        by_cases hxn : x = n
        · have hR1 := HN1.out j (by omega) (hx ▸ hxn) (fun i h1 h2 => hno.out i (by omega) h2)
          rw [htq] at hR1
          injection hR1 with hR1
          have HR1 := Lib.hid hR1
          have d1 : ((x : Int) == (n : Int)) = true := by rw [hxn]; exact beq_self_eq_true _
          clear hR1 hno HN0 HN1 hx htq hxn
          go_wp2
          go_ret
          exact ⟨by rw [HR1.out]; rfl, rfl⟩
        · have d1 : ((x : Int) == (n : Int)) = false := beq_eq_false_iff_ne.2 (by omega)
          have HNO : Hid (∀ i, j ≤ i → i < M → (s.pend.getD i (0, [])).1 ≠ n) := fun i h1 h2 => by
            rcases Nat.eq_or_lt_of_le h1 with e | e
            · rw [← e, ← hx]; exact hxn
            · exact hno.out i (by omega) h2
          clear hno HN0 HN1 hx htq hxn
          go_wp2
          go_roundw
          case rel => first | exact ⟨j, by omega, rfl, HNO, by first | rfl | trivial⟩ | ((repeat apply Exists.intro); exact ⟨⟨j, by omega, rfl, HNO, by first | rfl | trivial⟩, rfl⟩)
          case measure => first | (simp [intOf]; done) | (simp [intOf]; omega)

set_option maxHeartbeats 1600000 in
set_option maxRecDepth 20000 in
theorem refRead_any (h : RefD base W q lg lc v z s) (n : Int) (hm : s.pend.length ≤ 100000) : Calls Try.prog 15 #[.pointer (some ⟨q, 0, none⟩), .int .i64 n] W fun e w' => e = .returned (.tuple #[if readE s n = 0 then txtV (nowD s n.toNat) else .string ⟨#[]⟩, .int .i64 (readE s n)]) ∧ w' = W := by
  obtain ⟨c0, c1, c2, c3⟩ := h.cells
  cases ho : s.off with
  | true =>
    have hE : readE s n = 8 := by unfold readE; rw [ho]; rfl
    rw [ho] at c3
    rw [hE, if_neg (by decide)]
    clear h hm
    go_enter Try.func15, Try.ntmps15
    go_wp2
    go_ret2
    exact ⟨rfl, rfl⟩
  | false =>
    rw [ho] at c3
    by_cases hout : outD s n
    · have hE : readE s n = 7 := by unfold readE; rw [ho, if_pos hout]; rfl
      rw [hE, if_neg (by decide)]
      by_cases h0 : n < 0
      · clear h hm hout
        go_enter Try.func15, Try.ntmps15
        go_wp2
        go_ret2
        exact ⟨rfl, rfl⟩
      · have h1 : (s.last.length : Int) ≤ n := by unfold outD at hout; omega
        clear h hm hout
        go_enter Try.func15, Try.ntmps15
        go_wp2
        go_ret2
        exact ⟨rfl, rfl⟩
    · have hE : readE s n = 0 := by unfold readE; rw [ho, if_neg hout]; rfl
      obtain ⟨i, rfl, hi⟩ := not_out hout
      rw [hE, if_pos rfl, Int.toNat_natCast]
      have HN := Lib.hid (refNow_any h hi hm)
      have h0 : ¬ (i : Int) < 0 := by omega
      have h1 : ¬ (s.last.length : Int) ≤ (i : Int) := by omega
      obtain ⟨N, hN⟩ : ∃ N, N = s.last.length := ⟨_, rfl⟩
      rw [← hN] at c0 h1
      obtain ⟨R, hR⟩ : ∃ R, R = txtV (nowD s i) := ⟨_, rfl⟩
      rw [← hR] at HN ⊢
      clear h hm hout hN hi hR
      go_enter Try.func15, Try.ntmps15
      go_wp2_with (go_at_call 32; with_reducible (refine Calls.mono HN.out ?_); rintro e w1 ⟨rfl, rfl⟩)
      go_ret2
      exact ⟨rfl, rfl⟩

theorem lim_zero {z : Int} : (limOf z = some 0 ↔ z = 0) := by
  unfold limOf
  by_cases h : z < 0
  · rw [if_pos h]; simp; omega
  · rw [if_neg h]; simp; omega
set_option maxHeartbeats 1600000 in
set_option maxRecDepth 20000 in
theorem refSpend_any (h : RefD base W q lg lc v z s) : Calls Try.prog 28 #[.pointer (some ⟨q, 0, none⟩)] W fun e w' => e = .returned (.int .i64 (spendE s)) ∧ ∃ z', RefD base w' q lg lc v z' (spendS s) ∧ Away (RefF q lg v) W w' := by
  obtain ⟨c0, c1, c2, c3⟩ := h.cells
  have f2 := h.thaw 2
  have f3 := h.thaw 3
  have hz := h.zi
  have hlim := h.lim
  by_cases h0 : z = 0
  · have hs : s.lim = some 0 := by rw [hlim]; exact lim_zero.2 h0
    have hE : spendE s = 8 := by unfold spendE; rw [if_pos hs]
    have hS : spendS s = ⟨s.last, s.pend, s.lim, true⟩ := by unfold spendS; rw [if_pos hs]
    have R : Hid (RefD base (W.setCell ⟨q, 3, none⟩ (.bool true)) q lg lc v z (spendS s) ∧ Away (RefF q lg v) W (W.setCell ⟨q, 3, none⟩ (.bool true))) := ⟨by rw [hS]; exact h.setOff true, (Away.refl _ _).set (.inl rfl) 3 _⟩
    rw [hE]
    subst h0
    obtain ⟨b0, hb0⟩ : ∃ b0, b0 = s.off := ⟨_, rfl⟩
    rw [← hb0] at c3
    clear h hz hlim hs hE hS hb0
    go_enter Try.func28, Try.ntmps28
    go_wp2
    go_ret
    exact ⟨rfl, _, R.out⟩
  · have hs : ¬ s.lim = some 0 := by rw [hlim]; exact fun e => h0 (lim_zero.1 e)
    have hE : spendE s = 0 := by unfold spendE; rw [if_neg hs]
    have d0 : (z == 0) = false := beq_eq_false_iff_ne.2 h0
    rw [hE]
    by_cases h1 : 0 < z
    · have hS : spendS s = ⟨s.last, s.pend, limOf (z - 1), s.off⟩ := by
        unfold spendS
        rw [if_neg hs, hlim]
        unfold limOf
        rw [if_neg (by omega), if_neg (by omega)]
        simp only [Option.map_some]
        congr 2
        omega
      unfold I64c at hz
      have R : Hid (RefD base (W.setCell ⟨q, 2, none⟩ (.int .i64 (z - 1))) q lg lc v (z - 1) (spendS s) ∧ Away (RefF q lg v) W (W.setCell ⟨q, 2, none⟩ (.int .i64 (z - 1)))) := ⟨by rw [hS]; exact h.setZ (by unfold I64c; omega), (Away.refl _ _).set (.inl rfl) 2 _⟩
      obtain ⟨hz1, hz2⟩ := hz
      clear h hlim hs hE hS
      go_enter Try.func28, Try.ntmps28
      go_wp2
      go_ret
      exact ⟨rfl, _, R.out⟩
    · have hS : spendS s = s := by
        unfold spendS
        rw [if_neg hs]
        have : s.lim = none := by rw [hlim]; unfold limOf; rw [if_pos (by omega)]
        obtain ⟨a, b, m, o⟩ := s
        simp only at this
        subst this
        rfl
      have R : Hid (RefD base W q lg lc v z (spendS s) ∧ Away (RefF q lg v) W W) := ⟨by rw [hS]; exact h, Away.refl _ _⟩
      clear h hz hlim hs hE hS
      go_enter Try.func28, Try.ntmps28
      go_wp2
      go_ret
      first | exact ⟨rfl, _, R.out⟩ | exact ⟨rfl, ⟨_, R.out.1⟩, R.out.2⟩
end

end Go.Proofs.Ytnbgnllkikajpaa
