/-
  Plain: what two areas of a disk hold of a table; transactions that are written whole or not at all. No program is spoken of here.
-/
import Derived.Test.YtbnhkplhmanmoaaGreatDiskNumsG
import Derived.Test.YtbnhkplhmanmoaaGreatCrcNumsG
import Derived.Test.YtbnhkplhmanmoaaGreatTableBackNG
namespace Go.Proofs.YtbnhkplhmanmoaaGreat
open Go.RowKit

/-! ### Areas -/
/-- The sectors of an area. -/
def areaT (last : List (List Nat)) (a : Nat) : List (List Int) := (List.range 192).map fun i => up (last.getD (a * 192 + i) [])
theorem areaT_len (last : List (List Nat)) (a : Nat) : (areaT last a).length = 192 := by simp [areaT]
theorem areaT_at (last : List (List Nat)) (a : Nat) {i : Nat} (h : i < 192) : (areaT last a).getD i [] = up (last.getD (a * 192 + i) []) := by
  simp [areaT, List.getD_eq_getElem?_getD, h]
def genA (L : List (List Int)) : Int := (decR (L.getD 0 [])).2.g
def wholeA (L : List (List Int)) : List (List Rc) := replR L (genA L)
structure Hd where
  area : Int
  gen : Int
  whole : List (List Rc)
def heldR (last : List (List Nat)) (a : Nat) : Hd := ⟨(a : Int), genA (areaT last a), wholeA (areaT last a)⟩
def overR (h o : Hd) : Bool := decide (0 < h.whole.length) && (decide (o.whole.length = 0) || decide (o.gen < h.gen))
def newTo (last : List (List Nat)) : Nat → Hd
  | 0 => ⟨1, 0, []⟩
  | k + 1 => if overR (heldR last k) (newTo last k) = true then heldR last k else newTo last k
def newestR (last : List (List Nat)) : Hd := newTo last 2

/-! ### Lines of one transaction -/
def recN : Rc := ⟨0, 0, 0, 0, 0, ⟨#[]⟩⟩
def lineAt (g : Int) (u : Nat) (l : List Rc) (i : Nat) : Ln := ⟨g, ((u + i : Nat) : Int), decide (i + 1 = l.length), l.getD i recN⟩
def txtAt (g : Int) (u : Nat) (l : List Rc) (i : Nat) : List Nat := (encB (lineAt g u l i)).map Int.toNat
def wsOf (a : Nat) (g : Int) (u : Nat) (l : List Rc) : List (Nat × List Nat) := (List.range l.length).map fun i => (a * 192 + u + i, txtAt g u l i)
theorem wsOf_len (a : Nat) (g : Int) (u : Nat) (l : List Rc) : (wsOf a g u l).length = l.length := by simp [wsOf]
theorem wsOf_take (a : Nat) (g : Int) (u : Nat) (l : List Rc) {k : Nat} (h : k < l.length) : (wsOf a g u l).take (k + 1) = (wsOf a g u l).take k ++ [(a * 192 + u + k, txtAt g u l k)] := by
  rw [List.take_succ_eq_append_getElem (by rwa [wsOf_len])]
  simp [wsOf]
theorem txt_up (g : Int) (u : Nat) (l : List Rc) (i : Nat) : up (txtAt g u l i) = encB (lineAt g u l i) := up_toNat (encB_mem _)
/-- A record that a line takes. -/
def fitR (r : Rc) : Prop := inN r.k 9 = true ∧ inN r.a 1099511627776 = true ∧ inN r.b 1099511627776 = true ∧ inN r.c 1099511627776 = true ∧ inN r.d 1099511627776 = true ∧ (r.key.size = 0 ∨ r.key.size = 16)
theorem fit_N : fitR recN := ⟨rfl, rfl, rfl, rfl, rfl, .inl rfl⟩
theorem fit_form {r : Rc} (h : formR r) : fitR r := by
  unfold formR plainT inR at h
  unfold fitR
  simp only [inN_iff]
  by_cases k1 : r.k = 1
  · rw [if_pos k1] at h; omega
  rw [if_neg k1] at h
  split at h
  · exact h.elim
  rename_i hk
  have hd : r.d = 0 := Decidable.byContradiction fun q => hk (.inl q)
  have hs : r.key.size = 0 := Decidable.byContradiction fun q => hk (.inr (.inl q))
  have hc : r.k ≠ 5 → r.c = 0 := fun q => Decidable.byContradiction fun q2 => hk (.inr (.inr ⟨q2, q⟩))
  repeat' (split at h)
  all_goals first
    | exact h.elim
    | (have := hc (by omega); omega)
    | omega
structure Fits (g : Int) (u : Nat) (l : List Rc) : Prop where
  g0 : 0 ≤ g
  g1 : g ≤ 2147483647
  u1 : u + l.length ≤ 192
  rs : ∀ r ∈ l, fitR r
theorem recD_mem {l : List Rc} {i : Nat} (h : i < l.length) : l.getD i recN ∈ l := by
  rw [List.getD_eq_getElem?_getD, List.getElem?_eq_getElem h]; exact List.getElem_mem h
theorem Fits.enc {g : Int} {u : Nat} {l : List Rc} (h : Fits g u l) {i : Nat} (hi : i < l.length) : encE (lineAt g u l i) = 0 := by
  obtain ⟨k1, k2, k3, k4, k5, k6⟩ := h.rs _ (recD_mem hi)
  have := h.g0; have := h.g1; have := h.u1
  rw [encE_zero]
  refine ⟨?_, k6⟩
  simp only [inN_iff] at k1 k2 k3 k4 k5
  rw [rangeL_iff]
  exact ⟨⟨h.g0, h.g1⟩, ⟨by show (0 : Int) ≤ ((u + i : Nat) : Int); omega, by show ((u + i : Nat) : Int) ≤ _; omega⟩, k1, k2, k3, k4, k5⟩
theorem Fits.sec {g : Int} {u : Nat} {l : List Rc} (h : Fits g u l) {i : Nat} (hi : i < l.length) : Sec (txtAt g u l i) := by
  refine ⟨by unfold txtAt; rw [List.length_map, encB_len (h.enc hi)], fun y hy => ?_⟩
  unfold txtAt at hy
  obtain ⟨z, hz, rfl⟩ := List.mem_map.1 hy
  have := encB_mem _ z hz
  omega
theorem Fits.dec {g : Int} {u : Nat} {l : List Rc} (h : Fits g u l) {i : Nat} (hi : i < l.length) : decR (encB (lineAt g u l i)) = (0, lineAt g u l i) := dec_enc (h.enc hi)

/-! ### Whole transactions of a generation -/
structure Cl (L : List (List Int)) (g : Int) (u : Nat) : Prop where
  le : u ≤ 192
  good : ∀ j, j < u → goodAt L g j = true
  bad : ∀ j, u ≤ j → j < 192 → goodAt L g j = false
  now : nowTo L u = []
theorem Cl.repl {L : List (List Int)} {g : Int} {u : Nat} (h : Cl L g u) (hL : L.length = 192) : replR L g = outTo L u :=
  replR_eq (by rw [hL]; exact h.le) h.good fun hu => h.bad u (Nat.le_refl _) (by omega)
theorem good_congr {L L' : List (List Int)} {g : Int} {j : Nat} (h : L'.getD j [] = L.getD j []) : goodAt L' g j = goodAt L g j := by unfold goodAt; rw [h]
theorem outTo_succ (L : List (List Int)) (k : Nat) : outTo L (k + 1) = if lastAt L k = true then outTo L k ++ [nowTo L k ++ [recAt L k]] else outTo L k := rfl
theorem nowTo_succ (L : List (List Int)) (k : Nat) : nowTo L (k + 1) = if lastAt L k = true then [] else nowTo L k ++ [recAt L k] := rfl
theorem outTo_congr {L L' : List (List Int)} : ∀ {k : Nat}, (∀ j, j < k → L'.getD j [] = L.getD j []) → outTo L' k = outTo L k ∧ nowTo L' k = nowTo L k
  | 0, _ => ⟨rfl, rfl⟩
  | k + 1, h => by
    obtain ⟨h1, h2⟩ := outTo_congr fun j hj => h j (Nat.lt_succ_of_lt hj)
    have e1 : lastAt L' k = lastAt L k := by unfold lastAt; rw [h k (Nat.lt_succ_self k)]
    have e2 : recAt L' k = recAt L k := by unfold recAt; rw [h k (Nat.lt_succ_self k)]
    rw [outTo_succ, outTo_succ, nowTo_succ, nowTo_succ, h1, h2, e1, e2]
    exact ⟨rfl, rfl⟩
theorem outTo_mono (L : List (List Int)) {k : Nat} : ∀ {m : Nat}, k ≤ m → (outTo L k).length ≤ (outTo L m).length
  | 0, h => by rw [Nat.le_zero.1 h]; exact Nat.le_refl _
  | m + 1, h => by
    by_cases e : k = m + 1
    · subst e; exact Nat.le_refl _
    · have := outTo_mono L (k := k) (m := m) (by omega)
      rw [outTo_succ]
      split
      · rw [List.length_append]; omega
      · exact this
theorem goodN_le (L : List (List Int)) (g : Int) : goodN L g ≤ L.length := by
  unfold goodN
  exact Nat.le_trans (List.takeWhile_prefix _).length_le (by simp)
theorem tw_lt {p : Nat → Bool} : ∀ {n m i : Nat}, i < ((List.range' m n).takeWhile p).length → p (m + i) = true
  | 0, m, i, h => by simp at h
  | n + 1, m, i, h => by
    rw [List.range'_succ, List.takeWhile_cons] at h
    split at h
    · rename_i hp
      cases i with
      | zero => simpa using hp
      | succ i =>
        rw [List.length_cons] at h
        have := tw_lt (p := p) (n := n) (m := m + 1) (i := i) (Nat.lt_of_succ_lt_succ h)
        rwa [show m + 1 + i = m + (i + 1) by omega] at this
    · simp at h
theorem goodN_good {L : List (List Int)} {g : Int} {j : Nat} (h : j < goodN L g) : goodAt L g j = true := by
  unfold goodN at h
  rw [List.range_eq_range'] at h
  have := tw_lt h
  rwa [Nat.zero_add] at this
theorem tw_ge {p : Nat → Bool} : ∀ {n m k : Nat}, k ≤ n → (∀ i, i < k → p (m + i) = true) → k ≤ ((List.range' m n).takeWhile p).length
  | n, m, 0, _, _ => Nat.zero_le _
  | 0, m, k + 1, h, _ => by omega
  | n + 1, m, k + 1, h, hp => by
    rw [List.range'_succ, List.takeWhile_cons, if_pos (by have := hp 0 (Nat.succ_pos k); rwa [Nat.add_zero] at this), List.length_cons]
    have := tw_ge (m := m + 1) (n := n) (k := k) (by omega) fun i hi => by have := hp (i + 1) (by omega); rwa [show m + (i + 1) = m + 1 + i by omega] at this
    omega
theorem goodN_ge {L : List (List Int)} {g : Int} {k : Nat} (hk : k ≤ L.length) (h : ∀ j, j < k → goodAt L g j = true) : k ≤ goodN L g := by
  unfold goodN
  rw [List.range_eq_range']
  exact tw_ge hk fun i hi => by rw [Nat.zero_add]; exact h i hi
/-- What an area may read as, when some of these lines were written over it. -/
def Mix (L L' : List (List Int)) (g : Int) (u : Nat) (l : List Rc) : Prop :=
  ∀ j, j < 192 → L'.getD j [] = L.getD j [] ∨ (u ≤ j ∧ j < u + l.length ∧ L'.getD j [] = encB (lineAt g u l (j - u)))
def MixAll (L' : List (List Int)) (g : Int) (u : Nat) (l : List Rc) : Prop := ∀ i, i < l.length → L'.getD (u + i) [] = encB (lineAt g u l i)
section
variable {L L' : List (List Int)} {g : Int} {u : Nat} {l : List Rc}
theorem good_line (hf : Fits g u l) {i : Nat} (hi : i < l.length) (h : L'.getD (u + i) [] = encB (lineAt g u l i)) : goodAt L' g (u + i) = true ∧ lastAt L' (u + i) = decide (i + 1 = l.length) ∧ recAt L' (u + i) = l.getD i recN := by
  unfold goodAt lastAt recAt
  rw [h, hf.dec hi]
  exact ⟨by simp [lineAt], rfl, rfl⟩
theorem out_lines (hf : Fits g u l) (hn : nowTo L' u = []) : ∀ {k : Nat}, k < l.length → (∀ i, i < k → L'.getD (u + i) [] = encB (lineAt g u l i)) → outTo L' (u + k) = outTo L' u ∧ nowTo L' (u + k) = l.take k
  | 0, _, _ => ⟨rfl, by rw [Nat.add_zero, hn]; rfl⟩
  | k + 1, hk, h => by
    obtain ⟨h1, h2⟩ := out_lines hf hn (k := k) (by omega) fun i hi => h i (by omega)
    obtain ⟨_, q2, q3⟩ := good_line hf (i := k) (by omega) (h k (by omega))
    rw [decide_eq_false (by omega)] at q2
    rw [show u + (k + 1) = (u + k) + 1 by omega]
    rw [outTo_succ, nowTo_succ, q2, if_neg (by decide), if_neg (by decide), h1, h2, q3]
    refine ⟨rfl, ?_⟩
    rw [List.take_succ_eq_append_getElem (by omega), List.getD_eq_getElem?_getD, List.getElem?_eq_getElem (by omega)]
    rfl
/-- All of them are there. -/
theorem mix_all (hc : Cl L g u) (hf : Fits g u l) (hne : l ≠ []) (hm : Mix L L' g u l) (ha : MixAll L' g u l) : Cl L' g (u + l.length) ∧ outTo L' (u + l.length) = outTo L u ++ [l] := by
  have hpos : 0 < l.length := List.length_pos_iff.2 hne
  have hlow : ∀ j, j < u → L'.getD j [] = L.getD j [] := fun j hj => (hm j (by have := hc.le; omega)).elim id fun h => by omega
  obtain ⟨c1, c2⟩ := outTo_congr hlow
  obtain ⟨h1, h2⟩ := out_lines hf (c2.trans hc.now) (k := l.length - 1) (by omega) fun i hi => ha i (by omega)
  obtain ⟨_, q2, q3⟩ := good_line hf (i := l.length - 1) (by omega) (ha _ (by omega))
  rw [decide_eq_true (by omega)] at q2
  have hlist : l.take (l.length - 1) ++ [l.getD (l.length - 1) recN] = l := by
    have := List.take_succ_eq_append_getElem (l := l) (i := l.length - 1) (by omega)
    rw [List.getD_eq_getElem?_getD, List.getElem?_eq_getElem (by omega), Option.getD_some, ← this, show l.length - 1 + 1 = l.length by omega, List.take_length]
  have e : u + l.length = (u + (l.length - 1)) + 1 := by omega
  have o : outTo L' (u + l.length) = outTo L u ++ [l] ∧ nowTo L' (u + l.length) = [] := by
    rw [e]
    rw [outTo_succ, nowTo_succ, q2, if_pos rfl, if_pos rfl, h1, h2, q3, hlist, c1]
    exact ⟨rfl, rfl⟩
  refine ⟨⟨hf.u1, fun j hj => ?_, fun j hj hj2 => ?_, o.2⟩, o.1⟩
  · by_cases hju : j < u
    · rw [good_congr (hlow j hju)]; exact hc.good j hju
    · have := (good_line hf (i := j - u) (by omega) (ha (j - u) (by omega))).1
      rwa [show u + (j - u) = j by omega] at this
  · rcases hm j hj2 with h | h
    · rw [good_congr h]; exact hc.bad j (by omega) hj2
    · omega
/-- Not all of them are there: none counts. -/
theorem mix_some (hL : L'.length = 192) (hc : Cl L g u) (hf : Fits g u l) (hm : Mix L L' g u l) (ha : ¬ MixAll L' g u l) : replR L' g = outTo L u := by
  have hlow : ∀ j, j < u → L'.getD j [] = L.getD j [] := fun j hj => (hm j (by have := hc.le; omega)).elim id fun h => by omega
  obtain ⟨c1, c2⟩ := outTo_congr hlow
  obtain ⟨k, hk, hkb, hklt⟩ : ∃ k, k < l.length ∧ L'.getD (u + k) [] ≠ encB (lineAt g u l k) ∧ ∀ i, i < k → L'.getD (u + i) [] = encB (lineAt g u l i) := by
    have hex : ∃ k, k < l.length ∧ L'.getD (u + k) [] ≠ encB (lineAt g u l k) := Classical.byContradiction fun h => ha fun i hi => Classical.byContradiction fun h2 => h ⟨i, hi, h2⟩
    obtain ⟨k, ⟨h1, h2⟩, h3⟩ : ∃ k, (k < l.length ∧ L'.getD (u + k) [] ≠ encB (lineAt g u l k)) ∧ ∀ i, i < k → ¬ (i < l.length ∧ L'.getD (u + i) [] ≠ encB (lineAt g u l i)) := by
      obtain ⟨k, hk⟩ := hex
      induction k using Nat.strongRecOn with
      | _ k ih =>
        by_cases h : ∃ i, i < k ∧ (i < l.length ∧ L'.getD (u + i) [] ≠ encB (lineAt g u l i))
        · obtain ⟨i, h1, h2⟩ := h; exact ih i h1 h2
        · exact ⟨k, hk, fun i h1 h2 => h ⟨i, h1, h2⟩⟩
    exact ⟨k, h1, h2, fun i hi => Classical.byContradiction fun h4 => h3 i hi ⟨by omega, h4⟩⟩
  obtain ⟨h1, _⟩ := out_lines hf (c2.trans hc.now) hk hklt
  have hu := hf.u1
  have hsame : L'.getD (u + k) [] = L.getD (u + k) [] := (hm (u + k) (by omega)).elim id fun h => absurd (by rw [h.2.2, show u + k - u = k by omega]) hkb
  rw [replR_eq (k := u + k) (by omega) (fun j hj => ?_) (fun _ => by rw [good_congr hsame]; exact hc.bad _ (by omega) (by omega)), h1, c1]
  by_cases hju : j < u
  · rw [good_congr (hlow j hju)]; exact hc.good j hju
  · have := (good_line hf (i := j - u) (by omega) (hklt (j - u) (by omega))).1
    rwa [show u + (j - u) = j by omega] at this
/-- No line of it stands there. -/
def Unused (L : List (List Int)) (g : Int) : Prop := ∀ j, j < 192 → (decR (L.getD j [])).1 = 0 → (decR (L.getD j [])).2.g ≠ g
theorem Unused.cl (h : Unused L g) : Cl L g 0 := ⟨Nat.zero_le _, fun j hj => absurd hj (Nat.not_lt_zero j), fun j _ hj => by
  unfold goodAt
  by_cases h0 : (decR (L.getD j [])).1 = 0
  · rw [decide_eq_false (h j hj h0)]; simp
  · rw [decide_eq_false h0]; simp, rfl⟩
/-- A new transaction at an area's beginning: it is held, or the area holds nothing that it did not hold. -/
theorem mix_new (hL : L.length = 192) (hL' : L'.length = 192) (hu : Unused L g) (hf : Fits g 0 l) (hne : l ≠ []) (hm : Mix L L' g 0 l) :
    (MixAll L' g 0 l → genA L' = g ∧ wholeA L' = [l] ∧ Cl L' g l.length) ∧ (¬ MixAll L' g 0 l → 0 < (wholeA L').length → 0 < (wholeA L).length ∧ genA L' = genA L) := by
  have hpos : 0 < l.length := List.length_pos_iff.2 hne
  have g0 : L'.getD 0 [] = encB (lineAt g 0 l 0) → genA L' = g := fun h => by unfold genA; rw [h, hf.dec hpos]; rfl
  constructor
  · intro ha
    obtain ⟨h1, h2⟩ := mix_all hu.cl hf hne hm ha
    rw [Nat.zero_add] at h1 h2
    have hg := g0 (ha 0 hpos)
    refine ⟨hg, ?_, h1⟩
    unfold wholeA
    rw [hg, h1.repl hL', h2]; rfl
  · intro ha hw
    have hs := mix_some hL' hu.cl hf hm ha
    rcases hm 0 (by decide) with h | ⟨_, _, h⟩
    · have hg : genA L' = genA L := by unfold genA; rw [h]
      refine ⟨?_, hg⟩
      unfold wholeA at hw ⊢
      rw [hg] at hw
      obtain ⟨m, hmm⟩ : ∃ m, m = genA L := ⟨_, rfl⟩
      rw [← hmm] at hw ⊢
      have hk := goodN_le L' m
      have hpk : 0 < goodN L' m := Nat.pos_of_ne_zero fun e => by unfold replR at hw; rw [e] at hw; exact absurd hw (Nat.lt_irrefl _)
      have hd : (decR (L.getD 0 [])).1 = 0 := by
        have := goodN_good hpk
        rw [good_congr h] at this
        unfold goodAt at this
        simp only [Bool.and_eq_true, decide_eq_true_eq] at this
        exact this.1.1
      have hmg : m ≠ g := by rw [hmm]; exact hu 0 (by decide) hd
      have hsame : ∀ j, j < goodN L' m → L'.getD j [] = L.getD j [] := fun j hj => (hm j (by omega)).elim id fun ⟨_, q, q2⟩ => by
        have := goodN_good hj
        unfold goodAt at this
        rw [q2, hf.dec (by omega)] at this
        simp only [Bool.and_eq_true, decide_eq_true_eq] at this
        exact absurd this.1.2.symm hmg
      have hge := goodN_ge (L := L) (g := m) (k := goodN L' m) (by omega) fun j hj => by rw [← good_congr (hsame j hj)]; exact goodN_good hj
      have := outTo_mono L hge
      unfold replR at hw ⊢
      rw [(outTo_congr hsame).1] at hw
      omega
    · unfold wholeA at hw
      rw [g0 h, hs] at hw
      exact absurd hw (Nat.lt_irrefl _)
end

/-! ### Which area counts -/
theorem newest_of (last : List (List Nat)) : newestR last = if 0 < (wholeA (areaT last 1)).length ∧ ((wholeA (areaT last 0)).length = 0 ∨ genA (areaT last 0) < genA (areaT last 1)) then heldR last 1 else if 0 < (wholeA (areaT last 0)).length then heldR last 0 else ⟨1, 0, []⟩ := by
  have e1 : newTo last 1 = if 0 < (wholeA (areaT last 0)).length then heldR last 0 else ⟨1, 0, []⟩ := by
    show (if overR (heldR last 0) ⟨1, 0, []⟩ = true then heldR last 0 else ⟨1, 0, []⟩) = _
    by_cases h : 0 < (wholeA (areaT last 0)).length
    · rw [if_pos h, if_pos (by unfold overR heldR; simpa using h)]
    · rw [if_neg h, if_neg (by unfold overR heldR; simpa using h)]
  show (if overR (heldR last 1) (newTo last 1) = true then heldR last 1 else newTo last 1) = _
  rw [e1]
  by_cases h : 0 < (wholeA (areaT last 0)).length
  · rw [if_pos h]
    have hz : ¬ (wholeA (areaT last 0)).length = 0 := by omega
    by_cases h1 : 0 < (wholeA (areaT last 1)).length ∧ ((wholeA (areaT last 0)).length = 0 ∨ genA (areaT last 0) < genA (areaT last 1))
    · rw [if_pos h1, if_pos]
      unfold overR
      rw [Bool.and_eq_true, Bool.or_eq_true, decide_eq_true_eq, decide_eq_true_eq, decide_eq_true_eq]
      exact h1
    · rw [if_neg h1, if_neg]
      unfold overR
      rw [Bool.and_eq_true, Bool.or_eq_true, decide_eq_true_eq, decide_eq_true_eq, decide_eq_true_eq]
      exact h1
  · rw [if_neg h]
    have hz : (wholeA (areaT last 0)).length = 0 := by omega
    by_cases h1 : 0 < (wholeA (areaT last 1)).length
    · have h2 : 0 < (wholeA (areaT last 1)).length ∧ ((wholeA (areaT last 0)).length = 0 ∨ genA (areaT last 0) < genA (areaT last 1)) := ⟨h1, .inl hz⟩
      rw [if_pos h2, if_pos]
      unfold overR
      rw [Bool.and_eq_true, Bool.or_eq_true, decide_eq_true_eq, decide_eq_true_eq, decide_eq_true_eq]
      exact ⟨h1, .inl rfl⟩
    · have h2 : ¬ (0 < (wholeA (areaT last 1)).length ∧ ((wholeA (areaT last 0)).length = 0 ∨ genA (areaT last 0) < genA (areaT last 1))) := fun q => h1 q.1
      rw [if_neg h2, if_neg]
      unfold overR
      rw [Bool.and_eq_true, Bool.or_eq_true, decide_eq_true_eq, decide_eq_true_eq, decide_eq_true_eq]
      exact fun q => h1 q.1

end Go.Proofs.YtbnhkplhmanmoaaGreat
