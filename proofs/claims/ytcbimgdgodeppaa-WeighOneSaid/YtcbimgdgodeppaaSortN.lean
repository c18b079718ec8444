/-
  Plain lists: entries swapped, segments, sorted segments by a strict order. No program is spoken of here.
-/
import Derived.WalkKit
namespace Go.Proofs.Ytcbimgdgodeppaa

/-- Two entries change places. -/
def swapL (l : List Int) (i j : Nat) : List Int := (l.set i (l.getD j 0)).set j (l.getD i 0)
theorem swapL_len (l : List Int) (i j : Nat) : (swapL l i j).length = l.length := by simp [swapL]
theorem getD_app2 (A B : List Int) (i : Nat) : (A ++ B).getD (A.length + i) 0 = B.getD i 0 := by
  rw [List.getD_eq_getElem?_getD, List.getD_eq_getElem?_getD, List.getElem?_append_right (Nat.le_add_right _ _), Nat.add_sub_cancel_left]
theorem getD_head (A : List Int) (x : Int) (B : List Int) : (A ++ x :: B).getD A.length 0 = x := by
  exact getD_app2 A (x :: B) 0
theorem set_head (A : List Int) (x v : Int) (B : List Int) : (A ++ x :: B).set A.length v = A ++ v :: B := by
  rw [List.set_append_right _ _ (Nat.le_refl _)]; simp
theorem swapL_app (A : List Int) (x : Int) (B : List Int) (y : Int) (C : List Int) {i j : Nat} (hi : i = A.length) (hj : j = A.length + 1 + B.length) :
    swapL (A ++ x :: (B ++ y :: C)) i j = A ++ y :: (B ++ x :: C) := by
  have e1 : j = (A ++ x :: B).length := by rw [hj]; simp; omega
  have e2 : A ++ x :: (B ++ y :: C) = (A ++ x :: B) ++ y :: C := by simp
  have g1 : (A ++ x :: (B ++ y :: C)).getD i 0 = x := by rw [hi]; exact getD_head A x _
  have g2 : (A ++ x :: (B ++ y :: C)).getD j 0 = y := by rw [e2, e1]; exact getD_head _ y _
  unfold swapL
  rw [g1, g2, hi, set_head]
  have e3 : A ++ y :: (B ++ y :: C) = (A ++ y :: B) ++ y :: C := by simp
  have e4 : j = (A ++ y :: B).length := by rw [hj]; simp; omega
  rw [e3, e4, set_head]; simp
theorem swapL_comm (l : List Int) {i j : Nat} (h : i ≠ j) : swapL l i j = swapL l j i := by
  unfold swapL
  rw [List.set_comm _ _ h]

/-- Each is ahead of each behind it. -/
def Asc (bef : Int → Int → Prop) (l : List Int) : Prop := l.Pairwise bef
section
variable {bef : Int → Int → Prop}
/-- A strict order in which two that are not one are told apart. -/
structure Total (bef : Int → Int → Prop) : Prop where
  irr : ∀ x, ¬ bef x x
  trans : ∀ {x y z}, bef x y → bef y z → bef x z
  tot : ∀ {x y}, x ≠ y → bef x y ∨ bef y x
theorem Total.asym (T : Total bef) {x y : Int} (h : bef x y) : ¬ bef y x := fun h' => T.irr x (T.trans h h')
/-- There is but one order. -/
theorem asc_unique (T : Total bef) : ∀ {l m : List Int}, Asc bef l → Asc bef m → l.Perm m → l = m
  | [], m, _, _, p => (List.nil_perm.1 p).symm
  | x :: l, [], _, _, p => by simpa using p.length_eq
  | x :: l, y :: m, hl, hm, p => by
    have hx : x ∈ y :: m := p.subset (List.mem_cons_self ..)
    have hy : y ∈ x :: l := p.symm.subset (List.mem_cons_self ..)
    unfold Asc at hl hm
    rw [List.pairwise_cons] at hl hm
    have e : x = y := by
      rcases List.mem_cons.1 hx with h | h
      · exact h
      · rcases List.mem_cons.1 hy with h' | h'
        · exact h'.symm
        · exact absurd (hm.1 x h) (T.asym (hl.1 y h'))
    subst e
    rw [asc_unique T hl.2 hm.2 (List.Perm.cons_inv p)]
theorem asc_app {A B : List Int} : Asc bef (A ++ B) ↔ Asc bef A ∧ Asc bef B ∧ ∀ x ∈ A, ∀ y ∈ B, bef x y := List.pairwise_append
theorem asc_left {A B : List Int} (h : Asc bef (A ++ B)) : Asc bef A := (asc_app.1 h).1
theorem asc_right {A B : List Int} (h : Asc bef (A ++ B)) : Asc bef B := (asc_app.1 h).2.1
/-- The last of a segment is behind each ahead of it. -/
theorem asc_last {A : List Int} {x : Int} (h : Asc bef (A ++ [x])) : ∀ y ∈ A, bef y x := fun y hy => (asc_app.1 h).2.2 y hy x (by simp)
theorem asc_first {A : List Int} {x : Int} (h : Asc bef (x :: A)) : ∀ y ∈ A, bef x y := (List.pairwise_cons.1 h).1
/-- Behind two cuts what is ahead is ahead of what is behind. -/
theorem cut_order (T : Total bef) {L1 L2 R1 R2 : List Int} (hL : Asc bef (L1 ++ L2)) (hR : Asc bef (R1 ++ R2))
    (h1 : ∀ x ∈ L1.getLast?, ∀ y ∈ R2.head?, bef x y) (h2 : ∀ y ∈ R1.getLast?, ∀ x ∈ L2.head?, bef y x) :
    (∀ x ∈ L1, ∀ y ∈ R2, bef x y) ∧ ∀ y ∈ R1, ∀ x ∈ L2, bef y x := by
  have key : ∀ {A B : List Int}, Asc bef A → Asc bef B → (∀ x ∈ A.getLast?, ∀ y ∈ B.head?, bef x y) → ∀ x ∈ A, ∀ y ∈ B, bef x y := by
    intro A B hA hB h x hx y hy
    obtain ⟨A', a, rfl⟩ : ∃ A' a, A = A' ++ [a] := ⟨A.dropLast, A.getLast (by intro e; subst e; cases hx), (List.dropLast_concat_getLast _).symm⟩
    obtain ⟨b, B', rfl⟩ : ∃ b B', B = b :: B' := by
      cases B with
      | nil => cases hy
      | cons b B' => exact ⟨b, B', rfl⟩
    have hab : bef a b := h a (by simp) b (by simp)
    have h1 : x = a ∨ bef x a := by
      rcases List.mem_append.1 hx with h' | h'
      · exact .inr (asc_last hA x h')
      · exact .inl (by simpa using h')
    have h2 : y = b ∨ bef b y := by
      rcases List.mem_cons.1 hy with h' | h'
      · exact .inl h'
      · exact .inr (asc_first hB y h')
    rcases h1 with rfl | h1 <;> rcases h2 with rfl | h2
    · exact hab
    · exact T.trans hab h2
    · exact T.trans h1 hab
    · exact T.trans h1 (T.trans hab h2)
  exact ⟨key (asc_left hL) (asc_right hR) h1, key (asc_left hR) (asc_right hL) h2⟩
/-- The two halves, each in order, are in order together. -/
theorem merge_halves {L1 L2 R1 R2 M1 M2 : List Int} (hL : Asc bef (L1 ++ L2)) (hR : Asc bef (R1 ++ R2)) (h : (∀ x ∈ L1, ∀ y ∈ R2, bef x y) ∧ ∀ y ∈ R1, ∀ x ∈ L2, bef y x)
    (p1 : M1.Perm (L1 ++ R1)) (p2 : M2.Perm (L2 ++ R2)) (a1 : Asc bef M1) (a2 : Asc bef M2) : Asc bef (M1 ++ M2) ∧ (M1 ++ M2).Perm (L1 ++ L2 ++ (R1 ++ R2)) := by
  refine ⟨asc_app.2 ⟨a1, a2, fun x hx y hy => ?_⟩, ?_⟩
  · have hx' := List.mem_append.1 (p1.subset hx)
    have hy' := List.mem_append.1 (p2.subset hy)
    rcases hx' with hx' | hx' <;> rcases hy' with hy' | hy'
    · exact (asc_app.1 hL).2.2 x hx' y hy'
    · exact h.1 x hx' y hy'
    · exact h.2 x hx' y hy'
    · exact (asc_app.1 hR).2.2 x hx' y hy'
  · refine (List.Perm.append p1 p2).trans ?_
    rw [List.append_assoc, List.append_assoc]
    refine List.Perm.append_left L1 ?_
    rw [← List.append_assoc, ← List.append_assoc]
    exact List.Perm.append_right R2 List.perm_append_comm
/-- One that is put into a segment. -/
theorem put_in {A B : List Int} {x : Int} (h : Asc bef (A ++ B)) (h1 : ∀ y ∈ A, bef y x) (h2 : ∀ y ∈ B, bef x y) : Asc bef (A ++ x :: B) := by
  refine asc_app.2 ⟨asc_left h, List.pairwise_cons.2 ⟨h2, asc_right h⟩, fun a ha b hb => ?_⟩
  rcases List.mem_cons.1 hb with rfl | hb
  · exact h1 a ha
  · exact (asc_app.1 h).2.2 a ha b hb
/-- What is behind the last is behind all. -/
theorem all_before (T : Total bef) {A : List Int} {x y : Int} (h : Asc bef (A ++ [y])) (hy : bef y x) : ∀ z ∈ A ++ [y], bef z x := fun z hz => by
  rcases List.mem_append.1 hz with h' | h'
  · exact T.trans (asc_last h z h') hy
  · rw [List.mem_singleton] at h'; subst h'; exact hy
theorem all_behind (T : Total bef) {A : List Int} {x y : Int} (h : Asc bef (y :: A)) (hy : bef x y) : ∀ z ∈ y :: A, bef x z := fun z hz => by
  rcases List.mem_cons.1 hz with h' | h'
  · subst h'; exact hy
  · exact T.trans hy (asc_first h z h')
end

/-! ### Numbers a, a + 1, .. b - 1, in order -/
def runI (a b : Nat) : List Int := (List.range' a (b - a)).map fun i : Nat => (i : Int)
theorem runI_len (a b : Nat) : (runI a b).length = b - a := by simp [runI]
theorem runI_mem {a b : Nat} {x : Int} : x ∈ runI a b ↔ ∃ i : Nat, x = i ∧ a ≤ i ∧ i < b := by
  simp only [runI, List.mem_map, List.mem_range'_1]
  constructor
  · rintro ⟨i, hi, rfl⟩; exact ⟨i, rfl, by omega, by omega⟩
  · rintro ⟨i, rfl, h1, h2⟩; exact ⟨i, by omega, rfl⟩
theorem runI_app {a m b : Nat} (h1 : a ≤ m) (h2 : m ≤ b) : runI a m ++ runI m b = runI a b := by
  unfold runI
  rw [← List.map_append]
  congr 1
  rw [show b - a = (m - a) + (b - m) by omega, ← List.range'_append_1, show a + (m - a) = m by omega]
theorem runI_up (a b : Nat) : (runI a b).Pairwise (· < ·) := by
  unfold runI
  rw [List.pairwise_map]
  refine (List.pairwise_lt_range' (s := a) (n := b - a)).imp fun {i j} h => ?_
  show (i : Int) < (j : Int); omega
theorem runI_none {a b : Nat} (h : b ≤ a) : runI a b = [] := by
  unfold runI
  rw [show b - a = 0 by omega]; rfl

/-! ### The one order of a, a + 1, .. b - 1 -/
/-- Each is put behind those that are ahead of it, the first first. -/
def insR (r : List Int) (x : Int) : List Int → List Int
  | [] => [x]
  | y :: l => if r.getD x.toNat 0 > r.getD y.toNat 0 then x :: y :: l else y :: insR r x l
def srtR (r : List Int) (a : Nat) : Nat → List Int
  | 0 => []
  | k + 1 => insR r ((a + k : Nat) : Int) (srtR r a k)
/-- The greater rest first; of equal ones the smaller number. -/
def befR (r : List Int) (x y : Int) : Prop := r.getD x.toNat 0 > r.getD y.toNat 0 ∨ (r.getD x.toNat 0 = r.getD y.toNat 0 ∧ x < y)
theorem befR_total (r : List Int) : Total (befR r) := by
  refine ⟨fun x h => ?_, fun {x y z} h1 h2 => ?_, fun {x y} h => ?_⟩
  · unfold befR at h; omega
  · unfold befR at h1 h2 ⊢; omega
  · unfold befR; omega
theorem insR_perm (r : List Int) (x : Int) : ∀ l, (insR r x l).Perm (l ++ [x])
  | [] => List.Perm.refl _
  | y :: l => by
    unfold insR
    split
    · exact (List.perm_append_comm (l₁ := [x]) (l₂ := y :: l))
    · exact (insR_perm r x l).cons y
theorem insR_asc (r : List Int) {x : Int} : ∀ {l : List Int}, Asc (befR r) l → (∀ y ∈ l, y < x) → Asc (befR r) (insR r x l)
  | [], _, _ => by unfold insR; exact List.pairwise_singleton _ _
  | y :: l, h, hx => by
    have hyx := hx y (List.mem_cons_self ..)
    unfold insR
    by_cases hg : r.getD x.toNat 0 > r.getD y.toNat 0
    · rw [if_pos hg]
      exact List.pairwise_cons.2 ⟨all_behind (befR_total r) h (.inl hg), h⟩
    · rw [if_neg hg]
      refine List.pairwise_cons.2 ⟨fun z hz => ?_, insR_asc r (List.pairwise_cons.1 h).2 fun z hz => hx z (List.mem_cons_of_mem _ hz)⟩
      rcases List.mem_append.1 ((insR_perm r x l).subset hz) with h' | h'
      · exact asc_first h z h'
      · rw [List.mem_singleton] at h'
        subst h'
        unfold befR; omega
theorem srtR_perm (r : List Int) (a : Nat) : ∀ k, (srtR r a k).Perm (runI a (a + k))
  | 0 => by rw [runI_none (by omega)]; exact List.Perm.refl _
  | k + 1 => by
    have h := (insR_perm r ((a + k : Nat) : Int) (srtR r a k)).trans (List.Perm.append_right _ (srtR_perm r a k))
    have e : runI (a + k) (a + k + 1) = [((a + k : Nat) : Int)] := by
      unfold runI
      rw [show a + k + 1 - (a + k) = 1 by omega]; rfl
    have e2 := runI_app (a := a) (m := a + k) (b := a + k + 1) (by omega) (by omega)
    rw [e] at e2
    rw [show a + (k + 1) = a + k + 1 by omega, ← e2]
    exact h
theorem srtR_asc (r : List Int) (a : Nat) : ∀ k, Asc (befR r) (srtR r a k)
  | 0 => List.Pairwise.nil
  | k + 1 => insR_asc r (srtR_asc r a k) fun y hy => by
    obtain ⟨i, rfl, _, h⟩ := runI_mem.1 ((srtR_perm r a k).subset hy)
    omega
/-- The numbers from a up to b, in their order. -/
def srtI (r : List Int) (a b : Nat) : List Int := srtR r a (b - a)
theorem srtI_perm (r : List Int) {a b : Nat} (h : a ≤ b) : (srtI r a b).Perm (runI a b) := by
  have := srtR_perm r a (b - a)
  rwa [show a + (b - a) = b by omega] at this
theorem srtI_asc (r : List Int) (a b : Nat) : Asc (befR r) (srtI r a b) := srtR_asc r a _
theorem srtI_len (r : List Int) {a b : Nat} (h : a ≤ b) : (srtI r a b).length = b - a := by
  rw [(srtI_perm r h).length_eq, runI_len]
theorem srtI_none (r : List Int) {a b : Nat} (h : b ≤ a) : srtI r a b = [] := by
  unfold srtI
  rw [show b - a = 0 by omega]; rfl
theorem srtI_of (r : List Int) {a b : Nat} (h : a ≤ b) {M : List Int} (hp : M.Perm (runI a b)) (hm : Asc (befR r) M) : M = srtI r a b :=
  asc_unique (befR_total r) hm (srtI_asc r a b) (hp.trans (srtI_perm r h).symm)
theorem srtI_apart (r : List Int) {a m b : Nat} (h1 : a ≤ m) (h2 : m ≤ b) : ∀ x ∈ srtI r a m, ∀ y ∈ srtI r m b, x < y := fun x hx y hy => by
  obtain ⟨i, rfl, _, h3⟩ := runI_mem.1 ((srtI_perm r h1).subset hx)
  obtain ⟨j, rfl, h4, _⟩ := runI_mem.1 ((srtI_perm r h2).subset hy)
  omega
theorem srtI_merge (r : List Int) {a m b : Nat} (h1 : a ≤ m) (h2 : m ≤ b) {M : List Int} (hp : M.Perm (srtI r a m ++ srtI r m b)) (hm : Asc (befR r) M) : M = srtI r a b :=
  srtI_of r (by omega) (hp.trans ((List.Perm.append (srtI_perm r h1) (srtI_perm r h2)).trans (by rw [runI_app h1 h2]))) hm

/-! ### Blocks, each in its order -/
/-- The blocks of s numbers each from a up to n (at most k of them). -/
def blks (r : List Int) (s n : Nat) : Nat → Nat → List Int
  | 0, _ => []
  | k + 1, a => if a < n then srtI r a (min (a + s) n) ++ blks r s n k (a + s) else []
theorem blks_more (r : List Int) {s n : Nat} (hs : 0 < s) : ∀ (k a : Nat), n ≤ a + k → blks r s n (k + 1) a = blks r s n k a
  | 0, a, h => by unfold blks; rw [if_neg (by omega)]
  | k + 1, a, h => by
    rw [blks]
    conv => rhs; rw [blks]
    by_cases ha : a < n
    · rw [if_pos ha, if_pos ha, blks_more r hs k (a + s) (by omega)]
    · rw [if_neg ha, if_neg ha]
theorem blks_any (r : List Int) {s n : Nat} (hs : 0 < s) {a : Nat} : ∀ (k : Nat), n ≤ a + k → blks r s n k a = blks r s n (n - a) a
  | 0, h => by rw [show n - a = 0 by omega]
  | k + 1, h => by
    by_cases he : n = a + (k + 1)
    · rw [show n - a = k + 1 by omega]
    · rw [blks_more r hs k a (by omega), blks_any r hs k (by omega)]
/-- All blocks of s numbers from a on. -/
def blk (r : List Int) (s n a : Nat) : List Int := blks r s n (n - a) a
theorem blk_none (r : List Int) {s n a : Nat} (h : n ≤ a) : blk r s n a = [] := by
  unfold blk
  rw [show n - a = 0 by omega]; rfl
theorem blk_step (r : List Int) {s n a : Nat} (hs : 0 < s) (h : a < n) : blk r s n a = srtI r a (min (a + s) n) ++ blk r s n (a + s) := by
  unfold blk
  rw [show n - a = (n - a - 1) + 1 by omega, blks, if_pos h, blks_any r hs (n - a - 1) (by omega)]
theorem blk_last (r : List Int) {s n a : Nat} (hs : 0 < s) (h : n ≤ a + s) : blk r s n a = srtI r a n := by
  rcases Nat.lt_or_ge a n with h1 | h1
  · rw [blk_step r hs h1, blk_none r h, List.append_nil, Nat.min_eq_right h]
  · rw [blk_none r h1, srtI_none r h1]

end Go.Proofs.Ytcbimgdgodeppaa
