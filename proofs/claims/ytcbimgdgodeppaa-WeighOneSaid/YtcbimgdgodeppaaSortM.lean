/-
  slices.symMergeCmpFunc: two neighbours, each in its order, are one in its order.
-/
import Derived.Test.YtcbimgdgodeppaaSortB
namespace Go.Proofs.Ytcbimgdgodeppaa
open Go.RowKit

section
variable {bef : Int → Int → Prop}
theorem last_or {A : List Int} {y : Int} (h : Asc bef (A ++ [y])) : ∀ z ∈ A ++ [y], z = y ∨ bef z y := fun z hz => by
  rcases List.mem_append.1 hz with h' | h'
  · exact .inr (asc_last h z h')
  · exact .inl (by simpa using h')
theorem first_or {A : List Int} {y : Int} (h : Asc bef (y :: A)) : ∀ z ∈ y :: A, z = y ∨ bef y z := fun z hz => by
  rcases List.mem_cons.1 hz with h' | h'
  · exact .inl h'
  · exact .inr (asc_first h z h')
theorem take_behind (T : Total bef) {L R : List Int} (hL : Asc bef L) (hR : Asc bef R) {i j : Nat} (hi : i ≤ L.length) (h : 0 < i → j < R.length → bef (L.getD (i - 1) 0) (R.getD j 0)) : ∀ x ∈ L.take i, ∀ y ∈ R.drop j, bef x y := fun x hx y hy => by
  rcases Nat.eq_zero_or_pos i with h0 | h0
  · subst h0; cases hx
  rcases Nat.lt_or_ge j R.length with h1 | h1
  · obtain ⟨d, rfl⟩ : ∃ d, i = d + 1 := ⟨i - 1, by omega⟩
    have hb := h h0 h1
    rw [Nat.add_sub_cancel] at hb
    rw [take_last (by omega)] at hx
    rw [drop_first h1] at hy
    have ha : Asc bef (L.take d ++ [L.getD d 0]) := by
      rw [← take_last (by omega)]
      rw [← List.take_append_drop (d + 1) L] at hL
      exact asc_left hL
    have hc : Asc bef (R.getD j 0 :: R.drop (j + 1)) := by
      rw [← drop_first h1]
      rw [← List.take_append_drop j R] at hR
      exact asc_right hR
    rcases last_or ha x hx with rfl | h2 <;> rcases first_or hc y hy with rfl | h3
    · exact hb
    · exact T.trans hb h3
    · exact T.trans h2 hb
    · exact T.trans h2 (T.trans hb h3)
  · rw [List.drop_of_length_le h1] at hy; cases hy
theorem asc_take {L : List Int} (h : Asc bef L) (i : Nat) : Asc bef (L.take i) ∧ Asc bef (L.drop i) := by
  rw [← List.take_append_drop i L] at h
  exact ⟨asc_left h, asc_right h⟩
end

/-- What is asked of the merge of no more than k numbers. -/
def SymOk (g N cap : Nat) (fn : FuncId) (cb : Array Value) (r : List Int) (w0 : World) (k : Nat) : Prop :=
  ∀ (a m b : Nat) (P L R S l : List Int) (w : World), b - a ≤ k → l = P ++ (L ++ (R ++ S)) → Srt g w0 l w → l.length = N → P.length = a → a + L.length = m → m + R.length = b → 0 < L.length → 0 < R.length → Asc (befR r) L → Asc (befR r) R →
    (∀ x ∈ L, ∀ y ∈ R, x < y) → (∀ x ∈ L ++ R, 0 ≤ x ∧ x < N) →
    Calls Try.prog 49 #[.slice (some ⟨g, 0, none⟩) N cap, .int .i64 a, .int .i64 m, .int .i64 b, .func (.func fn) #[] cb] w fun e w' => e = .returned (.tuple #[]) ∧ ∃ M : List Int, M.Perm (L ++ R) ∧ Asc (befR r) M ∧ Srt g w0 (P ++ (M ++ S)) w'

set_option maxHeartbeats 6400000 in
set_option maxRecDepth 40000 in
theorem symC_go (g N cap k : Nat) (fn : FuncId) (cb : Array Value) (r : List Int) (w0 : World) (HC : CmpOk fn cb g N w0 r) (hx : N ≤ 100000) (IH : SymOk g N cap fn cb r w0 k) (a m b : Nat) (P L R S l : List Int) (w : World) (hk : b - a ≤ k + 1) (hl : l = P ++ (L ++ (R ++ S))) (hS : Srt g w0 l w) (hN : l.length = N) (ha : P.length = a) (hm : a + L.length = m) (hb : m + R.length = b) (hL2 : 2 ≤ L.length) (hR2 : 2 ≤ R.length) (hLa : Asc (befR r) L) (hRa : Asc (befR r) R)
    (hap : ∀ x ∈ L, ∀ y ∈ R, x < y) (hin : ∀ x ∈ L ++ R, 0 ≤ x ∧ x < N) :
    Calls Try.prog 49 #[.slice (some ⟨g, 0, none⟩) N cap, .int .i64 a, .int .i64 m, .int .i64 b, .func (.func fn) #[] cb] w fun e w' => e = .returned (.tuple #[]) ∧ ∃ M : List Int, M.Perm (L ++ R) ∧ Asc (befR r) M ∧ Srt g w0 (P ++ (M ++ S)) w' := by
  have hbN : b ≤ N := by rw [← hN, hl]; simp only [List.length_append]; omega
  have hvL : ∀ i, a ≤ i → i < m → l.getD i 0 = L.getD (i - a) 0 := fun i h1 h2 => by
    rw [hl, show i = P.length + (i - a) by omega, getD_seg _ _ _ _ (by omega)]
    congr 1
    omega
  have hvR : ∀ i, m ≤ i → i < b → l.getD i 0 = R.getD (i - m) 0 := fun i h1 h2 => by
    rw [hl, ← List.append_assoc, show i = (P ++ L).length + (i - m) by rw [List.length_append]; omega, getD_seg _ _ _ _ (by omega)]
    congr 1
    rw [List.length_append]; omega
  obtain ⟨mid, hmid⟩ : ∃ mid, mid = (a + b) / 2 := ⟨_, rfl⟩
  obtain ⟨nn, hnn⟩ : ∃ nn, nn = mid + m := ⟨_, rfl⟩
  have HV : Hid (∀ c, a ≤ c → c < m → m ≤ nn - 1 - c → nn - 1 - c < b → l.getD c 0 < l.getD (nn - 1 - c) 0 ∧ 0 ≤ l.getD c 0 ∧ l.getD c 0 < N ∧ 0 ≤ l.getD (nn - 1 - c) 0 ∧ l.getD (nn - 1 - c) 0 < N) := fun c h1 h2 h3 h4 => by
    rw [hvL c h1 h2, hvR _ h3 h4]
    have m1 := getD_mem' (l := L) (i := c - a) (by omega)
    have m2 := getD_mem' (l := R) (i := nn - 1 - c - m) (by omega)
    have b1 := hin _ (List.mem_append_left _ m1)
    have b2 := hin _ (List.mem_append_right _ m2)
    exact ⟨hap _ m1 _ m2, b1.1, b1.2, b2.1, b2.2⟩
  obtain ⟨s0, hs0⟩ : ∃ s0, s0 = if mid < m then nn - b else a := ⟨_, rfl⟩
  obtain ⟨r0, hr0⟩ : ∃ r0, r0 = if mid < m then mid else m := ⟨_, rfl⟩
  have hrange : a ≤ s0 ∧ s0 ≤ r0 ∧ r0 ≤ m ∧ nn - s0 ≤ b ∧ m + r0 ≤ nn ∧ (s0 = a ∨ nn - s0 = b) ∧ (r0 = m ∨ nn - r0 = m) ∧ r0 ≤ mid := by
    rw [hs0, hr0]
    by_cases hmm : mid < m
    · rw [if_pos hmm, if_pos hmm]; omega
    · rw [if_neg hmm, if_neg hmm]; omega
  obtain ⟨w1, w2, w3, w4, w5, w6, w7, w8⟩ := hrange
  -- what the search finds
  have HF : Hid (∀ s, s0 ≤ s → s ≤ r0 → (s = s0 ∨ befR r (l.getD (s - 1) 0) (l.getD (nn - s) 0)) → (s = r0 ∨ befR r (l.getD (nn - 1 - s) 0) (l.getD s 0)) →
      (∀ x ∈ L.take (s - a), ∀ y ∈ R.drop (nn - s - m), befR r x y) ∧ ∀ y ∈ R.take (nn - s - m), ∀ x ∈ L.drop (s - a), befR r y x) := fun s h1 h2 h3 h4 => by
    refine ⟨take_behind (befR_total r) hLa hRa (by omega) fun q1 q2 => ?_, take_behind (befR_total r) hRa hLa (by omega) fun q1 q2 => ?_⟩
    · rcases h3 with h3 | h3
      · exfalso; omega
      · rw [hvL (s - 1) (by omega) (by omega), hvR (nn - s) (by omega) (by omega)] at h3
        rw [show s - a - 1 = s - 1 - a by omega]; exact h3
    · rcases h4 with h4 | h4
      · exfalso; omega
      · rw [hvR (nn - 1 - s) (by omega) (by omega), hvL s (by omega) (by omega)] at h4
        rw [show nn - s - m - 1 = nn - 1 - s - m by omega]; exact h4
  -- the three steps behind the search, each as lists
  have HROT : Hid (∀ s, s0 ≤ s → s ≤ r0 → ∀ W, Srt g w0 l W → s < m → m < nn - s → Calls Try.prog 51 #[.slice (some ⟨g, 0, none⟩) N cap, .int .i64 s, .int .i64 m, .int .i64 ((nn - s : Nat) : Int), .func (.func fn) #[] cb] W
      fun e w' => e = .returned (.tuple #[]) ∧ Srt g w0 (P ++ (L.take (s - a) ++ (R.take (nn - s - m) ++ (L.drop (s - a) ++ (R.drop (nn - s - m) ++ S))))) w') := fun s h1 h2 W hW q1 q2 => by
    have t1 : (L.take (s - a)).length = s - a := by rw [List.length_take]; omega
    have t2 : (L.drop (s - a)).length = m - s := by rw [List.length_drop]; omega
    have t3 : (R.take (nn - s - m)).length = nn - s - m := by rw [List.length_take]; omega
    have e1 : l = (P ++ L.take (s - a)) ++ (L.drop (s - a) ++ (R.take (nn - s - m) ++ (R.drop (nn - s - m) ++ S))) := by
      rw [hl, ← List.append_assoc (R.take (nn - s - m)), List.take_append_drop, List.append_assoc, ← List.append_assoc (L.take (s - a)), List.take_append_drop]
    refine (rotate_go g N cap s m (nn - s) (.func (.func fn) #[] cb) (P ++ L.take (s - a)) (L.drop (s - a)) (R.take (nn - s - m)) (R.drop (nn - s - m) ++ S) l w0 W e1 hW hN (by rw [List.length_append]; omega) (by rw [List.length_append]; omega) (by rw [List.length_append]; omega) (by omega) (by omega) hx).mono fun e w' ⟨p1, p2⟩ => ⟨p1, ?_⟩
    rw [List.append_assoc] at p2; exact p2
  have HNOT : Hid (∀ s, s0 ≤ s → s ≤ r0 → ∀ W, Srt g w0 l W → ¬ (s < m ∧ m < nn - s) → Srt g w0 (P ++ (L.take (s - a) ++ (R.take (nn - s - m) ++ (L.drop (s - a) ++ (R.drop (nn - s - m) ++ S))))) W) := fun s h1 h2 W hW q => by
    rcases Nat.lt_or_ge s m with h3 | h3
    · have e2 : nn - s - m = 0 := by omega
      rw [e2, List.take_zero, List.drop_zero, List.nil_append, ← List.append_assoc (L.take (s - a)), List.take_append_drop, ← hl]; exact hW
    · have e2 : L.length ≤ s - a := by omega
      rw [List.take_of_length_le e2, List.drop_of_length_le e2, List.nil_append, ← List.append_assoc (R.take (nn - s - m)), List.take_append_drop, ← hl]; exact hW
  have HLEN : Hid (∀ s, s0 ≤ s → s ≤ r0 → (P ++ (L.take (s - a) ++ (R.take (nn - s - m) ++ (L.drop (s - a) ++ (R.drop (nn - s - m) ++ S))))).length = N) := fun s h1 h2 => by
    rw [← hN, hl]
    simp only [List.length_append, List.length_take, List.length_drop]; omega
  have HONE : Hid (∀ s, s0 ≤ s → s ≤ r0 → ∀ W, Srt g w0 (P ++ (L.take (s - a) ++ (R.take (nn - s - m) ++ (L.drop (s - a) ++ (R.drop (nn - s - m) ++ S))))) W → a < s → s < mid →
      Calls Try.prog 49 #[.slice (some ⟨g, 0, none⟩) N cap, .int .i64 a, .int .i64 s, .int .i64 mid, .func (.func fn) #[] cb] W
        fun e w' => e = .returned (.tuple #[]) ∧ ∃ M1 : List Int, M1.Perm (L.take (s - a) ++ R.take (nn - s - m)) ∧ Asc (befR r) M1 ∧ Srt g w0 (P ++ (M1 ++ (L.drop (s - a) ++ (R.drop (nn - s - m) ++ S)))) w') := fun s h1 h2 W hW q1 q2 => by
    have t1 : (L.take (s - a)).length = s - a := by rw [List.length_take]; omega
    have t3 : (R.take (nn - s - m)).length = nn - s - m := by rw [List.length_take]; omega
    exact IH a s mid P (L.take (s - a)) (R.take (nn - s - m)) (L.drop (s - a) ++ (R.drop (nn - s - m) ++ S)) _ W (by omega) rfl hW (HLEN.out s h1 h2) ha (by omega) (by omega) (by omega) (by omega) (asc_take hLa _).1 (asc_take hRa _).1
      (fun x hx y hy => hap x (List.mem_of_mem_take hx) y (List.mem_of_mem_take hy)) (fun x hx => hin x (by
        rcases List.mem_append.1 hx with h | h
        · exact List.mem_append_left _ (List.mem_of_mem_take h)
        · exact List.mem_append_right _ (List.mem_of_mem_take h)))
  have HONEN : Hid (∀ s, s0 ≤ s → s ≤ r0 → ∀ W, Srt g w0 (P ++ (L.take (s - a) ++ (R.take (nn - s - m) ++ (L.drop (s - a) ++ (R.drop (nn - s - m) ++ S))))) W → ¬ (a < s ∧ s < mid) →
      ∃ M1 : List Int, M1.Perm (L.take (s - a) ++ R.take (nn - s - m)) ∧ Asc (befR r) M1 ∧ Srt g w0 (P ++ (M1 ++ (L.drop (s - a) ++ (R.drop (nn - s - m) ++ S)))) W) := fun s h1 h2 W hW q => by
    refine ⟨L.take (s - a) ++ R.take (nn - s - m), List.Perm.refl _, ?_, by rw [List.append_assoc]; exact hW⟩
    rcases Nat.lt_or_ge a s with h3 | h3
    · rw [show nn - s - m = 0 by omega, List.take_zero, List.append_nil]; exact (asc_take hLa _).1
    · rw [show s - a = 0 by omega, List.take_zero, List.nil_append]; exact (asc_take hRa _).1
  have HFIN : Hid (∀ s, s0 ≤ s → s ≤ r0 → ((∀ x ∈ L.take (s - a), ∀ y ∈ R.drop (nn - s - m), befR r x y) ∧ ∀ y ∈ R.take (nn - s - m), ∀ x ∈ L.drop (s - a), befR r y x) → ∀ M1 M2 : List Int, M1.Perm (L.take (s - a) ++ R.take (nn - s - m)) → Asc (befR r) M1 →
      M2.Perm (L.drop (s - a) ++ R.drop (nn - s - m)) → Asc (befR r) M2 → ∀ W, Srt g w0 ((P ++ M1) ++ (M2 ++ S)) W → ∃ M : List Int, M.Perm (L ++ R) ∧ Asc (befR r) M ∧ Srt g w0 (P ++ (M ++ S)) W) := fun s h1 h2 ho M1 M2 p1 a1 p2 a2 W hW => by
    have h := merge_halves (by rw [List.take_append_drop]; exact hLa) (by rw [List.take_append_drop]; exact hRa) ho p1 p2 a1 a2
    rw [List.take_append_drop, List.take_append_drop] at h
    exact ⟨M1 ++ M2, h.2, h.1, by rw [List.append_assoc] at hW ⊢; exact hW⟩
  have HTWO : Hid (∀ s, s0 ≤ s → s ≤ r0 → ∀ M1 : List Int, M1.Perm (L.take (s - a) ++ R.take (nn - s - m)) → ∀ W, Srt g w0 (P ++ (M1 ++ (L.drop (s - a) ++ (R.drop (nn - s - m) ++ S)))) W → mid < nn - s → nn - s < b →
      Calls Try.prog 49 #[.slice (some ⟨g, 0, none⟩) N cap, .int .i64 mid, .int .i64 ((nn - s : Nat) : Int), .int .i64 b, .func (.func fn) #[] cb] W
        fun e w' => e = .returned (.tuple #[]) ∧ ∃ M2 : List Int, M2.Perm (L.drop (s - a) ++ R.drop (nn - s - m)) ∧ Asc (befR r) M2 ∧ Srt g w0 ((P ++ M1) ++ (M2 ++ S)) w') := fun s h1 h2 M1 p1 W hW q1 q2 => by
    have t1 : (L.take (s - a)).length = s - a := by rw [List.length_take]; omega
    have t2 : (L.drop (s - a)).length = m - s := by rw [List.length_drop]; omega
    have t3 : (R.take (nn - s - m)).length = nn - s - m := by rw [List.length_take]; omega
    have t4 : (R.drop (nn - s - m)).length = b - (nn - s) := by rw [List.length_drop]; omega
    have pl := p1.length_eq
    rw [List.length_append, t1, t3] at pl
    have hln := HLEN.out s h1 h2
    have hlw : (P ++ (M1 ++ (L.drop (s - a) ++ (R.drop (nn - s - m) ++ S)))).length = N := by
      simp only [List.length_append] at hln ⊢; omega
    exact IH mid (nn - s) b (P ++ M1) (L.drop (s - a)) (R.drop (nn - s - m)) S _ W (by omega) (by rw [List.append_assoc]) hW hlw (by rw [List.length_append]; omega) (by omega) (by omega) (by omega) (by omega) (asc_take hLa _).2 (asc_take hRa _).2
      (fun x hx y hy => hap x (List.mem_of_mem_drop hx) y (List.mem_of_mem_drop hy)) (fun x hx => hin x (by
        rcases List.mem_append.1 hx with h | h
        · exact List.mem_append_left _ (List.mem_of_mem_drop h)
        · exact List.mem_append_right _ (List.mem_of_mem_drop h)))
  have HTWON : Hid (∀ s, s0 ≤ s → s ≤ r0 → ¬ (mid < nn - s ∧ nn - s < b) → Asc (befR r) (L.drop (s - a) ++ R.drop (nn - s - m))) := fun s h1 h2 q => by
    rcases Nat.lt_or_ge mid (nn - s) with h3 | h3
    · rw [List.drop_of_length_le (l := R) (by omega), List.append_nil]; exact (asc_take hLa _).2
    · rw [List.drop_of_length_le (l := L) (by omega), List.nil_append]; exact (asc_take hRa _).2
  have HS := Lib.hid hS
  have HCC := Lib.hid HC
  have HLN := Lib.hid hN
  have HS0 := Lib.hid hs0
  have HR0 := Lib.hid hr0
  have eg := HC.enters
  have mixed := Try.mixedS
  have v1 : IntKind.i64.wrap ((m : Int) - (a : Int)) = ((m - a : Nat) : Int) := by rw [IntWalk.i64_in _ (by omega)]; omega
  have v1n : ((((m - a : Nat) : Int)) == 1) = false := by rw [beq_eq_false_iff_ne]; omega
  have v1m : ¬ ((m - a : Nat) : Int) = 1 := by omega
  have v2 : IntKind.i64.wrap ((b : Int) - (m : Int)) = ((b - m : Nat) : Int) := by rw [IntWalk.i64_in _ (by omega)]; omega
  have v2n : ((((b - m : Nat) : Int)) == 1) = false := by rw [beq_eq_false_iff_ne]; omega
  have v2m : ¬ ((b - m : Nat) : Int) = 1 := by omega
  have y1 : IntKind.i64.wrap ((a : Int) + (b : Int)) = (a : Int) + (b : Int) := IntWalk.i64_in _ (by omega)
  have y2 : IntKind.u64.wrap ((a : Int) + (b : Int)) = (a : Int) + (b : Int) := IntWalk.u64_in _ (by omega)
  have y3 : ((a : Int) + (b : Int)) / 2 = (mid : Int) := by omega
  have y4 : IntKind.i64.wrap (mid : Int) = (mid : Int) := IntWalk.i64_in _ (by omega)
  have y5 : IntKind.u64.wrap (mid : Int) = (mid : Int) := IntWalk.u64_in _ (by omega)
  have y6 : IntKind.i64.wrap ((mid : Int) + (m : Int)) = (nn : Int) := by rw [IntWalk.i64_in _ (by omega)]; omega
  have y7 : IntKind.i64.wrap ((nn : Int) - 1) = (nn : Int) - 1 := IntWalk.i64_in _ (by omega)
  have n200 : nn ≤ 200000 := by omega
  have n0 : 1 ≤ nn := by omega
  have hmN : m ≤ N := by omega
  have hsb : mid < m → nn - b = s0 ∧ b ≤ nn ∧ mid = r0 := fun h => by rw [hs0, hr0, if_pos h, if_pos h]; omega
  have hsa : ¬ mid < m → a = s0 ∧ m = r0 := fun h => by rw [hs0, hr0, if_neg h, if_neg h]; omega
  have HSB := Lib.hid hsb
  have HSA := Lib.hid hsa
  obtain ⟨d1, hd1⟩ : ∃ d, d = m - a := ⟨_, rfl⟩
  rw [← hd1] at v1 v1n v1m
  obtain ⟨d2, hd2⟩ : ∃ d, d = b - m := ⟨_, rfl⟩
  rw [← hd2] at v2 v2n v2m
  clear hl hS hN ha hm hb hLa hRa hap hin HC hvL hvR hd1 hd2 hL2 hR2 hmid hnn hs0 hr0 hsb hsa hk IH w6 w7
  go_enter Try.func49, Try.ntmps49
  go_upto_if 140 with fail
  go_cut [20, 21] (fun vs vr wx => vs = .int .i64 (s0 : Int) ∧ vr = .int .i64 (r0 : Int) ∧ wx = w)
  case first =>
    by_cases hmm : mid < m
    · have g1 : (mid : Int) < (m : Int) := by omega
      obtain ⟨e1, e2, e3⟩ := HSB.out hmm
      have y8 : IntKind.i64.wrap ((nn : Int) - (b : Int)) = (s0 : Int) := by rw [IntWalk.i64_in _ (by omega)]; omega
      subst e3
      clear e1 e2
      go_wp2
      go_meet
      exact ⟨rfl, rfl, rfl⟩
    · have g1 : ¬ (mid : Int) < (m : Int) := by omega
      obtain ⟨e1, e2⟩ := HSA.out hmm
      subst e1 e2
      go_wp2
      go_meet
      exact ⟨rfl, rfl, rfl⟩
  case rest =>
    obtain ⟨rfl, rfl, rfl⟩ := hcut
    clear y1 y2 y3 y4 y5 y6 HSB HSA v1 v1n v1m v2 v2n v2m
    go_wp2
    go_loopw [20, 21] (fun vs vr wr => ∃ s q : Nat, s0 ≤ s ∧ s ≤ q ∧ q ≤ r0 ∧ vs = .int .i64 s ∧ vr = .int .i64 q ∧ Hid (Srt g w0 l wr ∧ (s = s0 ∨ befR r (l.getD (s - 1) 0) (l.getD (nn - s) 0)) ∧ (q = r0 ∨ befR r (l.getD (nn - 1 - q) 0) (l.getD q 0)))) (fun vs vr _ => (intOf vr).toNat - (intOf vs).toNat)
    case atStart => exact ⟨s0, r0, Nat.le_refl _, w2, Nat.le_refl _, rfl, rfl, HS.out, .inl rfl, .inl rfl⟩
    case round =>
      clear HS
      obtain ⟨s, q, hs0, hsq, hqr, rfl, rfl, HI⟩ := hrel
      by_cases hlt : s < q
      · obtain ⟨q1, q2, q3⟩ := HI.out
        obtain ⟨h, hh⟩ : ∃ h, h = (s + q) / 2 := ⟨_, rfl⟩
        have hi1 : s ≤ h := by omega
        have hj1 : h < q := by omega
        have vh := HV.out h (by omega) (by omega) (by omega) (by omega)
        obtain ⟨pp, hpp⟩ : ∃ pp, pp = nn - 1 - h := ⟨_, rfl⟩
        rw [← hpp] at vh
        have c1 := fun n => (q1.drewN n).cell (i := h) (by rw [HLN.out]; omega)
        have c2 := fun n => (q1.drewN n).cell (i := pp) (by rw [HLN.out]; omega)
        have hbef := cmpR_bef (r := r) vh.1
        have hnot := cmpR_not (r := r) vh.1
        have HR1 : Hid (∀ n, befR r (l.getD h 0) (l.getD pp 0) → Srt g w0 l (wr.drewN n) ∧ (h + 1 = s0 ∨ befR r (l.getD (h + 1 - 1) 0) (l.getD (nn - (h + 1)) 0)) ∧ (q = r0 ∨ befR r (l.getD (nn - 1 - q) 0) (l.getD q 0))) := fun n hq => ⟨q1.drewN n, .inr (by rw [Nat.add_sub_cancel, show nn - (h + 1) = pp by omega]; exact hq), q3⟩
        have HR2 : Hid (∀ n, befR r (l.getD pp 0) (l.getD h 0) → Srt g w0 l (wr.drewN n) ∧ (s = s0 ∨ befR r (l.getD (s - 1) 0) (l.getD (nn - s) 0)) ∧ (h = r0 ∨ befR r (l.getD (nn - 1 - h) 0) (l.getD h 0))) := fun n hq => ⟨q1.drewN n, q2, .inr (by rw [← hpp]; exact hq)⟩
        obtain ⟨x, hx'⟩ : ∃ y, y = l.getD h 0 := ⟨_, rfl⟩
        obtain ⟨y, hy'⟩ : ∃ y, y = l.getD pp 0 := ⟨_, rfl⟩
        rw [← hx', ← hy'] at vh hbef hnot
        simp only [← hx'] at c1
        simp only [← hy'] at c2
        have hc : ∀ n, Calls Try.prog fn (#[.int .i64 y, .int .i64 x] ++ cb) (wr.drewN n) fun e w' => e = .returned (.int .i64 (cmpR r y x)) ∧ ∃ m, w' = (wr.drewN n).drewN m := fun n => HCC.out.call y x (wr.drewN n) (q1.drewN n).below vh.2.2.2.1 vh.2.2.2.2 vh.2.1 vh.2.2.1
        have HB := Lib.hid hbef
        have HT := Lib.hid hnot
        have HX := Lib.hid hx'
        have HY := Lib.hid hy'
        obtain ⟨z, hz⟩ : ∃ z, z = cmpR r y x := ⟨_, rfl⟩
        rw [← hz] at hc HB HT
        have k1 : (s : Int) < (q : Int) := by omega
        have r1 : IntKind.i64.wrap ((s : Int) + (q : Int)) = (s : Int) + (q : Int) := IntWalk.i64_in _ (by omega)
        have r2 : IntKind.u64.wrap ((s : Int) + (q : Int)) = (s : Int) + (q : Int) := IntWalk.u64_in _ (by omega)
        have r3 : ((s : Int) + (q : Int)) / 2 = (h : Int) := by omega
        have r4 : IntKind.i64.wrap (h : Int) = (h : Int) := IntWalk.i64_in _ (by omega)
        have r5 : IntKind.u64.wrap (h : Int) = (h : Int) := IntWalk.u64_in _ (by omega)
        have r6 : IntKind.i64.wrap ((nn : Int) - 1 - (h : Int)) = (pp : Int) := by rw [IntWalk.i64_in _ (by omega)]; omega
        have hN1 : (h : Int) < (N : Int) := by omega
        have hN2 : (pp : Int) < (N : Int) := by omega
        clear hbef hnot hx' hy' hz HI q1 q2 q3 vh HV HF HROT HNOT HLEN HONE HONEN HFIN HTWO HTWON hpp
        by_cases hneg : z < 0
        · have gz : decide (z < 0) = true := decide_eq_true hneg
          have hb := HB.out.1 hneg
          rw [HX.out, HY.out] at hb
          have HR3 := Lib.hid (fun n => HR2.out n hb)
          clear hb HB HT HR1 HR2 hh
          go_wp2_with fail
          go_quiet (first | (go_at_fn fn; with_reducible (refine Calls.quiet_of (hc _))))
          go_wp2
          go_roundw
          case rel => first | exact ⟨s, h, hs0, hi1, by omega, rfl, rfl, HR3.out nq⟩ | ((repeat apply Exists.intro); exact ⟨⟨s, h, hs0, hi1, by omega, rfl, rfl, HR3.out nq⟩, rfl⟩)
          case measure => simp [intOf]; omega
        · have gz : decide (z < 0) = false := decide_eq_false hneg
          have hb := HT.out.1 hneg
          rw [HX.out, HY.out] at hb
          have HR3 := Lib.hid (fun n => HR1.out n hb)
          clear hb HB HT HR1 HR2 hh
          go_wp2_with fail
          go_quiet (first | (go_at_fn fn; with_reducible (refine Calls.quiet_of (hc _))))
          go_wp2
          go_roundw
          case rel => first | exact ⟨h + 1, q, by omega, by omega, hqr, by go_num, rfl, HR3.out nq⟩ | ((repeat apply Exists.intro); exact ⟨⟨h + 1, q, by omega, by omega, hqr, by go_num, rfl, HR3.out nq⟩, rfl⟩)
          case measure => simp [intOf]; omega
      · have hij2 : s = q := by omega
        subst hij2
        obtain ⟨q1, q2, q3⟩ := HI.out
        have HO := Lib.hid (HF.out s hs0 hqr q2 q3)
        have HSL := Lib.hid q1
        have HROT1 := Lib.hid (HROT.out s hs0 hqr)
        have HNOT1 := Lib.hid (HNOT.out s hs0 hqr)
        have HONE1 := Lib.hid (HONE.out s hs0 hqr)
        have HONEN1 := Lib.hid (HONEN.out s hs0 hqr)
        have HFIN1 := Lib.hid (HFIN.out s hs0 hqr HO.out)
        have HTWO1 := Lib.hid (HTWO.out s hs0 hqr)
        have HTWON1 := Lib.hid (HTWON.out s hs0 hqr)
        have k1 : ¬ (s : Int) < (s : Int) := by omega
        have sm : s ≤ m := by omega
        have en : nn - s ≤ b := by omega
        have r1 : IntKind.i64.wrap ((nn : Int) - (s : Int)) = ((nn - s : Nat) : Int) := by rw [IntWalk.i64_in _ (by omega)]; omega
        obtain ⟨L1, hL1⟩ : ∃ x, x = L.take (s - a) := ⟨_, rfl⟩
        obtain ⟨L2, hL2⟩ : ∃ x, x = L.drop (s - a) := ⟨_, rfl⟩
        obtain ⟨R1, hR1⟩ : ∃ x, x = R.take (nn - s - m) := ⟨_, rfl⟩
        obtain ⟨R2, hR2⟩ : ∃ x, x = R.drop (nn - s - m) := ⟨_, rfl⟩
        simp only [← hL1, ← hL2, ← hR1, ← hR2] at HROT1 HNOT1 HONE1 HONEN1 HFIN1 HTWO1 HTWON1
        obtain ⟨e, he⟩ : ∃ e, e = nn - s := ⟨_, rfl⟩
        simp only [← he] at HROT1 HNOT1 HTWO1 HTWON1 r1 en
        clear HI q1 q2 q3 HF HV HCC HROT HNOT HLEN HONE HONEN HFIN HTWO HTWON hL1 hL2 hR1 hR2 he HO HLN HS0 HR0
        obtain ⟨B1, hB1⟩ : ∃ B, B = decide (s < m ∧ m < e) := ⟨_, rfl⟩
        have HB1 := Lib.hid hB1
        obtain ⟨B2, hB2⟩ : ∃ B, B = decide (a < s ∧ s < mid) := ⟨_, rfl⟩
        have HB2 := Lib.hid hB2
        obtain ⟨B3, hB3⟩ : ∃ B, B = decide (mid < e ∧ e < b) := ⟨_, rfl⟩
        have HB3 := Lib.hid hB3
        clear hB1 hB2 hB3
        go_upto_region 39 with fail
        go_cut [185] from 178 to 185 (fun v wx => v = .bool B1 ∧ Hid (Srt g w0 l wx))
        case first =>
          have HB := HB1.out
          by_cases h1 : s < m
          · by_cases h2 : m < e
            · have g1 : (s : Int) < (m : Int) := by omega
              have g2 : (m : Int) < (e : Int) := by omega
              rw [show decide (s < m ∧ m < e) = true from decide_eq_true ⟨h1, h2⟩] at HB
              subst HB
              clear h1 h2
              go_wp2
              go_meet
              exact ⟨rfl, HSL⟩
            · have g1 : (s : Int) < (m : Int) := by omega
              have g2 : ¬ (m : Int) < (e : Int) := by omega
              rw [show decide (s < m ∧ m < e) = false from decide_eq_false fun h => h2 h.2] at HB
              subst HB
              clear h1 h2
              go_wp2
              go_meet
              exact ⟨rfl, HSL⟩
          · have g1 : ¬ (s : Int) < (m : Int) := by omega
            rw [show decide (s < m ∧ m < e) = false from decide_eq_false fun h => h1 h.1] at HB
            subst HB
            clear h1
            go_wp2
            go_meet
            exact ⟨rfl, HSL⟩
        case rest =>
          clear HSL
          obtain ⟨rfl, HSL⟩ := hcut
          go_upto_if 185 with fail
          go_cut [185] from 186 to 191 (fun v wx => v = .bool B1 ∧ Hid (Srt g w0 (P ++ (L1 ++ (R1 ++ (L2 ++ (R2 ++ S))))) wx))
          case first =>
            have HB := HB1.out
            by_cases hc : s < m ∧ m < e
            · rw [decide_eq_true hc] at HB
              have HRR := Lib.hid (HROT1.out _ HSL.out hc.1 hc.2)
              subst HB
              clear hc HSL
              go_wp2_with (go_at_call 51; with_reducible (refine Calls.mono HRR.out ?_); rintro e w1 ⟨rfl, hs⟩; replace hs := Lib.hid hs)
              go_meet
              exact ⟨rfl, hs⟩
            · rw [decide_eq_false hc] at HB
              have HRR := Lib.hid (HNOT1.out _ HSL.out hc)
              subst HB
              clear hc HSL
              go_wp2
              go_meet
              exact ⟨rfl, HRR⟩
          case rest =>
            clear HSL HB1 HROT1 HNOT1
            obtain ⟨rfl, HS1⟩ := hcut
            go_upto_region 41 with fail
            go_cut [199] from 192 to 199 (fun v wx => v = .bool B2 ∧ Hid (Srt g w0 (P ++ (L1 ++ (R1 ++ (L2 ++ (R2 ++ S))))) wx))
            case first =>
              have HB := HB2.out
              by_cases h1 : a < s
              · by_cases h2 : s < mid
                · have g1 : (a : Int) < (s : Int) := by omega
                  have g2 : (s : Int) < (mid : Int) := by omega
                  rw [show decide (a < s ∧ s < mid) = true from decide_eq_true ⟨h1, h2⟩] at HB
                  subst HB
                  clear h1 h2
                  go_wp2
                  go_meet
                  exact ⟨rfl, HS1⟩
                · have g1 : (a : Int) < (s : Int) := by omega
                  have g2 : ¬ (s : Int) < (mid : Int) := by omega
                  rw [show decide (a < s ∧ s < mid) = false from decide_eq_false fun h => h2 h.2] at HB
                  subst HB
                  clear h1 h2
                  go_wp2
                  go_meet
                  exact ⟨rfl, HS1⟩
              · have g1 : ¬ (a : Int) < (s : Int) := by omega
                rw [show decide (a < s ∧ s < mid) = false from decide_eq_false fun h => h1 h.1] at HB
                subst HB
                clear h1
                go_wp2
                go_meet
                exact ⟨rfl, HS1⟩
            case rest =>
              clear HS1
              obtain ⟨rfl, HS1⟩ := hcut
              go_upto_if 199 with fail
              go_cut [199] from 200 to 205 (fun v wx => v = .bool B2 ∧ Hid (∃ M1 : List Int, M1.Perm (L1 ++ R1) ∧ Asc (befR r) M1 ∧ Srt g w0 (P ++ (M1 ++ (L2 ++ (R2 ++ S)))) wx))
              case first =>
                have HB := HB2.out
                by_cases hc : a < s ∧ s < mid
                · rw [decide_eq_true hc] at HB
                  have HRR := Lib.hid (HONE1.out _ HS1.out hc.1 hc.2)
                  subst HB
                  clear hc HS1
                  go_wp2_with (go_at_call 49; with_reducible (refine Calls.mono HRR.out ?_); rintro e w1 ⟨rfl, hs⟩; replace hs := Lib.hid hs)
                  go_meet
                  exact ⟨rfl, hs⟩
                · rw [decide_eq_false hc] at HB
                  have HRR := Lib.hid (HONEN1.out _ HS1.out hc)
                  subst HB
                  clear hc HS1
                  go_wp2
                  go_meet
                  exact ⟨rfl, HRR⟩
              case rest =>
                clear HS1 HB2 HONE1 HONEN1
                obtain ⟨rfl, HS2⟩ := hcut
                obtain ⟨M1, p1, a1, s1⟩ := HS2.out
                have HM1 := Lib.hid (And.intro p1 (And.intro a1 s1))
                clear p1 a1 s1 HS2
                go_upto_region 43 with fail
                go_cut [213] from 206 to 213 (fun v wx => v = .bool B3 ∧ Hid (M1.Perm (L1 ++ R1) ∧ Asc (befR r) M1 ∧ Srt g w0 (P ++ (M1 ++ (L2 ++ (R2 ++ S)))) wx))
                case first =>
                  have HB := HB3.out
                  by_cases h1 : mid < e
                  · by_cases h2 : e < b
                    · have g1 : (mid : Int) < (e : Int) := by omega
                      have g2 : (e : Int) < (b : Int) := by omega
                      rw [show decide (mid < e ∧ e < b) = true from decide_eq_true ⟨h1, h2⟩] at HB
                      subst HB
                      clear h1 h2
                      go_wp2
                      go_meet
                      exact ⟨rfl, HM1⟩
                    · have g1 : (mid : Int) < (e : Int) := by omega
                      have g2 : ¬ (e : Int) < (b : Int) := by omega
                      rw [show decide (mid < e ∧ e < b) = false from decide_eq_false fun h => h2 h.2] at HB
                      subst HB
                      clear h1 h2
                      go_wp2
                      go_meet
                      exact ⟨rfl, HM1⟩
                  · have g1 : ¬ (mid : Int) < (e : Int) := by omega
                    rw [show decide (mid < e ∧ e < b) = false from decide_eq_false fun h => h1 h.1] at HB
                    subst HB
                    clear h1
                    go_wp2
                    go_meet
                    exact ⟨rfl, HM1⟩
                case rest =>
                  clear HM1
                  obtain ⟨rfl, HM1⟩ := hcut
                  have HB := HB3.out
                  by_cases hc : mid < e ∧ e < b
                  · rw [decide_eq_true hc] at HB
                    have HRR := Lib.hid (HTWO1.out M1 HM1.out.1 _ HM1.out.2.2 hc.1 hc.2)
                    subst HB
                    clear hc
                    go_wp2_with (go_at_call 49; with_reducible (refine Calls.mono HRR.out ?_); rintro e w1 ⟨rfl, hs⟩; replace hs := Lib.hid hs)
                    go_end0
                    obtain ⟨M2, p2, a2, s2⟩ := hs.out
                    exact ⟨rfl, HFIN1.out M1 M2 HM1.out.1 HM1.out.2.1 p2 a2 _ s2⟩
                  · rw [decide_eq_false hc] at HB
                    have HA2 := Lib.hid (HTWON1.out hc)
                    subst HB
                    clear hc
                    go_wp2
                    go_end0
                    refine ⟨rfl, HFIN1.out M1 (L2 ++ R2) HM1.out.1 HM1.out.2.1 (List.Perm.refl _) HA2.out _ ?_⟩
                    have h := HM1.out.2.2
                    rw [show (P ++ M1) ++ (L2 ++ R2 ++ S) = P ++ (M1 ++ (L2 ++ (R2 ++ S))) by simp only [List.append_assoc]]; exact h

theorem symMerge_go (g N cap : Nat) (fn : FuncId) (cb : Array Value) (r : List Int) (w0 : World) (HC : CmpOk fn cb g N w0 r) (hx : N ≤ 100000) : ∀ k, SymOk g N cap fn cb r w0 k
  | 0 => fun a m b P L R S l w hk hl hS hN ha hm hb h1 h2 _ _ _ _ => by omega
  | k + 1 => fun a m b P L R S l w hk hl hS hN ha hm hb h1 h2 aL aR hap hin => by
    by_cases e1 : L.length = 1
    · match L, e1 with
      | [x], _ =>
        exact symA_go g N cap a m b fn cb r P R S l x w0 w HC (by rw [hl]; rfl) hS hN ha (by simpa using hm) hb aR (fun y hy => hap x (by simp) y hy) (fun y hy => hin y (by simpa using hy)) hx
    · by_cases e2 : R.length = 1
      · match R, e2 with
        | [y], _ =>
          exact symB_go g N cap a m b fn cb r P L S l y w0 w HC (by rw [hl]; rfl) hS hN ha hm (by simpa using hb) e1 aL (fun x hx => hap x hx y (by simp)) hin hx
      · exact symC_go g N cap k fn cb r w0 HC hx (symMerge_go g N cap fn cb r w0 HC hx k) a m b P L R S l w hk hl hS hN ha hm hb (by omega) (by omega) aL aR hap hin

end Go.Proofs.Ytcbimgdgodeppaa
