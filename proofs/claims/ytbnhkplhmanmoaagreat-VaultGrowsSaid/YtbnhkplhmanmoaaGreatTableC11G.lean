/-
  The landed table: what is there in a draft, and one cell of it written; markDying, setQuota. The landed table: setQuota, setBlocks, setBase, giveUp, take, setOwner.
-/
import Derived.Test.YtbnhkplhmanmoaaGreatVaultC4G
namespace Go.Proofs.YtbnhkplhmanmoaaGreat
open Go.RowKit

/-! ### Plain -/
theorem updK_set {α : Type} (k : α → Int) (f : α → α) {id : Int} : ∀ {l : List α} {i : Nat} (hi : i < l.length), (l.Pairwise fun a b => k a < k b) → k l[i] = id → updK k id f l = l.set i (f l[i])
  | x :: l, 0, hi, h, he => by
    obtain ⟨h1, h2⟩ := List.pairwise_cons.1 h
    have he' : k x = id := he
    unfold updK
    rw [List.map_cons, if_pos he', List.set_cons_zero]
    have e : l.map (fun x => if k x = id then f x else x) = l := by
      conv => rhs; rw [← List.map_id l]
      refine List.map_congr_left fun y hy => ?_
      rw [if_neg (by have := h1 y hy; omega)]
      rfl
    rw [e]; rfl
  | x :: l, i + 1, hi, h, he => by
    obtain ⟨h1, h2⟩ := List.pairwise_cons.1 h
    have hi2 : i < l.length := by simpa using hi
    have he' : k l[i] = id := by simpa using he
    have ih := updK_set k f hi2 h2 he'
    unfold updK at ih ⊢
    have hx := h1 l[i] (List.getElem_mem hi2)
    rw [List.map_cons, if_neg (by omega), ih]
    rfl
theorem vol_cases (vs : List Vol) (id : Int) : (∃ k, ∃ h : k < vs.length, vs[k].id = id ∧ (∀ j, (h : j < vs.length) → j < k → vs[j].id ≠ id) ∧ volAt vs id = some vs[k]) ∨ ((∀ j, (h : j < vs.length) → vs[j].id ≠ id) ∧ volAt vs id = none) := by
  induction vs with
  | nil => exact .inr ⟨fun j h => absurd h (Nat.not_lt_zero j), rfl⟩
  | cons x vs ih =>
    by_cases he : x.id = id
    · refine .inl ⟨0, Nat.zero_lt_succ _, he, fun j _ hj => absurd hj (Nat.not_lt_zero j), ?_⟩
      unfold volAt
      rw [List.find?_cons_of_pos (by simpa using he)]; rfl
    · have hc : volAt (x :: vs) id = volAt vs id := by
        unfold volAt
        rw [List.find?_cons_of_neg (by simpa using he)]
      rcases ih with ⟨k, h, e, hl, ha⟩ | ⟨hl, ha⟩
      · refine .inl ⟨k + 1, by simpa using h, by simpa using e, fun j hj hjk => ?_, by rw [hc, ha]; simp⟩
        cases j with
        | zero => exact he
        | succ j => exact hl j (by simpa using hj) (by omega)
      · refine .inr ⟨fun j hj => ?_, by rw [hc, ha]⟩
        cases j with
        | zero => exact he
        | succ j => exact hl j (by simpa using hj)

/-! ### In a draft -/
section
variable {lo p : Nat} {w : World} {V : TabW} {t : Tab}
/-- A tenant that is not there. -/
theorem DrIn.noT (h : DrIn lo w p V t) (hs : t.sound) {id : Int} (hl : ∀ j, (h : j < t.ts.length) → t.ts[j].id ≠ id) : ∀ X, Below w.heap.size w X → Calls Tryz.prog 91 #[.pointer (some ⟨p, 0, none⟩), .int .i64 id] X fun e w' => e = .returned (.pointer none) ∧ Below X.heap.size X w' := fun X hb =>
  dten_no p V.A1 V.c1 t.ts id X (h.below hb).cells.1 (by have := (sound_few hs).1; omega) (h.below hb).tab.ts hl
/-- A tenant that is there. -/
theorem DrIn.foundT (h : DrIn lo w p V t) (hs : t.sound) {id : Int} {k : Nat} (hk : k < t.ts.length) (he : t.ts[k].id = id) (hl : ∀ j, (h : j < t.ts.length) → j < k → t.ts[j].id ≠ id) :
    ∃ g, V.A1 = some ⟨g, 0, none⟩ ∧ lo ≤ g ∧ g < w.heap.size ∧
      (∀ X, Below w.heap.size w X → (X.cell? ⟨g, k * 6, none⟩ = some (.int .i64 t.ts[k].id) ∧ X.cell? ⟨g, k * 6 + 1, none⟩ = some (.int .i64 t.ts[k].quota) ∧ X.cell? ⟨g, k * 6 + 5, none⟩ = some (.bool t.ts[k].dying)) ∧ X.frozen? ⟨g, k * 6 + 1, none⟩ = false ∧ X.frozen? ⟨g, k * 6 + 5, none⟩ = false) ∧
      ∀ X, Below w.heap.size w X → Calls Tryz.prog 91 #[.pointer (some ⟨p, 0, none⟩), .int .i64 id] X fun e w' => e = .returned (.pointer (some ⟨g, k * 6, none⟩)) ∧ Below X.heap.size X w' := by
  obtain ⟨g, hA, hg, hgl, _, _, _⟩ := own_at tenC_len h.rows.ts rfl hk
  refine ⟨g, hA, hg, hgl, fun X hb => ?_, fun X hb => ?_⟩
  · obtain ⟨g2, hA2, _, _, _, hc, hf⟩ := own_at tenC_len (h.below hb).rows.ts rfl hk
    have : g2 = g := by rw [hA] at hA2; injection hA2 with q; injection q with q; exact q.symm
    subst this
    exact ⟨⟨hc 0 _ rfl, hc 1 _ rfl, hc 5 _ rfl⟩, hf _, hf _⟩
  · have hx := h.below hb
    have hc := hx.cells.1
    have ht := hx.tab.ts
    rw [hA] at hc ht
    have := dten_yes p g 0 V.c1 t.ts id k X hc (by have := (sound_few hs).1; omega) ht hk he hl
    rwa [Nat.zero_add] at this
/-- One cell of a tenant is written. -/
theorem DrIn.setT (h : DrIn lo w p V t) {g k j : Nat} (hA : V.A1 = some ⟨g, 0, none⟩) (hk : k < t.ts.length) (hj : j < 6) (v : Value) (y : Ten) (hy : tenC y = (tenC t.ts[k]).set j v) :
    DrIn lo (w.setCell ⟨g, k * 6 + j, none⟩ v) p V { t with ts := t.ts.set k y } ∧ Below lo w (w.setCell ⟨g, k * 6 + j, none⟩ v) := by
  have hg : w.grownBy (w.setCell ⟨g, k * 6 + j, none⟩ v) (some g) := setCells_grown w g (k * 6 + j) [v]
  have hgl := (row_lt h.rows.ts g (by rw [hA]; rfl)).1
  exact ⟨h.inT hA (by simp) (own_field tenC_len h.rows.ts hA rfl hk hj y hy) hg, grown_below (Below.refl _ _) hg h.lo_le hgl⟩
theorem DrIn.noV (h : DrIn lo w p V t) (hs : t.sound) {id : Int} (hl : ∀ j, (h : j < t.vs.length) → t.vs[j].id ≠ id) : ∀ X, Below w.heap.size w X → Calls Tryz.prog 99 #[.pointer (some ⟨p, 0, none⟩), .int .i64 id] X fun e w' => e = .returned (.pointer none) ∧ Below X.heap.size X w' := fun X hb =>
  dvol_no p V.A2 V.c2 t.vs id X (h.below hb).cells.2.1 (by have := (sound_few hs).2.1; omega) (h.below hb).tab.vs hl
theorem DrIn.foundV (h : DrIn lo w p V t) (hs : t.sound) {id : Int} {k : Nat} (hk : k < t.vs.length) (he : t.vs[k].id = id) (hl : ∀ j, (h : j < t.vs.length) → j < k → t.vs[j].id ≠ id) :
    ∃ g, V.A2 = some ⟨g, 0, none⟩ ∧ lo ≤ g ∧ g < w.heap.size ∧
      (∀ X, Below w.heap.size w X → (X.cell? ⟨g, k * 4 + 2, none⟩ = some (.int .i64 t.vs[k].blocks) ∧ X.cell? ⟨g, k * 4 + 3, none⟩ = some (.int .i64 t.vs[k].base)) ∧ X.frozen? ⟨g, k * 4 + 2, none⟩ = false ∧ X.frozen? ⟨g, k * 4 + 3, none⟩ = false) ∧
      ∀ X, Below w.heap.size w X → Calls Tryz.prog 99 #[.pointer (some ⟨p, 0, none⟩), .int .i64 id] X fun e w' => e = .returned (.pointer (some ⟨g, k * 4, none⟩)) ∧ Below X.heap.size X w' := by
  obtain ⟨g, hA, hg, hgl, _, _, _⟩ := own_at volC_len h.rows.vs rfl hk
  refine ⟨g, hA, hg, hgl, fun X hb => ?_, fun X hb => ?_⟩
  · obtain ⟨g2, hA2, _, _, _, hc, hf⟩ := own_at volC_len (h.below hb).rows.vs rfl hk
    have : g2 = g := by rw [hA] at hA2; injection hA2 with q; injection q with q; exact q.symm
    subst this
    exact ⟨⟨hc 2 _ rfl, hc 3 _ rfl⟩, hf _, hf _⟩
  · have hx := h.below hb
    have hc := hx.cells.2.1
    have ht := hx.tab.vs
    rw [hA] at hc ht
    have := dvol_yes p g 0 V.c2 t.vs id k X hc (by have := (sound_few hs).2.1; omega) ht hk he hl
    rwa [Nat.zero_add] at this
theorem DrIn.setV (h : DrIn lo w p V t) {g k j : Nat} (hA : V.A2 = some ⟨g, 0, none⟩) (hk : k < t.vs.length) (hj : j < 4) (v : Value) (y : Vol) (hy : volC y = (volC t.vs[k]).set j v) :
    DrIn lo (w.setCell ⟨g, k * 4 + j, none⟩ v) p V { t with vs := t.vs.set k y } ∧ Below lo w (w.setCell ⟨g, k * 4 + j, none⟩ v) := by
  have hg : w.grownBy (w.setCell ⟨g, k * 4 + j, none⟩ v) (some g) := setCells_grown w g (k * 4 + j) [v]
  have hgl := (row_lt h.rows.vs g (by rw [hA]; rfl)).1
  exact ⟨h.inV hA (by simp) (own_field volC_len h.rows.vs hA rfl hk hj y hy) hg, grown_below (Below.refl _ _) hg h.lo_le hgl⟩
/-- An owner is written. -/
theorem DrIn.setO (h : DrIn lo w p V t) {g k : Nat} (hA : V.A3 = some ⟨g, 0, none⟩) (hk : k < t.os.length) (n : Int) :
    DrIn lo (w.setCell ⟨g, k, none⟩ (.int .i64 n)) p V { t with os := t.os.set k n } ∧ Below lo w (w.setCell ⟨g, k, none⟩ (.int .i64 n)) := by
  have hg : w.grownBy (w.setCell ⟨g, k, none⟩ (.int .i64 n)) (some g) := setCells_grown w g k [.int .i64 n]
  have hgl := (row_lt h.rows.os g (by rw [hA]; rfl)).1
  have hf := own_field (j := 0) (v := .int .i64 n) intC_len h.rows.os hA rfl hk (by decide) n rfl
  rw [Nat.mul_one, Nat.add_zero] at hf
  exact ⟨h.inO hA (by simp) hf hg, grown_below (Below.refl _ _) hg h.lo_le hgl⟩
/-- An owner lies there. -/
theorem DrIn.foundO (h : DrIn lo w p V t) {k : Nat} (hk : k < t.os.length) : ∃ g, V.A3 = some ⟨g, 0, none⟩ ∧ lo ≤ g ∧ g < w.heap.size ∧ ∀ X, Below w.heap.size w X → X.cell? ⟨g, k, none⟩ = some (.int .i64 t.os[k]) ∧ X.frozen? ⟨g, k, none⟩ = false := by
  obtain ⟨g, hA, hg, hgl, _, _, _⟩ := own_at intC_len h.rows.os rfl hk
  refine ⟨g, hA, hg, hgl, fun X hb => ?_⟩
  obtain ⟨g2, hA2, _, _, _, hc, hf⟩ := own_at intC_len (h.below hb).rows.os rfl hk
  have : g2 = g := by rw [hA] at hA2; injection hA2 with q; injection q with q; exact q.symm
  subst this
  have := hc 0 _ rfl
  rw [Nat.mul_one, Nat.add_zero] at this
  exact ⟨this, hf _⟩
end

set_option maxHeartbeats 1600000 in
/-- 'markDying'. -/
theorem markDying_go {lo p : Nat} {w : World} {V : TabW} {t : Tab} (h : DrIn lo w p V t) (hs : t.sound) (r : Rc) :
    Calls Tryz.prog 69 #[.pointer (some ⟨p, 0, none⟩), .int .i64 r.a] w fun e w' => ∃ V', e = .returned (.int .i64 (one3 t r).1) ∧ DrIn lo w' p V' (one3 t r).2 ∧ Below lo w w' := by
  have HB : Hid (∀ X, Below w.heap.size w X → DrIn lo X p V t ∧ Below lo w X) := fun X hb => ⟨h.below hb, hb.mono h.lo_le⟩
  rcases ten_cases t.ts r.a with ⟨k, hk, he, hl, ha⟩ | ⟨hl, ha⟩
  · obtain ⟨g, hA, hg, hgl, hX, hC⟩ := h.foundT hs hk he hl
    have HX := Lib.hid hX
    have HC := Lib.hid (hC w (Below.refl _ _))
    by_cases hd : t.ts[k].dying = true
    · have H1 : Hid (one3 t r = (5, t)) := by show one3 t r = _; unfold one3; rw [ha]; exact if_pos hd
      rw [H1.out]
      simp only [hd] at HX
      clear hX hC hA hl ha he hd H1 h hs
      go_enter Tryz.func69, Tryz.ntmps69
      go_wp2_with (go_at_call 91; with_reducible (refine Calls.mono HC.out ?_); rintro e w1 ⟨rfl, hb1⟩; obtain ⟨⟨x0, x1, x5⟩, f1, f5⟩ := HX.out _ hb1)
      go_ret
      exact ⟨V, rfl, HB.out _ hb1⟩
    · have hd2 : t.ts[k].dying = false := by simpa using hd
      have H1 : Hid (one3 t r = (0, { t with ts := t.ts.set k { t.ts[k] with dying := true } })) := by
        show one3 t r = _
        unfold one3; rw [ha]
        show (if t.ts[k].dying = true then _ else _) = _
        rw [if_neg hd, updK_set Ten.id _ hk hs.up he]
      have HS : Hid (∀ X, Below w.heap.size w X → DrIn lo (X.setCell ⟨g, k * 6 + 5, none⟩ (.bool true)) p V { t with ts := t.ts.set k { t.ts[k] with dying := true } } ∧ Below lo w (X.setCell ⟨g, k * 6 + 5, none⟩ (.bool true))) := fun X hb => by
        have q := (h.below hb).setT hA hk (j := 5) (by decide) (.bool true) { t.ts[k] with dying := true } rfl
        exact ⟨q.1, (hb.mono h.lo_le).trans (q.2.mono (Nat.le_refl _))⟩
      rw [H1.out]
      simp only [hd2] at HX
      obtain ⟨T, hT⟩ : ∃ T, T = { t with ts := t.ts.set k { t.ts[k] with dying := true } } := ⟨_, rfl⟩
      rw [← hT] at HS ⊢
      clear hX hC hA hl ha he hd hd2 H1 h hs hT HB
      go_enter Tryz.func69, Tryz.ntmps69
      go_wp2_with (go_at_call 91; with_reducible (refine Calls.mono HC.out ?_); rintro e w1 ⟨rfl, hb1⟩; obtain ⟨⟨x0, x1, x5⟩, f1, f5⟩ := HX.out _ hb1)
      go_ret
      exact ⟨V, rfl, HS.out _ hb1⟩
  · have H1 : Hid (one3 t r = (4, t)) := by show one3 t r = _; unfold one3; rw [ha]
    have HC := Lib.hid (h.noT hs hl w (Below.refl _ _))
    rw [H1.out]
    clear hl ha H1 h hs
    go_enter Tryz.func69, Tryz.ntmps69
    go_wp2_with (go_at_call 91; with_reducible (refine Calls.mono HC.out ?_); rintro e w1 ⟨rfl, hb1⟩)
    go_ret
    exact ⟨V, rfl, HB.out _ hb1⟩

end Go.Proofs.YtbnhkplhmanmoaaGreat

namespace Go.Proofs.YtbnhkplhmanmoaaGreat
open Go.RowKit

set_option maxHeartbeats 3200000 in
set_option maxRecDepth 20000 in
/-- 'setQuota'. -/
theorem setQuota_go {lo p : Nat} {w : World} {V : TabW} {t : Tab} (h : DrIn lo w p V t) (hs : t.sound) (r : Rc) (hf : inR r.b 1 64) :
    Calls Tryz.prog 68 #[.pointer (some ⟨p, 0, none⟩), .int .i64 r.a, .int .i64 r.b] w fun e w' => ∃ V', e = .returned (.int .i64 (one2 t r).1) ∧ DrIn lo w' p V' (one2 t r).2 ∧ Below lo w w' := by
  have HB : Hid (∀ X, Below w.heap.size w X → DrIn lo X p V t ∧ Below lo w X) := fun X hb => ⟨h.below hb, hb.mono h.lo_le⟩
  obtain ⟨n1, n2, n3⟩ := sound_few hs
  unfold inR at hf
  rcases ten_cases t.ts r.a with ⟨k, hk, he, hl, ha⟩ | ⟨hl, ha⟩
  · obtain ⟨g, hA, hg, hgl, hX, hC⟩ := h.foundT hs hk he hl
    have HX := Lib.hid hX
    have HC := Lib.hid (hC w (Below.refl _ _))
    have HO := Lib.hid (fun X (hb : Below w.heap.size w X) => owned_any V t r.a X (h.below hb).tab (by omega))
    have HBX := Lib.hid (fun X (hb : Below w.heap.size w X) => (h.below hb).cells)
    have HQ := Lib.hid (fun X (hb : Below w.heap.size w X) => dquotas_any p V.A1 V.c1 t.ts X (h.below hb).cells.1 (h.below hb).tab.ts (by omega) (fun x hx => (hs.ten x hx).1.quota))
    have hsq := sumQ_small (fun x hx => (hs.ten x hx).1.quota) t.ts.length
    rw [List.take_length] at hsq
    have hxq := (hs.ten _ (List.getElem_mem hk)).1.quota
    unfold tabV at HO
    by_cases hd : t.ts[k].dying = true
    · have H1 : Hid (one2 t r = (10, t)) := by
        show one2 t r = _
        unfold one2; rw [ha]
        exact if_pos (.inl hd)
      rw [H1.out]
      simp only [hd] at HX
      clear hX hC hA hl ha he hd H1 h hs HO HQ hsq hxq hf
      go_enter Tryz.func68, Tryz.ntmps68
      go_wp2_with (go_at_call 91; with_reducible (refine Calls.mono HC.out ?_); rintro e w1 ⟨rfl, hb1⟩; obtain ⟨⟨x0, x1, x5⟩, f1, f5⟩ := HX.out _ hb1)
      go_ret
      exact ⟨V, rfl, HB.out _ hb1⟩
    · have hd2 : t.ts[k].dying = false := by simpa using hd
      obtain ⟨m, hm⟩ : ∃ m, m = ownN t.os r.a := ⟨_, rfl⟩
      obtain ⟨s, hsm⟩ : ∃ s, s = sumQ t.ts := ⟨_, rfl⟩
      simp only [← hm] at HO
      simp only [← hsm] at HQ
      rw [← hsm] at hsq
      have hone : one2 t r = if r.b < (m : Int) then (10, t) else if (t.os.length : Int) < s - t.ts[k].quota + r.b then (6, t) else (0, { t with ts := t.ts.set k { t.ts[k] with quota := r.b } }) := by
        unfold one2
        rw [ha]
        show (if t.ts[k].dying = true ∨ r.b < (ownN t.os r.a : Int) then _ else _) = _
        rw [← hm, ← hsm]
        by_cases h1 : r.b < (m : Int)
        · rw [if_pos (.inr h1), if_pos h1]
        · rw [if_neg (fun q => q.elim hd h1), if_neg h1, updK_set Ten.id (fun x => { x with quota := r.b }) hk hs.up he]
      have HS : Hid (∀ X, Below w.heap.size w X → DrIn lo (X.setCell ⟨g, k * 6 + 1, none⟩ (.int .i64 r.b)) p V { t with ts := t.ts.set k { t.ts[k] with quota := r.b } } ∧ Below lo w (X.setCell ⟨g, k * 6 + 1, none⟩ (.int .i64 r.b))) := fun X hb => by
        have q := (h.below hb).setT hA hk (j := 1) (by decide) (.int .i64 r.b) { t.ts[k] with quota := r.b } rfl
        exact ⟨q.1, (hb.mono h.lo_le).trans (q.2.mono (Nat.le_refl _))⟩
      obtain ⟨T, hT⟩ : ∃ T, T = { t with ts := t.ts.set k { t.ts[k] with quota := r.b } } := ⟨_, rfl⟩
      rw [← hT] at HS hone
      have HONE := Lib.hid hone
      obtain ⟨xq, hxqq⟩ : ∃ x, x = t.ts[k].quota := ⟨_, rfl⟩
      obtain ⟨xi, hxi⟩ : ∃ x, x = t.ts[k].id := ⟨_, rfl⟩
      obtain ⟨N1, hN1⟩ : ∃ x, x = t.ts.length := ⟨_, rfl⟩
      obtain ⟨N2, hN2⟩ : ∃ x, x = t.vs.length := ⟨_, rfl⟩
      obtain ⟨N3, hN3⟩ : ∃ x, x = t.os.length := ⟨_, rfl⟩
      rw [← hxqq] at HONE hxq
      simp only [hd2, ← hxqq, ← hxi] at HX
      rw [← hN3] at HONE n3
      rw [← hN1] at n1 hsq
      simp only [← hN1, ← hN2, ← hN3] at HO HBX
      obtain ⟨ra, hra⟩ : ∃ x, x = r.a := ⟨_, rfl⟩
      obtain ⟨rb, hrb⟩ : ∃ x, x = r.b := ⟨_, rfl⟩
      rw [← hra] at HC
      simp only [← hra] at HO
      rw [← hrb] at hf HONE
      simp only [← hrb] at HS
      rw [← hra, ← hrb]
      obtain ⟨b0, b1⟩ := hf
      obtain ⟨s0, s1⟩ := hsq
      obtain ⟨q0, q1⟩ := hxq
      have v1 : IntKind.i64.wrap (s - xq) = s - xq := IntWalk.i64_in _ (by omega)
      have v2 : IntKind.i64.wrap (s - xq + rb) = s - xq + rb := IntWalk.i64_in _ (by omega)
      have HV1 := Lib.hid v1
      have HV2 := Lib.hid v2
      clear hX hC hA hl ha he hd hd2 h hs hT hone hm hsm hxqq hxi hN1 hN2 hN3 hra hrb n1 n2 n3 hg hgl hk v1 v2
      by_cases c1 : rb < (m : Int)
      · have H1 : Hid (one2 t r = (10, t)) := by show _ = _; rw [HONE.out, if_pos c1]
        rw [H1.out]
        have d1 : (m : Int) > rb := c1
        clear H1 HONE c1 b0 b1 s0 s1 q0 q1
        go_enter Tryz.func68, Tryz.ntmps68
        go_wp2_with (first
          | (go_at_call 91; with_reducible (refine Calls.mono HC.out ?_); rintro e w1 ⟨rfl, hb1⟩; obtain ⟨⟨x0, x1, x5⟩, f1, f5⟩ := HX.out _ hb1; obtain ⟨y0, y1, y2⟩ := HBX.out _ hb1)
          | (go_at_call 95; with_reducible (refine Calls.mono (HO.out _ hb1) ?_); rintro e w2 ⟨rfl, hb2⟩))
        go_ret
        exact ⟨V, rfl, HB.out _ (chain hb1 hb2)⟩
      · by_cases c2 : (N3 : Int) < s - xq + rb
        all_goals
          first
            | (have H1 : Hid (one2 t r = (6, t)) := by show _ = _; rw [HONE.out, if_neg c1, if_pos c2])
            | (have H1 : Hid (one2 t r = (0, T)) := by show _ = _; rw [HONE.out, if_neg c1, if_neg c2])
          rw [H1.out]
          have d1 : ¬ (m : Int) > rb := c1
          first
            | (have d2 : s - xq + rb > (N3 : Int) := c2)
            | (have d2 : ¬ s - xq + rb > (N3 : Int) := c2)
          have v1 := HV1.out
          have v2 := HV2.out
          clear H1 HONE c1 c2 b0 b1 s0 s1 q0 q1
          go_enter Tryz.func68, Tryz.ntmps68
          go_wp2_with (first
            | (go_at_call 91; with_reducible (refine Calls.mono HC.out ?_); rintro e w1 ⟨rfl, hb1⟩; obtain ⟨⟨x0, x1, x5⟩, f1, f5⟩ := HX.out _ hb1; obtain ⟨y0, y1, y2⟩ := HBX.out _ hb1)
            | (go_at_call 95; with_reducible (refine Calls.mono (HO.out _ hb1) ?_); rintro e w2 ⟨rfl, hb2⟩; have hx2 := chain hb1 hb2; obtain ⟨⟨x0, x1, x5⟩, f1, f5⟩ := HX.out _ hx2; obtain ⟨y0, y1, y2⟩ := HBX.out _ hx2))
          have hbx := hx2.drew
          go_region_held3 (fun W => W.cell? ⟨g, k * 6 + 1, none⟩ = some (.int .i64 xq) ∧ W.cell? ⟨p, 2, none⟩ = some (.slice V.A3 N3 V.c3))
            (exact ⟨(HX.out _ hbx).1.2.1, (HBX.out _ hbx).2.2⟩)
            (first
              | (go_at_call 92; with_reducible (refine Calls.mono (HQ.out _ hbx) ?_); rintro e w3 ⟨rfl, hb3⟩; have hbx := chain hbx hb3)
              | fail)
          obtain ⟨⟨x0, x1, x5⟩, f1, f5⟩ := HX.out _ hbx
          go_wp2
          go_ret
          first
            | exact ⟨V, rfl, HB.out _ hbx⟩
            | exact ⟨V, rfl, HS.out _ hbx⟩
  · have H1 : Hid (one2 t r = (4, t)) := by show one2 t r = _; unfold one2; rw [ha]
    have HC := Lib.hid (h.noT hs hl w (Below.refl _ _))
    rw [H1.out]
    clear hl ha H1 h hs n1 n2 n3 hf
    go_enter Tryz.func68, Tryz.ntmps68
    go_wp2_with (go_at_call 91; with_reducible (refine Calls.mono HC.out ?_); rintro e w1 ⟨rfl, hb1⟩)
    go_ret
    exact ⟨V, rfl, HB.out _ hb1⟩

set_option maxHeartbeats 1600000 in
/-- 'setBlocks'. -/
theorem setBlocks_go {lo p : Nat} {w : World} {V : TabW} {t : Tab} (h : DrIn lo w p V t) (hs : t.sound) (r : Rc) :
    Calls Tryz.prog 72 #[.pointer (some ⟨p, 0, none⟩), .int .i64 r.a, .int .i64 r.b] w fun e w' => ∃ V', e = .returned (.int .i64 (one6 t r).1) ∧ DrIn lo w' p V' (one6 t r).2 ∧ Below lo w w' := by
  have HB : Hid (∀ X, Below w.heap.size w X → DrIn lo X p V t ∧ Below lo w X) := fun X hb => ⟨h.below hb, hb.mono h.lo_le⟩
  rcases vol_cases t.vs r.a with ⟨k, hk, he, hl, ha⟩ | ⟨hl, ha⟩
  · obtain ⟨g, hA, hg, hgl, hX, hC⟩ := h.foundV hs hk he hl
    have HX := Lib.hid hX
    have HC := Lib.hid (hC w (Below.refl _ _))
    have H1 : Hid (one6 t r = (0, { t with vs := t.vs.set k { t.vs[k] with blocks := r.b } })) := by
      show one6 t r = _
      unfold one6; rw [ha]
      show (_, _) = _
      rw [updK_set Vol.id (fun x => { x with blocks := r.b }) hk hs.vup he]
    have HS : Hid (∀ X, Below w.heap.size w X → DrIn lo (X.setCell ⟨g, k * 4 + 2, none⟩ (.int .i64 r.b)) p V { t with vs := t.vs.set k { t.vs[k] with blocks := r.b } } ∧ Below lo w (X.setCell ⟨g, k * 4 + 2, none⟩ (.int .i64 r.b))) := fun X hb => by
      have q := (h.below hb).setV hA hk (j := 2) (by decide) (.int .i64 r.b) { t.vs[k] with blocks := r.b } rfl
      exact ⟨q.1, (hb.mono h.lo_le).trans (q.2.mono (Nat.le_refl _))⟩
    rw [H1.out]
    obtain ⟨T, hT⟩ : ∃ T, T = { t with vs := t.vs.set k { t.vs[k] with blocks := r.b } } := ⟨_, rfl⟩
    rw [← hT] at HS ⊢
    clear hX hC hA hl ha he H1 h hs hT HB
    go_enter Tryz.func72, Tryz.ntmps72
    go_wp2_with (go_at_call 99; with_reducible (refine Calls.mono HC.out ?_); rintro e w1 ⟨rfl, hb1⟩; obtain ⟨⟨x2, x3⟩, f2, f3⟩ := HX.out _ hb1)
    go_ret
    exact ⟨V, rfl, HS.out _ hb1⟩
  · have H1 : Hid (one6 t r = (4, t)) := by show one6 t r = _; unfold one6; rw [ha]
    have HC := Lib.hid (h.noV hs hl w (Below.refl _ _))
    rw [H1.out]
    clear hl ha H1 h hs
    go_enter Tryz.func72, Tryz.ntmps72
    go_wp2_with (go_at_call 99; with_reducible (refine Calls.mono HC.out ?_); rintro e w1 ⟨rfl, hb1⟩)
    go_ret
    exact ⟨V, rfl, HB.out _ hb1⟩

set_option maxHeartbeats 1600000 in
/-- 'setBase'. -/
theorem setBase_go {lo p : Nat} {w : World} {V : TabW} {t : Tab} (h : DrIn lo w p V t) (hs : t.sound) (r : Rc) :
    Calls Tryz.prog 74 #[.pointer (some ⟨p, 0, none⟩), .int .i64 r.a, .int .i64 r.b] w fun e w' => ∃ V', e = .returned (.int .i64 (one8 t r).1) ∧ DrIn lo w' p V' (one8 t r).2 ∧ Below lo w w' := by
  have HB : Hid (∀ X, Below w.heap.size w X → DrIn lo X p V t ∧ Below lo w X) := fun X hb => ⟨h.below hb, hb.mono h.lo_le⟩
  rcases vol_cases t.vs r.a with ⟨k, hk, he, hl, ha⟩ | ⟨hl, ha⟩
  · obtain ⟨g, hA, hg, hgl, hX, hC⟩ := h.foundV hs hk he hl
    have HX := Lib.hid hX
    have HC := Lib.hid (hC w (Below.refl _ _))
    have hone : one8 t r = if r.b < t.vs[k].base then (7, t) else (0, { t with vs := t.vs.set k { t.vs[k] with base := r.b } }) := by
      unfold one8; rw [ha]
      show (if r.b < t.vs[k].base then _ else _) = _
      rw [updK_set Vol.id (fun x => { x with base := r.b }) hk hs.vup he]
    have HS : Hid (∀ X, Below w.heap.size w X → DrIn lo (X.setCell ⟨g, k * 4 + 3, none⟩ (.int .i64 r.b)) p V { t with vs := t.vs.set k { t.vs[k] with base := r.b } } ∧ Below lo w (X.setCell ⟨g, k * 4 + 3, none⟩ (.int .i64 r.b))) := fun X hb => by
      have q := (h.below hb).setV hA hk (j := 3) (by decide) (.int .i64 r.b) { t.vs[k] with base := r.b } rfl
      exact ⟨q.1, (hb.mono h.lo_le).trans (q.2.mono (Nat.le_refl _))⟩
    obtain ⟨T, hT⟩ : ∃ T, T = { t with vs := t.vs.set k { t.vs[k] with base := r.b } } := ⟨_, rfl⟩
    rw [← hT] at HS hone
    obtain ⟨xb, hxb⟩ : ∃ x, x = t.vs[k].base := ⟨_, rfl⟩
    rw [← hxb] at hone
    simp only [← hxb] at HX
    have HONE := Lib.hid hone
    clear hX hC hA hl ha he h hs hT hone hxb
    by_cases c : r.b < xb
    all_goals
      first
        | (have H1 : Hid (one8 t r = (7, t)) := by show _ = _; rw [HONE.out, if_pos c])
        | (have H1 : Hid (one8 t r = (0, T)) := by show _ = _; rw [HONE.out, if_neg c])
      rw [H1.out]
      clear H1 HONE
      go_enter Tryz.func74, Tryz.ntmps74
      go_wp2_with (go_at_call 99; with_reducible (refine Calls.mono HC.out ?_); rintro e w1 ⟨rfl, hb1⟩; obtain ⟨⟨x2, x3⟩, f2, f3⟩ := HX.out _ hb1)
      go_ret
      first
        | exact ⟨V, rfl, HB.out _ hb1⟩
        | exact ⟨V, rfl, HS.out _ hb1⟩
  · have H1 : Hid (one8 t r = (4, t)) := by show one8 t r = _; unfold one8; rw [ha]
    have HC := Lib.hid (h.noV hs hl w (Below.refl _ _))
    rw [H1.out]
    clear hl ha H1 h hs
    go_enter Tryz.func74, Tryz.ntmps74
    go_wp2_with (go_at_call 99; with_reducible (refine Calls.mono HC.out ?_); rintro e w1 ⟨rfl, hb1⟩)
    go_ret
    exact ⟨V, rfl, HB.out _ hb1⟩

set_option maxHeartbeats 1600000 in
/-- 'giveUp'. -/
theorem giveUp_go {lo p : Nat} {w : World} {V : TabW} {t : Tab} (h : DrIn lo w p V t) (r : Rc) (k : Nat) (hk : k < t.os.length) (ha : r.a = k) (hb : r.b = 0) :
    Calls Tryz.prog 104 #[.pointer (some ⟨p, 0, none⟩), .int .i64 r.a] w fun e w' => ∃ V', e = .returned (.int .i64 (one9 t r).1) ∧ DrIn lo w' p V' (one9 t r).2 ∧ Below lo w w' := by
  obtain ⟨g, hA, hg, hgl, hX⟩ := h.foundO hk
  obtain ⟨x0, f0⟩ := hX w (Below.refl _ _)
  obtain ⟨c0, c1, c2⟩ := h.cells
  rw [hA] at c2
  have hgd : t.os.getD k 0 = t.os[k] := by simp [List.getD, hk]
  have hone : one9 t r = if t.os[k] = 0 then (4, t) else (0, { t with os := t.os.set k 0 }) := by
    unfold one9
    rw [if_neg (by omega), if_pos hb, ha, Int.toNat_natCast, hgd]
  have HS := Lib.hid (h.setO hA hk 0)
  have HB : Hid (DrIn lo w p V t ∧ Below lo w w) := ⟨h, Below.refl _ _⟩
  obtain ⟨T, hT⟩ : ∃ T, T = { t with os := t.os.set k 0 } := ⟨_, rfl⟩
  rw [← hT] at HS hone
  obtain ⟨o, ho⟩ : ∃ o, o = t.os[k] := ⟨_, rfl⟩
  rw [← ho] at hone x0
  obtain ⟨N3, hN3⟩ : ∃ N, N = t.os.length := ⟨_, rfl⟩
  rw [← hN3] at c2 hk
  have HONE := Lib.hid hone
  have k1 : (k : Int) < (N3 : Int) := by omega
  have k0 : (0 : Int) ≤ (k : Int) := by omega
  rw [ha]
  clear hone hT ho hX h hA hgd hN3 hg hgl hk ha hb
  by_cases c : o = 0
  · have H1 : Hid (one9 t r = (4, t)) := by show _ = _; rw [HONE.out, if_pos c]
    rw [H1.out]
    have d : (o == 0) = true := beq_iff_eq.2 c
    clear H1 HONE c
    go_enter Tryz.func104, Tryz.ntmps104
    go_wp2
    go_ret
    exact ⟨V, rfl, HB.out⟩
  · have H1 : Hid (one9 t r = (0, T)) := by show _ = _; rw [HONE.out, if_neg c]
    rw [H1.out]
    have d : (o == 0) = false := beq_eq_false_iff_ne.2 c
    clear H1 HONE c
    go_enter Tryz.func104, Tryz.ntmps104
    go_wp2
    go_ret
    exact ⟨V, rfl, HS.out⟩

end Go.Proofs.YtbnhkplhmanmoaaGreat
