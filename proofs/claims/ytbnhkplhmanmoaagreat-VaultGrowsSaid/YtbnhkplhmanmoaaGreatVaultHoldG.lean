/-
  Plain: a table that a disk keeps; a change that is done, or cut off. No program is spoken of here. Words for objects: only what lies in some blocks may have changed; what may lie in new memory besides; rows of one's own beside.
-/
import Derived.Test.YtbnhkplhmanmoaaGreatVaultNumsG
import Derived.Test.YtbnhkplhmanmoaaGreatWordsG
import Derived.Laws.Rows
namespace Go.Proofs.YtbnhkplhmanmoaaGreat
open Go.RowKit

/-- It counts more than the other area. -/
def Beat (last : List (List Nat)) (a : Nat) : Prop :=
  0 < (wholeA (areaT last a)).length ∧ ((wholeA (areaT last (1 - a))).length = 0 ∨ (a = 1 ∧ genA (areaT last 0) < genA (areaT last 1)) ∨ (a = 0 ∧ genA (areaT last 1) ≤ genA (areaT last 0)))
theorem newest_beat {last : List (List Nat)} {a : Nat} (ha : a < 2) (h : Beat last a) : newestR last = heldR last a := by
  rw [newest_of]
  obtain ⟨h1, h2⟩ := h
  rcases (show a = 0 ∨ a = 1 by omega) with rfl | rfl
  · rw [if_neg, if_pos h1]
    rintro ⟨q1, q2⟩
    have h2' : (wholeA (areaT last 1)).length = 0 ∨ _ := h2
    rcases h2' with h2 | h2 | h2 <;> omega
  · rw [if_pos]
    refine ⟨h1, ?_⟩
    rcases h2 with h2 | h2 | h2
    · exact .inl h2
    · exact .inr h2.2
    · omega
/-- Neither area holds anything. -/
def Empty2 (last : List (List Nat)) : Prop := (wholeA (areaT last 0)).length = 0 ∧ (wholeA (areaT last 1)).length = 0
theorem newest_empty {last : List (List Nat)} (h : Empty2 last) : newestR last = ⟨1, 0, []⟩ := by
  rw [newest_of, if_neg (by have := h.2; omega), if_neg (by have := h.1; omega)]
def GenLe (last : List (List Nat)) (K : Int) : Prop := ∀ a, a < 2 → ∀ j, j < 192 → (decR ((areaT last a).getD j [])).1 = 0 → (decR ((areaT last a).getD j [])).2.g ≤ K
structure Holds (last : List (List Nat)) (n : Nat) (t : Tab) (a : Nat) (g : Int) (K : Int) : Prop where
  a2 : a < 2
  new : (Beat last a ∧ genA (areaT last a) = g) ∨ (Empty2 last ∧ a = 1 ∧ g = 0)
  run : runR (newR n) (newestR last).whole.flatten = (0, t)
  le : GenLe last K
  g0 : 0 ≤ g
  gK : g ≤ K
theorem Holds.newest {last : List (List Nat)} {n a : Nat} {t : Tab} {g K : Int} (h : Holds last n t a g K) : (newestR last).area = (a : Int) ∧ (newestR last).gen = g := by
  rcases h.new with ⟨q, e⟩ | ⟨q, rfl, rfl⟩
  · rw [newest_beat h.a2 q]; exact ⟨rfl, e⟩
  · rw [newest_empty q]; exact ⟨rfl, rfl⟩
theorem Holds.more {last : List (List Nat)} {n a : Nat} {t : Tab} {g K K' : Int} (h : Holds last n t a g K) (hK : K ≤ K') : Holds last n t a g K' :=
  ⟨h.a2, h.new, h.run, fun a ha j hj hd => by have := h.le a ha j hj hd; omega, h.g0, by have := h.gK; omega⟩
/-- A vault, plainly. -/
structure Vt where
  t : Tab
  a : Nat
  g : Int
  u : Nat
structure Alive (s : Dk) (n : Nat) (v : Vt) (K : Int) : Prop where
  ok : s.ok
  on : s.off = false
  pen : s.pend = []
  len : 384 ≤ s.last.length
  n1 : 1 ≤ n
  n2 : n ≤ 64
  hold : Holds s.last n v.t v.a v.g K
  log : v.u = 192 ∨ (Cl (areaT s.last v.a) v.g v.u ∧ Beat s.last v.a ∧ genA (areaT s.last v.a) = v.g)
structure Down (s : Dk) (n : Nat) (t t' : Tab) (K : Int) : Prop where
  ok : s.ok
  len : 384 ≤ s.last.length
  n1 : 1 ≤ n
  n2 : n ≤ 64
  any : ∀ keep, ∃ a g, Holds (crashS s keep).last n t a g K ∨ Holds (crashS s keep).last n t' a g K
theorem new_sound {n : Nat} (h1 : 1 ≤ n) (h2 : n ≤ 64) : (newR n).sound :=
  ⟨by show 1 ≤ (List.replicate n (0 : Int)).length ∧ (List.replicate n (0 : Int)).length ≤ 64; rw [List.length_replicate]; omega, fun x hx => absurd hx (by simp [newR]), List.Pairwise.nil, fun x hx => absurd hx (by simp [newR]), List.Pairwise.nil,
    fun o ho => .inl (List.eq_of_mem_replicate ho), by show (0 : Int) ≤ _; omega⟩
theorem Holds.sound {last : List (List Nat)} {n a : Nat} {t : Tab} {g K : Int} (h : Holds last n t a g K) (h1 : 1 ≤ n) (h2 : n ≤ 64) : t.sound ∧ t.os.length = n := by
  have := sound_run (l := (newestR last).whole.flatten) (new_sound h1 h2) (by rw [h.run])
  rw [h.run] at this
  exact ⟨this.1, this.2.trans (by simp [newR])⟩
theorem Alive.sound {s : Dk} {n : Nat} {v : Vt} {K : Int} (h : Alive s n v K) : v.t.sound ∧ v.t.os.length = n := h.hold.sound h.n1 h.n2

/-! ### Which sectors may be there -/
theorem seen_or (i : Nat) : ∀ (ps : List (Nat × List Nat)) (t : List Nat), seenP i ps t = t ∨ ∃ p ∈ ps, p.1 = i ∧ seenP i ps t = p.2
  | [], t => .inl rfl
  | p :: ps, t => by
    unfold seenP
    rcases seen_or i ps (if p.1 = i then p.2 else t) with h | ⟨q, hq, h1, h2⟩
    · rw [h]
      by_cases e : p.1 = i
      · rw [if_pos e]; exact .inr ⟨p, List.mem_cons_self .., e, rfl⟩
      · rw [if_neg e]; exact .inl rfl
    · exact .inr ⟨q, List.mem_cons_of_mem _ hq, h1, h2⟩
theorem ws_mem {b : Nat} {g : Int} {u : Nat} {l : List Rc} {p : Nat × List Nat} (h : p ∈ wsOf b g u l) : ∃ i, i < l.length ∧ p.1 = b * 192 + u + i ∧ p.2 = txtAt g u l i := by
  unfold wsOf at h
  obtain ⟨i, hi, rfl⟩ := List.mem_map.1 h
  exact ⟨i, List.mem_range.1 hi, rfl, rfl⟩
theorem mix_put {last : List (List Nat)} {ps : List (Nat × List Nat)} {b : Nat} {g : Int} {u : Nat} {l : List Rc} (hb : b < 2) (hlen : 384 ≤ last.length) (hu : u + l.length ≤ 192) (hps : ∀ p ∈ ps, p ∈ wsOf b g u l) :
    Mix (areaT last b) (areaT (putP ps last) b) g u l ∧ ∀ c, c < 2 → c ≠ b → areaT (putP ps last) c = areaT last c := by
  constructor
  · intro j hj
    rw [areaT_at _ _ hj, areaT_at _ _ hj, putP_at _ _ _ (by omega)]
    rcases seen_or (b * 192 + j) ps (last.getD (b * 192 + j) []) with h | ⟨p, hp, h1, h2⟩
    · rw [h]; exact .inl rfl
    · obtain ⟨i, hi, e1, e2⟩ := ws_mem (hps p hp)
      have hji : j = u + i := by omega
      right
      refine ⟨by omega, by omega, ?_⟩
      rw [h2, e2, txt_up, show j - u = i by omega]
  · intro c hc hcb
    refine List.map_congr_left fun i hi => ?_
    have hi := List.mem_range.1 hi
    show up ((putP ps last).getD (c * 192 + i) []) = up (last.getD (c * 192 + i) [])
    rw [putP_at _ _ _ (by omega)]
    rcases seen_or (c * 192 + i) ps (last.getD (c * 192 + i) []) with h | ⟨p, hp, h1, h2⟩
    · rw [h]
    · obtain ⟨k, hk, e1, e2⟩ := ws_mem (hps p hp)
      omega
theorem seen_run (c : Nat) (f : Nat → List Nat) (x : Nat) (t : List Nat) : ∀ n, seenP x ((List.range n).map fun i => (c + i, f i)) t = if c ≤ x ∧ x < c + n then f (x - c) else t
  | 0 => by rw [if_neg (by omega)]; rfl
  | n + 1 => by
    rw [List.range_succ, List.map_append]
    show seenP x (_ ++ [(c + n, f n)]) t = _
    rw [seenP_app, seen_run c f x t n]
    by_cases e : c + n = x
    · rw [if_pos e, if_pos (by omega), show x - c = n by omega]
    · rw [if_neg e]
      by_cases h : c ≤ x ∧ x < c + n
      · rw [if_pos h, if_pos (by omega)]
      · rw [if_neg h, if_neg (by omega)]
theorem all_put {last : List (List Nat)} {b : Nat} {g : Int} {u : Nat} {l : List Rc} (hb : b < 2) (hlen : 384 ≤ last.length) (hu : u + l.length ≤ 192) : MixAll (areaT (putP (wsOf b g u l) last) b) g u l := fun i hi => by
  rw [areaT_at _ _ (by omega), putP_at _ _ _ (by omega)]
  unfold wsOf
  rw [seen_run, if_pos (by omega), show b * 192 + (u + i) - (b * 192 + u) = i by omega, txt_up]

/-! ### What a disk has behind writes that are all made, or cut off -/
structure WrR (s : Dk) (ws : List (Nat × List Nat)) (s' : Dk) (e : Int) : Prop where
  ok : s'.ok
  out : (e = 0 ∧ s'.last = putP (s.pend ++ ws) s.last ∧ s'.pend = [] ∧ s'.off = false) ∨ (e = 8 ∧ s.lim ≠ none ∧ s'.last = s.last ∧ s'.off = true ∧ ∃ k, s'.pend = s.pend ++ ws.take k)
  lim : s.lim = none → s'.lim = none
theorem GenLe.mix {last last' : List (List Nat)} {K K' g : Int} {b u : Nat} {l : List Rc} (h : GenLe last K) (hf : Fits g u l) (hm : Mix (areaT last b) (areaT last' b) g u l) (ho : ∀ c, c < 2 → c ≠ b → areaT last' c = areaT last c) (hK : K ≤ K') (hg : g ≤ K') : GenLe last' K' := fun a ha j hj hd => by
  by_cases e : a = b
  · subst e
    rcases hm j hj with q | ⟨q1, q2, q⟩
    · rw [q] at hd ⊢
      have := h a ha j hj hd; omega
    · rw [q, hf.dec (by omega)]
      exact hg
  · rw [ho a ha e] at hd ⊢
    have := h a ha j hj hd; omega
section
variable {last last' : List (List Nat)} {n a u : Nat} {t t' : Tab} {g g' K K' : Int} {l : List Rc}
theorem whole_cl {L : List (List Int)} (hL : L.length = 192) (hc : Cl L g u) (hg : genA L = g) : wholeA L = outTo L u := by unfold wholeA; rw [hg, hc.repl hL]
/-- Behind changes in the same area. -/
theorem hold_add (h : Holds last n t a g K) (hc : Cl (areaT last a) g u) (hbt : Beat last a) (hge : genA (areaT last a) = g) (hf : Fits g u l) (hne : l ≠ []) (hr : runR t l = (0, t'))
    (hm : Mix (areaT last a) (areaT last' a) g u l) (ho : ∀ c, c < 2 → c ≠ a → areaT last' c = areaT last c) :
    (MixAll (areaT last' a) g u l → Holds last' n t' a g K ∧ Cl (areaT last' a) g (u + l.length) ∧ Beat last' a ∧ genA (areaT last' a) = g) ∧ (¬ MixAll (areaT last' a) g u l → Holds last' n t a g K) := by
  have hw := whole_cl (areaT_len last a) hc hge
  have hb1 := hbt.1
  rw [hw] at hb1
  have hu : 0 < u := Nat.pos_of_ne_zero fun e => by rw [e] at hb1; exact absurd hb1 (Nat.lt_irrefl _)
  have h0 : (areaT last' a).getD 0 [] = (areaT last a).getD 0 [] := (hm 0 (by decide)).elim id fun q => by omega
  have hge' : genA (areaT last' a) = g := by unfold genA; rw [h0]; exact hge
  have hle := h.le.mix hf hm ho (Int.le_refl K) h.gK
  have hnew := newest_beat h.a2 hbt
  have hrun := h.run
  rw [hnew] at hrun
  have hrun : runR (newR n) (outTo (areaT last a) u).flatten = (0, t) := by rw [← hw]; exact hrun
  have beat' : ∀ W, wholeA (areaT last' a) = W → 0 < W.length → Beat last' a := fun W e hp => by
    refine ⟨by rw [e]; exact hp, ?_⟩
    rcases (show a = 0 ∨ a = 1 by have := h.a2; omega) with rfl | rfl
    · rw [ho 1 (by decide) (by decide), hge', ← hge]; exact hbt.2
    · have := hbt.2
      rw [hge, show (1 : Nat) - 1 = 0 from rfl] at this
      rw [show (1 : Nat) - 1 = 0 from rfl, ho 0 (by decide) (by decide), hge']; exact this
  constructor
  · intro ha
    obtain ⟨c1, c2⟩ := mix_all hc hf hne hm ha
    have hw' : wholeA (areaT last' a) = outTo (areaT last a) u ++ [l] := by rw [whole_cl (areaT_len last' a) c1 hge', c2]
    have hB := beat' _ hw' (by simp)
    refine ⟨⟨h.a2, .inl ⟨hB, hge'⟩, ?_, hle, h.g0, h.gK⟩, c1, hB, hge'⟩
    rw [newest_beat h.a2 hB]
    show runR (newR n) (wholeA (areaT last' a)).flatten = _
    rw [hw', List.flatten_append, run_append _ (by rw [hrun]), hrun]
    simpa using hr
  · intro ha
    have hw' : wholeA (areaT last' a) = outTo (areaT last a) u := by unfold wholeA; rw [hge', mix_some (areaT_len last' a) hc hf hm ha]
    have hB := beat' _ hw' hb1
    refine ⟨h.a2, .inl ⟨hB, hge'⟩, ?_, hle, h.g0, h.gK⟩
    rw [newest_beat h.a2 hB]
    show runR (newR n) (wholeA (areaT last' a)).flatten = _
    rw [hw', hrun]
/-- Behind a new table in the other area. -/
theorem hold_move (h : Holds last n t a g K) (hg : g < g') (hK : K ≤ K') (hgK : g' ≤ K') (hun : Unused (areaT last (1 - a)) g') (hf : Fits g' 0 l) (hne : l ≠ []) (hr : runR (newR n) l = (0, t'))
    (hm : Mix (areaT last (1 - a)) (areaT last' (1 - a)) g' 0 l) (ho : ∀ c, c < 2 → c ≠ 1 - a → areaT last' c = areaT last c) :
    (MixAll (areaT last' (1 - a)) g' 0 l → Holds last' n t' (1 - a) g' K' ∧ Cl (areaT last' (1 - a)) g' l.length ∧ Beat last' (1 - a) ∧ genA (areaT last' (1 - a)) = g') ∧ (¬ MixAll (areaT last' (1 - a)) g' 0 l → Holds last' n t a g K') := by
  have ha2 := h.a2
  have hb2 : 1 - a < 2 := by omega
  have hoa : areaT last' a = areaT last a := ho a ha2 (by omega)
  have hle := h.le.mix hf hm ho hK hgK
  obtain ⟨m1, m2⟩ := mix_new (areaT_len _ _) (areaT_len _ _) hun hf hne hm
  constructor
  · intro ha
    obtain ⟨q1, q2, q3⟩ := m1 ha
    have hB : Beat last' (1 - a) := by
      refine ⟨by rw [q2]; exact Nat.one_pos, ?_⟩
      rw [show 1 - (1 - a) = a by omega, hoa]
      rcases h.new with ⟨hbt, hge⟩ | ⟨he, rfl, rfl⟩
      · right
        rcases (show a = 0 ∨ a = 1 by omega) with rfl | rfl
        · left
          have q1' : genA (areaT last' 1) = g' := q1
          rw [hoa, hge, q1']; exact ⟨rfl, hg⟩
        · right
          have q1' : genA (areaT last' 0) = g' := q1
          rw [hoa, hge, q1']; exact ⟨rfl, by omega⟩
      · exact .inl he.2
    refine ⟨⟨hb2, .inl ⟨hB, q1⟩, ?_, hle, by have := h.g0; omega, hgK⟩, q3, hB, q1⟩
    rw [newest_beat hb2 hB]
    show runR (newR n) (wholeA (areaT last' (1 - a))).flatten = _
    rw [q2]
    simpa using hr
  · intro ha
    have hm2 := m2 ha
    have hnew := h.run
    rcases h.new with ⟨hbt, hge⟩ | ⟨he, rfl, rfl⟩
    · have hB : Beat last' a := by
        refine ⟨by rw [hoa]; exact hbt.1, ?_⟩
        by_cases hz : (wholeA (areaT last' (1 - a))).length = 0
        · exact .inl hz
        · obtain ⟨z1, z2⟩ := hm2 (by omega)
          have h2 := hbt.2
          rcases (show a = 0 ∨ a = 1 by omega) with rfl | rfl
          · have z2' : genA (areaT last' 1) = genA (areaT last 1) := z2
            have z1' : 0 < (wholeA (areaT last 1)).length := z1
            rw [hoa, z2']
            have h2' : (wholeA (areaT last 1)).length = 0 ∨ _ := h2
            rcases h2' with h2 | h2
            · omega
            · exact .inr h2
          · have z2' : genA (areaT last' 0) = genA (areaT last 0) := z2
            have z1' : 0 < (wholeA (areaT last 0)).length := z1
            rw [hoa, z2']
            have h2' : (wholeA (areaT last 0)).length = 0 ∨ _ := h2
            rcases h2' with h2 | h2
            · omega
            · exact .inr h2
      refine ⟨ha2, .inl ⟨hB, by rw [hoa]; exact hge⟩, ?_, hle, h.g0, by have := h.gK; omega⟩
      rw [newest_beat ha2 hB]
      rw [newest_beat ha2 hbt] at hnew
      show runR (newR n) (wholeA (areaT last' a)).flatten = _
      rw [hoa]; exact hnew
    · have hE : Empty2 last' := by
        refine ⟨Nat.eq_zero_of_not_pos fun q => ?_, by rw [hoa]; exact he.2⟩
        have := (hm2 q).1
        have h3 : 0 < (wholeA (areaT last 0)).length := this
        have := he.1
        omega
      refine ⟨ha2, .inr ⟨hE, rfl, rfl⟩, ?_, hle, h.g0, by have := h.gK; omega⟩
      rw [newest_empty hE]
      rw [newest_empty he] at hnew
      exact hnew
end

/-! ### A change -/
section
variable {s s' : Dk} {n : Nat} {v : Vt} {K K' g' : Int} {l : List Rc} {t' : Tab}
theorem run_forms : ∀ {l : List Rc} {t : Tab}, (runR t l).1 = 0 → ∀ r ∈ l, formR r
  | [], _, _, r, hr => by cases hr
  | x :: l, t, h, r, hr => by
    unfold runR at h
    by_cases hf : formR x
    · rw [if_pos hf] at h
      by_cases ho : (oneR t x).1 = 0
      · rw [if_pos ho] at h
        rcases List.mem_cons.1 hr with rfl | hr
        · exact hf
        · exact run_forms h r hr
      · rw [if_neg ho] at h; exact absurd h ho
    · rw [if_neg hf] at h; exact absurd h (by decide)
theorem run_fits {t : Tab} (h : runR t l = (0, t')) : ∀ r ∈ l, fitR r := fun r hr => fit_form (run_forms (by rw [h]) r hr)
theorem crash_kept {l' : List (Nat × List Nat)} {k : Nat} (hp : s'.pend = l'.take k) (keep : List Bool) : (crashS s' keep).last = putP (keptP s'.pend keep s'.pend.length) s'.last ∧ ∀ p ∈ keptP s'.pend keep s'.pend.length, p ∈ l' :=
  ⟨rfl, fun p hp' => List.mem_of_mem_take (by rw [← hp]; exact keptP_mem (Nat.le_refl _) p hp')⟩
theorem Alive.fits (h : Alive s n v K) (hK : K ≤ 2147483647) (hr : runR v.t l = (0, t')) (hroom : v.u + l.length ≤ 192) : Fits v.g v.u l := ⟨h.hold.g0, by have := h.hold.gK; omega, hroom, run_fits hr⟩
theorem Alive.cl (h : Alive s n v K) (hne : l ≠ []) (hroom : v.u + l.length ≤ 192) : Cl (areaT s.last v.a) v.g v.u ∧ Beat s.last v.a ∧ genA (areaT s.last v.a) = v.g := by
  have hpos : 0 < l.length := List.length_pos_iff.2 hne
  rcases h.log with q | q
  · omega
  · exact q
theorem add_done (h : Alive s n v K) (hK : K ≤ 2147483647) (hr : runR v.t l = (0, t')) (hne : l ≠ []) (hroom : v.u + l.length ≤ 192) (hw : WrR s (wsOf v.a v.g v.u l) s' 0) : Alive s' n ⟨t', v.a, v.g, v.u + l.length⟩ K := by
  rcases hw.out with ⟨_, h1, h2, h3⟩ | ⟨q, _⟩
  · rw [h.pen, List.nil_append] at h1
    obtain ⟨c1, c2, c3⟩ := h.cl hne hroom
    obtain ⟨m1, m2⟩ := mix_put (ps := wsOf v.a v.g v.u l) h.hold.a2 h.len hroom (fun _ q => q)
    rw [← h1] at m1 m2
    have ha := all_put (g := v.g) (last := s.last) h.hold.a2 h.len hroom
    rw [← h1] at ha
    obtain ⟨p1, p2⟩ := (hold_add h.hold c1 c2 c3 (h.fits hK hr hroom) hne hr m1 m2).1 ha
    exact ⟨hw.ok, h3, h2, by rw [h1, putP_len]; exact h.len, h.n1, h.n2, p1, .inr p2⟩
  · exact absurd q (by decide)
theorem add_cut (h : Alive s n v K) (hK : K ≤ 2147483647) (hr : runR v.t l = (0, t')) (hne : l ≠ []) (hroom : v.u + l.length ≤ 192) (hw : WrR s (wsOf v.a v.g v.u l) s' 8) : Down s' n v.t t' K := by
  rcases hw.out with ⟨q, _⟩ | ⟨_, _, h1, _, k, h2⟩
  · exact absurd q (by decide)
  · rw [h.pen, List.nil_append] at h2
    obtain ⟨c1, c2, c3⟩ := h.cl hne hroom
    refine ⟨hw.ok, by rw [h1]; exact h.len, h.n1, h.n2, fun keep => ?_⟩
    obtain ⟨e, hk⟩ := crash_kept h2 keep
    rw [h1] at e
    obtain ⟨m1, m2⟩ := mix_put h.hold.a2 h.len hroom hk
    rw [← e] at m1 m2
    obtain ⟨p1, p2⟩ := hold_add h.hold c1 c2 c3 (h.fits hK hr hroom) hne hr m1 m2
    by_cases ha : MixAll (areaT (crashS s' keep).last v.a) v.g v.u l
    · exact ⟨_, _, .inr (p1 ha).1⟩
    · exact ⟨_, _, .inl (p2 ha)⟩
/-- What a new area is written with. -/
structure Moves (s : Dk) (n : Nat) (v : Vt) (K K' g' : Int) (l : List Rc) (t' : Tab) : Prop where
  g1 : v.g < g'
  g2 : g' ≤ K'
  k1 : K ≤ K'
  k2 : K' ≤ 2147483647
  un : Unused (areaT s.last (1 - v.a)) g'
  ne : l ≠ []
  len : l.length ≤ 192
  fit : ∀ r ∈ l, fitR r
  run : runR (newR n) l = (0, t')
theorem Moves.fits (h : Alive s n v K) (m : Moves s n v K K' g' l t') : Fits g' 0 l := ⟨by have := h.hold.g0; have := m.g1; omega, by have := m.g2; have := m.k2; omega, by have := m.len; omega, m.fit⟩
theorem move_done (h : Alive s n v K) (m : Moves s n v K K' g' l t') (hw : WrR s (wsOf (1 - v.a) g' 0 l) s' 0) : Alive s' n ⟨t', 1 - v.a, g', l.length⟩ K' := by
  have ha2 := h.hold.a2
  rcases hw.out with ⟨_, h1, h2, h3⟩ | ⟨q, _⟩
  · rw [h.pen, List.nil_append] at h1
    obtain ⟨m1, m2⟩ := mix_put (ps := wsOf (1 - v.a) g' 0 l) (by omega) h.len (by have := m.len; omega) (fun _ q => q)
    rw [← h1] at m1 m2
    have ha := all_put (g := g') (last := s.last) (b := 1 - v.a) (l := l) (u := 0) (by omega) h.len (by have := m.len; omega)
    rw [← h1] at ha
    obtain ⟨p1, p2⟩ := (hold_move h.hold m.g1 m.k1 m.g2 m.un (m.fits h) m.ne m.run m1 m2).1 ha
    exact ⟨hw.ok, h3, h2, by rw [h1, putP_len]; exact h.len, h.n1, h.n2, p1, .inr p2⟩
  · exact absurd q (by decide)
theorem move_cut (h : Alive s n v K) (m : Moves s n v K K' g' l t') (hw : WrR s (wsOf (1 - v.a) g' 0 l) s' 8) : Down s' n v.t t' K' := by
  have ha2 := h.hold.a2
  rcases hw.out with ⟨q, _⟩ | ⟨_, _, h1, _, k, h2⟩
  · exact absurd q (by decide)
  · rw [h.pen, List.nil_append] at h2
    refine ⟨hw.ok, by rw [h1]; exact h.len, h.n1, h.n2, fun keep => ?_⟩
    obtain ⟨e, hk⟩ := crash_kept h2 keep
    rw [h1] at e
    obtain ⟨m1, m2⟩ := mix_put (b := 1 - v.a) (by omega) h.len (by have := m.len; omega) hk
    rw [← e] at m1 m2
    obtain ⟨p1, p2⟩ := hold_move h.hold m.g1 m.k1 m.g2 m.un (m.fits h) m.ne m.run m1 m2
    by_cases ha : MixAll (areaT (crashS s' keep).last (1 - v.a)) g' 0 l
    · exact ⟨_, _, .inr (p1 ha).1⟩
    · exact ⟨_, _, .inl (p2 ha)⟩
/-- What is opened. -/
theorem open_alive {s : Dk} {t : Tab} {a : Nat} {g : Int} (ok : s.ok) (on : s.off = false) (pen : s.pend = []) (len : 384 ≤ s.last.length) (n1 : 1 ≤ n) (n2 : n ≤ 64) (h : Holds s.last n t a g K) : Alive s n ⟨t, a, g, 192⟩ K := ⟨ok, on, pen, len, n1, n2, h, .inl rfl⟩
end
theorem dec_mark {b : List Int} (h : (decR b).1 = 0) : b.getD 0 0 = 83 := by
  rw [← (dec_ok h).2.2]; rfl
theorem new_holds {N n : Nat} (hN : 384 ≤ N) : Holds (newD N).last n (newR n) 1 0 0 := by
  have hz : ∀ a, a < 2 → ∀ j, j < 192 → (decR ((areaT (newD N).last a).getD j [])).1 ≠ 0 := fun a ha j hj h => by
    have := dec_mark h
    rw [areaT_at _ _ hj, show (newD N).last.getD (a * 192 + j) [] = zeroSec by simp [newD, List.getD_eq_getElem?_getD, show a * 192 + j < N by omega]] at this
    exact absurd this (by decide)
  have hw : ∀ a, a < 2 → (wholeA (areaT (newD N).last a)).length = 0 := fun a ha => by
    unfold wholeA
    rw [replR_eq (k := 0) (Nat.zero_le _) (fun j hj => absurd hj (Nat.not_lt_zero j)) (fun _ => by unfold goodAt; rw [decide_eq_false (hz a ha 0 (by decide))]; simp)]
    rfl
  have he : Empty2 (newD N).last := ⟨hw 0 (by decide), hw 1 (by decide)⟩
  exact ⟨by decide, .inr ⟨he, rfl, rfl⟩, by rw [newest_empty he]; rfl, fun a ha j hj h => absurd h (hz a ha j hj), Int.le_refl _, Int.le_refl _⟩
/-- A disk that is whole is as it was behind a crash. -/
theorem crash_alive {s : Dk} {n : Nat} {v : Vt} {K : Int} (h : Alive s n v K) (keep : List Bool) : (crashS s keep).last = s.last := by
  unfold crashS
  rw [h.pen]; rfl
/-- The image of a table, and what is written of it. -/
def imgW (t : Tab) : List Rc := if (imageR t).length = 0 then [recN] else imageR t
theorem runN_N {n : Nat} : runR (newR n) [recN] = (0, newR n) := by
  unfold runR
  rw [if_pos (by decide), if_pos (by rfl)]
  rfl
theorem imgW_run {t : Tab} {n : Nat} (hs : t.sound) (hn : t.os.length = n) : runR (newR n) (imgW t) = (0, t) := by
  have hb := image_back hs
  rw [hn] at hb
  unfold imgW
  split
  · rename_i h
    rw [List.eq_nil_of_length_eq_zero h] at hb
    rw [runN_N]; exact hb
  · exact hb
theorem imgW_ne (t : Tab) : imgW t ≠ [] := by
  unfold imgW
  split
  · exact List.cons_ne_nil _ _
  · rename_i h; exact fun e => h (by rw [e]; rfl)
end Go.Proofs.YtbnhkplhmanmoaaGreat

namespace Go.Proofs.YtbnhkplhmanmoaaGreat
open Go.RowKit

/-- Only what lies in F may have changed. -/
structure Away (F : Nat → Prop) (a w : World) : Prop where
  os : w.os = a.os
  tape : w.tape = a.tape
  output : w.output = a.output
  size : a.heap.size ≤ w.heap.size
  block : ∀ k, k < a.heap.size → ¬ F k → w.heap[k]? = a.heap[k]?
theorem Away.refl (F : Nat → Prop) (w : World) : Away F w w := ⟨rfl, rfl, rfl, Nat.le_refl _, fun _ _ _ => rfl⟩
theorem Away.of_below {F : Nat → Prop} {w w' : World} (h : Below w.heap.size w w') : Away F w w' := ⟨h.os, h.tape, h.output, h.size, fun k hk _ => h.block k hk⟩
/-- Where all that may have changed is one's own. -/
theorem Away.below {F : Nat → Prop} {B : Nat} {w0 a w : World} (h : Away F a w) (hF : ∀ k, F k → B ≤ k) (hb : Below B w0 a) (hB : B ≤ a.heap.size) : Below B w0 w :=
  ⟨h.os.trans hb.os, h.tape.trans hb.tape, h.output.trans hb.output, Nat.le_trans hb.size h.size, fun k hk => (h.block k (by omega) (fun q => by have := hF k q; omega)).trans (hb.block k hk)⟩
theorem Away.cell {F : Nat → Prop} {a w : World} (h : Away F a w) {b o : Nat} (hl : b < a.heap.size) (hn : ¬ F b) : w.cell? ⟨b, o, none⟩ = a.cell? ⟨b, o, none⟩ := World.cell?_of_block (h.block b hl hn)
theorem Ints.away {F : Nat → Prop} {a w : World} {B : Nat} {k : IntKind} {A : Option Addr} {l : List Int} (hI : Ints a B k A l) (h : Away F a w) (hB : B ≤ a.heap.size) (hn : 0 < l.length → ∀ b o, A = some ⟨b, o, none⟩ → ¬ F b) : Ints w B k A l := fun i hi => by
  obtain ⟨b, o, e, hb, hc⟩ := hI i hi
  exact ⟨b, o, e, hb, (h.cell (o := o + i) (by omega) (hn (by omega) b o e)).trans hc⟩

def I64c (n : Int) : Prop := -9223372036854775808 ≤ n ∧ n ≤ 9223372036854775807
/-- What may lie in new memory besides. -/
def More (F F' : Nat → Prop) (n : Nat) : Prop := ∀ b, F' b → F b ∨ n ≤ b

theorem Away.set {F : Nat → Prop} {a w : World} (h : Away F a w) {g : Nat} (hg : F g) (o : Nat) (v : Value) : Away F a (w.setCell ⟨g, o, none⟩ v) :=
  ⟨h.os, h.tape, h.output, Nat.le_trans h.size (by simp [World.setCell]), fun k hk hn => by
    have hne : g ≠ k := fun e => hn (e ▸ hg)
    have h2 : (w.setCell ⟨g, o, none⟩ v).heap[k]? = w.heap[k]? := by
      show (w.heap.modify g _)[k]? = _
      rw [Array.getElem?_modify, if_neg hne]
    rw [h2]; exact h.block k hk hn⟩
theorem setc_other (w : World) (g h i : Nat) (v : Value) (hne : g ≠ h) : (w.setCell ⟨g, i, none⟩ v).heap[h]? = w.heap[h]? := by
  show (w.heap.modify g _)[h]? = _
  rw [Array.getElem?_modify, if_neg hne]
theorem setc_same (w : World) (g i : Nat) (v : Value) (C : Array Value) (t : TypeId) (h : w.heap[g]? = some (.cells C t (0, 0))) : (w.setCell ⟨g, i, none⟩ v).heap[g]? = some (.cells (C.setIfInBounds i v) t (0, 0)) := by
  have hlt := (Array.getElem?_eq_some_iff.1 h).1
  obtain ⟨_, hk⟩ := Array.getElem?_eq_some_iff.1 h
  show (w.heap.modify g _)[g]? = _
  rw [Array.getElem?_eq_getElem (by rw [Array.size_modify]; exact hlt), Array.getElem_modify_self, hk]
  rfl
theorem own_heap {w w' : World} {base e n g c : Nat} {xs : List Value} (h : w.ownsRow base e 1 (.slice (some ⟨g, 0, none⟩) n c) n xs) (he : w'.heap[g]? = w.heap[g]?) : w'.ownsRow base e 1 (.slice (some ⟨g, 0, none⟩) n c) n xs := by
  refine ⟨h.1, ?_⟩
  rcases h.2 with hn | ⟨g2, cap, cur, hv, hbg, hg, rest⟩
  · exact .inl hn
  · have e2 : g = g2 := by
      injection hv with q1 _ _
      injection q1 with q1
      injection q1 with q1 _
    subst e2
    exact .inr ⟨g, cap, cur, hv, hbg, he.trans hg, rest⟩
theorem away_drew {F : Nat → Prop} {a w : World} (h : Away F a w) (n : Nat) : Away F a (w.drewN n) := ⟨h.os, h.tape, h.output, h.size, h.block⟩
theorem away_drew1 {F : Nat → Prop} {a w : World} (h : Away F a w) : Away F a w.drew := ⟨h.os, h.tape, h.output, h.size, h.block⟩
def Free (F : Nat → Prop) (v : Value) : Prop := ∀ q, v.ownBlock = some q → ¬ F q
theorem own_away {F : Nat → Prop} {a b : World} {base e size n : Nat} {v : Value} {xs : List Value} (h : a.ownsRow base e size v n xs) (ha : Away F a b) (hf : Free F v) : b.ownsRow base e size v n xs := by
  refine ⟨h.1, ?_⟩
  rcases h.2 with hn | ⟨g, cap, cur, hv, hbg, hg, rest⟩
  · exact .inl hn
  · refine .inr ⟨g, cap, cur, hv, hbg, (ha.block g (Array.getElem?_eq_some_iff.1 hg).1 (hf g ?_)).trans hg, rest⟩
    rw [hv]; rfl
theorem free_more {F F' : Nat → Prop} {a : World} {base e size n : Nat} {v : Value} {xs : List Value} (h : a.ownsRow base e size v n xs) (hf : Free F v) (hm : More F F' a.heap.size) : Free F' v := fun q hq hF => by
  have h1 := (h.lt q hq).2
  rcases hm q hF with h2 | h2
  · exact hf q hq h2
  · omega

end Go.Proofs.YtbnhkplhmanmoaaGreat
