/-
  The landed table: take, setOwner. Plain: things by a number, sorted by putting in (equal ones in their order); a store of a whole thing into a row of one's own.
-/
import Derived.Test.YtbnhkplhmanmoaaGreatTableC11G
import Derived.Test.YtbnhkplhmanmoaaGreatTableDrG
import Derived.Deep.RegionLaw
namespace Go.Proofs.YtbnhkplhmanmoaaGreat
open Go.RowKit

set_option maxHeartbeats 3200000 in
set_option maxRecDepth 20000 in
/-- 'take'. -/
theorem take_go {lo p : Nat} {w : World} {V : TabW} {t : Tab} (h : DrIn lo w p V t) (hs : t.sound) (r : Rc) (k : Nat) (hk : k < t.os.length) (ha : r.a = k) (hb : r.b ≠ 0) :
    Calls Tryz.prog 105 #[.pointer (some ⟨p, 0, none⟩), .int .i64 r.a, .int .i64 r.b] w fun e w' => ∃ V', e = .returned (.int .i64 (one9 t r).1) ∧ DrIn lo w' p V' (one9 t r).2 ∧ Below lo w w' := by
  have HB : Hid (∀ X, Below w.heap.size w X → DrIn lo X p V t ∧ Below lo w X) := fun X hb => ⟨h.below hb, hb.mono h.lo_le⟩
  obtain ⟨n1, n2, n3⟩ := sound_few hs
  obtain ⟨g, hA, hg, hgl, hX⟩ := h.foundO hk
  have hgd : t.os.getD k 0 = t.os[k] := by simp [List.getD, hk]
  have HXO := Lib.hid hX
  have HBX : ∀ X, Below w.heap.size w X → X.cell? ⟨p, 0, none⟩ = some (.slice V.A1 t.ts.length V.c1) ∧ X.cell? ⟨p, 1, none⟩ = some (.slice V.A2 t.vs.length V.c2) ∧ X.cell? ⟨p, 2, none⟩ = some (.slice (some ⟨g, 0, none⟩) t.os.length V.c3) := fun X hb => by
    have q := (h.below hb).cells
    rwa [hA] at q
  have HO : ∀ X, Below w.heap.size w X → Calls Tryz.prog 95 #[.agg #[.slice V.A1 t.ts.length V.c1, .slice V.A2 t.vs.length V.c2, .slice (some ⟨g, 0, none⟩) t.os.length V.c3], .int .i64 r.b] X fun e w' => e = .returned (.int .i64 (ownN t.os r.b : Nat)) ∧ Below X.heap.size X w' := fun X hb => by
    have q := owned_any V t r.b X (h.below hb).tab (by omega)
    unfold tabV at q
    rwa [hA] at q
  have HS : ∀ X, Below w.heap.size w X → DrIn lo (X.setCell ⟨g, k, none⟩ (.int .i64 r.b)) p V { t with os := t.os.set k r.b } ∧ Below lo w (X.setCell ⟨g, k, none⟩ (.int .i64 r.b)) := fun X hb => by
    have q := (h.below hb).setO hA hk r.b
    exact ⟨q.1, (hb.mono h.lo_le).trans (q.2.mono (Nat.le_refl _))⟩
  have hhead : ¬ (t.os.length : Int) ≤ r.a := by omega
  rcases ten_cases t.ts r.b with ⟨j, hj, he, hl, hat⟩ | ⟨hl, hat⟩
  · obtain ⟨g1, hA1, _, _, hX1, hC⟩ := h.foundT hs hj he hl
    have hone : one9 t r = if t.ts[j].dying = true then (10, t) else if t.os[k] ≠ 0 then (5, t) else if t.ts[j].quota ≤ (ownN t.os r.b : Nat) then (6, t) else (0, { t with os := t.os.set k r.b }) := by
      unfold one9
      rw [if_neg hhead, if_neg hb, hat]
      show (if t.ts[j].dying = true then _ else if t.os.getD r.a.toNat 0 ≠ 0 then _ else if t.ts[j].quota ≤ (ownN t.os r.b : Nat) then _ else _) = _
      rw [ha, Int.toNat_natCast, hgd]
    obtain ⟨T, hT⟩ : ∃ T, T = { t with os := t.os.set k r.b } := ⟨_, rfl⟩
    rw [← hT] at HS hone
    obtain ⟨m, hm⟩ : ∃ m, m = ownN t.os r.b := ⟨_, rfl⟩
    rw [← hm] at HO hone
    obtain ⟨o, ho⟩ : ∃ o, o = t.os[k] := ⟨_, rfl⟩
    obtain ⟨xq, hxq⟩ : ∃ x, x = t.ts[j].quota := ⟨_, rfl⟩
    obtain ⟨xi, hxi⟩ : ∃ x, x = t.ts[j].id := ⟨_, rfl⟩
    obtain ⟨xd, hxd⟩ : ∃ x, x = t.ts[j].dying := ⟨_, rfl⟩
    rw [← ho, ← hxq, ← hxd] at hone
    simp only [← ho] at HXO
    simp only [← hxq, ← hxi, ← hxd] at hX1
    obtain ⟨N1, hN1⟩ : ∃ x, x = t.ts.length := ⟨_, rfl⟩
    obtain ⟨N2, hN2⟩ : ∃ x, x = t.vs.length := ⟨_, rfl⟩
    obtain ⟨N3, hN3⟩ : ∃ x, x = t.os.length := ⟨_, rfl⟩
    simp only [← hN1, ← hN2, ← hN3] at HO HBX
    rw [← hN3] at hk n3
    have k1 : (k : Int) < (N3 : Int) := by omega
    have k0 : (0 : Int) ≤ (k : Int) := by omega
    have HX1 := Lib.hid hX1
    have HC := Lib.hid (hC w (Below.refl _ _))
    have HOH := Lib.hid HO
    have HBH := Lib.hid HBX
    have HSH := Lib.hid HS
    have HONE := Lib.hid hone
    obtain ⟨rb, hrb⟩ : ∃ x, x = r.b := ⟨_, rfl⟩
    rw [← hrb] at HOH HSH HC
    rw [ha, ← hrb]
    clear hX hX1 hC hone HO HBX HS hT hm ho hxq hxi hxd hN1 hN2 hN3 hrb he hl hat hhead hgd hA hA1 h hs n1 n2 n3 hg hgl hk ha hb
    cases xd
    · by_cases c1 : o = 0
      · have d1 : (o != 0) = false := by rw [c1]; rfl
        have d1b : (o == 0) = true := by rw [c1]; rfl
        by_cases c2 : xq ≤ (m : Int)
        all_goals
          first
            | (have H1 : Hid (one9 t r = (6, t)) := by show _ = _; rw [HONE.out, if_neg (by decide), if_neg (fun q => q c1), if_pos c2])
            | (have H1 : Hid (one9 t r = (0, T)) := by show _ = _; rw [HONE.out, if_neg (by decide), if_neg (fun q => q c1), if_neg c2])
          rw [H1.out]
          clear H1 HONE c1
          go_enter Tryz.func105, Tryz.ntmps105
          go_wp2_with (go_at_call 91; with_reducible (refine Calls.mono HC.out ?_); rintro e w1 ⟨rfl, hb1⟩; obtain ⟨⟨x0, x1, x5⟩, f1, f5⟩ := HX1.out _ hb1; obtain ⟨y0, y1, y2⟩ := HBH.out _ hb1; obtain ⟨z0, z1⟩ := HXO.out _ hb1)
          have hbx := hb1.drew
          go_region_held3 (fun W => W.cell? ⟨g1, j * 6 + 1, none⟩ = some (.int .i64 xq) ∧ W.cell? ⟨p, 0, none⟩ = some (.slice V.A1 N1 V.c1) ∧ W.cell? ⟨p, 1, none⟩ = some (.slice V.A2 N2 V.c2) ∧ W.cell? ⟨p, 2, none⟩ = some (.slice (some ⟨g, 0, none⟩) N3 V.c3))
            (exact ⟨(HX1.out _ hbx).1.2.1, HBH.out _ hbx⟩)
            (first
              | (go_at_call 95; with_reducible (refine Calls.mono (HOH.out _ hbx) ?_); rintro e w3 ⟨rfl, hb3⟩; have hbx := chain hbx hb3)
              | fail)
          obtain ⟨y0, y1, y2⟩ := HBH.out _ hbx
          obtain ⟨z0, z1⟩ := HXO.out _ hbx
          go_wp2
          go_ret
          first
            | exact ⟨V, rfl, HB.out _ hbx⟩
            | exact ⟨V, rfl, HSH.out _ hbx⟩
      · have d1 : (o != 0) = true := bne_iff_ne.2 c1
        have d1b : (o == 0) = false := beq_eq_false_iff_ne.2 c1
        have H1 : Hid (one9 t r = (5, t)) := by show _ = _; rw [HONE.out, if_neg (by decide), if_pos c1]
        rw [H1.out]
        clear H1 HONE c1
        go_enter Tryz.func105, Tryz.ntmps105
        go_wp2_with (go_at_call 91; with_reducible (refine Calls.mono HC.out ?_); rintro e w1 ⟨rfl, hb1⟩; obtain ⟨⟨x0, x1, x5⟩, f1, f5⟩ := HX1.out _ hb1; obtain ⟨y0, y1, y2⟩ := HBH.out _ hb1; obtain ⟨z0, z1⟩ := HXO.out _ hb1)
        go_ret
        exact ⟨V, rfl, HB.out _ hb1⟩
    · have H1 : Hid (one9 t r = (10, t)) := by show _ = _; rw [HONE.out, if_pos rfl]
      rw [H1.out]
      clear H1 HONE
      go_enter Tryz.func105, Tryz.ntmps105
      go_wp2_with (go_at_call 91; with_reducible (refine Calls.mono HC.out ?_); rintro e w1 ⟨rfl, hb1⟩; obtain ⟨⟨x0, x1, x5⟩, f1, f5⟩ := HX1.out _ hb1)
      go_ret
      exact ⟨V, rfl, HB.out _ hb1⟩
  · have H1 : Hid (one9 t r = (4, t)) := by
      show one9 t r = _
      unfold one9
      rw [if_neg hhead, if_neg hb, hat]
    have HC := Lib.hid (h.noT hs hl w (Below.refl _ _))
    rw [H1.out]
    clear hl hat H1 h hs n1 n2 n3 hA hg hgl hX hgd HXO HBX HO HS hhead hk ha hb
    go_enter Tryz.func105, Tryz.ntmps105
    go_wp2_with (go_at_call 91; with_reducible (refine Calls.mono HC.out ?_); rintro e w1 ⟨rfl, hb1⟩)
    go_ret
    exact ⟨V, rfl, HB.out _ hb1⟩

set_option maxHeartbeats 1600000 in
/-- 'setOwner'. -/
theorem setOwner_go {lo p : Nat} {w : World} {V : TabW} {t : Tab} (h : DrIn lo w p V t) (hs : t.sound) (r : Rc) (hf : inR r.a 0 63) :
    Calls Tryz.prog 75 #[.pointer (some ⟨p, 0, none⟩), .int .i64 r.a, .int .i64 r.b] w fun e w' => ∃ V', e = .returned (.int .i64 (one9 t r).1) ∧ DrIn lo w' p V' (one9 t r).2 ∧ Below lo w w' := by
  have hn := (sound_few hs).2.2
  unfold inR at hf
  obtain ⟨k, hk⟩ : ∃ k : Nat, r.a = k := ⟨r.a.toNat, by omega⟩
  obtain ⟨c0, c1, c2⟩ := h.cells
  by_cases hge : (t.os.length : Int) ≤ r.a
  · have H1 : Hid (one9 t r = (7, t)) := by show one9 t r = _; unfold one9; rw [if_pos hge]
    rw [H1.out]
    have HB : Hid (DrIn lo w p V t ∧ Below lo w w) := ⟨h, Below.refl _ _⟩
    obtain ⟨N3, hN3⟩ : ∃ x, x = t.os.length := ⟨_, rfl⟩
    rw [← hN3] at c2 hge
    obtain ⟨ra, hra⟩ : ∃ x, x = r.a := ⟨_, rfl⟩
    rw [← hra] at hge
    rw [← hra]
    have d : ra ≥ (N3 : Int) := hge
    clear H1 h hs hn hf hk hN3 hra hge
    go_enter Tryz.func75, Tryz.ntmps75
    go_wp2
    go_ret
    exact ⟨V, rfl, HB.out⟩
  · have hkl : k < t.os.length := by omega
    by_cases hb : r.b = 0
    · have HC := Lib.hid (giveUp_go h r k hkl hk hb)
      obtain ⟨N3, hN3⟩ : ∃ x, x = t.os.length := ⟨_, rfl⟩
      rw [← hN3] at c2 hge
      obtain ⟨ra, hra⟩ : ∃ x, x = r.a := ⟨_, rfl⟩
      obtain ⟨rb, hrb⟩ : ∃ x, x = r.b := ⟨_, rfl⟩
      rw [← hra] at hge HC
      rw [← hra, ← hrb]
      rw [← hrb] at hb
      have d : ¬ ra ≥ (N3 : Int) := hge
      have d2 : (rb == 0) = true := beq_iff_eq.2 hb
      clear h hs hn hf hk hN3 hra hge hrb hb hkl
      go_enter Tryz.func75, Tryz.ntmps75
      go_wp2_with (go_at_call 104; with_reducible (refine Calls.mono HC.out ?_); rintro e w1 ⟨V1, rfl, hd1, hb1⟩)
      go_ret
      exact ⟨V1, rfl, hd1, hb1⟩
    · have HC := Lib.hid (take_go h hs r k hkl hk hb)
      obtain ⟨N3, hN3⟩ : ∃ x, x = t.os.length := ⟨_, rfl⟩
      rw [← hN3] at c2 hge
      obtain ⟨ra, hra⟩ : ∃ x, x = r.a := ⟨_, rfl⟩
      obtain ⟨rb, hrb⟩ : ∃ x, x = r.b := ⟨_, rfl⟩
      rw [← hra, ← hrb] at HC
      rw [← hra] at hge
      rw [← hra, ← hrb]
      rw [← hrb] at hb
      have d : ¬ ra ≥ (N3 : Int) := hge
      have d2 : (rb == 0) = false := beq_eq_false_iff_ne.2 hb
      clear h hs hn hf hk hN3 hra hge hrb hb hkl
      go_enter Tryz.func75, Tryz.ntmps75
      go_wp2_with (go_at_call 105; with_reducible (refine Calls.mono HC.out ?_); rintro e w1 ⟨V1, rfl, hd1, hb1⟩)
      go_ret
      exact ⟨V1, rfl, hd1, hb1⟩

end Go.Proofs.YtbnhkplhmanmoaaGreat

namespace Go.Proofs.YtbnhkplhmanmoaaGreat
open Go.RowKit

section
variable {α : Type} (k : α → Int)
def AscK (l : List α) : Prop := l.Pairwise fun a b => k a ≤ k b
def insF (l : List α) : List α := l.foldl (fun acc x => insK k x acc) []
theorem insF_snoc (l : List α) (x : α) : insF k (l ++ [x]) = insK k x (insF k l) := by unfold insF; rw [List.foldl_append]; rfl
theorem insK_length (x : α) : ∀ l : List α, (insK k x l).length = l.length + 1
  | [] => rfl
  | z :: l => by
    unfold insK
    split
    · rfl
    · rw [List.length_cons, insK_length x l, List.length_cons]
theorem insF_len (l : List α) : (insF k l).length = l.length := by
  have : ∀ (r : List α), (insF k r.reverse).length = r.length := fun r => by
    induction r with
    | nil => rfl
    | cons x r ih => rw [List.reverse_cons, insF_snoc, insK_length, ih, List.length_cons]
  have h := this l.reverse
  rwa [List.reverse_reverse, List.length_reverse] at h
theorem insK_asc {x : α} : ∀ {l : List α}, AscK k l → AscK k (insK k x l)
  | [], _ => List.pairwise_singleton _ _
  | z :: l, h => by
    obtain ⟨h1, h2⟩ := List.pairwise_cons.1 h
    unfold insK
    split
    · rename_i hlt
      refine List.pairwise_cons.2 ⟨fun y hy => ?_, h⟩
      rcases List.mem_cons.1 hy with rfl | hy
      · omega
      · have := h1 y hy; omega
    · rename_i hlt
      refine List.pairwise_cons.2 ⟨fun y hy => ?_, insK_asc h2⟩
      rcases (insK_mem k).1 hy with rfl | hy
      · omega
      · exact h1 y hy
theorem insF_asc (l : List α) : AscK k (insF k l) := by
  have : ∀ r : List α, AscK k (insF k r.reverse) := fun r => by
    induction r with
    | nil => exact List.Pairwise.nil
    | cons x r ih => rw [List.reverse_cons, insF_snoc]; exact insK_asc k ih
  have h := this l.reverse
  rwa [List.reverse_reverse] at h
theorem insF_mem {l : List α} {y : α} : y ∈ insF k l ↔ y ∈ l := by
  have : ∀ r : List α, (y ∈ insF k r.reverse ↔ y ∈ r.reverse) := fun r => by
    induction r with
    | nil => exact Iff.rfl
    | cons x r ih => rw [List.reverse_cons, insF_snoc, insK_mem, ih]; simp [or_comm]
  have h := this l.reverse
  rwa [List.reverse_reverse] at h
/-- Put in behind all that are not greater. -/
theorem insK_mid {x : α} : ∀ {M1 M2 : List α}, AscK k (M1 ++ M2) → (∀ y ∈ M2, k x < k y) → (∀ y ∈ M1, k y ≤ k x) → M1 ++ x :: M2 = insK k x (M1 ++ M2)
  | [], [], _, _, _ => rfl
  | [], y :: M2, _, h2, _ => by
    show x :: y :: M2 = insK k x (y :: M2)
    unfold insK
    rw [if_pos (h2 y (by simp))]
  | z :: M1, M2, h, h2, h1 => by
    have hz := h1 z (by simp)
    show z :: (M1 ++ x :: M2) = insK k x (z :: (M1 ++ M2))
    unfold insK
    rw [if_neg (by omega), insK_mid (List.pairwise_cons.1 h).2 h2 fun y hy => h1 y (by simp [hy])]
/-- What is sorted stays. -/
theorem insF_sorted {l : List α} (h : l.Pairwise fun a b => k a < k b) : insF k l = l := by
  have : ∀ r : List α, (r.reverse.Pairwise fun a b => k a < k b) → insF k r.reverse = r.reverse := fun r => by
    induction r with
    | nil => intro _; rfl
    | cons x r ih =>
      intro hp
      rw [List.reverse_cons] at hp ⊢
      obtain ⟨a, b, c⟩ := List.pairwise_append.1 hp
      rw [insF_snoc, ih a, insK_last k fun y hy => c y hy x (by simp)]
  have h2 := this l.reverse
  rw [List.reverse_reverse] at h2
  exact h2 h
end
theorem set_two {α : Type} (A B : List α) (y x y' : α) {p j : Nat} (hp : p = A.length) (hj : j = p + 1) (hx : (A ++ y :: x :: B)[p]? = some y') : ((A ++ y :: x :: B).set j y').set p x = A ++ x :: y :: B := by
  subst hp hj
  have : y' = y := by
    rw [List.getElem?_append_right (Nat.le_refl _), Nat.sub_self] at hx
    injection hx with hx; exact hx.symm
  subst this
  rw [List.set_append_right (h := by omega), show A.length + 1 - A.length = 1 by omega, List.set_append_right (h := by omega), Nat.sub_self]
  rfl

/-- A whole thing is stored into a row of one's own, as a step of a region that draws. -/
theorem step_put {P : Program} {ops : Array Oper} {o : Oper} {a : Act} {w : World} {K : Act → World → Prop} {Q : Exit → Act → World → Prop} {E' : Prop} (hgd : o.guard = none) (ty : TypeId) (x y : Operand) (ho : o.op = .store ty x y)
    {α : Type} {E : α → List Value} {e base t n g c k : Nat} {A : Option Addr} {l : List α} (hE : ∀ x, (E x).length = e) (h1 : ∀ x, ∀ u ∈ E x, u.oneCell' = true) (h : w.ownsRow base t e (.slice A n c) n (flat E l)) (hA : A = some ⟨g, 0, none⟩) (hn : n = l.length) (hk : k < l.length)
    (off : Nat) (hoff : off = k * e) (z : α) (hx : a.eval x = .pointer (some ⟨g, off, none⟩)) (cs : Array Value) (hcs : cs = (E z).toArray) (hy : a.eval y = .agg cs) (hi : (P.info? ty).map (·.size) = some e)
    (hK : ∀ W : World, W.ownsRow base t e (.slice A n c) n (flat E (l.set k z)) → w.grownBy W (some g) → K (a.put o.dst undef) W) :
    if Region.wanted o (yielded ops a.tmps) = true then Oper.wp P o a w K Q else E' := by
  have hw : Region.wanted o (yielded ops a.tmps) = true := by simp [Region.wanted, hgd]
  rw [if_pos hw]
  subst hoff hcs
  have hs : ((E z).toArray).size = e := by rw [List.size_toArray, hE]
  have hth : w.there g (k * e) ((E z).toArray).size := fun j hj => by
    rw [hs] at hj
    obtain ⟨g2, hA2, _, _, _, hc, hf⟩ := own_at hE h hn hk
    have : g2 = g := by rw [hA] at hA2; injection hA2 with q; injection q with q; exact q.symm
    subst this
    refine ⟨?_, hf _⟩
    rw [hc j _ (List.getElem?_eq_getElem (by rw [hE]; exact hj))]; rfl
  refine wp_store_mid ty x y ho g (k * e) _ hx hy hth (by rw [hs]; exact hi) (all_oneCell_toArray (h1 z)) (hK _ ?_ ?_)
  · exact own_put hE h hA hn hk z
  · exact setCells_grown w g (k * e) (E z)

end Go.Proofs.YtbnhkplhmanmoaaGreat
