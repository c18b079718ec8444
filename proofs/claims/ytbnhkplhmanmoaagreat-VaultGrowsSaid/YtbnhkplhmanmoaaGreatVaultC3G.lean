/-
  The landed vault: what an area holds. A row of integers that lies whole in a block of one's own: what it holds, a store into it, a store elsewhere; a cut of a slice of one's own from its beginning. No program is spoken of here. The landed vault: a generation of which no line stands in an area.
-/
import Derived.Test.YtbnhkplhmanmoaaGreatEncRowG
import Derived.Test.YtbnhkplhmanmoaaGreatTableC9G
import Derived.Deep.RegionHeld3
import Derived.Test.YtbnhkplhmanmoaaGreatWordsG
import Derived.Deep.OwnRows
namespace Go.Proofs.YtbnhkplhmanmoaaGreat
open Go.RowKit

/-- An area's sectors in memory. -/
def AreaAt (w : World) (B : Nat) (A : Option Addr) (T : List (List Int)) : Prop :=
  ∀ k, k < 192 → ∃ b off Ak ck, A = some ⟨b, off, none⟩ ∧ b < B ∧ w.cell? ⟨b, off + k, none⟩ = some (.slice Ak 64 ck) ∧ Ints w B .u8 Ak (T.getD k []) ∧ (∀ z ∈ T.getD k [], 0 ≤ z ∧ z ≤ 255) ∧ (T.getD k []).length = 64 ∧ 64 ≤ ck
theorem area_at {w : World} {B : Nat} {A : Option Addr} {ps : List LSec} {T : List (List Int)} (h : Secs w B A ps) (hp : ps.length = 192) (he : secsB ps = T) (hl : ∀ k, k < 192 → (T.getD k []).length = 64) : AreaAt w B A T := fun k hk => by
  obtain ⟨b, off, e, hb, hc, ho⟩ := h k (by omega)
  have e2 := secsB_at ps (i := k) (by omega)
  rw [he] at e2
  have hlk := hl k hk
  rw [e2] at hlk ⊢
  rw [hlk] at hc
  have hle := ho.le
  exact ⟨b, off, _, _, e, hb, hc, ho.ints, ho.byte, hlk, by omega⟩
theorem AreaAt.below {w w' : World} {B : Nat} {A : Option Addr} {T : List (List Int)} (h : AreaAt w B A T) (hb : Below B w w') : AreaAt w' B A T := fun k hk => by
  obtain ⟨b, off, Ak, ck, e, h1, h2, h3, h4⟩ := h k hk
  exact ⟨b, off, Ak, ck, e, h1, (hb.cell (p := ⟨b, off + k, none⟩) h1).trans h2, h3.below hb, h4⟩
theorem area_len {s : Dk} (h : s.ok) (hl : 384 ≤ s.last.length) {a : Nat} (ha : a < 2) : ∀ k, k < 192 → ((areaT s.last a).getD k []).length = 64 := fun k hk => by
  rw [areaT_at _ _ hk, up_len]; exact (h.sec _ (by omega)).1
theorem gen_ok {b : List Int} : I64n (decR b).2.g := by
  rcases dec_cases b with h | h
  · obtain ⟨hr, _⟩ := encE_zero.1 h.2.2.1
    have := ((rangeL_iff _).1 hr).1
    unfold I64n; omega
  · rw [h]; unfold I64n zeroL; decide
theorem outTo_ne (L : List (List Int)) : ∀ {k : Nat}, ∀ t ∈ outTo L k, t ≠ []
  | 0, t, h => by cases h
  | k + 1, t, h => by
    rw [outTo_succ] at h
    split at h
    · rcases List.mem_append.1 h with h | h
      · exact outTo_ne L t h
      · rw [List.mem_singleton.1 h]; simp
    · exact outTo_ne L t h
theorem whole_ne (T : List (List Int)) : ∀ t ∈ wholeA T, t ≠ [] := fun t h => outTo_ne T t h
/-- A holding is written, where no transaction lies. -/
theorem TransAt.other {w W : World} {B g : Nat} {A : Option Addr} {ts : List (List Rc)} {t : TypeId} {x y : Int} (h : TransAt w B A ts) (hne : ∀ r ∈ ts, r ≠ []) (hg : w.heap[g]? = some (.cells #[.int .i64 x, .int .i64 y, .slice none 0 0] t (0, 0))) (hk : ∀ k, k ≠ g → W.heap[k]? = w.heap[k]?) : TransAt W B A ts := fun i hi => by
  obtain ⟨b, off, Ai, ci, e, hl, hc, hle, hr⟩ := h i hi
  have hn0 := hne _ (List.getElem_mem hi)
  have hb : b ≠ g := fun q => by
    subst q
    rw [cell_of_row _ _ _ _ _ _ hg] at hc
    match off + i, hc with
    | 0, hc => simp at hc
    | 1, hc => simp at hc
    | 2, hc =>
      simp at hc
      exact hn0 (List.eq_nil_of_length_eq_zero hc.2.1.symm)
    | n + 3, hc => simp at hc
  refine ⟨b, off, Ai, ci, e, hl, by rw [World.cell?_of_block (hk b hb)]; exact hc, hle, fun k hk2 => ?_⟩
  obtain ⟨b2, o2, e2, hl2, c0, c1, c2, c3, c4, c5⟩ := hr k hk2
  have hb2 : b2 ≠ g := fun q => by
    subst q
    rw [cell_of_row _ _ _ _ _ _ hg] at c5
    match o2 + 6 * k + 5, c5 with
    | 0, hc => simp at hc
    | 1, hc => simp at hc
    | 2, hc => simp at hc
    | n + 3, hc => simp at hc
  have hx := hk b2 hb2
  exact ⟨b2, o2, e2, hl2, by rw [World.cell?_of_block hx]; exact c0, by rw [World.cell?_of_block hx]; exact c1, by rw [World.cell?_of_block hx]; exact c2, by rw [World.cell?_of_block hx]; exact c3, by rw [World.cell?_of_block hx]; exact c4, by rw [World.cell?_of_block hx]; exact c5⟩
theorem hd_zero : hdV 0 0 none 0 0 = #[.int .i64 0, .int .i64 0, .slice none 0 0] := rfl
theorem Tryz.infoHolding : (Tryz.prog.info? 87).map (·.size) = some 3 := by kernel_rfl

section
variable {Rep : World → Nat → (Nat → Prop) → Dk → Prop} (L : Lows Rep)
include L
theorem Lows.repl {A : Option Addr} {c : Nat} {ps : List LSec} {T : List (List Int)} {g : Int} {w : World} (h : Secs w w.heap.size A ps) (hp : ps.length = 192) (he : secsB ps = T) (hc : 192 ≤ c) (hg : I64n g) :
    Calls Tryz.prog 87 #[.slice A 192 c, .int .i64 g] w fun e w' => ∃ A' c', e = .returned (.slice A' (replR T g).length c') ∧ (replR T g).length ≤ c' ∧ TransAt w' w'.heap.size A' (replR T g) ∧ Below w.heap.size w w' := by
  have := (L.l w).repl A c ps g w (Below.refl _ _) h (by omega) (by omega) hg
  rwa [hp, he] at this

set_option maxHeartbeats 1600000 in
set_option maxRecDepth 20000 in
theorem held_any (p : Nat) (F : Nat → Prop) (s : Dk) (a : Nat) (w : World) (h : Rep w p F s) (ho : s.off = false) (hpe : s.pend = []) (hl : 384 ≤ s.last.length) (ha : a < 2) :
    Calls Tryz.prog 58 #[.pointer (some ⟨p, 0, none⟩), .int .i64 (a : Int)] w fun e w' => ∃ A c, e = .returned (.tuple #[.agg (hdV a (genA (areaT s.last a)) A (wholeA (areaT s.last a)).length c), .int .i64 0]) ∧ (wholeA (areaT s.last a)).length ≤ c ∧ TransAt w' w'.heap.size A (wholeA (areaT s.last a)) ∧ Below w.heap.size w w' := by
  have hok := (L.d w).ok w p F s h
  have hlen := area_len hok hl ha
  have hb0 : Below w.heap.size w (w.alloc (.cells (hdV 0 0 none 0 0) 87)) := (Below.refl _ _).alloc (Nat.le_refl _) _
  have hg0 := heap_alloc_new w (.cells (hdV 0 0 none 0 0) 87)
  rw [hd_zero] at hb0 hg0
  obtain ⟨W0, hW0⟩ : ∃ W, W = w.alloc (.cells #[.int .i64 0, .int .i64 0, .slice none 0 0] 87) := ⟨_, rfl⟩
  rw [← hW0] at hb0 hg0
  have H1 := sectors_any L p F s a W0 (L.keep h hb0) ho hpe hl ha
  obtain ⟨T, hT⟩ : ∃ T, T = areaT s.last a := ⟨_, rfl⟩
  rw [← hT] at H1 hlen ⊢
  have H1 := Lib.hid H1
  obtain ⟨WH, hWH⟩ : ∃ R, R = wholeA T := ⟨_, rfl⟩
  obtain ⟨G, hG⟩ : ∃ G, G = genA T := ⟨_, rfl⟩
  have HRE : Hid (∀ (A : Option Addr) (c : Nat) (ps : List LSec) (w1 W : World), Secs w1 w1.heap.size A ps → ps.length = 192 → secsB ps = T → 192 ≤ c → Below w1.heap.size w1 W → Calls Tryz.prog 87 #[.slice A 192 c, .int .i64 G] W fun e w' => ∃ A' c', e = .returned (.slice A' WH.length c') ∧ WH.length ≤ c' ∧ TransAt w' w'.heap.size A' WH ∧ Below W.heap.size W w') := fun A c ps w1 W q1 q2 q3 q4 q5 => by
    rw [hWH]
    unfold wholeA
    rw [← hG]
    exact L.repl ((q1.below q5).more q5.size) q2 q3 q4 (by rw [hG]; exact gen_ok)
  have HDE : Hid (∀ (A : Option Addr) (c : Nat) (W : World), Ints W W.heap.size .u8 A (T.getD 0 []) → (∀ z ∈ T.getD 0 [], 0 ≤ z ∧ z ≤ 255) → 64 ≤ c → Calls Tryz.prog 86 #[.slice A 64 c] W fun e w' => e = .returned (.tuple #[.agg (lnV (decR (T.getD 0 [])).2), .int .i64 (decR (T.getD 0 [])).1]) ∧ Below W.heap.size W w') := fun A c W q1 q2 q3 => L.dec q1 q2 (hlen 0 (by decide)) q3
  obtain ⟨E, hE⟩ : ∃ E, E = (decR (T.getD 0 [])).1 := ⟨_, rfl⟩
  obtain ⟨D, hD⟩ : ∃ D, D = (decR (T.getD 0 [])).2 := ⟨_, rfl⟩
  have HGD : Hid (G = D.g) := by unfold Hid; rw [hG, hD]; rfl
  simp only [← hE, ← hD] at HDE
  have HAR : Hid (∀ (A : Option Addr) (ps : List LSec) (w1 : World), Secs w1 w1.heap.size A ps → ps.length = 192 → secsB ps = T → AreaAt w1 w1.heap.size A T) := fun A ps w1 q1 q2 q3 => area_at q1 q2 q3 hlen
  have hinf : (Tryz.prog.info? 135).map (·.size) = some (lnV D).size := Tryz.infoLine
  have hone := lnV_one D
  have hold : Hid (9 = (lnV D).size) := rfl
  have HLC : Hid (∀ (q : Nat) (W W' : World), W.heap[q]? = some (.cells (lnV D) 135 (0, 0)) → Below W.heap.size W W' → W'.cell? ⟨q, 0, none⟩ = some (.int .i64 G)) := fun q W W' q1 q2 => by rw [HGD.out]; exact (ln_cells q1 q2).1
  have HNEW := Lib.hid (fun W : World => heap_alloc_new W (.cells #[.int .i64 0, .int .i64 0, .bool false, .int .i64 0, .int .i64 0, .int .i64 0, .int .i64 0, .int .i64 0, .string ⟨#[]⟩] 135))
  have HAL := Lib.hid (fun W : World => (Below.refl W.heap.size W).alloc (Nat.le_refl _) (.cells #[.int .i64 0, .int .i64 0, .bool false, .int .i64 0, .int .i64 0, .int .i64 0, .int .i64 0, .int .i64 0, .string ⟨#[]⟩] 135))
  obtain ⟨LN, hLN⟩ : ∃ LN, LN = lnV D := ⟨_, rfl⟩
  rw [← hLN] at hinf hone hold
  simp only [← hLN] at HDE HLC
  obtain ⟨NW, hNW⟩ : ∃ n, n = WH.length := ⟨_, rfl⟩
  have HWN : Hid (∀ r ∈ WH, r ≠ []) := by rw [hWH]; exact whole_ne T
  have HB0 := Lib.hid hb0
  have HG0 : Hid (∀ X, Below W0.heap.size W0 X → (X.heap[w.heap.size]? = some (.cells #[.int .i64 0, .int .i64 0, .slice none 0 0] 87 (0, 0)))) := fun X hb => (hb.block _ (Array.getElem?_eq_some_iff.1 hg0).1).trans hg0
  rw [← hWH, ← hG, ← hNW]
  simp only [← hNW] at HRE
  unfold hdV
  clear h ho hpe hl ha hok hlen hT hWH hG hE hD hLN hNW hb0 hg0 HGD L
  go_enter Tryz.func58, Tryz.ntmps58
  go_wp2_with fail
  rw [← hW0]
  clear hW0
  go_wp2_with (first
    | (go_at_call 76; with_reducible (refine Calls.mono H1.out ?_); rintro e w1 ⟨A, c, rfl, hc, ps, hp1, hp2, hp3, hb1⟩
       obtain ⟨b, off, A0, c0, rfl, _, k0, k1, k2, _, k4⟩ := HAR.out _ _ _ hp2 hp1 hp3 0 (by decide)
       rw [Nat.add_zero] at k0
       have HI := Lib.hid k1; have HZ := Lib.hid k2; have HC := Lib.hid k4; have HSE := Lib.hid hp2; have HPN := Lib.hid hp1; have HPS := Lib.hid hp3; have HCC := Lib.hid hc; have HB1 := Lib.hid hb1
       clear k1 k2 k4 hp1 hp2 hp3 hc hb1 H1 HAR)
    | (go_at_call 86; with_reducible (refine Calls.mono (HDE.out _ _ _ HI.out HZ.out HC.out) ?_); rintro e w2 ⟨rfl, hb2⟩; have HB2 := Lib.hid hb2; have l2 := Lib.hid hb2.size; clear hb2 k0)
    | (refine wpList_store_fresh rfl 135 _ _ rfl w2.heap.size LN rfl rfl 135 _ (HNEW.out _) hinf hold.out hone (HAL.out _) (Nat.le_refl _) ?_; intro W3 hW3 hbW3 hkW hsW
       have HL3 : Hid (∀ X, Below W3.heap.size W3 X → X.cell? ⟨w2.heap.size, 0, none⟩ = some (.int .i64 G)) := fun X hb => HLC.out _ _ _ hW3 hb
       have HB3 := Lib.hid (chain HB2.out hbW3)
       have hlt3 := (Array.getElem?_eq_some_iff.1 hW3).1
       clear hW3 hkW hsW hbW3 HLC HDE HI HZ HC HNEW HAL HB2))
  have HG3 : Hid (∀ X, Below W3.heap.size W3 X → X.heap[w.heap.size]? = some (.cells #[.int .i64 0, .int .i64 0, .slice none 0 0] 87 (0, 0))) := fun X hb => HG0.out X (chain (chain HB1.out HB3.out) hb)
  have HBW : Hid (Below w.heap.size w W3) := chain HB0.out (chain HB1.out HB3.out)
  have HR3 : Hid (∀ W, Below W3.heap.size W3 W → Calls Tryz.prog 87 #[.slice (some ⟨b, off, none⟩) 192 c, .int .i64 G] W fun e w' => ∃ A' c', e = .returned (.slice A' NW c') ∧ NW ≤ c' ∧ TransAt w' w'.heap.size A' WH ∧ Below W.heap.size W w') := fun W hb => HRE.out _ _ _ _ _ HSE.out HPN.out HPS.out HCC.out (chain HB3.out hb)
  obtain ⟨q, hq⟩ : ∃ q, q = w2.heap.size := ⟨_, rfl⟩
  rw [← hq] at HL3 hlt3 ⊢
  have HQ : Hid (w.heap.size < q ∧ q < W3.heap.size) := ⟨by
    have h1 := (Array.getElem?_eq_some_iff.1 (HG0.out W0 (Below.refl _ _))).1
    have h2 := HB1.out.size
    have h3 := l2.out
    have h4 : w2.heap.size < W3.heap.size := hq ▸ hlt3
    omega, hlt3⟩
  have HR5 : Hid (∀ X, Below W3.heap.size W3 X → (X.cell? ⟨w.heap.size, 0, none⟩ = some (.int .i64 0) ∧ X.cell? ⟨w.heap.size, 1, none⟩ = some (.int .i64 0) ∧ X.cell? ⟨w.heap.size, 2, none⟩ = some (.slice none 0 0)) ∧
      X.frozen? ⟨w.heap.size, 0, none⟩ = false ∧ X.frozen? ⟨w.heap.size, 1, none⟩ = false ∧ X.frozen? ⟨w.heap.size, 2, none⟩ = false) := fun X hb => by
    have q2 := HG3.out X hb
    exact ⟨cells3 q2, frozen_of_row _ _ _ _ _ q2, frozen_of_row _ _ _ _ _ q2, frozen_of_row _ _ _ _ _ q2⟩
  have HFS : Hid (∀ (X : World) (x y z : Value), Below W3.heap.size W3 X → (((X.setCell ⟨w.heap.size, 0, none⟩ x).setCell ⟨w.heap.size, 1, none⟩ y).setCell ⟨w.heap.size, 2, none⟩ z).cell? ⟨q, 0, none⟩ = some (.int .i64 G)) := fun X x y z hb => by
    rw [World.cell?_of_block (setCells_other w.heap.size q (Nat.ne_of_gt HQ.out.1) [x, y, z] 0 X)]
    exact HL3.out X hb
  have hbx : Below W3.heap.size W3 W3.drew := (Below.refl _ _).drew
  clear hq hlt3 HG0 HB0 HB1 HB3 HSE HPN HPS HCC HRE l2
  go_region_held3 (fun X => X.cell? ⟨q, 0, none⟩ = some (.int .i64 G))
    (first | exact HL3.out _ hbx | exact HFS.out _ _ _ _ hbx)
    (first
      | (go_at_call 87; with_reducible (refine Calls.mono (HR3.out _ hbx) ?_); rintro e w4 ⟨A4, c4, rfl, r4, s4, hb4⟩; have hbx : Below W3.heap.size W3 w4 := hbx.trans (hb4.mono hbx.size); obtain ⟨⟨g0, g1, g2⟩, g3, g4, g5⟩ := HR5.out _ hbx)
      | fail)
  go_wp2
  have hs := set3 (.int .i64 (a : Int)) (.int .i64 G) (.slice A4 NW c4) (HG3.out w4 hbx)
  refine bodyPost_ret (results_row_tmpT rfl _ _ w.heap.size 87 _ (0, 0) _ rfl hs.1 Tryz.underlying87 rfl (by kernel_rfl)) rfl ?_
  have hbel := grown_below (chain HBW.out hbx) hs.2 (chain HBW.out hbx).size (Nat.le_refl _)
  refine ⟨A4, c4, rfl, r4, ?_, hbel⟩
  have h3 := s4.other HWN.out (HG3.out w4 hbx) (fun k hk => setCells_other w.heap.size k hk [.int .i64 (a : Int), .int .i64 G, .slice A4 NW c4] 0 w4)
  exact h3.more hs.2.size
end

end Go.Proofs.YtbnhkplhmanmoaaGreat

namespace Go.Proofs.YtbnhkplhmanmoaaGreat
open Go.RowKit

def ICs (l : List Int) : Array Value := (l.map (Value.int .i64)).toArray
theorem ICs_set (l : List Int) (i : Nat) (x : Int) : (ICs l).setIfInBounds i (.int .i64 x) = ICs (l.set i x) := by
  unfold ICs
  rw [List.setIfInBounds_toArray, List.map_set]
theorem ICs_at {l : List Int} {i : Nat} (h : i < l.length) : (ICs l)[i]? = some (.int .i64 (l.getD i 0)) := by
  simp [ICs, List.getD_eq_getElem?_getD, h]
theorem ICs_zero (n : Nat) : madeCells #[Value.int .i64 0] n = ICs (List.replicate n 0) := Array.toList_inj.1 (by rw [toList_madeCells_one]; simp [ICs])
/-- The list l, whole, in block g. -/
def IRow (t : TypeId) (g : Nat) (l : List Int) (w : World) : Prop := w.heap[g]? = some (.cells (ICs l) t (0, 0))
section
variable {t : TypeId} {g : Nat} {l : List Int} {w w' : World}
theorem IRow.cell (h : IRow t g l w) {i : Nat} (hi : i < l.length) : w.cell? ⟨g, i, none⟩ = some (.int .i64 (l.getD i 0)) := by
  rw [cell_of_row _ _ _ _ _ _ h, ICs_at hi]
theorem IRow.thaw (h : IRow t g l w) (i : Nat) : w.frozen? ⟨g, i, none⟩ = false := frozen_of_row _ _ _ _ _ h
theorem IRow.set (h : IRow t g l w) (i : Nat) (x : Int) : IRow t g (l.set i x) (w.setCell ⟨g, i, none⟩ (.int .i64 x)) := by
  show _ = _
  have e : (w.setCell ⟨g, i, none⟩ (.int .i64 x)).heap[g]? = some (.cells ((ICs l).setIfInBounds i (.int .i64 x)) t (0, 0)) := by
    have h' : w.heap[g]? = some (.cells (ICs l) t (0, 0)) := h
    simp [World.setCell, Array.getElem?_modify, h']
  rw [e, ICs_set]
theorem IRow.other (h : IRow t g l w) {k : Nat} (hk : g ≠ k) (i : Nat) (v : Value) : IRow t g l (w.setCell ⟨k, i, none⟩ v) := by
  show _ = _
  rw [Below.heap_setCell _ _ _ _ (show g ≠ (⟨k, i, none⟩ : Addr).block from hk)]; exact h
theorem IRow.lt (h : IRow t g l w) : g < w.heap.size := (Array.getElem?_eq_some_iff.1 h).1
theorem IRow.ints (h : IRow t g l w) : Ints w w.heap.size .i64 (some ⟨g, 0, none⟩) l := fun i hi =>
  ⟨g, 0, rfl, h.lt, by rw [Nat.zero_add]; exact h.cell hi⟩
theorem IRow.below {B : Nat} (h : IRow t g l w) (hb : Below B w w') (hg : g < B) : IRow t g l w' := by
  show _ = _
  rw [hb.block g hg]; exact h
theorem IRow.new (w : World) (t : TypeId) (l : List Int) : IRow t w.heap.size l (w.alloc (.cells (ICs l) t)) := heap_alloc_new w (.cells (ICs l) t)
end
/-- 's[:m]' of a slice of one's own. -/
theorem own_head {w : World} {base e n c m : Nat} {A : Option Addr} {xs : List Value} (h : w.ownsRow base e 1 (.slice A n c) n xs) (hm : m ≤ n) : w.ownsRow base e 1 (.slice A m c) m (xs.take m) := by
  refine ⟨by have := h.1; rw [List.length_take]; omega, ?_⟩
  rcases h.2 with ⟨hv, hn⟩ | ⟨g, cap, cur, hv, hb, hg, hle, hmax, hs, ht⟩
  · injection hv with h1 h2 h3
    subst h1 h2 h3
    exact Or.inl ⟨by rw [show m = 0 by omega], by omega⟩
  · injection hv with h1 h2 h3
    subst h1 h3
    refine Or.inr ⟨g, c, cur, rfl, hb, hg, by omega, hmax, hs, ?_⟩
    rw [← ht, List.take_take]
    congr 1; omega

end Go.Proofs.YtbnhkplhmanmoaaGreat

namespace Go.Proofs.YtbnhkplhmanmoaaGreat
open Go.RowKit

set_option maxHeartbeats 1600000 in
/-- 'slices.Index' of numbers: is it there? -/
theorem indexI_any (A : Option Addr) (c B : Nat) (l : List Int) (x : Int) (w : World) (h : Ints w B .i64 A l) (hl : l.length ≤ 4096) :
    Calls Tryz.prog 140 #[.slice A l.length c, .int .i64 x] w fun e w' => ∃ r : Int, e = .returned (.int .i64 r) ∧ (0 ≤ r ↔ x ∈ l) ∧ w' = w := by
  have HA := Lib.hid h
  have HY : Hid (∀ k, k < l.length → l.getD k 0 = x → x ∈ l) := fun k hk e => by
    rw [← e, List.getD_eq_getElem?_getD, List.getElem?_eq_getElem hk]; exact List.getElem_mem hk
  have HNo : Hid ((∀ j, j < l.length → l.getD j 0 ≠ x) → ¬ x ∈ l) := fun hall hx => by
    obtain ⟨j, hj, e⟩ := List.getElem_of_mem hx
    exact hall j hj (by rw [List.getD_eq_getElem?_getD, List.getElem?_eq_getElem hj]; exact e)
  obtain ⟨V, hV⟩ : ∃ V : Prop, V = (x ∈ l) := ⟨_, rfl⟩
  rw [← hV] at HY HNo ⊢
  obtain ⟨N, hN⟩ : ∃ N, N = l.length := ⟨_, rfl⟩
  have HN := Lib.hid hN
  have n1 : (N : Int) ≤ 4096 := by omega
  rw [← hN] at HY HNo ⊢
  clear h hV hN hl
  go_enter Tryz.func140, Tryz.ntmps140
  go_wp2
  go_loopw [8] (fun i wr => ∃ k : Nat, k ≤ N ∧ i = .int .i64 k ∧ Hid (∀ j, j < k → l.getD j 0 ≠ x) ∧ wr = w) (fun i _ => N - (intOf i).toNat)
  case atStart => exact ⟨0, Nat.zero_le _, rfl, fun j hj => absurd hj (Nat.not_lt_zero j), rfl⟩
  case round =>
    obtain ⟨k, hk, rfl, hall, rfl⟩ := hrel
    by_cases hlt : k < N
    · obtain ⟨b, o, rfl, _, q0⟩ := HA.out k (by have := HN.out; omega)
      have k1 : (k : Int) < (N : Int) := by omega
      have k0 : (0 : Int) ≤ (k : Int) := by omega
      by_cases he : l.getD k 0 = x
      · have H2 := Lib.hid (HY.out k hlt he)
        rw [he] at q0
        clear hall HA HY HNo he
        go_wp2
        go_ret
        exact ⟨_, rfl, by simp [H2.out], rfl⟩
      · have H2 : Hid (∀ j, j < k + 1 → l.getD j 0 ≠ x) := fun j hj => by
          rcases Nat.lt_or_ge j k with g | g
          · exact hall.out j g
          · rw [show j = k by omega]; exact he
        obtain ⟨y, hy⟩ : ∃ y, y = l.getD k 0 := ⟨_, rfl⟩
        rw [← hy] at q0 he
        have he2 : ¬ x = y := fun e => he e.symm
        clear hall HA HY HNo hy he
        go_wp2
        go_roundw
        case rel => first | exact ⟨k + 1, by omega, by go_num, H2.out, by first | rfl | trivial⟩ | ((repeat apply Exists.intro); exact ⟨⟨k + 1, by omega, by go_num, H2.out, by first | rfl | trivial⟩, rfl⟩)
        case measure => simp [intOf]; omega
    · have hk8 : k = N := by omega
      subst hk8
      have hn := Lib.hid (HNo.out hall.out)
      clear hall HA HY HNo
      have k1 : ¬ (k : Int) < (k : Int) := by omega
      go_wp2
      go_ret
      exact ⟨-1, rfl, by simp [hn.out], rfl⟩
set_option maxHeartbeats 800000 in
theorem containsI_any (A : Option Addr) (c B : Nat) (l : List Int) (x : Int) (w : World) (h : Ints w B .i64 A l) (hl : l.length ≤ 4096) :
    Calls Tryz.prog 111 #[.slice A l.length c, .int .i64 x] w fun e w' => e = .returned (.bool (decide (x ∈ l))) ∧ w' = w := by
  have HI := Lib.hid (indexI_any A c B l x w h hl)
  obtain ⟨V, hV⟩ : ∃ V, V = decide (x ∈ l) := ⟨_, rfl⟩
  have HV : Hid (∀ r : Int, (0 ≤ r ↔ x ∈ l) → decide (0 ≤ r) = V) := fun r hr => by rw [hV]; exact decide_eq_decide.2 hr
  rw [← hV]
  obtain ⟨N, hN⟩ : ∃ N, N = l.length := ⟨_, rfl⟩
  rw [← hN] at HI ⊢
  clear h hV hN hl
  go_enter Tryz.func111, Tryz.ntmps111
  go_wp2_with (go_at_call 140; with_reducible (refine Calls.mono HI.out ?_); rintro e w2 ⟨r, rfl, hr, rfl⟩; have hv := Lib.hid (HV.out r hr); clear hr HV)
  go_ret
  exact ⟨by rw [← hv.out]; rfl, rfl⟩

/-- The generations of an area's lines. -/
def takenTo (T : List (List Int)) : Nat → List Int
  | 0 => []
  | k + 1 => if (decR (T.getD k [])).1 = 0 then takenTo T k ++ [(decR (T.getD k [])).2.g] else takenTo T k
theorem taken_len (T : List (List Int)) : ∀ k, (takenTo T k).length ≤ k
  | 0 => Nat.le_refl _
  | k + 1 => by
    have := taken_len T k
    unfold takenTo
    split
    · rw [List.length_append]; simp; omega
    · omega
theorem taken_mem (T : List (List Int)) : ∀ {k : Nat} {x : Int}, x ∈ takenTo T k ↔ ∃ j, j < k ∧ (decR (T.getD j [])).1 = 0 ∧ (decR (T.getD j [])).2.g = x
  | 0, x => by simp [takenTo]
  | k + 1, x => by
    have ih := taken_mem T (k := k) (x := x)
    unfold takenTo
    split
    · rename_i h
      rw [List.mem_append, ih, List.mem_singleton]
      constructor
      · rintro (⟨j, h1, h2⟩ | rfl)
        · exact ⟨j, by omega, h2⟩
        · exact ⟨k, by omega, h, rfl⟩
      · rintro ⟨j, h1, h2, h3⟩
        by_cases e : j = k
        · subst e; exact .inr h3.symm
        · exact .inl ⟨j, by omega, h2, h3⟩
    · rename_i h
      rw [ih]
      constructor
      · rintro ⟨j, h1, h2⟩; exact ⟨j, by omega, h2⟩
      · rintro ⟨j, h1, h2, h3⟩
        by_cases e : j = k
        · subst e; exact absurd h2 h
        · exact ⟨j, by omega, h2, h3⟩
structure TkS (w wr : World) (v : Value) (l : List Int) : Prop where
  below : Below w.heap.size w wr
  row : wr.ownsRow w.heap.size 3 1 v l.length (l.map (Value.int .i64))
theorem TkS.later {w wr X : World} {v : Value} {l : List Int} (h : TkS w wr v l) (hb : Below wr.heap.size wr X) : TkS w X v l := ⟨chain h.below hb, own_keep h.row hb⟩
theorem Tryz.infoIntV : (Tryz.prog.info? 3).map (fun i => (i.zero, i.size, i.bytes)) = some (some (.int .i64 0), 1, 8) := by kernel_rfl

section
variable {Rep : World → Nat → (Nat → Prop) → Dk → Prop} (L : Lows Rep)
include L
set_option maxHeartbeats 1600000 in
set_option maxRecDepth 20000 in
theorem unused_any (A : Option Addr) (c : Nat) (T : List (List Int)) (g K : Int) (w : World) (h : AreaAt w w.heap.size A T) (hg : 0 ≤ g) (hgK : g ≤ K) (hK : K ≤ 2147483600) (hle : ∀ j, j < 192 → (decR (T.getD j [])).1 = 0 → (decR (T.getD j [])).2.g ≤ K) :
    Calls Tryz.prog 78 #[.slice A 192 c, .int .i64 g] w fun e w' => ∃ g' : Int, e = .returned (.int .i64 g') ∧ g < g' ∧ g' ≤ K + 1 ∧ Unused T g' ∧ Below w.heap.size w w' := by
  obtain ⟨i1, hf1, hz10, hz11, hz12⟩ := info_parts Tryz.infoIntV
  have HA := Lib.hid h
  have HDE : Hid (∀ (k : Nat) (A : Option Addr) (c : Nat) (W : World), (T.getD k []).length = 64 → Ints W W.heap.size .u8 A (T.getD k []) → (∀ z ∈ T.getD k [], 0 ≤ z ∧ z ≤ 255) → 64 ≤ c → Calls Tryz.prog 86 #[.slice A 64 c] W fun e w' => e = .returned (.tuple #[.agg (lnV (decR (T.getD k [])).2), .int .i64 (decR (T.getD k [])).1]) ∧ Below W.heap.size W w') := fun k A c W q0 q1 q2 q3 => L.dec q1 q2 q0 q3
  have HLE := Lib.hid hle
  obtain ⟨X, hX⟩ : ∃ X : Nat → List Int, X = takenTo T := ⟨_, rfl⟩
  have HXL : Hid (∀ k, (X k).length ≤ k) := by rw [hX]; exact taken_len T
  have HXN : Hid (∀ k, X (k + 1) = if (decR (T.getD k [])).1 = 0 then X k ++ [(decR (T.getD k [])).2.g] else X k) := fun k => by rw [hX]; rfl
  have HX0 : Hid (X 0 = []) := by unfold Hid; rw [hX]; rfl
  have HXE : Hid (∀ x, ¬ x ∈ X 192 → Unused T x) := fun x hx j hj hd e => hx (by rw [hX]; exact (taken_mem T).2 ⟨j, hj, hd, e⟩)
  have HXK : Hid (∀ x, x ∈ X 192 → x ≤ K) := fun x hx => by
    rw [hX] at hx
    obtain ⟨j, h1, h2, h3⟩ := (taken_mem T).1 hx
    rw [← h3]; exact hle j h1 h2
  have HNEW := Lib.hid (fun W : World => heap_alloc_new W (.cells #[.int .i64 0, .int .i64 0, .bool false, .int .i64 0, .int .i64 0, .int .i64 0, .int .i64 0, .int .i64 0, .string ⟨#[]⟩] 135))
  have HAL := Lib.hid (fun W : World => (Below.refl W.heap.size W).alloc (Nat.le_refl _) (.cells #[.int .i64 0, .int .i64 0, .bool false, .int .i64 0, .int .i64 0, .int .i64 0, .int .i64 0, .int .i64 0, .string ⟨#[]⟩] 135))
  have HST : Hid (TkS w w (.slice none 0 0) (X 0)) := by rw [HX0.out]; exact ⟨Below.refl _ _, rfl, .inl ⟨rfl, rfl⟩⟩
  have hx0 : (X 0).length = 0 := by rw [HX0.out]; rfl
  have HX0L := Lib.hid hx0
  have HFO : Hid (∀ (y : Int) (W : World), 0 ≤ y → y ≤ 2147483646 → Calls Tryz.prog 110 #[.int .i64 y] W fun e w' => e = .returned (.int .i64 (y + 1)) ∧ W = w') := fun y W h1 h2 => following_any y W h1 h2
  clear h hle hX L hx0
  go_enter Tryz.func78, Tryz.ntmps78
  go_wp2
  go_loopw [5, 13] (fun v i wr => ∃ k : Nat, k ≤ 192 ∧ i = .int .i64 k ∧ (∃ A c, v = .slice A (X k).length c) ∧ Hid (TkS w wr v (X k))) (fun _ i _ => 192 - (intOf i).toNat)
  case atStart => exact ⟨0, Nat.zero_le _, rfl, ⟨none, 0, by rw [HX0L.out]⟩, HST.out⟩
  case round =>
    clear HST
    obtain ⟨k, hk, rfl, ⟨A1, c1, rfl⟩, hR⟩ := hrel
    by_cases hlt : k < 192
    · have k1 : (k : Int) < 192 := by omega
      have k0 : (0 : Int) ≤ (k : Int) := by omega
      have hbw := hR.out.below
      obtain ⟨b, off, A0, c0, rfl, _, y0, y1, y2, y3, y4⟩ := (HA.out.below hbw) k hlt
      have hDEC := Lib.hid (HDE.out k A0 c0 wr y3 (y1.more hbw.size) y2 y4)
      have hxn := HXN.out k
      obtain ⟨E, hE⟩ : ∃ E, E = (decR (T.getD k [])).1 := ⟨_, rfl⟩
      obtain ⟨D, hD⟩ : ∃ D, D = (decR (T.getD k [])).2 := ⟨_, rfl⟩
      rw [← hE, ← hD] at hDEC hxn
      have HXK1 := Lib.hid hxn
      have hinf : (Tryz.prog.info? 135).map (·.size) = some (lnV D).size := Tryz.infoLine
      have hone := lnV_one D
      have hold : Hid (9 = (lnV D).size) := rfl
      have HLC : Hid (∀ (q : Nat) (W W' : World), W.heap[q]? = some (.cells (lnV D) 135 (0, 0)) → Below W.heap.size W W' → W'.cell? ⟨q, 0, none⟩ = some (.int .i64 D.g)) := fun q W W' q1 q2 => (ln_cells q1 q2).1
      obtain ⟨LN, hLN⟩ : ∃ LN, LN = lnV D := ⟨_, rfl⟩
      rw [← hLN] at hinf hone hold hDEC
      simp only [← hLN] at HLC
      obtain ⟨Xn, hXn⟩ : ∃ n, n = (X k).length := ⟨_, rfl⟩
      have hxl := HXL.out k
      rw [← hXn] at hxl
      have HXn := Lib.hid hXn
      have HRW : Hid (∀ W, Below wr.heap.size wr W → W.ownsRow w.heap.size 3 1 (.slice A1 Xn c1) Xn ((X k).map (Value.int .i64)) ∧ w.heap.size ≤ W.heap.size) := fun W hb => by
        have := hR.out.later hb
        have h2 := this.row
        rw [← hXn] at h2
        exact ⟨h2, this.below.size⟩
      rw [← hXn] at hR ⊢
      clear hE hD hLN hXn HDE y1 y2 y3 y4 hxn HXN HXE HXK hbw HFO HX0 HX0L
      by_cases hz : E = 0
      · rw [if_pos hz] at HXK1
        subst hz
        have hL2 : (X (k + 1)).length = Xn + 1 := by rw [HXK1.out, List.length_append, ← HXn.out]; rfl
        go_wp2_with (first
          | (go_at_call 86; with_reducible (refine Calls.mono hDEC.out ?_); rintro e w2 ⟨rfl, hb2⟩; have HB2 := Lib.hid hb2; clear hb2 y0)
          | (refine wpList_store_fresh rfl 135 _ _ rfl w2.heap.size LN rfl rfl 135 _ (HNEW.out _) hinf hold.out hone (HAL.out _) (Nat.le_refl _) ?_; intro W3 hW3 hbW3 hkW hsW
             have l3 := HLC.out _ _ _ hW3 (Below.refl _ _)
             have HB3 := Lib.hid (chain HB2.out hbW3)
             have how := (HRW.out _ HB3.out).1
             have hsz := (HRW.out _ HB3.out).2
             clear hW3 hkW hsW hbW3)
          | (at_builtin; refine wpList_append_own_at _ rfl _ _ 31 rfl w.heap.size 3 i1 (.int .i64 0) 1 8 Tryz.underlying31 hf1 hz10 hz11 hz12 rfl (by decide) _ _ _ rfl (how.alloc _) ⟨W3.heap.size, 0, none⟩ 1 1 [.int .i64 D.g] rfl rfl (cell_one_new _ _ _) ?d1 ?d2 ?d3 ?d4 ?_))
        case d1 => intro u hu; simp at hu; subst hu; rfl
        case d2 => unfold maxLen; omega
        case d3 => omega
        case d4 => simp; omega
        intro v5 w5 hown5 hg5 _ _
        obtain ⟨A5, c5, rfl⟩ := own_slice hown5
        have R9 : Hid (TkS w w5 (.slice A5 (X (k + 1)).length c5) (X (k + 1))) := by
          rw [hL2, HXK1.out]
          have hb3 := (hR.out.later HB3.out).below
          have hba : Below w.heap.size w (W3.alloc (.cells #[.int .i64 D.g] 3)) := hb3.alloc hb3.size _
          refine ⟨hba.grown hg5 hba.size fun q hq => (how.lt q hq).1, ?_⟩
          rw [List.length_append, List.map_append, ← HXn.out]
          exact hown5
        have HL2 := Lib.hid hL2
        have HA5 : Hid (∃ A c, (Value.slice A5 (Xn + 1) c5) = .slice A (X (k + 1)).length c) := ⟨A5, c5, by rw [HL2.out]⟩
        rw [HL2.out] at R9
        clear hown5 hg5 how hsz HB3 HB2 HRW hR HLC hDEC hinf hone hold hL2 l3 HXn HXK1
        go_wp2
        go_roundw
        case rel => first | exact ⟨k + 1, by omega, by go_num, HA5.out, R9⟩ | ((repeat apply Exists.intro); exact ⟨⟨k + 1, by omega, by go_num, HA5.out, R9⟩, rfl⟩)
        case measure => first | (simp [intOf]; done) | (simp [intOf]; omega)
      · rw [if_neg hz] at HXK1
        have hz2 : (E == 0) = false := beq_eq_false_iff_ne.2 hz
        go_wp2_with (first
          | (go_at_call 86; with_reducible (refine Calls.mono hDEC.out ?_); rintro e w2 ⟨rfl, hb2⟩; have HB2 := Lib.hid hb2; clear hb2 y0)
          | (refine wpList_store_fresh rfl 135 _ _ rfl w2.heap.size LN rfl rfl 135 _ (HNEW.out _) hinf hold.out hone (HAL.out _) (Nat.le_refl _) ?_; intro W3 hW3 hbW3 hkW hsW
             have HB3 := Lib.hid (chain HB2.out hbW3)
             clear hW3 hkW hsW hbW3))
        have R9 : Hid (TkS w W3 (.slice A1 Xn c1) (X (k + 1))) := by
          rw [HXK1.out]; exact hR.out.later HB3.out
        have HA5 : Hid (∃ A c, (Value.slice A1 Xn c1) = .slice A (X (k + 1)).length c) := ⟨A1, c1, by rw [HXK1.out, HXn.out]⟩
        clear HB3 HB2 HRW hR HLC hDEC hinf hone hold HXn HXK1
        go_roundw
        case rel => first | exact ⟨k + 1, by omega, by go_num, HA5.out, R9⟩ | ((repeat apply Exists.intro); exact ⟨⟨k + 1, by omega, by go_num, HA5.out, R9⟩, rfl⟩)
        case measure => first | (simp [intOf]; done) | (simp [intOf]; omega)
    · have hk9 : k = 192 := by omega
      subst hk9
      have k1 : ¬ ((192 : Nat) : Int) < 192 := by omega
      have hf0 : g ≤ 2147483646 := by omega
      have hxl := HXL.out 192
      obtain ⟨Y, hY⟩ : ∃ Y, Y = X 192 := ⟨_, rfl⟩
      rw [← hY] at HXE HXK hxl hR ⊢
      have HCO : Hid (∀ (y : Int) (W : World), W = wr → Calls Tryz.prog 111 #[.slice A1 Y.length c1, .int .i64 y] W fun e w' => e = .returned (.bool (decide (y ∈ Y))) ∧ w' = W) := fun y W e => by
        subst e
        exact containsI_any A1 c1 W.heap.size Y y W (Ints.of_own (n := Y.length) (c := c1) hR.out.row) (by omega)
      have HBW := Lib.hid hR.out.below
      obtain ⟨Yn, hYn⟩ : ∃ n, n = Y.length := ⟨_, rfl⟩
      rw [← hYn] at HCO ⊢
      clear HXL HXN HX0 HX0L HDE hY hR hxl hYn HNEW HAL HA
      have HF1 := Lib.hid (HFO.out g wr hg hf0)
      go_wp2_with (go_at_call 110; with_reducible (refine Calls.mono HF1.out ?_); rintro e w2 ⟨rfl, rfl⟩)
      clear HF1
      go_loopw [10] (fun y wx => ∃ z : Int, g < z ∧ z ≤ K + 1 ∧ y = .int .i64 z ∧ wx = wr) (fun y _ => (K + 2 - intOf y).toNat)
      case atStart => exact ⟨g + 1, by omega, by omega, rfl, rfl⟩
      case round =>
        obtain ⟨z, hz1, hz2, rfl, rfl⟩ := hrel
        by_cases hm : z ∈ Y
        · have hzK := HXK.out z hm
          have HC := HCO.out z wr rfl
          rw [decide_eq_true hm] at HC
          have HC := Lib.hid HC
          have HF := Lib.hid (HFO.out z wr (by omega) (by omega))
          clear HCO HFO HXE HXK hm
          go_wp2_with (first
            | (go_at_call 111; with_reducible (refine Calls.mono HC.out ?_); rintro e w2 ⟨rfl, rfl⟩)
            | (go_at_call 110; with_reducible (refine Calls.mono HF.out ?_); rintro e w3 ⟨rfl, rfl⟩))
          go_roundw
          case rel => exact ⟨z + 1, by omega, by omega, by go_num, by first | rfl | trivial⟩
          case measure => simp [intOf]; omega
        · have HC := HCO.out z wr rfl
          rw [decide_eq_false hm] at HC
          have HC := Lib.hid HC
          have HU := Lib.hid (HXE.out z hm)
          clear HCO HFO HXE HXK hm
          go_wp2_with (go_at_call 111; with_reducible (refine Calls.mono HC.out ?_); rintro e w2 ⟨rfl, rfl⟩)
          go_ret
          exact ⟨z, rfl, hz1, hz2, HU.out, HBW.out⟩
end

end Go.Proofs.YtbnhkplhmanmoaaGreat
