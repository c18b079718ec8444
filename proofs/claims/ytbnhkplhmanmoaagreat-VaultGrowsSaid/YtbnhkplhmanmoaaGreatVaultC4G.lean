/-
  The landed vault: what is held of the greatest generation. The landed table: a draft's volume, hasVolume, quotas.
-/
import Derived.Test.YtbnhkplhmanmoaaGreatVaultC3G
import Derived.Test.YtbnhkplhmanmoaaGreatTableC9G
namespace Go.Proofs.YtbnhkplhmanmoaaGreat
open Go.RowKit

/-- Another holding is written over, where no transaction of this one lies. -/
theorem TransAt.other2 {w W : World} {B B0 g : Nat} {A A0 : Option Addr} {ts ts0 : List (List Rc)} {t : TypeId} {x y : Int} {c0 : Nat} (h : TransAt w B A ts) (hne : ∀ r ∈ ts, r ≠ []) (h0 : TransAt w B0 A0 ts0) (hg : w.heap[g]? = some (.cells #[.int .i64 x, .int .i64 y, .slice A0 ts0.length c0] t (0, 0))) (hk : ∀ k, k ≠ g → W.heap[k]? = w.heap[k]?) : TransAt W B A ts := fun i hi => by
  obtain ⟨b, off, Ai, ci, e, hl, hc, hle, hr⟩ := h i hi
  have hn0 := List.length_pos_iff.2 (hne _ (List.getElem_mem hi))
  have hb : b ≠ g := fun q => by
    subst q
    rw [cell_of_row _ _ _ _ _ _ hg] at hc
    match off + i, hc with
    | 0, hc => simp at hc
    | 1, hc => simp at hc
    | 2, hc =>
      simp at hc
      obtain ⟨rfl, hl0, _⟩ := hc
      obtain ⟨b1, o1, _, _, e1, _, d1, _⟩ := h0 0 (by omega)
      obtain ⟨b2, o2, e2, _, d2, _⟩ := hr 0 hn0
      rw [e1] at e2
      injection e2 with e2
      injection e2 with e3 e4
      subst e3 e4
      rw [show o1 + 6 * 0 = o1 + 0 from rfl, d1] at d2
      simp at d2
    | n + 3, hc => simp at hc
  refine ⟨b, off, Ai, ci, e, hl, by rw [World.cell?_of_block (hk b hb)]; exact hc, hle, fun k hk2 => ?_⟩
  obtain ⟨b2, o2, e2, hl2, c0, c1, c2, c3, c4, c5⟩ := hr k hk2
  have hb2 : b2 ≠ g := fun q => by
    subst q
    rw [cell_of_row _ _ _ _ _ _ hg] at c5
    match o2 + 6 * k + 5, c5 with
    | 0, hc => simp at hc
    | 1, hc => simp at hc
    | 2, hc => simp at hc
    | n + 3, hc => simp at hc
  have hx := hk b2 hb2
  exact ⟨b2, o2, e2, hl2, by rw [World.cell?_of_block hx]; exact c0, by rw [World.cell?_of_block hx]; exact c1, by rw [World.cell?_of_block hx]; exact c2, by rw [World.cell?_of_block hx]; exact c3, by rw [World.cell?_of_block hx]; exact c4, by rw [World.cell?_of_block hx]; exact c5⟩
theorem newTo_ne (last : List (List Nat)) : ∀ k, ∀ r ∈ (newTo last k).whole, r ≠ []
  | 0, r, h => by cases h
  | k + 1, r, h => by
    unfold newTo at h
    split at h
    · exact whole_ne _ r h
    · exact newTo_ne last k r h

/-- Between two areas. -/
structure NwS (w wr : World) (H : Hd) : Prop where
  below : Below w.heap.size w wr
  res : wr.heap[w.heap.size]? = some (.cells #[.int .i64 0, .int .i64 0, .slice none 0 0] 87 (0, 0))
  new : ∃ A c, wr.heap[w.heap.size + 1]? = some (.cells #[.int .i64 H.area, .int .i64 H.gen, .slice A H.whole.length c] 87 (0, 0)) ∧ H.whole.length ≤ c ∧ TransAt wr wr.heap.size A H.whole
theorem NwS.later {w wr X : World} {H : Hd} (h : NwS w wr H) (hb : Below wr.heap.size wr X) : NwS w X H := by
  obtain ⟨A, c, q1, q2, q3⟩ := h.new
  exact ⟨chain h.below hb, (hb.block _ (Array.getElem?_eq_some_iff.1 h.res).1).trans h.res, A, c, (hb.block _ (Array.getElem?_eq_some_iff.1 q1).1).trans q1, q2, (q3.below hb).more hb.size⟩
/-- The newer one is taken. -/
theorem NwS.take {w wr : World} {H : Hd} (h : NwS w wr H) {a g : Int} {A : Option Addr} {ts : List (List Rc)} {c : Nat} (ht : TransAt wr wr.heap.size A ts) (hne : ∀ r ∈ ts, r ≠ []) (hc : ts.length ≤ c) :
    NwS w (((wr.setCell ⟨w.heap.size + 1, 0, none⟩ (.int .i64 a)).setCell ⟨w.heap.size + 1, 1, none⟩ (.int .i64 g)).setCell ⟨w.heap.size + 1, 2, none⟩ (.slice A ts.length c)) ⟨a, g, ts⟩ := by
  obtain ⟨A0, c0, q1, q2, q3⟩ := h.new
  have hs := set3 (.int .i64 a) (.int .i64 g) (.slice A ts.length c) q1
  have hk : ∀ k, k ≠ w.heap.size + 1 → (((wr.setCell ⟨w.heap.size + 1, 0, none⟩ (.int .i64 a)).setCell ⟨w.heap.size + 1, 1, none⟩ (.int .i64 g)).setCell ⟨w.heap.size + 1, 2, none⟩ (.slice A ts.length c)).heap[k]? = wr.heap[k]? := fun k hk => setCells_other (w.heap.size + 1) k hk [.int .i64 a, .int .i64 g, .slice A ts.length c] 0 wr
  exact ⟨grown_below h.below hs.2 h.below.size (Nat.le_succ _), (hk _ (by omega)).trans h.res, A, c, hs.1, hc, (ht.other2 hne q3 q1 hk).more hs.2.size⟩

section
variable {Rep : World → Nat → (Nat → Prop) → Dk → Prop} (L : Lows Rep)
include L
set_option maxHeartbeats 1600000 in
set_option maxRecDepth 20000 in
theorem newest_any (p : Nat) (F : Nat → Prop) (s : Dk) (w : World) (h : Rep w p F s) (ho : s.off = false) (hpe : s.pend = []) (hl : 384 ≤ s.last.length) :
    Calls Tryz.prog 34 #[.pointer (some ⟨p, 0, none⟩)] w fun e w' => ∃ A c, e = .returned (.tuple #[.agg (hdV (newestR s.last).area (newestR s.last).gen A (newestR s.last).whole.length c), .int .i64 0]) ∧ (newestR s.last).whole.length ≤ c ∧ TransAt w' w'.heap.size A (newestR s.last).whole ∧ Below w.heap.size w w' := by
  have hb0 : Below w.heap.size w (w.alloc (.cells #[.int .i64 0, .int .i64 0, .slice none 0 0] 87)) := (Below.refl _ _).alloc (Nat.le_refl _) _
  have hg0 := heap_alloc_new w (.cells #[.int .i64 0, .int .i64 0, .slice none 0 0] 87)
  obtain ⟨W0, hW0⟩ : ∃ W, W = w.alloc (.cells #[.int .i64 0, .int .i64 0, .slice none 0 0] 87) := ⟨_, rfl⟩
  rw [← hW0] at hb0 hg0
  have hsz : W0.heap.size = w.heap.size + 1 := by rw [hW0]; simp
  obtain ⟨N, hN⟩ : ∃ N : Nat → Hd, N = newTo s.last := ⟨_, rfl⟩
  obtain ⟨HD, hHD⟩ : ∃ H : Nat → Hd, H = heldR s.last := ⟨_, rfl⟩
  have HS0 : Hid (∀ W1, W1.heap[w.heap.size + 1]? = some (.cells #[.int .i64 1, .int .i64 0, .slice none 0 0] 87 (0, 0)) → Below W0.heap.size W0 W1 → NwS w W1 (N 0)) := fun W1 q1 q2 => by
    rw [hN]
    exact ⟨chain hb0 q2, (q2.block _ (Array.getElem?_eq_some_iff.1 hg0).1).trans hg0, none, 0, q1, Nat.le_refl _, fun i hi => absurd hi (Nat.not_lt_zero i)⟩
  have HHE : Hid (∀ (k : Nat) (W : World), k < 2 → Below w.heap.size w W → Calls Tryz.prog 58 #[.pointer (some ⟨p, 0, none⟩), .int .i64 (k : Int)] W fun e w' => ∃ A c, e = .returned (.tuple #[.agg #[.int .i64 (HD k).area, .int .i64 (HD k).gen, .slice A (HD k).whole.length c], .int .i64 0]) ∧ (HD k).whole.length ≤ c ∧ TransAt w' w'.heap.size A (HD k).whole ∧ Below W.heap.size W w') := fun k W hk hb => by
    rw [hHD]; exact held_any L p F s k W (L.keep h hb) ho hpe hl hk
  have HNX : Hid (∀ k, N (k + 1) = if overR (HD k) (N k) = true then HD k else N k) := fun k => by rw [hN, hHD]; rfl
  have HNE : Hid (∀ k, ∀ r ∈ (HD k).whole, r ≠ []) := fun k r hr => by rw [hHD] at hr; exact whole_ne _ r hr
  have HNN2 : Hid (∀ r ∈ (N 2).whole, r ≠ []) := by rw [hN]; exact newTo_ne _ 2
  have HEND : Hid (newestR s.last = N 2) := by rw [hN]; rfl
  rw [HEND.out]
  have HSZ := Lib.hid hsz
  have HNEW := Lib.hid (fun W : World => heap_alloc_new W (.cells #[.int .i64 0, .int .i64 0, .slice none 0 0] 87))
  have HAL := Lib.hid (fun W : World => (Below.refl W.heap.size W).alloc (Nat.le_refl _) (.cells #[.int .i64 0, .int .i64 0, .slice none 0 0] 87))
  have hinf := Tryz.infoHolding
  unfold hdV
  clear h ho hpe hl hN hHD hb0 hg0 hsz L
  go_enter Tryz.func34, Tryz.ntmps34
  go_wp2_with fail
  rw [← hW0]
  clear hW0
  go_wp2
  have hR0 := HS0.out (W0.alloc (.cells #[.int .i64 1, .int .i64 0, .slice none 0 0] 87)) (by rw [← HSZ.out]; exact heap_alloc_new _ _) ((Below.refl _ _).alloc (Nat.le_refl _) _)
  have HR0 := Lib.hid hR0
  clear hR0 HS0 HSZ
  go_loopw [9] (fun i wr => ∃ k : Nat, k ≤ 2 ∧ i = .int .i64 k ∧ Hid (NwS w wr (N k))) (fun i _ => 2 - (intOf i).toNat)
  case atStart => exact ⟨0, Nat.zero_le _, rfl, HR0⟩
  case round =>
    clear HR0
    obtain ⟨k, hk, rfl, hR⟩ := hrel
    by_cases hlt : k < 2
    · have k1 : (k : Int) < 2 := by omega
      have k0 : (0 : Int) ≤ (k : Int) := by omega
      have HH := Lib.hid (HHE.out k wr hlt hR.out.below)
      have HN1 := Lib.hid (HNX.out k)
      have HNK := Lib.hid (HNE.out k)
      obtain ⟨H1, hH1⟩ : ∃ H, H = HD k := ⟨_, rfl⟩
      obtain ⟨H0, hH0⟩ : ∃ H, H = N k := ⟨_, rfl⟩
      rw [← hH1] at HH HN1 HNK
      rw [← hH0] at HN1 hR
      obtain ⟨NX, hNX⟩ : ∃ H, H = N (k + 1) := ⟨_, rfl⟩
      have HNX1 : Hid (NX = N (k + 1)) := hNX
      rw [← hNX] at HN1
      have HOV : Hid (∀ A n c A2 c2 W, n = H1.whole.length → Calls Tryz.prog 59 #[.agg #[.int .i64 H1.area, .int .i64 H1.gen, .slice A n c], .agg #[.int .i64 H0.area, .int .i64 H0.gen, .slice A2 H0.whole.length c2]] W fun e w' => e = .returned (.bool (overR H1 H0)) ∧ Below W.heap.size W w') := fun A n c A2 c2 W hn => by rw [hn]; exact over_any _ _ _ _ _ _ _ _ _ _ W
      clear hH1 hH0 hNX HNX HNE HHE
      obtain ⟨n1, hn1⟩ : ∃ n, n = H1.whole.length := ⟨_, rfl⟩
      rw [← hn1] at HH
      have HNN := Lib.hid hn1
      clear hn1
      have hov : overR H1 H0 = true ∨ overR H1 H0 = false := by cases overR H1 H0 <;> simp
      obtain ⟨OV, hOV⟩ : ∃ b, b = overR H1 H0 := ⟨_, rfl⟩
      rw [← hOV] at hov HN1
      simp only [← hOV] at HOV
      clear hOV
      have hbo := Lib.hid (fun (W : World) (x : Value) => (Below.refl W.heap.size W).alloc (Nat.le_refl _) (.cells #[.int .i64 H1.area, .int .i64 H1.gen, x] 87))
      rcases hov with rfl | rfl
      · rw [if_pos rfl] at HN1
        go_wp2_with (first
          | (go_at_call 58; with_reducible (refine Calls.mono HH.out ?_); rintro e w2 ⟨A, c, rfl, hc2, ht2, hb2⟩
             have hba := hbo.out w2 (.slice A n1 c)
             have HS3 := Lib.hid (hR.out.later (chain hb2 hba))
             have HT3 := Lib.hid ((ht2.below hba).more hba.size)
             have HC2 := Lib.hid hc2
             have HX3 := Lib.hid (heap_alloc_new w2 (.cells #[.int .i64 H1.area, .int .i64 H1.gen, .slice A n1 c] 87))
             obtain ⟨A0, c0, q1, _, _⟩ := HS3.out.new
             obtain ⟨y0, y1, y2⟩ := cells3 q1
             clear hc2 ht2 hb2 hba q1 hbo)
          | (go_at_call 59; with_reducible (refine Calls.mono (HOV.out _ _ _ _ _ _ HNN.out) ?_); rintro e w4 ⟨rfl, hb4⟩
             have HS4 := Lib.hid (HS3.out.later hb4)
             have HT4 := Lib.hid ((HT3.out.below hb4).more hb4.size)
             have hx4 := (hb4.block _ (Array.getElem?_eq_some_iff.1 HX3.out).1).trans HX3.out
             obtain ⟨x0, x1, x2⟩ := cells3 hx4
             obtain ⟨A5, c5, q1, _, _⟩ := HS4.out.new
             obtain ⟨z0, z1, z2⟩ := cells3 q1
             have z3 := frozen_of_row _ _ 0 _ _ q1
             have z4 := frozen_of_row _ _ 1 _ _ q1
             have z5 := frozen_of_row _ _ 2 _ _ q1
             clear q1 y0 y1 y2 hx4 HX3 hb4))
        have R9 : Hid (NwS w (((w4.setCell ⟨w.heap.size + 1, 0, none⟩ (.int .i64 H1.area)).setCell ⟨w.heap.size + 1, 1, none⟩ (.int .i64 H1.gen)).setCell ⟨w.heap.size + 1, 2, none⟩ (.slice A n1 c)) (N (k + 1))) := by
          rw [HNN.out, ← HNX1.out, HN1.out]
          exact HS4.out.take HT4.out HNK.out (by rw [← HNN.out]; exact HC2.out)
        clear x0 x1 x2 z0 z1 z2 z3 z4 z5 HS4 HT4 HT3 HS3 HC2 HNN HN1 HNX1 HNK HOV HH hR
        go_roundw
        case rel => first | exact ⟨k + 1, by omega, by go_num, R9⟩ | ((repeat apply Exists.intro); exact ⟨⟨k + 1, by omega, by go_num, R9⟩, rfl⟩)
        case measure => first | (simp [intOf]; done) | (simp [intOf]; omega)
      · rw [if_neg (by decide)] at HN1
        go_wp2_with (first
          | (go_at_call 58; with_reducible (refine Calls.mono HH.out ?_); rintro e w2 ⟨A, c, rfl, hc2, ht2, hb2⟩
             have hba := hbo.out w2 (.slice A n1 c)
             have HS3 := Lib.hid (hR.out.later (chain hb2 hba))
             have HT3 := Lib.hid ((ht2.below hba).more hba.size)
             have HC2 := Lib.hid hc2
             have HX3 := Lib.hid (heap_alloc_new w2 (.cells #[.int .i64 H1.area, .int .i64 H1.gen, .slice A n1 c] 87))
             obtain ⟨A0, c0, q1, _, _⟩ := HS3.out.new
             obtain ⟨y0, y1, y2⟩ := cells3 q1
             clear hc2 ht2 hb2 hba q1 hbo)
          | (go_at_call 59; with_reducible (refine Calls.mono (HOV.out _ _ _ _ _ _ HNN.out) ?_); rintro e w4 ⟨rfl, hb4⟩
             have HS4 := Lib.hid (HS3.out.later hb4)
             clear y0 y1 y2 HX3 hb4))
        have R9 : Hid (NwS w w4 (N (k + 1))) := by
          rw [← HNX1.out, HN1.out]
          exact HS4.out
        clear HS4 HT3 HS3 HC2 HNN HN1 HNX1 HNK HOV HH hR
        go_roundw
        case rel => first | exact ⟨k + 1, by omega, by go_num, R9⟩ | ((repeat apply Exists.intro); exact ⟨⟨k + 1, by omega, by go_num, R9⟩, rfl⟩)
        case measure => first | (simp [intOf]; done) | (simp [intOf]; omega)
    · have hk9 : k = 2 := by omega
      subst hk9
      have k1 : ¬ ((2 : Nat) : Int) < 2 := by omega
      obtain ⟨A5, c5, q1, q2, q3⟩ := hR.out.new
      have q0 := hR.out.res
      obtain ⟨y0, y1, y2⟩ := cells3 q1
      obtain ⟨z0, z1, z2⟩ := cells3 q0
      have z3 := frozen_of_row _ _ 0 _ _ q0
      have z4 := frozen_of_row _ _ 1 _ _ q0
      have z5 := frozen_of_row _ _ 2 _ _ q0
      have R9 : Hid (∃ A c, (((wr.setCell ⟨w.heap.size, 0, none⟩ (.int .i64 (N 2).area)).setCell ⟨w.heap.size, 1, none⟩ (.int .i64 (N 2).gen)).setCell ⟨w.heap.size, 2, none⟩ (.slice A5 (N 2).whole.length c5)).heap[w.heap.size]? = some (.cells #[.int .i64 (N 2).area, .int .i64 (N 2).gen, .slice A (N 2).whole.length c] 87 (0, 0)) ∧ (N 2).whole.length ≤ c ∧ TransAt (((wr.setCell ⟨w.heap.size, 0, none⟩ (.int .i64 (N 2).area)).setCell ⟨w.heap.size, 1, none⟩ (.int .i64 (N 2).gen)).setCell ⟨w.heap.size, 2, none⟩ (.slice A5 (N 2).whole.length c5)) (((wr.setCell ⟨w.heap.size, 0, none⟩ (.int .i64 (N 2).area)).setCell ⟨w.heap.size, 1, none⟩ (.int .i64 (N 2).gen)).setCell ⟨w.heap.size, 2, none⟩ (.slice A5 (N 2).whole.length c5)).heap.size A (N 2).whole ∧ Below w.heap.size w (((wr.setCell ⟨w.heap.size, 0, none⟩ (.int .i64 (N 2).area)).setCell ⟨w.heap.size, 1, none⟩ (.int .i64 (N 2).gen)).setCell ⟨w.heap.size, 2, none⟩ (.slice A5 (N 2).whole.length c5))) := by
        have hs := set3 (.int .i64 (N 2).area) (.int .i64 (N 2).gen) (.slice A5 (N 2).whole.length c5) q0
        exact ⟨A5, c5, hs.1, q2, (q3.other HNN2.out q0 fun k hk => setCells_other w.heap.size k hk [.int .i64 (N 2).area, .int .i64 (N 2).gen, .slice A5 (N 2).whole.length c5] 0 wr).more hs.2.size, grown_below hR.out.below hs.2 hR.out.below.size (Nat.le_refl _)⟩
      clear q0 q1 q2 q3 hR HHE HNX HNE
      go_wp2
      obtain ⟨A9, c9, r1, r2, r3, r4⟩ := R9.out
      refine bodyPost_ret (results_row_tmpT rfl _ _ w.heap.size 87 _ (0, 0) _ rfl r1 Tryz.underlying87 rfl (by kernel_rfl)) rfl ?_
      exact ⟨A9, c9, rfl, r2, r3, r4⟩
end

end Go.Proofs.YtbnhkplhmanmoaaGreat

namespace Go.Proofs.YtbnhkplhmanmoaaGreat
open Go.RowKit

set_option maxHeartbeats 1600000 in
/-- 'slices.IndexFunc' of volumes; the function may take memory. -/
theorem indexV_any (A : Option Addr) (c : Nat) (ts : List Vol) (P : Nat → Bool) (r : Int) (fn : FuncId) (cb : Array Value) (w : World) (hN : ts.length ≤ 9223372036854775807) (h : VolsAt w w.heap.size A ts) (hr : FirstAt P ts.length r)
    (he : ∀ args w, (callFunc fn args).run Tryz.prog w = .ok (.enter fn args) w) (hc : ∀ k (hk : k < ts.length) W, Below w.heap.size w W → Calls Tryz.prog fn (#[.agg (volV ts[k])] ++ cb) W fun e w' => e = .returned (.bool (P k)) ∧ Below W.heap.size W w') :
    Calls Tryz.prog 135 #[.slice A ts.length c, .func (.func fn) #[] cb] w fun e w' => e = .returned (.int .i64 r) ∧ Below w.heap.size w w' := by
  have HA : Hid (∀ W, Below w.heap.size w W → VolsAt W w.heap.size A ts) := fun W hb => h.below hb
  have HC := Lib.hid hc
  have HR := Lib.hid hr
  obtain ⟨N, hNN⟩ : ∃ N, N = ts.length := ⟨_, rfl⟩
  rw [← hNN] at HR hN ⊢
  have HN := Lib.hid hNN
  have eg := he
  clear h hc hNN hr
  go_enter Tryz.func135, Tryz.ntmps135
  go_wp2
  go_loopw [8] (fun i wr => ∃ k : Nat, k ≤ N ∧ i = .int .i64 k ∧ Hid (∀ j, j < k → P j = false) ∧ Hid (Below w.heap.size w wr)) (fun i _ => N - (intOf i).toNat)
  case atStart => exact ⟨0, Nat.zero_le _, rfl, fun j hj => absurd hj (Nat.not_lt_zero j), Below.refl _ _⟩
  case round =>
    obtain ⟨k, hk, rfl, hall, hB⟩ := hrel
    by_cases hlt : k < N
    · have hkx : k < ts.length := by have := HN.out; omega
      obtain ⟨b, o, rfl, _, q0, q1, q2, q3⟩ := HA.out wr hB.out k hkx
      have k1 : (k : Int) < (N : Int) := by omega
      have k0 : (0 : Int) ≤ (k : Int) := by omega
      have hck := HC.out k hkx wr hB.out
      have hall2 : Hid (P k = false → ∀ j, j < k + 1 → P j = false) := fun q j hj => by
        rcases Nat.lt_or_ge j k with g | g
        · exact hall.out j g
        · rw [show j = k by omega]; exact q
      have hy : Hid (P k = true → r = k) := fun q => HR.out.hit hlt q hall.out
      obtain ⟨p, hp⟩ : ∃ p, p = P k := ⟨_, rfl⟩
      rw [← hp] at hck hy hall2
      obtain ⟨x, hx⟩ : ∃ x, x = ts[k] := ⟨_, rfl⟩
      rw [← hx] at q0 q1 q2 q3 hck
      clear hx
      obtain ⟨p0, p1, p2, p3⟩ := x
      simp only [volV] at hck
      simp only at q0 q1 q2 q3
      have HCK := Lib.hid hck
      clear hall HA HC hp hck
      cases p
      · have H2 := Lib.hid (hall2.out rfl)
        clear hall2 hy
        go_wp2_with (go_at_fn fn; with_reducible (refine Calls.mono HCK.out ?_); rintro e w2 ⟨rfl, hb2⟩)
        have R := Lib.hid (chain hB.out hb2)
        clear hB hb2
        go_roundw
        case rel => first | exact ⟨k + 1, by omega, by go_num, H2.out, R⟩ | ((repeat apply Exists.intro); exact ⟨⟨k + 1, by omega, by go_num, H2.out, R⟩, rfl⟩)
        case measure => simp [intOf]; omega
      · have H2 := Lib.hid (hy.out rfl)
        clear hall2 hy
        go_wp2_with (go_at_fn fn; with_reducible (refine Calls.mono HCK.out ?_); rintro e w2 ⟨rfl, hb2⟩)
        have R := Lib.hid (chain hB.out hb2)
        clear hB hb2
        go_ret
        exact ⟨by rw [H2.out]; rfl, R.out⟩
    · have hk8 : k = N := by omega
      subst hk8
      have hn := Lib.hid (HR.out.miss hall.out)
      clear hall HA HC
      have k1 : ¬ (k : Int) < (k : Int) := by omega
      go_wp2
      go_ret
      exact ⟨by rw [hn.out]; rfl, hB.out⟩

set_option maxHeartbeats 800000 in
theorem vol1_any (x : Vol) (id : Int) (q : Nat) (w : World) (hq : w.cell? ⟨q, 0, none⟩ = some (.int .i64 id)) :
    Calls Tryz.prog 136 (#[.agg (volV x)] ++ #[.pointer (some ⟨q, 0, none⟩)]) w fun e w' => e = .returned (.bool (decide (x.id = id))) ∧ Below w.heap.size w w' := by
  show Calls Tryz.prog 136 #[.agg (volV x), .pointer (some ⟨q, 0, none⟩)] w _
  obtain ⟨p0, p1, p2, p3⟩ := x
  simp only [volV]
  have hb : Below w.heap.size w (w.alloc (.cells #[.int .i64 p0, .int .i64 p1, .int .i64 p2, .int .i64 p3] 82)) := (Below.refl _ _).alloc (Nat.le_refl _) _
  have hq2 : (w.alloc (.cells #[.int .i64 p0, .int .i64 p1, .int .i64 p2, .int .i64 p3] 82)).cell? ⟨q, 0, none⟩ = some (.int .i64 id) := (hb.cell (p := ⟨q, 0, none⟩) (World.block_lt_of_cell? w _ hq)).trans hq
  have e : (p0 == id) = decide (p0 = id) := by rw [Bool.eq_iff_iff]; simp
  go_enter Tryz.func136, Tryz.ntmps136
  go_wp2
  go_ret
  exact ⟨rfl, hb⟩

/-- A draft's volume is there. -/
theorem dvol_first {ts : List Vol} {id : Int} {k : Nat} (hk : k < ts.length) (he : ts[k].id = id) (hl : ∀ j, (h : j < ts.length) → j < k → ts[j].id ≠ id) : FirstAt (fun j => decide (∃ h : j < ts.length, ts[j].id = id)) ts.length k :=
  .inr ⟨k, hk, rfl, decide_eq_true ⟨hk, he⟩, fun j hj => decide_eq_false fun ⟨h, e⟩ => hl j h hj e⟩
theorem dvol_none {ts : List Vol} {id : Int} (hl : ∀ j, (h : j < ts.length) → ts[j].id ≠ id) : FirstAt (fun j => decide (∃ h : j < ts.length, ts[j].id = id)) ts.length (-1) :=
  .inl ⟨rfl, fun j _ => decide_eq_false fun ⟨h, e⟩ => hl j h e⟩
theorem dvol_call (A : Option Addr) (c : Nat) (ts : List Vol) (id r : Int) (w : World) (hN : ts.length ≤ 9223372036854775807) (h : VolsAt w w.heap.size A ts) (hr : FirstAt (fun j => decide (∃ h : j < ts.length, ts[j].id = id)) ts.length r) (q : Nat) (hq : w.cell? ⟨q, 0, none⟩ = some (.int .i64 id)) :
    Calls Tryz.prog 135 #[.slice A ts.length c, .func (.func 136) #[] #[.pointer (some ⟨q, 0, none⟩)]] w fun e w' => e = .returned (.int .i64 r) ∧ Below w.heap.size w w' := by
  refine indexV_any A c ts _ r 136 #[.pointer (some ⟨q, 0, none⟩)] w hN h hr (fun args w => by kernel_rfl) fun k hk W hb => ?_
  have h1 := vol1_any ts[k] id q W ((hb.cell (p := ⟨q, 0, none⟩) (World.block_lt_of_cell? w _ hq)).trans hq)
  have e : decide (∃ h : k < ts.length, ts[k].id = id) = decide (ts[k].id = id) := by
    rw [Bool.eq_iff_iff, decide_eq_true_iff, decide_eq_true_iff]
    exact ⟨fun ⟨_, e⟩ => e, fun e => ⟨hk, e⟩⟩
  rw [e]
  exact h1

set_option maxHeartbeats 1600000 in
/-- A draft's 'volume', of one that is there. -/
theorem dvol_yes (p : Nat) (b off c : Nat) (ts : List Vol) (id : Int) (k : Nat) (w : World) (hp : w.cell? ⟨p, 1, none⟩ = some (.slice (some ⟨b, off, none⟩) ts.length c)) (hN : ts.length ≤ 9223372036854775807) (h : VolsAt w w.heap.size (some ⟨b, off, none⟩) ts)
    (hk : k < ts.length) (he : ts[k].id = id) (hl : ∀ j, (h : j < ts.length) → j < k → ts[j].id ≠ id) :
    Calls Tryz.prog 99 #[.pointer (some ⟨p, 0, none⟩), .int .i64 id] w fun e w' => e = .returned (.pointer (some ⟨b, off + k * 4, none⟩)) ∧ Below w.heap.size w w' := by
  have hb0 : Below w.heap.size w (w.alloc (.cells #[.int .i64 id] 3)) := (Below.refl _ _).alloc (Nat.le_refl _) _
  have hpl := World.block_lt_of_cell? w _ hp
  have H1 := Lib.hid (dvol_call (some ⟨b, off, none⟩) c ts id k (w.alloc (.cells #[.int .i64 id] 3)) hN ((h.below hb0).more hb0.size) (dvol_first hk he hl) w.heap.size (by rw [cell_of_row _ _ _ _ _ _ (heap_alloc_new w (.cells #[.int .i64 id] 3))]; rfl))
  have HP : Hid (∀ X, Below (w.alloc (.cells #[.int .i64 id] 3)).heap.size (w.alloc (.cells #[.int .i64 id] 3)) X → X.cell? ⟨p, 1, none⟩ = some (.slice (some ⟨b, off, none⟩) ts.length c)) := fun X hb => ((chain hb0 hb).cell (p := ⟨p, 1, none⟩) hpl).trans hp
  have hp1 := HP.out _ (Below.refl _ _)
  obtain ⟨N, hNN⟩ : ∃ N, N = ts.length := ⟨_, rfl⟩
  rw [← hNN] at H1 HP hp1 hN hk
  have k1 : (k : Int) < (N : Int) := by omega
  have k0 : ¬ (k : Int) < 0 := by omega
  clear h hl he hp hNN
  go_enter Tryz.func99, Tryz.ntmps99
  go_wp2_with (go_at_call 135; with_reducible (refine Calls.mono H1.out ?_); rintro e w2 ⟨rfl, hb2⟩; have hp2 := HP.out _ hb2)
  go_ret
  exact ⟨rfl, chain hb0 hb2⟩
set_option maxHeartbeats 1600000 in
/-- A draft's 'volume', of one that is not. -/
theorem dvol_no (p : Nat) (A : Option Addr) (c : Nat) (ts : List Vol) (id : Int) (w : World) (hp : w.cell? ⟨p, 1, none⟩ = some (.slice A ts.length c)) (hN : ts.length ≤ 9223372036854775807) (h : VolsAt w w.heap.size A ts)
    (hl : ∀ j, (h : j < ts.length) → ts[j].id ≠ id) :
    Calls Tryz.prog 99 #[.pointer (some ⟨p, 0, none⟩), .int .i64 id] w fun e w' => e = .returned (.pointer none) ∧ Below w.heap.size w w' := by
  have hb0 : Below w.heap.size w (w.alloc (.cells #[.int .i64 id] 3)) := (Below.refl _ _).alloc (Nat.le_refl _) _
  have hpl := World.block_lt_of_cell? w _ hp
  have H1 := Lib.hid (dvol_call A c ts id (-1) (w.alloc (.cells #[.int .i64 id] 3)) hN ((h.below hb0).more hb0.size) (dvol_none hl) w.heap.size (by rw [cell_of_row _ _ _ _ _ _ (heap_alloc_new w (.cells #[.int .i64 id] 3))]; rfl))
  have hp1 : (w.alloc (.cells #[.int .i64 id] 3)).cell? ⟨p, 1, none⟩ = some (.slice A ts.length c) := (hb0.cell (p := ⟨p, 1, none⟩) hpl).trans hp
  obtain ⟨N, hNN⟩ : ∃ N, N = ts.length := ⟨_, rfl⟩
  rw [← hNN] at H1 hp1 hN
  clear h hl hp hNN
  go_enter Tryz.func99, Tryz.ntmps99
  go_wp2_with (go_at_call 135; with_reducible (refine Calls.mono H1.out ?_); rintro e w2 ⟨rfl, hb2⟩)
  go_ret
  exact ⟨rfl, chain hb0 hb2⟩


set_option maxHeartbeats 800000 in
/-- 'slices.ContainsFunc' of volumes. -/
theorem containsV_any (A : Option Addr) (c : Nat) (ts : List Vol) (P : Nat → Bool) (fn : FuncId) (cb : Array Value) (w : World) (hN : ts.length ≤ 9223372036854775807) (h : VolsAt w w.heap.size A ts)
    (he : ∀ args w, (callFunc fn args).run Tryz.prog w = .ok (.enter fn args) w) (hc : ∀ k (hk : k < ts.length) W, Below w.heap.size w W → Calls Tryz.prog fn (#[.agg (volV ts[k])] ++ cb) W fun e w' => e = .returned (.bool (P k)) ∧ Below W.heap.size W w') :
    Calls Tryz.prog 133 #[.slice A ts.length c, .func (.func fn) #[] cb] w fun e w' => e = .returned (.bool ((List.range ts.length).any P)) ∧ Below w.heap.size w w' := by
  obtain ⟨r, hr⟩ := first_at P ts.length
  have HI := Lib.hid (indexV_any A c ts P r fn cb w hN h hr he hc)
  rw [← hr.any]
  obtain ⟨N, hNN⟩ : ∃ N, N = ts.length := ⟨_, rfl⟩
  rw [← hNN] at HI ⊢
  clear h he hc hNN hr hN
  go_enter Tryz.func133, Tryz.ntmps133
  go_wp2_with (go_at_call 135; with_reducible (refine Calls.mono HI.out ?_); rintro e w2 ⟨rfl, hb2⟩)
  go_ret
  exact ⟨rfl, hb2⟩

set_option maxHeartbeats 800000 in
theorem hasv1_any (x : Vol) (id : Int) (q : Nat) (w : World) (hq : w.cell? ⟨q, 0, none⟩ = some (.int .i64 id)) :
    Calls Tryz.prog 134 (#[.agg (volV x)] ++ #[.pointer (some ⟨q, 0, none⟩)]) w fun e w' => e = .returned (.bool (decide (x.ten = id))) ∧ Below w.heap.size w w' := by
  show Calls Tryz.prog 134 #[.agg (volV x), .pointer (some ⟨q, 0, none⟩)] w _
  obtain ⟨p0, p1, p2, p3⟩ := x
  simp only [volV]
  have hb : Below w.heap.size w (w.alloc (.cells #[.int .i64 p0, .int .i64 p1, .int .i64 p2, .int .i64 p3] 82)) := (Below.refl _ _).alloc (Nat.le_refl _) _
  have hq2 : (w.alloc (.cells #[.int .i64 p0, .int .i64 p1, .int .i64 p2, .int .i64 p3] 82)).cell? ⟨q, 0, none⟩ = some (.int .i64 id) := (hb.cell (p := ⟨q, 0, none⟩) (World.block_lt_of_cell? w _ hq)).trans hq
  have e : (p1 == id) = decide (p1 = id) := by rw [Bool.eq_iff_iff]; simp
  go_enter Tryz.func134, Tryz.ntmps134
  go_wp2
  go_ret
  exact ⟨rfl, hb⟩


set_option maxHeartbeats 1600000 in
/-- 'hasVolume'. -/
theorem hasv_any (p : Nat) (A : Option Addr) (c : Nat) (vs : List Vol) (id : Int) (w : World) (hp : w.cell? ⟨p, 1, none⟩ = some (.slice A vs.length c)) (hN : vs.length ≤ 9223372036854775807) (h : VolsAt w w.heap.size A vs) :
    Calls Tryz.prog 96 #[.pointer (some ⟨p, 0, none⟩), .int .i64 id] w fun e w' => e = .returned (.bool (decide (hasV vs id))) ∧ Below w.heap.size w w' := by
  have hb0 : Below w.heap.size w (w.alloc (.cells #[.int .i64 id] 3)) := (Below.refl _ _).alloc (Nat.le_refl _) _
  have hpl := World.block_lt_of_cell? w _ hp
  have hq : (w.alloc (.cells #[.int .i64 id] 3)).cell? ⟨w.heap.size, 0, none⟩ = some (.int .i64 id) := by rw [cell_of_row _ _ _ _ _ _ (heap_alloc_new w (.cells #[.int .i64 id] 3))]; rfl
  have H1 := Lib.hid (containsV_any A c vs (fun k => decide (∃ h : k < vs.length, vs[k].ten = id)) 134 #[.pointer (some ⟨w.heap.size, 0, none⟩)] (w.alloc (.cells #[.int .i64 id] 3)) hN ((h.below hb0).more hb0.size) (fun args w => by kernel_rfl)
    (fun k hk W hb => by
      have h1 := hasv1_any vs[k] id w.heap.size W ((hb.cell (p := ⟨w.heap.size, 0, none⟩) (World.block_lt_of_cell? _ _ hq)).trans hq)
      have e : decide (∃ h : k < vs.length, vs[k].ten = id) = decide (vs[k].ten = id) := by
        rw [Bool.eq_iff_iff, decide_eq_true_iff, decide_eq_true_iff]
        exact ⟨fun ⟨_, e⟩ => e, fun e => ⟨hk, e⟩⟩
      rw [e]; exact h1))
  have e : (List.range vs.length).any (fun k => decide (∃ h : k < vs.length, vs[k].ten = id)) = decide (hasV vs id) := by
    rw [Bool.eq_iff_iff, decide_eq_true_iff, List.any_eq_true]
    constructor
    · rintro ⟨k, _, hk⟩
      obtain ⟨hk, e⟩ := of_decide_eq_true hk
      exact ⟨vs[k], List.getElem_mem hk, e⟩
    · rintro ⟨v, hv, e⟩
      obtain ⟨k, hk, rfl⟩ := List.getElem_of_mem hv
      exact ⟨k, List.mem_range.2 hk, decide_eq_true ⟨hk, e⟩⟩
  rw [e] at H1
  have hp1 : (w.alloc (.cells #[.int .i64 id] 3)).cell? ⟨p, 1, none⟩ = some (.slice A vs.length c) := (hb0.cell (p := ⟨p, 1, none⟩) hpl).trans hp
  obtain ⟨N, hNN⟩ : ∃ N, N = vs.length := ⟨_, rfl⟩
  obtain ⟨b, hb⟩ : ∃ b, b = decide (hasV vs id) := ⟨_, rfl⟩
  rw [← hNN] at H1 hp1
  rw [← hb] at H1 ⊢
  clear h hp hNN hN e hq hb
  go_enter Tryz.func96, Tryz.ntmps96
  go_wp2_with (go_at_call 133; with_reducible (refine Calls.mono H1.out ?_); rintro e w2 ⟨rfl, hb2⟩)
  go_ret
  exact ⟨rfl, chain hb0 hb2⟩

set_option maxHeartbeats 1600000 in
set_option maxRecDepth 20000 in
/-- 'quotas'. -/
theorem dquotas_any (p : Nat) (A : Option Addr) (c : Nat) (ts : List Ten) (w : World) (hp : w.cell? ⟨p, 0, none⟩ = some (.slice A ts.length c)) (h : TensAt w w.heap.size A ts) (h64 : ts.length ≤ 64) (hq : ∀ x ∈ ts, 1 ≤ x.quota ∧ x.quota ≤ 64) :
    Calls Tryz.prog 92 #[.pointer (some ⟨p, 0, none⟩)] w fun e w' => e = .returned (.int .i64 (sumQ ts)) ∧ Below w.heap.size w w' := by
  have HT : Hid (∀ X, Below w.heap.size w X → TensAt X w.heap.size A ts) := fun X hb => h.below hb
  have HQ := Lib.hid (sumQ_small hq)
  have HQ1 : Hid (∀ k, (h : k < ts.length) → 1 ≤ ts[k].quota ∧ ts[k].quota ≤ 64) := fun k h => hq _ (List.getElem_mem h)
  have HST : Hid (∀ k, (h : k < ts.length) → sumQ (ts.take (k + 1)) = sumQ (ts.take k) + ts[k].quota) := fun k hk => sumQ_take hk
  have HEN : Hid (sumQ (ts.take ts.length) = sumQ ts) := by show sumQ (ts.take ts.length) = _; rw [List.take_length]
  obtain ⟨N, hN⟩ : ∃ N, N = ts.length := ⟨_, rfl⟩
  have HN := Lib.hid hN
  rw [← hN] at hp HEN h64
  clear h hN hq
  go_enter Tryz.func92, Tryz.ntmps92
  go_wp2
  go_loopw [3, 12] (fun n i wr => ∃ (k : Nat) (c : Int), k ≤ N ∧ i = .int .i64 k ∧ n = .int .i64 c ∧ Hid (c = sumQ (ts.take k)) ∧ Hid (Below w.heap.size w wr)) (fun _ i _ => N - (intOf i).toNat)
  case atStart => exact ⟨0, 0, Nat.zero_le _, rfl, rfl, rfl, Below.refl _ _⟩
  case round =>
    obtain ⟨k, c, hk, rfl, rfl, hc, hB⟩ := hrel
    have k0 : (0 : Int) ≤ (k : Int) := by omega
    have hck : 0 ≤ c ∧ c ≤ 64 * k := by rw [hc.out]; exact HQ.out k
    obtain ⟨hc0, hc1⟩ := hck
    clear hp
    by_cases hlt : k < N
    · have k1 : (k : Int) < (N : Int) := by omega
      have hkx : k < ts.length := by have := HN.out; omega
      obtain ⟨b, off, rfl, _, q0, q1, q2, q3, q4, q5⟩ := HT.out wr hB.out k hkx
      have hst := HST.out k hkx
      have hq1 := HQ1.out k hkx
      obtain ⟨x, hx⟩ : ∃ x, x = ts[k] := ⟨_, rfl⟩
      rw [← hx] at q0 q1 q2 q3 q4 q5 hst hq1
      clear hx HT HQ HQ1 HST HEN
      obtain ⟨p0, p1, p2, p3, p4, p5⟩ := x
      simp only at q0 q1 q2 q3 q4 q5 hst hq1
      have HC : Hid (c + p1 = sumQ (ts.take (k + 1))) := by rw [hst]; exact congrArg (· + p1) hc.out
      have v : IntKind.i64.wrap (c + p1) = c + p1 := IntWalk.i64_in _ (by omega)
      have R : Hid (Below w.heap.size w (wr.alloc (.cells #[.int .i64 p0, .int .i64 p1, .int .i64 p2, .int .i64 p3, .string p4, .bool p5] 52))) := hB.out.alloc hB.out.size _
      clear hst hB
      go_wp2
      go_roundw
      case rel => exact ⟨k + 1, c + p1, by omega, by go_num, by first | rfl | go_num, HC, R⟩
      case measure => first | (simp [intOf]; done) | (simp [intOf]; omega)
    · have hkN : k = N := by omega
      have HE : Hid (c = sumQ ts) := by rw [hc.out, hkN]; exact HEN.out
      have k1 : ¬ (k : Int) < (N : Int) := by omega
      clear hkN
      go_wp2
      go_ret
      exact ⟨by rw [← HE.out]; rfl, hB.out⟩

end Go.Proofs.YtbnhkplhmanmoaaGreat
