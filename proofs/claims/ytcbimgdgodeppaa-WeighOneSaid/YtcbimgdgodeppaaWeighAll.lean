/-
  WeighAll, from what is asked of weigh's calls.
-/
import Derived.Test.YtcbimgdgodeppaaWeighSpec
import Derived.Test.YtcbimgdgodeppaaWeighFacts
namespace Go.Proofs.Ytcbimgdgodeppaa
open Go.RowKit

theorem shared_none {total : Int} {bs : List Nat} (h : (shareR total bs).1 ≠ 0) : (shareR total bs).2 = [] := by
  unfold shareR at h ⊢
  split
  · rfl
  · rename_i h1
    rw [if_neg h1] at h
    split
    · rfl
    · rename_i h2
      rw [if_neg h2] at h; exact absurd rfl h
theorem shared_err (total : Int) (bs : List Nat) : (shareR total bs).1 = 0 ∨ (shareR total bs).1 = 1 ∨ (shareR total bs).1 = 4 := by
  unfold shareR
  split
  · exact Or.inr (Or.inl rfl)
  · split
    · exact Or.inr (Or.inr rfl)
    · exact Or.inl rfl

theorem sumF_part {f : Nat → Int} : ∀ (n k : Nat), k ≤ n → (∀ i, i < n → 0 ≤ f i) → sumF f k ≤ sumF f n
  | 0, k, hk, _ => by obtain rfl : k = 0 := by omega
                      exact Int.le_refl _
  | n + 1, k, hk, h => by
    by_cases e : k = n + 1
    · subst e; exact Int.le_refl _
    · have h1 := sumF_part n k (by omega) (fun i hi => h i (by omega))
      have h2 := h n (by omega)
      show sumF f k ≤ sumF f n + f n
      omega
theorem sumF_step (f : Nat → Int) (n : Nat) : sumF f (n + 1) = sumF f n + f n := rfl
theorem shared_top {total : Int} {bs : List Nat} (h : (shareR total bs).1 = 0) : total ≤ 1048576 := by
  unfold shareR at h
  by_cases h1 : total < 0 ∨ total > 1048576 ∨ bs.length = 0 ∨ bs.length > 4096
  · rw [if_pos h1] at h; exact absurd h (by decide)
  · omega
/-- What the loops meet. -/
theorem all_met {total : Int} {l : List Nat} (ht : total ≤ 1048576) {L : List Int} (hs : sumF (fun i => L.getD i 0) l.length = total) (hn : ∀ i, i < l.length → 0 ≤ L.getD i 0) {k : Nat} (hk : k < l.length) :
    0 ≤ sumF (fun i => L.getD i 0) k ∧ sumF (fun i => L.getD i 0) k + L.getD k 0 ≤ 1048576 ∧ 0 ≤ L.getD k 0 ∧ L.getD k 0 ≤ 1048576 := by
  have h1 := sumF_part l.length (k + 1) (by omega) hn
  rw [sumF_step, hs] at h1
  have h2 := sumF_nonneg (f := fun i => L.getD i 0) k (fun i hi => hn i (by omega))
  have h3 := hn k hk
  exact ⟨h2, by omega, h3, by omega⟩

theorem order_met {l : List Nat} {L : List Int} (htl : ∀ b ∈ l, b < 18446744073709551616) (hn : ∀ i, i < l.length → 0 ≤ L.getD i 0) (hz : ∀ i, i < l.length → posN (l.getD i 0) = false → L.getD i 0 = 0)
    (ho : ∀ i k, i < l.length → k < l.length → posN (l.getD k 0) = true → l.getD k 0 ≤ l.getD i 0 → l.getD i 0 ≤ infBits → L.getD k 0 ≤ L.getD i 0 + 1) {i k : Nat} (hi : i < l.length) (hk : k < l.length)
    (h : FloatKind.f64.format.order (l.getD i 0) (l.getD k 0) = some .gt) : L.getD k 0 ≤ L.getD i 0 + 1 := by
  have h0 := hn i hi
  cases hp : posN (l.getD k 0)
  · rw [hz k hk hp]; omega
  · have hm : l.getD i 0 < 18446744073709551616 := htl _ (by rw [List.getD_eq_getElem?_getD, List.getElem?_eq_getElem hi]; exact List.getElem_mem hi)
    obtain ⟨h1, h2⟩ := order_gt hm hp h
    refine ho i k hi hk hp h2 ?_
    unfold posN at h1
    simp only [Bool.and_eq_true, decide_eq_true_eq] at h1
    exact h1.2

set_option maxHeartbeats 800000 in
set_option maxRecDepth 20000 in
/-- WeighAll. -/
theorem weighAll_go (total : Int) (A : Option Addr) (c : Nat) (bs : List Nat) (w : World) (HS : WeighSpec w) (ht : -9223372036854775808 ≤ total ∧ total ≤ 9223372036854775807) (h : Ints w w.heap.size .u64 A (up bs)) (hlt : ∀ b ∈ bs, b < 18446744073709551616) :
    Calls Try.prog 5 #[.int .i64 total, .slice A bs.length c] w fun e w' => e = .returned (.bool true) ∧ Below w.heap.size w w' := by
  have HA := Lib.hid (weighAwake HS)
  have HF := Lib.hid (floats_any A c bs w h)
  have htl := take_lt hlt 200
  have hl2 := take_len bs
  have HU := Lib.hid (fun (W : World) (A' : Option Addr) (c' : Nat) (hw : Below w.heap.size w W) (hf : Flts W W.heap.size A' (bs.take 200)) (hc : (bs.take 200).length ≤ c') => HS.share total A' c' (bs.take 200) W hw ht hf htl hc (by omega))
  have HTOP := Lib.hid (shared_top (total := total) (bs := bs.take 200))
  have HALL := Lib.hid (shared_all (total := total) (bs := bs.take 200))
  have HNO := Lib.hid (shared_none (total := total) (bs := bs.take 200))
  have hE3 := shared_err total (bs.take 200)
  obtain ⟨l, hl⟩ : ∃ l, l = bs.take 200 := ⟨_, rfl⟩
  simp only [← hl] at HF HU hl2 HALL HTOP HNO htl hE3
  obtain ⟨E, hE⟩ : ∃ E, E = (shareR total l).1 := ⟨_, rfl⟩
  obtain ⟨L, hL⟩ : ∃ E, E = (shareR total l).2 := ⟨_, rfl⟩
  simp only [← hE, ← hL] at HU HALL HTOP HNO hE3
  have HTL := Lib.hid htl
  clear hl hE hL h htl hlt HS
  rcases hE3 with rfl | rfl | rfl
  rotate_left
  · obtain rfl := HNO.out (by decide)
    go_enter Try.func5, Try.ntmps5
    go_wp2_with (first
      | (go_at_call 10; with_reducible (refine Calls.mono HF.out ?_); rintro e w1 ⟨A1, c1, rfl, hc1, hf1, hbx⟩)
      | (go_at_call 15; with_reducible (refine Calls.mono (HU.out _ _ _ hbx hf1 hc1) ?_); rintro e w3 ⟨A3, c3, rfl, hc3, hi3, hb3⟩; replace hbx := chain hbx hb3)
      | (go_at_call 11; with_reducible (refine Calls.mono (HA.out _ hbx) ?_); rintro e w2 ⟨rfl, hb2⟩; replace hbx := chain hbx hb2))
    go_ret
    exact ⟨rfl, hbx⟩
  · obtain rfl := HNO.out (by decide)
    go_enter Try.func5, Try.ntmps5
    go_wp2_with (first
      | (go_at_call 10; with_reducible (refine Calls.mono HF.out ?_); rintro e w1 ⟨A1, c1, rfl, hc1, hf1, hbx⟩)
      | (go_at_call 15; with_reducible (refine Calls.mono (HU.out _ _ _ hbx hf1 hc1) ?_); rintro e w3 ⟨A3, c3, rfl, hc3, hi3, hb3⟩; replace hbx := chain hbx hb3)
      | (go_at_call 11; with_reducible (refine Calls.mono (HA.out _ hbx) ?_); rintro e w2 ⟨rfl, hb2⟩; replace hbx := chain hbx hb2))
    go_ret
    exact ⟨rfl, hbx⟩
  obtain ⟨ht0, hLl, hsum, hnn, hno, hord⟩ := HALL.out rfl
  rw [hLl] at HU
  have HLL := Lib.hid hLl
  have HSUM := Lib.hid hsum
  have HNN := Lib.hid hnn
  have HZ := Lib.hid hno
  have HORD := Lib.hid hord
  have HOM := Lib.hid (fun i k (hi : i < l.length) (hk : k < l.length) => order_met HTL.out hnn hno hord hi hk)
  have HM := Lib.hid (fun k => all_met (k := k) (HTOP.out rfl) hsum hnn)
  clear hLl hsum hnn hno hord HALL HNO HTOP ht0
  go_enter Try.func5, Try.ntmps5
  go_wp2_with (first
    | (go_at_call 10; with_reducible (refine Calls.mono HF.out ?_); rintro e w1 ⟨A1, c1, rfl, hc1, hf1, hbx⟩)
    | (go_at_call 15; with_reducible (refine Calls.mono (HU.out _ _ _ hbx hf1 hc1) ?_); rintro e w3 ⟨A3, c3, rfl, hc3, hi3, hb3⟩; have hf3 := (hf1.below hb3).more hb3.size; replace hbx := chain hbx hb3)
    | (go_at_call 11; with_reducible (refine Calls.mono (HA.out _ hbx) ?_); rintro e w2 ⟨rfl, hb2⟩; have hf4 := (hf3.below hb2).more hb2.size; have hi4 := (hi3.below hb2).more hb2.size; replace hbx := chain hbx hb2))
  have HI4 : Hid (∀ m i, i < l.length → ∃ b0 o0 b1 o1, A1 = some ⟨b0, o0, none⟩ ∧ A3 = some ⟨b1, o1, none⟩ ∧ (w2.drewN m).cell? ⟨b0, o0 + i, none⟩ = some (.float .f64 (l.getD i 0)) ∧ (w2.drewN m).cell? ⟨b1, o1 + i, none⟩ = some (.int .i64 (L.getD i 0))) := fun m i hi => by
    obtain ⟨b0, o0, e0, _, q0⟩ := hf4 i hi
    obtain ⟨b1, o1, e1, _, q1⟩ := hi4 i (by rw [HLL.out]; exact hi)
    exact ⟨b0, o0, b1, o1, e0, e1, q0, q1⟩
  have HBX := Lib.hid hbx
  clear hf1 hf3 hf4 hi3 hi4 hbx hb3 hb2
  go_loopw [8, 9] (fun sv i wr => ∃ k m : Nat, k ≤ l.length ∧ sv = .int .i64 (sumF (fun i => L.getD i 0) k) ∧ i = .int .i64 k ∧ wr = w2.drewN m) (fun _ i _ => l.length - (intOf i).toNat)
  case atStart => exact ⟨0, 0, Nat.zero_le _, rfl, rfl, rfl⟩
  case round =>
    obtain ⟨k, m, hk, hsv, rfl, hwm⟩ := hrel
    by_cases hlt : k < l.length
    · obtain ⟨b0, o0, b1, o1, e5, e6, q0, q1⟩ := HI4.out m k hlt
      subst e5 e6
      have HI5 := Lib.hid (fun (m i : Nat) (hi : i < l.length) => (by
        obtain ⟨b2, o2, b3, o3, e2, e3, r0, r1⟩ := HI4.out m i hi
        injection e2 with e2; injection e2 with e2 e4; subst e2 e4
        injection e3 with e3; injection e3 with e3 e5; subst e3 e5
        exact ⟨r0, r1⟩ : (w2.drewN m).cell? ⟨b0, o0 + i, none⟩ = some (.float .f64 (l.getD i 0)) ∧ (w2.drewN m).cell? ⟨b1, o1 + i, none⟩ = some (.int .i64 (L.getD i 0))))
      rw [← hwm] at q0 q1
      have HWM := Lib.hid hwm
      obtain ⟨n0, n1, n2, n3⟩ := HM.out k hlt
      have hstep := sumF_step (fun i => L.getD i 0) k
      have hz := HZ.out k hlt
      have hpx := order_pos (b := l.getD k 0) (HTL.out _ (by rw [List.getD_eq_getElem?_getD, List.getElem?_eq_getElem hlt]; exact List.getElem_mem hlt))
      obtain ⟨y, hy⟩ : ∃ y, y = L.getD k 0 := ⟨_, rfl⟩
      obtain ⟨x, hx⟩ : ∃ x, x = l.getD k 0 := ⟨_, rfl⟩
      obtain ⟨s, hs⟩ : ∃ s, s = sumF (fun i => L.getD i 0) k := ⟨_, rfl⟩
      simp only [← hy, ← hx, ← hs] at q0 q1 n0 n1 n2 n3 hstep hz hpx hsv
      subst hsv
      have HST := Lib.hid hstep
      have HXY := Lib.hid (And.intro hy hx)
      have k1 : (k : Int) < (l.length : Int) := by omega
      have k0 : (0 : Int) ≤ (k : Int) := by omega
      clear hwm hstep hy hx hs
      cases hp : posN x
      · obtain rfl : y = 0 := hz hp
        have hq : (FloatKind.f64.format.order x 0 == some .gt) = false := hpx.trans hp
        clear hz hpx hp
        go_wp2
        go_loopw [10] (fun i wr => ∃ kk m : Nat, kk ≤ l.length ∧ i = .int .i64 kk ∧ wr = w2.drewN m) (fun i _ => l.length - (intOf i).toNat)
        case atStart => exact ⟨0, _, Nat.zero_le _, rfl, HWM.out⟩
        case round =>
          obtain ⟨kk, m, hkk, rfl, hwm⟩ := hrel
          by_cases hlt2 : kk < l.length
          · obtain ⟨q0, q1⟩ := HI5.out m k hlt
            obtain ⟨r0, r1⟩ := HI5.out m kk hlt2
            have hom := HOM.out k kk hlt hlt2
            rw [← HXY.out.1, ← HXY.out.2] at hom
            rw [← hwm, ← HXY.out.2] at q0
            rw [← hwm, ← HXY.out.1] at q1
            rw [← hwm] at r0 r1
            have HWM := Lib.hid hwm
            obtain ⟨y1, hy1⟩ : ∃ y, y = L.getD kk 0 := ⟨_, rfl⟩
            obtain ⟨x1, hx1⟩ : ∃ x, x = l.getD kk 0 := ⟨_, rfl⟩
            rw [← hx1] at r0 hom
            rw [← hy1] at r1 hom
            have kk1 : (kk : Int) < (l.length : Int) := by omega
            have kk0 : (0 : Int) ≤ (kk : Int) := by omega
            clear hy1 hx1 hwm
            by_cases hg : FloatKind.f64.format.order x x1 = some .gt
            · have hyy := hom hg
              clear hom
              go_wp2
              go_quiet (fail)
              go_wp2
              go_roundw
              case rel => first | exact ⟨kk + 1, m + nq, by omega, by go_num, by rw [HWM.out, World.drewN_drewN]⟩ | ((repeat apply Exists.intro); exact ⟨⟨kk + 1, m + nq, by omega, by go_num, by rw [HWM.out, World.drewN_drewN]⟩, rfl⟩)
              case measure => simp [intOf]; omega
            · clear hom
              go_wp2
              go_quiet (fail)
              go_wp2
              go_roundw
              case rel => first | exact ⟨kk + 1, m + nq, by omega, by go_num, by rw [HWM.out, World.drewN_drewN]⟩ | ((repeat apply Exists.intro); exact ⟨⟨kk + 1, m + nq, by omega, by go_num, by rw [HWM.out, World.drewN_drewN]⟩, rfl⟩)
              case measure => simp [intOf]; omega
          · have HWM := Lib.hid hwm
            clear hwm
            go_wp2
            go_roundw
            case rel => first | exact ⟨k + 1, m, by omega, by rw [HST.out]; try rw [Int.add_zero], by go_num, HWM.out⟩ | ((repeat apply Exists.intro); exact ⟨⟨k + 1, m, by omega, by rw [HST.out]; try rw [Int.add_zero], by go_num, HWM.out⟩, rfl⟩)
            case measure => simp [intOf]; omega
      · have hq : (FloatKind.f64.format.order x 0 == some .gt) = true := hpx.trans hp
        clear hz hpx hp
        go_wp2
        go_loopw [10] (fun i wr => ∃ kk m : Nat, kk ≤ l.length ∧ i = .int .i64 kk ∧ wr = w2.drewN m) (fun i _ => l.length - (intOf i).toNat)
        case atStart => exact ⟨0, _, Nat.zero_le _, rfl, HWM.out⟩
        case round =>
          obtain ⟨kk, m, hkk, rfl, hwm⟩ := hrel
          by_cases hlt2 : kk < l.length
          · obtain ⟨q0, q1⟩ := HI5.out m k hlt
            obtain ⟨r0, r1⟩ := HI5.out m kk hlt2
            have hom := HOM.out k kk hlt hlt2
            rw [← HXY.out.1, ← HXY.out.2] at hom
            rw [← hwm, ← HXY.out.2] at q0
            rw [← hwm, ← HXY.out.1] at q1
            rw [← hwm] at r0 r1
            have HWM := Lib.hid hwm
            obtain ⟨y1, hy1⟩ : ∃ y, y = L.getD kk 0 := ⟨_, rfl⟩
            obtain ⟨x1, hx1⟩ : ∃ x, x = l.getD kk 0 := ⟨_, rfl⟩
            rw [← hx1] at r0 hom
            rw [← hy1] at r1 hom
            have kk1 : (kk : Int) < (l.length : Int) := by omega
            have kk0 : (0 : Int) ≤ (kk : Int) := by omega
            clear hy1 hx1 hwm
            by_cases hg : FloatKind.f64.format.order x x1 = some .gt
            · have hyy := hom hg
              clear hom
              go_wp2
              go_quiet (fail)
              go_wp2
              go_roundw
              case rel => first | exact ⟨kk + 1, m + nq, by omega, by go_num, by rw [HWM.out, World.drewN_drewN]⟩ | ((repeat apply Exists.intro); exact ⟨⟨kk + 1, m + nq, by omega, by go_num, by rw [HWM.out, World.drewN_drewN]⟩, rfl⟩)
              case measure => simp [intOf]; omega
            · clear hom
              go_wp2
              go_quiet (fail)
              go_wp2
              go_roundw
              case rel => first | exact ⟨kk + 1, m + nq, by omega, by go_num, by rw [HWM.out, World.drewN_drewN]⟩ | ((repeat apply Exists.intro); exact ⟨⟨kk + 1, m + nq, by omega, by go_num, by rw [HWM.out, World.drewN_drewN]⟩, rfl⟩)
              case measure => simp [intOf]; omega
          · have HWM := Lib.hid hwm
            clear hwm
            go_wp2
            go_roundw
            case rel => first | exact ⟨k + 1, m, by omega, by rw [HST.out]; try rw [Int.add_zero], by go_num, HWM.out⟩ | ((repeat apply Exists.intro); exact ⟨⟨k + 1, m, by omega, by rw [HST.out]; try rw [Int.add_zero], by go_num, HWM.out⟩, rfl⟩)
            case measure => simp [intOf]; omega
    · have hk8 : k = l.length := by omega
      subst hk8
      rw [HSUM.out] at hsv
      subst hsv
      have HWM := Lib.hid hwm
      clear hwm
      go_wp2
      go_ret
      exact ⟨rfl, by rw [HWM.out]; exact below_drewN HBX.out m⟩
end Go.Proofs.Ytcbimgdgodeppaa
