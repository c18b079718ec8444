/-
  The document's own: what one more brings, what shares bring (stowageref12).
-/
import Derived.Test.YtnpdffcplgjbnaaSolveAsk
namespace Go.Proofs.Ytnpdffcplgjbnaa
open Go.RowKit

theorem atN_bounds {c : List Int} (h : soundL c = true) (z : Int) : 0 ≤ atN c z ∧ atN c z ≤ 4503599627370496 := by
  have hl := ((soundL_iff c).mp h).1
  unfold atN
  split
  · omega
  · split
    · exact sound_bounds h (by omega)
    · exact sound_bounds h (by omega)
/-- What one more brings. -/
def gainC (c : List Int) (z : Int) : Int := atN c (z + 1) - atN c z

set_option maxHeartbeats 800000 in
/-- 'gain'. -/
theorem refGain_any (A : Option Addr) (n : Nat) (c : List Int) (z : Int) (w : World) (h : Ints w w.heap.size .i64 A c) (hs : soundL c = true) (h0 : 0 ≤ z) (h1 : z ≤ 1048576) :
    Calls Try.prog 25 #[.slice A c.length n, .int .i64 z] w fun e w' => e = .returned (.int .i64 (gainC c z)) ∧ w = w' := by
  have hm : c.length ≤ 9223372036854775807 := by have := ((soundL_iff c).mp hs).2.1; omega
  have HA0 : Hid (∀ y, Calls Try.prog 19 #[.slice A c.length n, .int .i64 y] w fun e w' => e = .returned (.int .i64 (atN c y)) ∧ w = w') := fun y => refAt_any A n c y w h hm
  have b1 := atN_bounds hs (z + 1)
  have b0 := atN_bounds hs z
  have e : gainC c z = atN c (z + 1) - atN c z := rfl
  rw [e]
  obtain ⟨G, hG⟩ : ∃ G, G = atN c := ⟨_, rfl⟩
  rw [← hG] at HA0 b1 b0 ⊢
  obtain ⟨x, hx⟩ : ∃ x, x = G z := ⟨_, rfl⟩
  obtain ⟨y, hy⟩ : ∃ y, y = G (z + 1) := ⟨_, rfl⟩
  rw [← hx] at b0
  rw [← hy] at b1
  obtain ⟨N, hN⟩ : ∃ N, N = c.length := ⟨_, rfl⟩
  rw [← hN] at HA0 ⊢
  have x0 := b0.1
  have x1 := b0.2
  have y0 := b1.1
  have y1 := b1.2
  have HX := Lib.hid hx
  have HY := Lib.hid hy
  rw [← hx, ← hy]
  clear hx hy b0 b1 h hs hm e hG hN
  go_enter Try.func25, Try.ntmps25
  go_wp2_with (go_at_call 19; with_reducible (refine Calls.mono (HA0.out _) ?_); rintro e w2 ⟨rfl, rfl⟩)
  go_ret
  have e2 : Hid (wrap64 (G (z + 1) - G z) = y - x) := by refine Lib.hid ?_; rw [← HX.out, ← HY.out]; unfold wrap64; omega
  exact ⟨by rw [e2.out]; rfl, rfl⟩

/-! ### What shares bring -/
def bring (cs : List (List Int)) (L : List Int) (i : Nat) : Int := atN (cs.getD i []) (L.getD i 0)
theorem bring_bounds {cs : List (List Int)} (L : List Int) (h : ∀ i, i < cs.length → soundL (cs.getD i []) = true) : ∀ k : Nat, k ≤ cs.length → 0 ≤ sumZ (bring cs L) k ∧ sumZ (bring cs L) k ≤ 4503599627370496 * (k : Int)
  | 0, _ => by simp [sumZ]
  | k + 1, hk => by
    have ih := bring_bounds L h k (by omega)
    have h1 := atN_bounds (h k (by omega)) (L.getD k 0)
    unfold sumZ bring
    unfold bring at ih
    omega

set_option maxHeartbeats 800000 in
/-- 'Sum'. -/
theorem refSum_any (A0 A1 : Option Addr) (c0 c1 : Nat) (L : List Int) (ps : List Cur) (w : World) (h0 : Ints w w.heap.size .i64 A0 L) (h1 : Curs w w.heap.size A1 ps) (hk : L.length = ps.length) (h16 : ps.length ≤ 16) (hs : ∀ i, i < (ps.map Cur.l).length → soundL ((ps.map Cur.l).getD i []) = true) :
    Calls Try.prog 15 #[.slice A0 L.length c0, .slice A1 ps.length c1] w fun e w' => e = .returned (.int .i64 (sumZ (bring (ps.map Cur.l) L) ps.length)) ∧ ∃ m, w' = w.drewN m := by
  have hlc : (ps.map Cur.l).length = ps.length := List.length_map _
  have HB : Hid (∀ k, k ≤ ps.length → 0 ≤ sumZ (bring (ps.map Cur.l) L) k ∧ sumZ (bring (ps.map Cur.l) L) k ≤ 4503599627370496 * (k : Int)) := fun k hk => bring_bounds L hs k (by omega)
  have HS : Hid (∀ k, k < ps.length → sumZ (bring (ps.map Cur.l) L) (k + 1) = sumZ (bring (ps.map Cur.l) L) k + bring (ps.map Cur.l) L k ∧ 0 ≤ bring (ps.map Cur.l) L k ∧ bring (ps.map Cur.l) L k ≤ 4503599627370496) := fun k hk => ⟨rfl, atN_bounds (hs k (by omega)) (L.getD k 0)⟩
  have HC : Hid (∀ m i, i < ps.length → ∃ b o, A0 = some ⟨b, o, none⟩ ∧ (w.drewN m).cell? ⟨b, o + i, none⟩ = some (.int .i64 (L.getD i 0))) := fun m i hi => by
    obtain ⟨b, o, e, _, q⟩ := h0 i (by omega)
    exact ⟨b, o, e, q⟩
  have HP : Hid (∀ m i (hi : i < ps.length), ∃ b o, A1 = some ⟨b, o, none⟩ ∧ (w.drewN m).cell? ⟨b, o + i, none⟩ = some (.slice ps[i].A ps[i].l.length ps[i].c) ∧
      ∀ m', Calls Try.prog 19 #[.slice ps[i].A ps[i].l.length ps[i].c, .int .i64 (L.getD i 0)] ((w.drewN m).drewN m') fun e w' => e = .returned (.int .i64 (bring (ps.map Cur.l) L i)) ∧ w' = (w.drewN m).drewN m') := fun m i hi => by
    obtain ⟨b, o, e, _, q, ok⟩ := h1 i hi
    refine ⟨b, o, e, q, fun m' => ?_⟩
    have hg : (ps.map Cur.l).getD i [] = ps[i].l := by simp [List.getD, hi]
    unfold bring
    rw [hg]
    exact (refAt_any ps[i].A ps[i].c ps[i].l (L.getD i 0) ((w.drewN m).drewN m') (ok.ints : Ints ((w.drewN m).drewN m') ((w.drewN m).drewN m').heap.size .i64 ps[i].A ps[i].l) (by have := ok.le; have := ok.cap; omega)).mono fun e w' ⟨p1, p2⟩ => ⟨p1, p2.symm⟩
  rw [hk]
  obtain ⟨G, hG⟩ : ∃ G, G = sumZ (bring (ps.map Cur.l) L) := ⟨_, rfl⟩
  rw [← hG] at HB HS ⊢
  have g0 : Hid (G 0 = 0) := by refine Lib.hid ?_; rw [hG]; rfl
  obtain ⟨V, hV⟩ : ∃ V, V = bring (ps.map Cur.l) L := ⟨_, rfl⟩
  rw [← hV] at HS HP
  obtain ⟨F, hF⟩ : ∃ F : Nat → Int, F = fun i => L.getD i 0 := ⟨_, rfl⟩
  have hFF : ∀ i, L.getD i 0 = F i := fun i => by rw [hF]
  simp only [hFF] at HC HP
  obtain ⟨K, hK⟩ : ∃ K, K = ps.length := ⟨_, rfl⟩
  rw [← hK] at HB HS HC ⊢
  have HKK := Lib.hid hK
  have k16 : (K : Int) ≤ 16 := by omega
  clear h0 h1 hk h16 hs hlc hG hV hF hFF hK
  go_enter Try.func15, Try.ntmps15
  go_wp2
  go_loopw [5, 6] (fun s i wr => ∃ k m : Nat, k ≤ K ∧ i = .int .i64 k ∧ s = .int .i64 (G k) ∧ wr = w.drewN m) (fun _ i _ => K - (intOf i).toNat)
  case atStart => exact ⟨0, 0, Nat.zero_le _, rfl, by rw [g0.out], rfl⟩
  case round =>
    obtain ⟨k, m, hk, rfl, rfl, hwr⟩ := hrel
    by_cases hlt : k < K
    · obtain ⟨b, o, rfl, q0⟩ := HC.out m k hlt
      obtain ⟨b1, o1, rfl, q1, HQ⟩ := HP.out m k (by have := HKK.out; omega)
      rw [← hwr] at q0 q1 HQ
      have HW := Lib.hid hwr
      obtain ⟨h1, h2, h3⟩ := HS.out k hlt
      have h4 := HB.out k hk
      have k1 : (k : Int) < (K : Int) := by omega
      have k0 : (0 : Int) ≤ (k : Int) := by omega
      obtain ⟨pA, hpA⟩ : ∃ x, x = (ps[k]'(by have := HKK.out; omega)).A := ⟨_, rfl⟩
      obtain ⟨pl, hpl⟩ : ∃ x, x = (ps[k]'(by have := HKK.out; omega)).l.length := ⟨_, rfl⟩
      obtain ⟨pc, hpc⟩ : ∃ x, x = (ps[k]'(by have := HKK.out; omega)).c := ⟨_, rfl⟩
      rw [← hpA, ← hpl, ← hpc] at q1 HQ
      obtain ⟨x, hx⟩ : ∃ x, x = F k := ⟨_, rfl⟩
      rw [← hx] at q0 HQ
      obtain ⟨v, hv⟩ : ∃ x, x = V k := ⟨_, rfl⟩
      rw [← hv] at HQ h1 h2 h3
      have H1 := Lib.hid h1
      obtain ⟨S, hS⟩ : ∃ x, x = G k := ⟨_, rfl⟩
      rw [← hS] at H1 h4 ⊢
      have s0 : (0 : Int) ≤ S := h4.1
      have s1 : S ≤ 72057594037927936 := by omega
      have HQ' := Lib.hid HQ
      clear hwr hx hv h1 h4 hS hpA hpl hpc HQ
      go_wp2
      go_quiet ((go_at_call 19; with_reducible (refine Calls.quiet_of_same (HQ'.out _))))
      go_wp2
      go_roundw
      case rel => first | exact ⟨k + 1, m + nq, by omega, by go_num, by rw [H1.out], by rw [HW.out, World.drewN_drewN]⟩ | ((repeat apply Exists.intro); exact ⟨⟨k + 1, m + nq, by omega, by go_num, by rw [H1.out], by rw [HW.out, World.drewN_drewN]⟩, rfl⟩)
      case measure => simp [intOf]; omega
    · have hk8 : k = K := by omega
      subst hk8
      go_wp2
      go_ret
      exact ⟨rfl, m, by first | exact hwr | rfl⟩

end Go.Proofs.Ytnpdffcplgjbnaa
