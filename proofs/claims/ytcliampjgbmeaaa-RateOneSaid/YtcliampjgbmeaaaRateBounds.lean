/-
  RateBounds: whatever is asked when, no more is taken than the burst, and the rate times the moments that went by.
-/
import Derived.Test.YtcliampjgbmeaaaRateSteps
import Derived.Deep.RegionHeld3
import Derived.Deep.DeepCutAuto
import Derived.Test.YtcliampjgbmeaaaArrs
namespace Go.Proofs.Ytcliampjgbmeaaa
open Go.RowKit

structure Inv (k K : Bk) (S : Int) : Prop where
  sound : soundB k = true → soundB K = true ∧ K.r = k.r ∧ K.b = k.b ∧ k.a ≤ K.a ∧ 65536 * S + K.l ≤ 65536 * k.b + k.r * (K.a - k.a)
  bad : soundB k ≠ true → S = 0 ∧ K = k
theorem Inv.start (k : Bk) : Inv k k 0 := ⟨fun h => ⟨h, rfl, rfl, Int.le_refl _, by
  obtain ⟨s1, s2, s3, s4, s5, s6, s7, s8⟩ := (sound_iff k).1 h
  rw [Int.sub_self, Int.mul_zero]
  omega⟩, fun _ => ⟨rfl, rfl⟩⟩
theorem Inv.step {k K : Bk} {S n m : Int} (h : Inv k K S) (ht : takeE K n m = 0) : Inv k (takeK K n m) (S + n) := by
  obtain ⟨hs, h1, h2, h3, h4, h5⟩ := take_ok.1 ht
  have hk : soundB k = true := by
    by_cases hk : soundB k = true
    · exact hk
    · rw [(h.bad hk).2] at hs; exact absurd hs hk
  obtain ⟨a1, a2, a3, a4, a5⟩ := h.sound hk
  have e : takeK K n m = ⟨K.r, K.b, lev K m - 65536 * n, m⟩ := if_pos ht
  obtain ⟨s1, s2, s3, s4, s5, s6, s7, s8⟩ := (sound_iff K).1 hs
  obtain ⟨l1, l2, l3⟩ := lev_bounds hs h1
  rw [e]
  refine ⟨fun _ => ⟨(sound_iff _).2 ⟨s1, s2, s3, s4, ?_, ?_, ?_, h2⟩, a2, a3, ?_, ?_⟩, fun hn => absurd hk hn⟩
  · show 0 ≤ lev K m - 65536 * n
    omega
  · show lev K m - 65536 * n ≤ 65536 * K.b
    omega
  · show 0 ≤ m
    omega
  · show k.a ≤ m
    omega
  · show 65536 * (S + n) + (lev K m - 65536 * n) ≤ 65536 * k.b + k.r * (m - k.a)
    have hl : lev K m ≤ K.l + K.r * (m - K.a) := by unfold lev; omega
    rw [a2] at hl
    have hm : k.r * (m - k.a) = k.r * (m - K.a) + k.r * (K.a - k.a) := by rw [← Int.mul_add]; congr 1; omega
    omega
theorem Inv.ok {k K : Bk} {S : Int} (h : Inv k K S) (hk : k.ok) : K.ok := by
  by_cases hs : soundB k = true
  · obtain ⟨a, b, c, d, e, f, g, i⟩ := fill_ok_bounds (h.sound hs).1
    exact ⟨⟨a, b⟩, ⟨c, d⟩, ⟨e, f⟩, ⟨g, i⟩⟩
  · rw [(h.bad hs).2]; exact hk
theorem Inv.last {k K : Bk} {S : Int} (h : Inv k K S) (h0 : S ≠ 0) : 0 ≤ K.r ∧ K.r ≤ 4294967296 ∧ 1 ≤ K.b ∧ K.b ≤ 64 ∧ 0 ≤ k.a ∧ k.a ≤ K.a ∧ K.a ≤ 1099511627776 ∧ 65536 * S ≤ 65536 * K.b + K.r * (K.a - k.a) := by
  have hk : soundB k = true := by
    by_cases hk : soundB k = true
    · exact hk
    · exact absurd (h.bad hk).1 h0
  obtain ⟨a1, a2, a3, a4, a5⟩ := h.sound hk
  obtain ⟨s1, s2, s3, s4, s5, s6, s7, s8⟩ := (sound_iff K).1 a1
  obtain ⟨t1, t2, t3, t4, t5, t6, t7, t8⟩ := (sound_iff k).1 hk
  rw [a2, a3]
  rw [a2] at s1 s2
  refine ⟨s1, s2, by omega, by omega, t7, a4, s8, by omega⟩

set_option maxHeartbeats 6400000 in
set_option maxRecDepth 20000 in
theorem rateBounds_go (k : Bk) (A1 : Option Addr) (c1 : Nat) (asks : List Int) (A2 : Option Addr) (c2 : Nat) (gaps : List Int) (w : World) (HS : RateSpec w) (hk : k.ok) (h1 : Ints w w.heap.size .u8 A1 asks) (b1 : ∀ z ∈ asks, 0 ≤ z ∧ z ≤ 255) (h2 : Ints w w.heap.size .u16 A2 gaps) (b2 : ∀ z ∈ gaps, 0 ≤ z ∧ z ≤ 65535) (hc1 : asks.length ≤ c1) (hm1 : c1 ≤ maxLen) (hc2 : gaps.length ≤ c2) (hm2 : c2 ≤ maxLen) :
    Calls Try.prog 10 #[k.V, .slice A1 asks.length c1, .slice A2 gaps.length c2] w fun e w' => e = .returned (.bool true) ∧ Below w.heap.size w w' := by
  have HA := Lib.hid (rateAwake HS)
  have HT := Lib.hid HS.take
  obtain ⟨r, b, l, a⟩ := k
  have hb0 : Below w.heap.size w (w.alloc (.cells #[.int .i64 r, .int .i64 b, .int .i64 l, .int .i64 a] 32)) := (Below.refl _ w).alloc (Nat.le_refl _) _
  have g0 := Bx.new w r b l a
  obtain ⟨g0a, g0b, g0c, g0d⟩ := g0.cells
  have hst := Lib.hid (Inv.start ⟨r, b, l, a⟩)
  simp only [Bk.V]
  have hl1 : asks.length ≤ 9223372036854775807 := by unfold maxLen at hm1; omega
  have hl2 : gaps.length ≤ 9223372036854775807 := by unfold maxLen at hm2; omega
  clear HS
  go_enter Try.func10, Try.ntmps10
  go_wp2
  go_loopw [8, 9] (fun x y wr => ∃ (S I : Int) (R B L T : Int), x = .int .i64 S ∧ y = .int .i64 I ∧ 0 ≤ I ∧ I ≤ 200 ∧ 0 ≤ S ∧ S ≤ 69 * I ∧ Hid (Inv ⟨r, b, l, a⟩ ⟨R, B, L, T⟩ S) ∧ Hid (Bx wr w.heap.size ⟨R, B, L, T⟩) ∧ Hid (Below w.heap.size w wr)) (fun _ y _ => (200 - intOf y).toNat)
  case atStart => exact ⟨0, 0, r, b, l, a, rfl, rfl, Int.le_refl _, by decide, Int.le_refl _, by decide, hst, g0, hb0⟩
  case round =>
    obtain ⟨S, I, R, B, L, T, rfl, rfl, i1, i2, s1, s2, hI, hX, hB⟩ := hrel
    have hko := hI.out.ok hk
    obtain ⟨⟨kr1, kr2⟩, ⟨kb1, kb2⟩, ⟨kl1, kl2⟩, ⟨kt1, kt2⟩⟩ := hko
    simp only at kr1 kr2 kb1 kb2 kl1 kl2 kt1 kt2
    obtain ⟨x0, x1, x2, x3⟩ := hX.out.cells
    by_cases c1 : I < asks.length ∧ I < 200
    · obtain ⟨c11, c12⟩ := c1
      obtain ⟨j, rfl⟩ := Int.eq_ofNat_of_zero_le i1
      have hj1 : j < asks.length := by omega
      obtain ⟨p1, o1, rfl, hp1, hq1⟩ := (h1.below hB.out).at_ (by omega)
      obtain ⟨z, hz⟩ : ∃ z, z = asks.getD j 0 := ⟨_, rfl⟩
      have hzm : z ∈ asks := by rw [hz, List.getD_eq_getElem?_getD, List.getElem?_eq_getElem hj1]; exact List.getElem_mem hj1
      obtain ⟨z1, z2⟩ := b1 z hzm
      have hq := hq1 j hj1
      rw [← hz] at hq
      clear hq1
      obtain ⟨n, hn⟩ : ∃ n, n = Int.tmod z 70 := ⟨_, rfl⟩
      have hn2 : 0 ≤ n ∧ n < 70 := by rw [hn, Int.tmod_eq_emod_of_nonneg z1]; omega
      have hn3 := hn.symm
      clear hn hz hzm
      have hwn : IntKind.i64.wrap n = n := IntWalk.i64_in _ (by omega)
      by_cases c2 : j < gaps.length
      · by_cases c3 : T < 1099511557776
        · obtain ⟨p2, o2, rfl, hp2, hq2⟩ := (h2.below hB.out).at_ (by omega)
          obtain ⟨y, hy⟩ : ∃ y, y = gaps.getD j 0 := ⟨_, rfl⟩
          have hym : y ∈ gaps := by rw [hy, List.getD_eq_getElem?_getD, List.getElem?_eq_getElem c2]; exact List.getElem_mem c2
          obtain ⟨y1, y2⟩ := b2 y hym
          have hqg := hq2 j c2
          rw [← hy] at hqg
          clear hq2 hy hym
          have HTK := Lib.hid (fun (W : World) (h : Below wr.heap.size wr W) => HT.out ⟨R, B, L, T⟩ n (T + y) W (hB.out.trans (h.mono hB.out.size)) (hI.out.ok hk) (by unfold I64; omega) (by unfold I64; omega))
          have HIN : Hid (takeE ⟨R, B, L, T⟩ n (T + y) = 0 → Inv ⟨r, b, l, a⟩ (takeK ⟨R, B, L, T⟩ n (T + y)) (S + n)) := fun h => hI.out.step h
          obtain ⟨⟨k1, k2, k3, k4⟩, hKK⟩ : ∃ K, K = takeK ⟨R, B, L, T⟩ n (T + y) := ⟨_, rfl⟩
          obtain ⟨E, hEE⟩ : ∃ E, E = takeE ⟨R, B, L, T⟩ n (T + y) := ⟨_, rfl⟩
          rw [← hKK, ← hEE] at HTK HIN
          simp only [Bk.V] at HTK
          obtain ⟨SS, hSS⟩ : ∃ SS : World → Prop, SS = fun W => (W.cell? ⟨w.heap.size, 0, none⟩ = some (.int .i64 R) ∧ W.cell? ⟨w.heap.size, 1, none⟩ = some (.int .i64 B) ∧ W.cell? ⟨w.heap.size, 2, none⟩ = some (.int .i64 L) ∧ W.cell? ⟨w.heap.size, 3, none⟩ = some (.int .i64 T)) ∧ W.cell? ⟨p1, o1 + j, none⟩ = some (.int .u8 z) ∧ Below wr.heap.size wr W := ⟨_, rfl⟩
          have HSS : Hid (∀ W, Below wr.heap.size wr W → SS W) := fun W h => by
            rw [hSS]
            exact ⟨(hX.out.keep h).cells, (h.cell (p := ⟨p1, o1 + j, none⟩) (by have := hB.out.size; show p1 < _; omega)).trans hq, h⟩
          clear hKK hEE
          go_wp2
          go_cut [11, 12] (fun v u W => ∃ q : Nat, v = .pointer (some ⟨q, 0, none⟩) ∧ u = .int .i64 E ∧ wr.heap.size ≤ q ∧ Bx W q ⟨k1, k2, k3, k4⟩ ∧ Below wr.heap.size wr W)
          case first =>
            have hbx : Below wr.heap.size wr wr.drew := (Below.refl _ _).drew
            refine wp_region_held_drew (S := SS) (by kernel_rfl) (HSS.out _ hbx) (fun hHeld => ?_)
            refine wpAnyH_take (i := 0) (oi := _) (v := ?_) rfl (by kernel_rfl) (by kernel_rfl) (by kernel_rfl) (fun _ _ _ h => h) (Or.inl ⟨by rfl, ?_⟩) (by assumption) ?_
            rotate_left 1
            · intro W hSw; rw [hSS] at hSw; obtain ⟨⟨e0, e1, e2, e3⟩, e4, _⟩ := hSw; first | (go_simp; done) | (go_simp; with_reducible rfl)
            change wpAnyH _ _ _ _ _ _ _ (Act.put _ (some 44) _) _
            (try simp only [Act.put, List.setIfInBounds_toArray, List.set_cons_zero, List.set_cons_succ])
            refine wpAnyH_take (i := 1) (oi := _) (v := ?_) rfl (by kernel_rfl) (by kernel_rfl) (by kernel_rfl) (fun _ _ _ h => h) (Or.inl ⟨by rfl, ?_⟩) (by assumption) ?_
            rotate_left 1
            · intro W hSw; clear hSw; first | (go_simp; done) | (go_simp; with_reducible rfl)
            change wpAnyH _ _ _ _ _ _ _ (Act.put _ (some 45) _) _
            (try simp only [Act.put, List.setIfInBounds_toArray, List.set_cons_zero, List.set_cons_succ])
            refine wpAnyH_take (i := 2) (oi := _) (v := ?_) rfl (by kernel_rfl) (by kernel_rfl) (by kernel_rfl) (fun _ _ _ h => h) (Or.inl ⟨by rfl, ?_⟩) (by assumption) ?_
            rotate_left 1
            · intro W hSw; clear hSw; first | (go_simp; done) | (go_simp; with_reducible rfl)
            change wpAnyH _ _ _ _ _ _ _ (Act.put _ (some 46) _) _
            (try simp only [Act.put, List.setIfInBounds_toArray, List.set_cons_zero, List.set_cons_succ])
            refine wpAnyH_take (i := 3) (oi := _) (v := ?_) rfl (by kernel_rfl) (by kernel_rfl) (by kernel_rfl) (fun _ _ _ h => h) (Or.inl ⟨by rfl, ?_⟩) (by assumption) ?_
            rotate_left 1
            · intro W hSw; clear hSw; first | (go_simp; done) | (go_simp; with_reducible rfl)
            change wpAnyH _ _ _ _ _ _ _ (Act.put _ (some 47) _) _
            (try simp only [Act.put, List.setIfInBounds_toArray, List.set_cons_zero, List.set_cons_succ])
            refine wpAnyH_take (i := 4) (oi := _) (v := ?_) rfl (by kernel_rfl) (by kernel_rfl) (by kernel_rfl) (fun _ _ _ h => h) (Or.inl ⟨by rfl, ?_⟩) (by assumption) ?_
            rotate_left 1
            · intro W hSw; rw [hSS] at hSw; obtain ⟨⟨e0, e1, e2, e3⟩, e4, _⟩ := hSw; first | (go_simp; done) | (go_simp; with_reducible rfl)
            change wpAnyH _ _ _ _ _ _ _ (Act.put _ (some 48) _) _
            (try simp only [Act.put, List.setIfInBounds_toArray, List.set_cons_zero, List.set_cons_succ])
            refine wpAnyH_take (i := 5) (oi := _) (v := ?_) rfl (by kernel_rfl) (by kernel_rfl) (by kernel_rfl) (fun _ _ _ h => h) (Or.inl ⟨by rfl, ?_⟩) (by assumption) ?_
            rotate_left 1
            · intro W hSw; clear hSw; first | (go_simp; done) | (go_simp; with_reducible rfl)
            change wpAnyH _ _ _ _ _ _ _ (Act.put _ (some 49) _) _
            (try simp only [Act.put, List.setIfInBounds_toArray, List.set_cons_zero, List.set_cons_succ])
            refine wpAnyH_take (i := 6) (oi := _) (v := ?_) rfl (by kernel_rfl) (by kernel_rfl) (by kernel_rfl) (fun _ _ _ h => h) (Or.inl ⟨by rfl, ?_⟩) (by assumption) ?_
            rotate_left 1
            · intro W hSw; clear hSw; first | (go_simp; done) | (go_simp; with_reducible rfl)
            change wpAnyH _ _ _ _ _ _ _ (Act.put _ (some 50) _) _
            (try simp only [Act.put, List.setIfInBounds_toArray, List.set_cons_zero, List.set_cons_succ])
            refine wpAnyH_take (i := 7) (oi := _) (v := ?_) rfl (by kernel_rfl) (by kernel_rfl) (by kernel_rfl) (fun _ _ _ h => h) (Or.inl ⟨by rfl, ?_⟩) (by assumption) ?_
            rotate_left 1
            · intro W hSw; clear hSw; first | (go_simp; done) | (go_simp; with_reducible rfl)
            change wpAnyH _ _ _ _ _ _ _ (Act.put _ (some 51) _) _
            (try simp only [Act.put, List.setIfInBounds_toArray, List.set_cons_zero, List.set_cons_succ])
            refine wpAnyH_ready (rs := [8, 12]) (by kernel_rfl) (by simp) ?_
            refine AllReadyH.cons (o := _) rfl (fun K hK => ?_) (AllReadyH.cons (o := _) rfl (fun K hK => ?_) (AllReadyH.nil))
            · go_simp
              (go_at_call 24; with_reducible (refine Calls.mono (HTK.out _ hbx) ?_); rintro e w5 ⟨rfl, hb5⟩; replace hbx := chain hbx hb5)
              refine hK.out _ _ (HSS.out _ hbx) (fun hHeld8 => ?_)
              (try simp only [Act.put, List.setIfInBounds_toArray, List.set_cons_zero, List.set_cons_succ])
              clear hK K
              refine wpAnyH_take (i := 9) (oi := _) (v := ?_) rfl (by kernel_rfl) (by kernel_rfl) (by kernel_rfl) (fun _ _ _ h => h) (Or.inl ⟨by rfl, ?_⟩) (by assumption) ?_
              rotate_left 1
              · intro W hSw; clear hSw; first | (go_simp; done) | (go_simp; with_reducible rfl)
              change wpAnyH _ _ _ _ _ _ _ (Act.put _ (some 43) _) _
              (try simp only [Act.put, List.setIfInBounds_toArray, List.set_cons_zero, List.set_cons_succ])
              refine wpAnyH_take (i := 10) (oi := _) (v := ?_) rfl (by kernel_rfl) (by kernel_rfl) (by kernel_rfl) (fun _ _ _ h => h) (Or.inl ⟨by rfl, ?_⟩) (by assumption) ?_
              rotate_left 1
              · intro W hSw; clear hSw; first | (go_simp; done) | (go_simp; with_reducible rfl)
              change wpAnyH _ _ _ _ _ _ _ (Act.put _ (some 53) _) _
              (try simp only [Act.put, List.setIfInBounds_toArray, List.set_cons_zero, List.set_cons_succ])
              refine wpAnyH_take (i := 11) (oi := _) (v := ?_) rfl (by kernel_rfl) (by kernel_rfl) (by kernel_rfl) (fun _ _ _ h => h) (Or.inl ⟨by rfl, ?_⟩) (by assumption) ?_
              rotate_left 1
              · intro W hSw; clear hSw; first | (go_simp; done) | (go_simp; with_reducible rfl)
              change wpAnyH _ _ _ _ _ _ _ (Act.put _ (some 54) _) _
              (try simp only [Act.put, List.setIfInBounds_toArray, List.set_cons_zero, List.set_cons_succ])
              refine wpAnyH_ready (rs := [12]) (by kernel_rfl) (by simp) ?_
              refine AllReadyH.cons (o := _) rfl (fun K hK => ?_) AllReadyH.nil
              go_simp
              have hby := hbx.alloc hbx.size (.cells #[.int .i64 k1, .int .i64 k2, .int .i64 k3, .int .i64 k4] 32)
              have hq := Bx.new w5 k1 k2 k3 k4
              have hgb : wr.heap.size ≤ w5.heap.size := hbx.size
              replace hbx := hbx.alloc hbx.size (.cells #[.int .i64 0, .int .i64 0, .int .i64 0, .int .i64 0] 32)
              refine hK.out _ _ (HSS.out _ hbx) (fun hHeld12 => ?_)
              (try simp only [Act.put, List.setIfInBounds_toArray, List.set_cons_zero, List.set_cons_succ])
              clear hK K
              refine wpAnyH_ready (rs := [13]) (by kernel_rfl) (by simp) ?_
              refine AllReadyH.cons (o := _) rfl (fun K hK => ?_) AllReadyH.nil
              go_simp
              clear hbx
              have hbx := hby
              clear hby
              refine hK.out _ _ (HSS.out _ hbx) (fun hHeld12 => ?_)
              (try simp only [Act.put, List.setIfInBounds_toArray, List.set_cons_zero, List.set_cons_succ])
              clear hK K
              refine wpAnyH_ready (rs := [14]) (by kernel_rfl) (by simp) ?_
              refine AllReadyH.cons (o := _) rfl (fun K hK => ?_) AllReadyH.nil
              go_simp
              refine hK.out _ _ (HSS.out _ hbx) (fun hHeld12 => ?_)
              (try simp only [Act.put, List.setIfInBounds_toArray, List.set_cons_zero, List.set_cons_succ])
              clear hK K
              refine wpAnyH_done (by kernel_rfl) ?_ _
              have RR := Lib.hid (And.intro hgb (And.intro hq hbx))
              clear hq hbx hgb
              go_wp2
              go_meet
              exact ⟨_, rfl, rfl, RR.out⟩
            · go_simp
              have hq : (wr.alloc (.cells #[.int .i64 0, .int .i64 0, .int .i64 0, .int .i64 0] 32)).drew.heap[wr.heap.size]? = _ := heap_alloc_new wr (.cells #[.int .i64 0, .int .i64 0, .int .i64 0, .int .i64 0] 32); have hgb : wr.heap.size ≤ wr.heap.size := Nat.le_refl _; have hql : wr.heap.size < (wr.alloc (.cells #[.int .i64 0, .int .i64 0, .int .i64 0, .int .i64 0] 32)).drew.heap.size := by simp
              replace hbx : Below wr.heap.size wr (wr.alloc (.cells #[.int .i64 0, .int .i64 0, .int .i64 0, .int .i64 0] 32)).drew := ((Below.refl _ _).alloc (Nat.le_refl _) _).drew
              refine hK.out _ _ (HSS.out _ hbx) (fun hHeld12 => ?_)
              (try simp only [Act.put, List.setIfInBounds_toArray, List.set_cons_zero, List.set_cons_succ])
              clear hK K
              refine wpAnyH_ready (rs := [8]) (by kernel_rfl) (by simp) ?_
              refine AllReadyH.cons (o := _) rfl (fun K hK => ?_) AllReadyH.nil
              go_simp
              (go_at_call 24; with_reducible (refine Calls.mono (HTK.out _ hbx) ?_); rintro e w5 ⟨rfl, hb5⟩; replace hq := (hb5.block _ hql).trans hq; replace hbx := chain hbx hb5)
              refine hK.out _ _ (HSS.out _ hbx) (fun hHeld8 => ?_)
              (try simp only [Act.put, List.setIfInBounds_toArray, List.set_cons_zero, List.set_cons_succ])
              clear hK K
              refine wpAnyH_take (i := 9) (oi := _) (v := ?_) rfl (by kernel_rfl) (by kernel_rfl) (by kernel_rfl) (fun _ _ _ h => h) (Or.inl ⟨by rfl, ?_⟩) (by assumption) ?_
              rotate_left 1
              · intro W hSw; clear hSw; first | (go_simp; done) | (go_simp; with_reducible rfl)
              change wpAnyH _ _ _ _ _ _ _ (Act.put _ (some 43) _) _
              (try simp only [Act.put, List.setIfInBounds_toArray, List.set_cons_zero, List.set_cons_succ])
              refine wpAnyH_take (i := 10) (oi := _) (v := ?_) rfl (by kernel_rfl) (by kernel_rfl) (by kernel_rfl) (fun _ _ _ h => h) (Or.inl ⟨by rfl, ?_⟩) (by assumption) ?_
              rotate_left 1
              · intro W hSw; clear hSw; first | (go_simp; done) | (go_simp; with_reducible rfl)
              change wpAnyH _ _ _ _ _ _ _ (Act.put _ (some 53) _) _
              (try simp only [Act.put, List.setIfInBounds_toArray, List.set_cons_zero, List.set_cons_succ])
              refine wpAnyH_take (i := 11) (oi := _) (v := ?_) rfl (by kernel_rfl) (by kernel_rfl) (by kernel_rfl) (fun _ _ _ h => h) (Or.inl ⟨by rfl, ?_⟩) (by assumption) ?_
              rotate_left 1
              · intro W hSw; clear hSw; first | (go_simp; done) | (go_simp; with_reducible rfl)
              change wpAnyH _ _ _ _ _ _ _ (Act.put _ (some 54) _) _
              (try simp only [Act.put, List.setIfInBounds_toArray, List.set_cons_zero, List.set_cons_succ])
              obtain ⟨y0, y1, y2, y3, _⟩ := bkCells hq
              refine wpAnyH_ready (rs := [13]) (by kernel_rfl) (by simp) ?_
              refine AllReadyH.cons (o := _) rfl (fun K hK => ?_) AllReadyH.nil
              go_simp
              replace hbx := bk_below hbx (Nat.le_refl _) (.int .i64 k1) (.int .i64 k2) (.int .i64 k3) (.int .i64 k4)
              replace hq := bk_set hq (.int .i64 k1) (.int .i64 k2) (.int .i64 k3) (.int .i64 k4)
              clear y0 y1 y2 y3
              refine hK.out _ _ (HSS.out _ hbx) (fun hHeld12 => ?_)
              (try simp only [Act.put, List.setIfInBounds_toArray, List.set_cons_zero, List.set_cons_succ])
              clear hK K
              refine wpAnyH_ready (rs := [14]) (by kernel_rfl) (by simp) ?_
              refine AllReadyH.cons (o := _) rfl (fun K hK => ?_) AllReadyH.nil
              go_simp
              refine hK.out _ _ (HSS.out _ hbx) (fun hHeld12 => ?_)
              (try simp only [Act.put, List.setIfInBounds_toArray, List.set_cons_zero, List.set_cons_succ])
              clear hK K
              refine wpAnyH_done (by kernel_rfl) ?_ _
              have RR := Lib.hid (And.intro hgb (And.intro hq hbx))
              clear hq hbx hgb
              go_wp2
              go_meet
              exact ⟨_, rfl, rfl, RR.out⟩
          case rest =>
            clear HTK hSS HSS x0 x1 x2 x3
            obtain ⟨q, rfl, rfl, hgq, hqq, hbq⟩ := hcut
            have hqz := (hbq.cell (p := ⟨p1, o1 + j, none⟩) (by have := hB.out.size; show p1 < _; omega)).trans hq
            have GT := hX.out.keep hbq
            have hT := hB.out.trans (hbq.mono hB.out.size)
            obtain ⟨x0, x1, x2, x3⟩ := GT.cells
            obtain ⟨y0, y1, y2, y3⟩ := hqq.cells
            have GQ := hqq
            clear hX hB hbq hqq hq
            by_cases e0 : E = 0
            · subst e0
              have hI2 := Lib.hid (HIN.out rfl)
              have q1 : wc.heap[q]? = some (.cells #[.int .i64 k1, .int .i64 k2, .int .i64 k3, .int .i64 k4] 32 (0, 0)) := GQ
              have q2 : wc.heap[w.heap.size]? = some (.cells #[.int .i64 R, .int .i64 B, .int .i64 L, .int .i64 T] 32 (0, 0)) := GT
              have hu := Try.underlying32
              have hi4 : (Try.prog.info? 32).map (·.size) = some 4 := by kernel_rfl
              have h1c : (#[.int .i64 k1, .int .i64 k2, .int .i64 k3, .int .i64 k4] : Array Value).all (·.oneCell') = true := by kernel_rfl
              clear GT GQ HIN hI x0 x1 x2 x3 y0 y1 y2 y3
              go_wp2_with (first
                | (refine wpList_load_row rfl 32 _ rfl q rfl 32 _ (0, 0) _ q1 hu rfl hi4 ?_)
                | (refine wpList_store_fresh rfl 32 _ _ rfl w.heap.size #[.int .i64 k1, .int .i64 k2, .int .i64 k3, .int .i64 k4] rfl rfl 32 _ q2 hi4 rfl h1c hT (Nat.le_refl _) ?_; intro W6 hX6 hB6 hk6 hs6; have hX7 : Hid (Bx W6 w.heap.size ⟨k1, k2, k3, k4⟩) := hX6; have hB7 := Lib.hid hB6; clear hX6 hB6 hk6 hs6 q1 q2 hT))
              go_roundw
              case rel => exact ⟨S + n, j + 1, k1, k2, k3, k4, rfl, rfl, by omega, by omega, by omega, by omega, hI2, hX7, hB7⟩
              case measure => simp [intOf]; omega
            · clear HIN y0 y1 y2 y3 hqz GQ
              by_cases e2 : E = 2
              · subst e2
                by_cases hS0 : S = 0
                · subst hS0
                  clear hI
                  go_wp2_with (first
                    | (go_at_call 15; with_reducible (refine Calls.mono (HA.out _ hT) ?_); rintro e v1 ⟨rfl, hv1⟩; have ht1 := chain hT hv1; have gt1 := GT.keep hv1; obtain ⟨t1a, t1b, t1c, t1d⟩ := gt1.cells; have GT2 := gt1)
                    | (go_at_call 15; with_reducible (refine Calls.mono (HA.out _ ht1) ?_); rintro e v2 ⟨rfl, hv2⟩; have ht2 := chain ht1 hv2; have gt2 := GT2.keep hv2; obtain ⟨t2a, t2b, t2c, t2d⟩ := gt2.cells))
                  go_ret
                  exact ⟨rfl, ht2⟩
                · obtain ⟨f1, f2, f3, f4, f5, f6, f7, f8⟩ := hI.out.last hS0
                  clear hI
                  simp only at f1 f2 f3 f4 f5 f6 f7 f8
                  by_cases hR : 0 < R ∧ 1073741824 < T - a
                  · obtain ⟨hR1, hR2⟩ := hR
                    clear f8
                    go_wp2_with (go_at_call 15; with_reducible (refine Calls.mono (HA.out _ hT) ?_); rintro e v1 ⟨rfl, hv1⟩; have ht1 := chain hT hv1; have gt1 := GT.keep hv1; obtain ⟨t1a, t1b, t1c, t1d⟩ := gt1.cells; have GT2 := gt1)
                    go_ret
                    exact ⟨rfl, ht1⟩
                  · have f9 : 0 ≤ R * (T - a) ∧ R * (T - a) ≤ 4611686018427387904 := by
                      refine ⟨Int.mul_nonneg f1 (by omega), ?_⟩
                      by_cases h : 0 < R
                      · calc _ ≤ (4294967296 : Int) * 1073741824 := Int.mul_le_mul f2 (by omega) (by omega) (by decide)
                          _ = 4611686018427387904 := by decide
                      · rw [show R = 0 by omega, Int.zero_mul]; decide
                    obtain ⟨d, hd⟩ : ∃ d, d = T - a := ⟨_, rfl⟩
                    obtain ⟨P, hP⟩ : ∃ P, P = R * d := ⟨_, rfl⟩
                    rw [← hd] at f8 f9 hR
                    rw [← hP] at f8 f9
                    have hd2 := hd.symm
                    have hP2 := hP.symm
                    have hd3 : 0 ≤ d ∧ d ≤ 1099511627776 := by omega
                    clear hd hP
                    by_cases hR3 : 0 < R
                    · have hR4 : ¬ 1073741824 < d := fun h => hR ⟨hR3, h⟩
                      clear hR
                      go_wp2_with (go_at_call 15; with_reducible (refine Calls.mono (HA.out _ hT) ?_); rintro e v1 ⟨rfl, hv1⟩; have ht1 := chain hT hv1; have gt1 := GT.keep hv1; obtain ⟨t1a, t1b, t1c, t1d⟩ := gt1.cells; have GT2 := gt1)
                      go_ret
                      exact ⟨rfl, ht1⟩
                    · clear hR
                      go_wp2_with (go_at_call 15; with_reducible (refine Calls.mono (HA.out _ hT) ?_); rintro e v1 ⟨rfl, hv1⟩; have ht1 := chain hT hv1; have gt1 := GT.keep hv1; obtain ⟨t1a, t1b, t1c, t1d⟩ := gt1.cells; have GT2 := gt1)
                      go_ret
                      exact ⟨rfl, ht1⟩
              · have GT2 := Lib.hid GT
                have hT2 := Lib.hid hT
                clear GT hT
                go_wp2
                go_roundw
                case rel => exact ⟨S, j + 1, R, B, L, T, rfl, rfl, by omega, by omega, by omega, by omega, hI, GT2, hT2⟩
                case measure => simp [intOf]; omega
        · have c31 : 1099511557776 ≤ T := by omega
          have HTK := Lib.hid (fun (W : World) (h : Below wr.heap.size wr W) => HT.out ⟨R, B, L, T⟩ n (T) W (hB.out.trans (h.mono hB.out.size)) (hI.out.ok hk) (by unfold I64; omega) (by unfold I64; omega))
          have HIN : Hid (takeE ⟨R, B, L, T⟩ n (T) = 0 → Inv ⟨r, b, l, a⟩ (takeK ⟨R, B, L, T⟩ n (T)) (S + n)) := fun h => hI.out.step h
          obtain ⟨⟨k1, k2, k3, k4⟩, hKK⟩ : ∃ K, K = takeK ⟨R, B, L, T⟩ n (T) := ⟨_, rfl⟩
          obtain ⟨E, hEE⟩ : ∃ E, E = takeE ⟨R, B, L, T⟩ n (T) := ⟨_, rfl⟩
          rw [← hKK, ← hEE] at HTK HIN
          simp only [Bk.V] at HTK
          obtain ⟨SS, hSS⟩ : ∃ SS : World → Prop, SS = fun W => (W.cell? ⟨w.heap.size, 0, none⟩ = some (.int .i64 R) ∧ W.cell? ⟨w.heap.size, 1, none⟩ = some (.int .i64 B) ∧ W.cell? ⟨w.heap.size, 2, none⟩ = some (.int .i64 L) ∧ W.cell? ⟨w.heap.size, 3, none⟩ = some (.int .i64 T)) ∧ W.cell? ⟨p1, o1 + j, none⟩ = some (.int .u8 z) ∧ Below wr.heap.size wr W := ⟨_, rfl⟩
          have HSS : Hid (∀ W, Below wr.heap.size wr W → SS W) := fun W h => by
            rw [hSS]
            exact ⟨(hX.out.keep h).cells, (h.cell (p := ⟨p1, o1 + j, none⟩) (by have := hB.out.size; show p1 < _; omega)).trans hq, h⟩
          clear hKK hEE
          go_wp2
          go_cut [11, 12] (fun v u W => ∃ q : Nat, v = .pointer (some ⟨q, 0, none⟩) ∧ u = .int .i64 E ∧ wr.heap.size ≤ q ∧ Bx W q ⟨k1, k2, k3, k4⟩ ∧ Below wr.heap.size wr W)
          case first =>
            have hbx : Below wr.heap.size wr wr.drew := (Below.refl _ _).drew
            refine wp_region_held_drew (S := SS) (by kernel_rfl) (HSS.out _ hbx) (fun hHeld => ?_)
            refine wpAnyH_take (i := 0) (oi := _) (v := ?_) rfl (by kernel_rfl) (by kernel_rfl) (by kernel_rfl) (fun _ _ _ h => h) (Or.inl ⟨by rfl, ?_⟩) (by assumption) ?_
            rotate_left 1
            · intro W hSw; rw [hSS] at hSw; obtain ⟨⟨e0, e1, e2, e3⟩, e4, _⟩ := hSw; first | (go_simp; done) | (go_simp; with_reducible rfl)
            change wpAnyH _ _ _ _ _ _ _ (Act.put _ (some 44) _) _
            (try simp only [Act.put, List.setIfInBounds_toArray, List.set_cons_zero, List.set_cons_succ])
            refine wpAnyH_take (i := 1) (oi := _) (v := ?_) rfl (by kernel_rfl) (by kernel_rfl) (by kernel_rfl) (fun _ _ _ h => h) (Or.inl ⟨by rfl, ?_⟩) (by assumption) ?_
            rotate_left 1
            · intro W hSw; clear hSw; first | (go_simp; done) | (go_simp; with_reducible rfl)
            change wpAnyH _ _ _ _ _ _ _ (Act.put _ (some 45) _) _
            (try simp only [Act.put, List.setIfInBounds_toArray, List.set_cons_zero, List.set_cons_succ])
            refine wpAnyH_take (i := 2) (oi := _) (v := ?_) rfl (by kernel_rfl) (by kernel_rfl) (by kernel_rfl) (fun _ _ _ h => h) (Or.inl ⟨by rfl, ?_⟩) (by assumption) ?_
            rotate_left 1
            · intro W hSw; clear hSw; first | (go_simp; done) | (go_simp; with_reducible rfl)
            change wpAnyH _ _ _ _ _ _ _ (Act.put _ (some 46) _) _
            (try simp only [Act.put, List.setIfInBounds_toArray, List.set_cons_zero, List.set_cons_succ])
            refine wpAnyH_take (i := 3) (oi := _) (v := ?_) rfl (by kernel_rfl) (by kernel_rfl) (by kernel_rfl) (fun _ _ _ h => h) (Or.inl ⟨by rfl, ?_⟩) (by assumption) ?_
            rotate_left 1
            · intro W hSw; clear hSw; first | (go_simp; done) | (go_simp; with_reducible rfl)
            change wpAnyH _ _ _ _ _ _ _ (Act.put _ (some 47) _) _
            (try simp only [Act.put, List.setIfInBounds_toArray, List.set_cons_zero, List.set_cons_succ])
            refine wpAnyH_take (i := 4) (oi := _) (v := ?_) rfl (by kernel_rfl) (by kernel_rfl) (by kernel_rfl) (fun _ _ _ h => h) (Or.inl ⟨by rfl, ?_⟩) (by assumption) ?_
            rotate_left 1
            · intro W hSw; rw [hSS] at hSw; obtain ⟨⟨e0, e1, e2, e3⟩, e4, _⟩ := hSw; first | (go_simp; done) | (go_simp; with_reducible rfl)
            change wpAnyH _ _ _ _ _ _ _ (Act.put _ (some 48) _) _
            (try simp only [Act.put, List.setIfInBounds_toArray, List.set_cons_zero, List.set_cons_succ])
            refine wpAnyH_take (i := 5) (oi := _) (v := ?_) rfl (by kernel_rfl) (by kernel_rfl) (by kernel_rfl) (fun _ _ _ h => h) (Or.inl ⟨by rfl, ?_⟩) (by assumption) ?_
            rotate_left 1
            · intro W hSw; clear hSw; first | (go_simp; done) | (go_simp; with_reducible rfl)
            change wpAnyH _ _ _ _ _ _ _ (Act.put _ (some 49) _) _
            (try simp only [Act.put, List.setIfInBounds_toArray, List.set_cons_zero, List.set_cons_succ])
            refine wpAnyH_take (i := 6) (oi := _) (v := ?_) rfl (by kernel_rfl) (by kernel_rfl) (by kernel_rfl) (fun _ _ _ h => h) (Or.inl ⟨by rfl, ?_⟩) (by assumption) ?_
            rotate_left 1
            · intro W hSw; clear hSw; first | (go_simp; done) | (go_simp; with_reducible rfl)
            change wpAnyH _ _ _ _ _ _ _ (Act.put _ (some 50) _) _
            (try simp only [Act.put, List.setIfInBounds_toArray, List.set_cons_zero, List.set_cons_succ])
            refine wpAnyH_take (i := 7) (oi := _) (v := ?_) rfl (by kernel_rfl) (by kernel_rfl) (by kernel_rfl) (fun _ _ _ h => h) (Or.inl ⟨by rfl, ?_⟩) (by assumption) ?_
            rotate_left 1
            · intro W hSw; clear hSw; first | (go_simp; done) | (go_simp; with_reducible rfl)
            change wpAnyH _ _ _ _ _ _ _ (Act.put _ (some 51) _) _
            (try simp only [Act.put, List.setIfInBounds_toArray, List.set_cons_zero, List.set_cons_succ])
            refine wpAnyH_ready (rs := [8, 12]) (by kernel_rfl) (by simp) ?_
            refine AllReadyH.cons (o := _) rfl (fun K hK => ?_) (AllReadyH.cons (o := _) rfl (fun K hK => ?_) (AllReadyH.nil))
            · go_simp
              (go_at_call 24; with_reducible (refine Calls.mono (HTK.out _ hbx) ?_); rintro e w5 ⟨rfl, hb5⟩; replace hbx := chain hbx hb5)
              refine hK.out _ _ (HSS.out _ hbx) (fun hHeld8 => ?_)
              (try simp only [Act.put, List.setIfInBounds_toArray, List.set_cons_zero, List.set_cons_succ])
              clear hK K
              refine wpAnyH_take (i := 9) (oi := _) (v := ?_) rfl (by kernel_rfl) (by kernel_rfl) (by kernel_rfl) (fun _ _ _ h => h) (Or.inl ⟨by rfl, ?_⟩) (by assumption) ?_
              rotate_left 1
              · intro W hSw; clear hSw; first | (go_simp; done) | (go_simp; with_reducible rfl)
              change wpAnyH _ _ _ _ _ _ _ (Act.put _ (some 43) _) _
              (try simp only [Act.put, List.setIfInBounds_toArray, List.set_cons_zero, List.set_cons_succ])
              refine wpAnyH_take (i := 10) (oi := _) (v := ?_) rfl (by kernel_rfl) (by kernel_rfl) (by kernel_rfl) (fun _ _ _ h => h) (Or.inl ⟨by rfl, ?_⟩) (by assumption) ?_
              rotate_left 1
              · intro W hSw; clear hSw; first | (go_simp; done) | (go_simp; with_reducible rfl)
              change wpAnyH _ _ _ _ _ _ _ (Act.put _ (some 53) _) _
              (try simp only [Act.put, List.setIfInBounds_toArray, List.set_cons_zero, List.set_cons_succ])
              refine wpAnyH_take (i := 11) (oi := _) (v := ?_) rfl (by kernel_rfl) (by kernel_rfl) (by kernel_rfl) (fun _ _ _ h => h) (Or.inl ⟨by rfl, ?_⟩) (by assumption) ?_
              rotate_left 1
              · intro W hSw; clear hSw; first | (go_simp; done) | (go_simp; with_reducible rfl)
              change wpAnyH _ _ _ _ _ _ _ (Act.put _ (some 54) _) _
              (try simp only [Act.put, List.setIfInBounds_toArray, List.set_cons_zero, List.set_cons_succ])
              refine wpAnyH_ready (rs := [12]) (by kernel_rfl) (by simp) ?_
              refine AllReadyH.cons (o := _) rfl (fun K hK => ?_) AllReadyH.nil
              go_simp
              have hby := hbx.alloc hbx.size (.cells #[.int .i64 k1, .int .i64 k2, .int .i64 k3, .int .i64 k4] 32)
              have hq := Bx.new w5 k1 k2 k3 k4
              have hgb : wr.heap.size ≤ w5.heap.size := hbx.size
              replace hbx := hbx.alloc hbx.size (.cells #[.int .i64 0, .int .i64 0, .int .i64 0, .int .i64 0] 32)
              refine hK.out _ _ (HSS.out _ hbx) (fun hHeld12 => ?_)
              (try simp only [Act.put, List.setIfInBounds_toArray, List.set_cons_zero, List.set_cons_succ])
              clear hK K
              refine wpAnyH_ready (rs := [13]) (by kernel_rfl) (by simp) ?_
              refine AllReadyH.cons (o := _) rfl (fun K hK => ?_) AllReadyH.nil
              go_simp
              clear hbx
              have hbx := hby
              clear hby
              refine hK.out _ _ (HSS.out _ hbx) (fun hHeld12 => ?_)
              (try simp only [Act.put, List.setIfInBounds_toArray, List.set_cons_zero, List.set_cons_succ])
              clear hK K
              refine wpAnyH_ready (rs := [14]) (by kernel_rfl) (by simp) ?_
              refine AllReadyH.cons (o := _) rfl (fun K hK => ?_) AllReadyH.nil
              go_simp
              refine hK.out _ _ (HSS.out _ hbx) (fun hHeld12 => ?_)
              (try simp only [Act.put, List.setIfInBounds_toArray, List.set_cons_zero, List.set_cons_succ])
              clear hK K
              refine wpAnyH_done (by kernel_rfl) ?_ _
              have RR := Lib.hid (And.intro hgb (And.intro hq hbx))
              clear hq hbx hgb
              go_wp2
              go_meet
              exact ⟨_, rfl, rfl, RR.out⟩
            · go_simp
              have hq : (wr.alloc (.cells #[.int .i64 0, .int .i64 0, .int .i64 0, .int .i64 0] 32)).drew.heap[wr.heap.size]? = _ := heap_alloc_new wr (.cells #[.int .i64 0, .int .i64 0, .int .i64 0, .int .i64 0] 32); have hgb : wr.heap.size ≤ wr.heap.size := Nat.le_refl _; have hql : wr.heap.size < (wr.alloc (.cells #[.int .i64 0, .int .i64 0, .int .i64 0, .int .i64 0] 32)).drew.heap.size := by simp
              replace hbx : Below wr.heap.size wr (wr.alloc (.cells #[.int .i64 0, .int .i64 0, .int .i64 0, .int .i64 0] 32)).drew := ((Below.refl _ _).alloc (Nat.le_refl _) _).drew
              refine hK.out _ _ (HSS.out _ hbx) (fun hHeld12 => ?_)
              (try simp only [Act.put, List.setIfInBounds_toArray, List.set_cons_zero, List.set_cons_succ])
              clear hK K
              refine wpAnyH_ready (rs := [8]) (by kernel_rfl) (by simp) ?_
              refine AllReadyH.cons (o := _) rfl (fun K hK => ?_) AllReadyH.nil
              go_simp
              (go_at_call 24; with_reducible (refine Calls.mono (HTK.out _ hbx) ?_); rintro e w5 ⟨rfl, hb5⟩; replace hq := (hb5.block _ hql).trans hq; replace hbx := chain hbx hb5)
              refine hK.out _ _ (HSS.out _ hbx) (fun hHeld8 => ?_)
              (try simp only [Act.put, List.setIfInBounds_toArray, List.set_cons_zero, List.set_cons_succ])
              clear hK K
              refine wpAnyH_take (i := 9) (oi := _) (v := ?_) rfl (by kernel_rfl) (by kernel_rfl) (by kernel_rfl) (fun _ _ _ h => h) (Or.inl ⟨by rfl, ?_⟩) (by assumption) ?_
              rotate_left 1
              · intro W hSw; clear hSw; first | (go_simp; done) | (go_simp; with_reducible rfl)
              change wpAnyH _ _ _ _ _ _ _ (Act.put _ (some 43) _) _
              (try simp only [Act.put, List.setIfInBounds_toArray, List.set_cons_zero, List.set_cons_succ])
              refine wpAnyH_take (i := 10) (oi := _) (v := ?_) rfl (by kernel_rfl) (by kernel_rfl) (by kernel_rfl) (fun _ _ _ h => h) (Or.inl ⟨by rfl, ?_⟩) (by assumption) ?_
              rotate_left 1
              · intro W hSw; clear hSw; first | (go_simp; done) | (go_simp; with_reducible rfl)
              change wpAnyH _ _ _ _ _ _ _ (Act.put _ (some 53) _) _
              (try simp only [Act.put, List.setIfInBounds_toArray, List.set_cons_zero, List.set_cons_succ])
              refine wpAnyH_take (i := 11) (oi := _) (v := ?_) rfl (by kernel_rfl) (by kernel_rfl) (by kernel_rfl) (fun _ _ _ h => h) (Or.inl ⟨by rfl, ?_⟩) (by assumption) ?_
              rotate_left 1
              · intro W hSw; clear hSw; first | (go_simp; done) | (go_simp; with_reducible rfl)
              change wpAnyH _ _ _ _ _ _ _ (Act.put _ (some 54) _) _
              (try simp only [Act.put, List.setIfInBounds_toArray, List.set_cons_zero, List.set_cons_succ])
              obtain ⟨y0, y1, y2, y3, _⟩ := bkCells hq
              refine wpAnyH_ready (rs := [13]) (by kernel_rfl) (by simp) ?_
              refine AllReadyH.cons (o := _) rfl (fun K hK => ?_) AllReadyH.nil
              go_simp
              replace hbx := bk_below hbx (Nat.le_refl _) (.int .i64 k1) (.int .i64 k2) (.int .i64 k3) (.int .i64 k4)
              replace hq := bk_set hq (.int .i64 k1) (.int .i64 k2) (.int .i64 k3) (.int .i64 k4)
              clear y0 y1 y2 y3
              refine hK.out _ _ (HSS.out _ hbx) (fun hHeld12 => ?_)
              (try simp only [Act.put, List.setIfInBounds_toArray, List.set_cons_zero, List.set_cons_succ])
              clear hK K
              refine wpAnyH_ready (rs := [14]) (by kernel_rfl) (by simp) ?_
              refine AllReadyH.cons (o := _) rfl (fun K hK => ?_) AllReadyH.nil
              go_simp
              refine hK.out _ _ (HSS.out _ hbx) (fun hHeld12 => ?_)
              (try simp only [Act.put, List.setIfInBounds_toArray, List.set_cons_zero, List.set_cons_succ])
              clear hK K
              refine wpAnyH_done (by kernel_rfl) ?_ _
              have RR := Lib.hid (And.intro hgb (And.intro hq hbx))
              clear hq hbx hgb
              go_wp2
              go_meet
              exact ⟨_, rfl, rfl, RR.out⟩
          case rest =>
            clear HTK hSS HSS x0 x1 x2 x3
            obtain ⟨q, rfl, rfl, hgq, hqq, hbq⟩ := hcut
            have hqz := (hbq.cell (p := ⟨p1, o1 + j, none⟩) (by have := hB.out.size; show p1 < _; omega)).trans hq
            have GT := hX.out.keep hbq
            have hT := hB.out.trans (hbq.mono hB.out.size)
            obtain ⟨x0, x1, x2, x3⟩ := GT.cells
            obtain ⟨y0, y1, y2, y3⟩ := hqq.cells
            have GQ := hqq
            clear hX hB hbq hqq hq
            by_cases e0 : E = 0
            · subst e0
              have hI2 := Lib.hid (HIN.out rfl)
              have q1 : wc.heap[q]? = some (.cells #[.int .i64 k1, .int .i64 k2, .int .i64 k3, .int .i64 k4] 32 (0, 0)) := GQ
              have q2 : wc.heap[w.heap.size]? = some (.cells #[.int .i64 R, .int .i64 B, .int .i64 L, .int .i64 T] 32 (0, 0)) := GT
              have hu := Try.underlying32
              have hi4 : (Try.prog.info? 32).map (·.size) = some 4 := by kernel_rfl
              have h1c : (#[.int .i64 k1, .int .i64 k2, .int .i64 k3, .int .i64 k4] : Array Value).all (·.oneCell') = true := by kernel_rfl
              clear GT GQ HIN hI x0 x1 x2 x3 y0 y1 y2 y3
              go_wp2_with (first
                | (refine wpList_load_row rfl 32 _ rfl q rfl 32 _ (0, 0) _ q1 hu rfl hi4 ?_)
                | (refine wpList_store_fresh rfl 32 _ _ rfl w.heap.size #[.int .i64 k1, .int .i64 k2, .int .i64 k3, .int .i64 k4] rfl rfl 32 _ q2 hi4 rfl h1c hT (Nat.le_refl _) ?_; intro W6 hX6 hB6 hk6 hs6; have hX7 : Hid (Bx W6 w.heap.size ⟨k1, k2, k3, k4⟩) := hX6; have hB7 := Lib.hid hB6; clear hX6 hB6 hk6 hs6 q1 q2 hT))
              go_roundw
              case rel => exact ⟨S + n, j + 1, k1, k2, k3, k4, rfl, rfl, by omega, by omega, by omega, by omega, hI2, hX7, hB7⟩
              case measure => simp [intOf]; omega
            · clear HIN y0 y1 y2 y3 hqz GQ
              by_cases e2 : E = 2
              · subst e2
                by_cases hS0 : S = 0
                · subst hS0
                  clear hI
                  go_wp2_with (first
                    | (go_at_call 15; with_reducible (refine Calls.mono (HA.out _ hT) ?_); rintro e v1 ⟨rfl, hv1⟩; have ht1 := chain hT hv1; have gt1 := GT.keep hv1; obtain ⟨t1a, t1b, t1c, t1d⟩ := gt1.cells; have GT2 := gt1)
                    | (go_at_call 15; with_reducible (refine Calls.mono (HA.out _ ht1) ?_); rintro e v2 ⟨rfl, hv2⟩; have ht2 := chain ht1 hv2; have gt2 := GT2.keep hv2; obtain ⟨t2a, t2b, t2c, t2d⟩ := gt2.cells))
                  go_ret
                  exact ⟨rfl, ht2⟩
                · obtain ⟨f1, f2, f3, f4, f5, f6, f7, f8⟩ := hI.out.last hS0
                  clear hI
                  simp only at f1 f2 f3 f4 f5 f6 f7 f8
                  by_cases hR : 0 < R ∧ 1073741824 < T - a
                  · obtain ⟨hR1, hR2⟩ := hR
                    clear f8
                    go_wp2_with (go_at_call 15; with_reducible (refine Calls.mono (HA.out _ hT) ?_); rintro e v1 ⟨rfl, hv1⟩; have ht1 := chain hT hv1; have gt1 := GT.keep hv1; obtain ⟨t1a, t1b, t1c, t1d⟩ := gt1.cells; have GT2 := gt1)
                    go_ret
                    exact ⟨rfl, ht1⟩
                  · have f9 : 0 ≤ R * (T - a) ∧ R * (T - a) ≤ 4611686018427387904 := by
                      refine ⟨Int.mul_nonneg f1 (by omega), ?_⟩
                      by_cases h : 0 < R
                      · calc _ ≤ (4294967296 : Int) * 1073741824 := Int.mul_le_mul f2 (by omega) (by omega) (by decide)
                          _ = 4611686018427387904 := by decide
                      · rw [show R = 0 by omega, Int.zero_mul]; decide
                    obtain ⟨d, hd⟩ : ∃ d, d = T - a := ⟨_, rfl⟩
                    obtain ⟨P, hP⟩ : ∃ P, P = R * d := ⟨_, rfl⟩
                    rw [← hd] at f8 f9 hR
                    rw [← hP] at f8 f9
                    have hd2 := hd.symm
                    have hP2 := hP.symm
                    have hd3 : 0 ≤ d ∧ d ≤ 1099511627776 := by omega
                    clear hd hP
                    by_cases hR3 : 0 < R
                    · have hR4 : ¬ 1073741824 < d := fun h => hR ⟨hR3, h⟩
                      clear hR
                      go_wp2_with (go_at_call 15; with_reducible (refine Calls.mono (HA.out _ hT) ?_); rintro e v1 ⟨rfl, hv1⟩; have ht1 := chain hT hv1; have gt1 := GT.keep hv1; obtain ⟨t1a, t1b, t1c, t1d⟩ := gt1.cells; have GT2 := gt1)
                      go_ret
                      exact ⟨rfl, ht1⟩
                    · clear hR
                      go_wp2_with (go_at_call 15; with_reducible (refine Calls.mono (HA.out _ hT) ?_); rintro e v1 ⟨rfl, hv1⟩; have ht1 := chain hT hv1; have gt1 := GT.keep hv1; obtain ⟨t1a, t1b, t1c, t1d⟩ := gt1.cells; have GT2 := gt1)
                      go_ret
                      exact ⟨rfl, ht1⟩
              · have GT2 := Lib.hid GT
                have hT2 := Lib.hid hT
                clear GT hT
                go_wp2
                go_roundw
                case rel => exact ⟨S, j + 1, R, B, L, T, rfl, rfl, by omega, by omega, by omega, by omega, hI, GT2, hT2⟩
                case measure => simp [intOf]; omega
      · have c21 : ¬ (j : Int) < gaps.length := by omega
        have HTK := Lib.hid (fun (W : World) (h : Below wr.heap.size wr W) => HT.out ⟨R, B, L, T⟩ n (T) W (hB.out.trans (h.mono hB.out.size)) (hI.out.ok hk) (by unfold I64; omega) (by unfold I64; omega))
        have HIN : Hid (takeE ⟨R, B, L, T⟩ n (T) = 0 → Inv ⟨r, b, l, a⟩ (takeK ⟨R, B, L, T⟩ n (T)) (S + n)) := fun h => hI.out.step h
        obtain ⟨⟨k1, k2, k3, k4⟩, hKK⟩ : ∃ K, K = takeK ⟨R, B, L, T⟩ n (T) := ⟨_, rfl⟩
        obtain ⟨E, hEE⟩ : ∃ E, E = takeE ⟨R, B, L, T⟩ n (T) := ⟨_, rfl⟩
        rw [← hKK, ← hEE] at HTK HIN
        simp only [Bk.V] at HTK
        obtain ⟨SS, hSS⟩ : ∃ SS : World → Prop, SS = fun W => (W.cell? ⟨w.heap.size, 0, none⟩ = some (.int .i64 R) ∧ W.cell? ⟨w.heap.size, 1, none⟩ = some (.int .i64 B) ∧ W.cell? ⟨w.heap.size, 2, none⟩ = some (.int .i64 L) ∧ W.cell? ⟨w.heap.size, 3, none⟩ = some (.int .i64 T)) ∧ W.cell? ⟨p1, o1 + j, none⟩ = some (.int .u8 z) ∧ Below wr.heap.size wr W := ⟨_, rfl⟩
        have HSS : Hid (∀ W, Below wr.heap.size wr W → SS W) := fun W h => by
          rw [hSS]
          exact ⟨(hX.out.keep h).cells, (h.cell (p := ⟨p1, o1 + j, none⟩) (by have := hB.out.size; show p1 < _; omega)).trans hq, h⟩
        clear hKK hEE
        go_wp2
        go_cut [11, 12] (fun v u W => ∃ q : Nat, v = .pointer (some ⟨q, 0, none⟩) ∧ u = .int .i64 E ∧ wr.heap.size ≤ q ∧ Bx W q ⟨k1, k2, k3, k4⟩ ∧ Below wr.heap.size wr W)
        case first =>
          have hbx : Below wr.heap.size wr wr.drew := (Below.refl _ _).drew
          refine wp_region_held_drew (S := SS) (by kernel_rfl) (HSS.out _ hbx) (fun hHeld => ?_)
          refine wpAnyH_take (i := 0) (oi := _) (v := ?_) rfl (by kernel_rfl) (by kernel_rfl) (by kernel_rfl) (fun _ _ _ h => h) (Or.inl ⟨by rfl, ?_⟩) (by assumption) ?_
          rotate_left 1
          · intro W hSw; rw [hSS] at hSw; obtain ⟨⟨e0, e1, e2, e3⟩, e4, _⟩ := hSw; first | (go_simp; done) | (go_simp; with_reducible rfl)
          change wpAnyH _ _ _ _ _ _ _ (Act.put _ (some 44) _) _
          (try simp only [Act.put, List.setIfInBounds_toArray, List.set_cons_zero, List.set_cons_succ])
          refine wpAnyH_take (i := 1) (oi := _) (v := ?_) rfl (by kernel_rfl) (by kernel_rfl) (by kernel_rfl) (fun _ _ _ h => h) (Or.inl ⟨by rfl, ?_⟩) (by assumption) ?_
          rotate_left 1
          · intro W hSw; clear hSw; first | (go_simp; done) | (go_simp; with_reducible rfl)
          change wpAnyH _ _ _ _ _ _ _ (Act.put _ (some 45) _) _
          (try simp only [Act.put, List.setIfInBounds_toArray, List.set_cons_zero, List.set_cons_succ])
          refine wpAnyH_take (i := 2) (oi := _) (v := ?_) rfl (by kernel_rfl) (by kernel_rfl) (by kernel_rfl) (fun _ _ _ h => h) (Or.inl ⟨by rfl, ?_⟩) (by assumption) ?_
          rotate_left 1
          · intro W hSw; clear hSw; first | (go_simp; done) | (go_simp; with_reducible rfl)
          change wpAnyH _ _ _ _ _ _ _ (Act.put _ (some 46) _) _
          (try simp only [Act.put, List.setIfInBounds_toArray, List.set_cons_zero, List.set_cons_succ])
          refine wpAnyH_take (i := 3) (oi := _) (v := ?_) rfl (by kernel_rfl) (by kernel_rfl) (by kernel_rfl) (fun _ _ _ h => h) (Or.inl ⟨by rfl, ?_⟩) (by assumption) ?_
          rotate_left 1
          · intro W hSw; clear hSw; first | (go_simp; done) | (go_simp; with_reducible rfl)
          change wpAnyH _ _ _ _ _ _ _ (Act.put _ (some 47) _) _
          (try simp only [Act.put, List.setIfInBounds_toArray, List.set_cons_zero, List.set_cons_succ])
          refine wpAnyH_take (i := 4) (oi := _) (v := ?_) rfl (by kernel_rfl) (by kernel_rfl) (by kernel_rfl) (fun _ _ _ h => h) (Or.inl ⟨by rfl, ?_⟩) (by assumption) ?_
          rotate_left 1
          · intro W hSw; rw [hSS] at hSw; obtain ⟨⟨e0, e1, e2, e3⟩, e4, _⟩ := hSw; first | (go_simp; done) | (go_simp; with_reducible rfl)
          change wpAnyH _ _ _ _ _ _ _ (Act.put _ (some 48) _) _
          (try simp only [Act.put, List.setIfInBounds_toArray, List.set_cons_zero, List.set_cons_succ])
          refine wpAnyH_take (i := 5) (oi := _) (v := ?_) rfl (by kernel_rfl) (by kernel_rfl) (by kernel_rfl) (fun _ _ _ h => h) (Or.inl ⟨by rfl, ?_⟩) (by assumption) ?_
          rotate_left 1
          · intro W hSw; clear hSw; first | (go_simp; done) | (go_simp; with_reducible rfl)
          change wpAnyH _ _ _ _ _ _ _ (Act.put _ (some 49) _) _
          (try simp only [Act.put, List.setIfInBounds_toArray, List.set_cons_zero, List.set_cons_succ])
          refine wpAnyH_take (i := 6) (oi := _) (v := ?_) rfl (by kernel_rfl) (by kernel_rfl) (by kernel_rfl) (fun _ _ _ h => h) (Or.inl ⟨by rfl, ?_⟩) (by assumption) ?_
          rotate_left 1
          · intro W hSw; clear hSw; first | (go_simp; done) | (go_simp; with_reducible rfl)
          change wpAnyH _ _ _ _ _ _ _ (Act.put _ (some 50) _) _
          (try simp only [Act.put, List.setIfInBounds_toArray, List.set_cons_zero, List.set_cons_succ])
          refine wpAnyH_take (i := 7) (oi := _) (v := ?_) rfl (by kernel_rfl) (by kernel_rfl) (by kernel_rfl) (fun _ _ _ h => h) (Or.inl ⟨by rfl, ?_⟩) (by assumption) ?_
          rotate_left 1
          · intro W hSw; clear hSw; first | (go_simp; done) | (go_simp; with_reducible rfl)
          change wpAnyH _ _ _ _ _ _ _ (Act.put _ (some 51) _) _
          (try simp only [Act.put, List.setIfInBounds_toArray, List.set_cons_zero, List.set_cons_succ])
          refine wpAnyH_ready (rs := [8, 12]) (by kernel_rfl) (by simp) ?_
          refine AllReadyH.cons (o := _) rfl (fun K hK => ?_) (AllReadyH.cons (o := _) rfl (fun K hK => ?_) (AllReadyH.nil))
          · go_simp
            (go_at_call 24; with_reducible (refine Calls.mono (HTK.out _ hbx) ?_); rintro e w5 ⟨rfl, hb5⟩; replace hbx := chain hbx hb5)
            refine hK.out _ _ (HSS.out _ hbx) (fun hHeld8 => ?_)
            (try simp only [Act.put, List.setIfInBounds_toArray, List.set_cons_zero, List.set_cons_succ])
            clear hK K
            refine wpAnyH_take (i := 9) (oi := _) (v := ?_) rfl (by kernel_rfl) (by kernel_rfl) (by kernel_rfl) (fun _ _ _ h => h) (Or.inl ⟨by rfl, ?_⟩) (by assumption) ?_
            rotate_left 1
            · intro W hSw; clear hSw; first | (go_simp; done) | (go_simp; with_reducible rfl)
            change wpAnyH _ _ _ _ _ _ _ (Act.put _ (some 43) _) _
            (try simp only [Act.put, List.setIfInBounds_toArray, List.set_cons_zero, List.set_cons_succ])
            refine wpAnyH_take (i := 10) (oi := _) (v := ?_) rfl (by kernel_rfl) (by kernel_rfl) (by kernel_rfl) (fun _ _ _ h => h) (Or.inl ⟨by rfl, ?_⟩) (by assumption) ?_
            rotate_left 1
            · intro W hSw; clear hSw; first | (go_simp; done) | (go_simp; with_reducible rfl)
            change wpAnyH _ _ _ _ _ _ _ (Act.put _ (some 53) _) _
            (try simp only [Act.put, List.setIfInBounds_toArray, List.set_cons_zero, List.set_cons_succ])
            refine wpAnyH_take (i := 11) (oi := _) (v := ?_) rfl (by kernel_rfl) (by kernel_rfl) (by kernel_rfl) (fun _ _ _ h => h) (Or.inl ⟨by rfl, ?_⟩) (by assumption) ?_
            rotate_left 1
            · intro W hSw; clear hSw; first | (go_simp; done) | (go_simp; with_reducible rfl)
            change wpAnyH _ _ _ _ _ _ _ (Act.put _ (some 54) _) _
            (try simp only [Act.put, List.setIfInBounds_toArray, List.set_cons_zero, List.set_cons_succ])
            refine wpAnyH_ready (rs := [12]) (by kernel_rfl) (by simp) ?_
            refine AllReadyH.cons (o := _) rfl (fun K hK => ?_) AllReadyH.nil
            go_simp
            have hby := hbx.alloc hbx.size (.cells #[.int .i64 k1, .int .i64 k2, .int .i64 k3, .int .i64 k4] 32)
            have hq := Bx.new w5 k1 k2 k3 k4
            have hgb : wr.heap.size ≤ w5.heap.size := hbx.size
            replace hbx := hbx.alloc hbx.size (.cells #[.int .i64 0, .int .i64 0, .int .i64 0, .int .i64 0] 32)
            refine hK.out _ _ (HSS.out _ hbx) (fun hHeld12 => ?_)
            (try simp only [Act.put, List.setIfInBounds_toArray, List.set_cons_zero, List.set_cons_succ])
            clear hK K
            refine wpAnyH_ready (rs := [13]) (by kernel_rfl) (by simp) ?_
            refine AllReadyH.cons (o := _) rfl (fun K hK => ?_) AllReadyH.nil
            go_simp
            clear hbx
            have hbx := hby
            clear hby
            refine hK.out _ _ (HSS.out _ hbx) (fun hHeld12 => ?_)
            (try simp only [Act.put, List.setIfInBounds_toArray, List.set_cons_zero, List.set_cons_succ])
            clear hK K
            refine wpAnyH_ready (rs := [14]) (by kernel_rfl) (by simp) ?_
            refine AllReadyH.cons (o := _) rfl (fun K hK => ?_) AllReadyH.nil
            go_simp
            refine hK.out _ _ (HSS.out _ hbx) (fun hHeld12 => ?_)
            (try simp only [Act.put, List.setIfInBounds_toArray, List.set_cons_zero, List.set_cons_succ])
            clear hK K
            refine wpAnyH_done (by kernel_rfl) ?_ _
            have RR := Lib.hid (And.intro hgb (And.intro hq hbx))
            clear hq hbx hgb
            go_wp2
            go_meet
            exact ⟨_, rfl, rfl, RR.out⟩
          · go_simp
            have hq : (wr.alloc (.cells #[.int .i64 0, .int .i64 0, .int .i64 0, .int .i64 0] 32)).drew.heap[wr.heap.size]? = _ := heap_alloc_new wr (.cells #[.int .i64 0, .int .i64 0, .int .i64 0, .int .i64 0] 32); have hgb : wr.heap.size ≤ wr.heap.size := Nat.le_refl _; have hql : wr.heap.size < (wr.alloc (.cells #[.int .i64 0, .int .i64 0, .int .i64 0, .int .i64 0] 32)).drew.heap.size := by simp
            replace hbx : Below wr.heap.size wr (wr.alloc (.cells #[.int .i64 0, .int .i64 0, .int .i64 0, .int .i64 0] 32)).drew := ((Below.refl _ _).alloc (Nat.le_refl _) _).drew
            refine hK.out _ _ (HSS.out _ hbx) (fun hHeld12 => ?_)
            (try simp only [Act.put, List.setIfInBounds_toArray, List.set_cons_zero, List.set_cons_succ])
            clear hK K
            refine wpAnyH_ready (rs := [8]) (by kernel_rfl) (by simp) ?_
            refine AllReadyH.cons (o := _) rfl (fun K hK => ?_) AllReadyH.nil
            go_simp
            (go_at_call 24; with_reducible (refine Calls.mono (HTK.out _ hbx) ?_); rintro e w5 ⟨rfl, hb5⟩; replace hq := (hb5.block _ hql).trans hq; replace hbx := chain hbx hb5)
            refine hK.out _ _ (HSS.out _ hbx) (fun hHeld8 => ?_)
            (try simp only [Act.put, List.setIfInBounds_toArray, List.set_cons_zero, List.set_cons_succ])
            clear hK K
            refine wpAnyH_take (i := 9) (oi := _) (v := ?_) rfl (by kernel_rfl) (by kernel_rfl) (by kernel_rfl) (fun _ _ _ h => h) (Or.inl ⟨by rfl, ?_⟩) (by assumption) ?_
            rotate_left 1
            · intro W hSw; clear hSw; first | (go_simp; done) | (go_simp; with_reducible rfl)
            change wpAnyH _ _ _ _ _ _ _ (Act.put _ (some 43) _) _
            (try simp only [Act.put, List.setIfInBounds_toArray, List.set_cons_zero, List.set_cons_succ])
            refine wpAnyH_take (i := 10) (oi := _) (v := ?_) rfl (by kernel_rfl) (by kernel_rfl) (by kernel_rfl) (fun _ _ _ h => h) (Or.inl ⟨by rfl, ?_⟩) (by assumption) ?_
            rotate_left 1
            · intro W hSw; clear hSw; first | (go_simp; done) | (go_simp; with_reducible rfl)
            change wpAnyH _ _ _ _ _ _ _ (Act.put _ (some 53) _) _
            (try simp only [Act.put, List.setIfInBounds_toArray, List.set_cons_zero, List.set_cons_succ])
            refine wpAnyH_take (i := 11) (oi := _) (v := ?_) rfl (by kernel_rfl) (by kernel_rfl) (by kernel_rfl) (fun _ _ _ h => h) (Or.inl ⟨by rfl, ?_⟩) (by assumption) ?_
            rotate_left 1
            · intro W hSw; clear hSw; first | (go_simp; done) | (go_simp; with_reducible rfl)
            change wpAnyH _ _ _ _ _ _ _ (Act.put _ (some 54) _) _
            (try simp only [Act.put, List.setIfInBounds_toArray, List.set_cons_zero, List.set_cons_succ])
            obtain ⟨y0, y1, y2, y3, _⟩ := bkCells hq
            refine wpAnyH_ready (rs := [13]) (by kernel_rfl) (by simp) ?_
            refine AllReadyH.cons (o := _) rfl (fun K hK => ?_) AllReadyH.nil
            go_simp
            replace hbx := bk_below hbx (Nat.le_refl _) (.int .i64 k1) (.int .i64 k2) (.int .i64 k3) (.int .i64 k4)
            replace hq := bk_set hq (.int .i64 k1) (.int .i64 k2) (.int .i64 k3) (.int .i64 k4)
            clear y0 y1 y2 y3
            refine hK.out _ _ (HSS.out _ hbx) (fun hHeld12 => ?_)
            (try simp only [Act.put, List.setIfInBounds_toArray, List.set_cons_zero, List.set_cons_succ])
            clear hK K
            refine wpAnyH_ready (rs := [14]) (by kernel_rfl) (by simp) ?_
            refine AllReadyH.cons (o := _) rfl (fun K hK => ?_) AllReadyH.nil
            go_simp
            refine hK.out _ _ (HSS.out _ hbx) (fun hHeld12 => ?_)
            (try simp only [Act.put, List.setIfInBounds_toArray, List.set_cons_zero, List.set_cons_succ])
            clear hK K
            refine wpAnyH_done (by kernel_rfl) ?_ _
            have RR := Lib.hid (And.intro hgb (And.intro hq hbx))
            clear hq hbx hgb
            go_wp2
            go_meet
            exact ⟨_, rfl, rfl, RR.out⟩
        case rest =>
          clear HTK hSS HSS x0 x1 x2 x3
          obtain ⟨q, rfl, rfl, hgq, hqq, hbq⟩ := hcut
          have hqz := (hbq.cell (p := ⟨p1, o1 + j, none⟩) (by have := hB.out.size; show p1 < _; omega)).trans hq
          have GT := hX.out.keep hbq
          have hT := hB.out.trans (hbq.mono hB.out.size)
          obtain ⟨x0, x1, x2, x3⟩ := GT.cells
          obtain ⟨y0, y1, y2, y3⟩ := hqq.cells
          have GQ := hqq
          clear hX hB hbq hqq hq
          by_cases e0 : E = 0
          · subst e0
            have hI2 := Lib.hid (HIN.out rfl)
            have q1 : wc.heap[q]? = some (.cells #[.int .i64 k1, .int .i64 k2, .int .i64 k3, .int .i64 k4] 32 (0, 0)) := GQ
            have q2 : wc.heap[w.heap.size]? = some (.cells #[.int .i64 R, .int .i64 B, .int .i64 L, .int .i64 T] 32 (0, 0)) := GT
            have hu := Try.underlying32
            have hi4 : (Try.prog.info? 32).map (·.size) = some 4 := by kernel_rfl
            have h1c : (#[.int .i64 k1, .int .i64 k2, .int .i64 k3, .int .i64 k4] : Array Value).all (·.oneCell') = true := by kernel_rfl
            clear GT GQ HIN hI x0 x1 x2 x3 y0 y1 y2 y3
            go_wp2_with (first
              | (refine wpList_load_row rfl 32 _ rfl q rfl 32 _ (0, 0) _ q1 hu rfl hi4 ?_)
              | (refine wpList_store_fresh rfl 32 _ _ rfl w.heap.size #[.int .i64 k1, .int .i64 k2, .int .i64 k3, .int .i64 k4] rfl rfl 32 _ q2 hi4 rfl h1c hT (Nat.le_refl _) ?_; intro W6 hX6 hB6 hk6 hs6; have hX7 : Hid (Bx W6 w.heap.size ⟨k1, k2, k3, k4⟩) := hX6; have hB7 := Lib.hid hB6; clear hX6 hB6 hk6 hs6 q1 q2 hT))
            go_roundw
            case rel => exact ⟨S + n, j + 1, k1, k2, k3, k4, rfl, rfl, by omega, by omega, by omega, by omega, hI2, hX7, hB7⟩
            case measure => simp [intOf]; omega
          · clear HIN y0 y1 y2 y3 hqz GQ
            by_cases e2 : E = 2
            · subst e2
              by_cases hS0 : S = 0
              · subst hS0
                clear hI
                go_wp2_with (first
                  | (go_at_call 15; with_reducible (refine Calls.mono (HA.out _ hT) ?_); rintro e v1 ⟨rfl, hv1⟩; have ht1 := chain hT hv1; have gt1 := GT.keep hv1; obtain ⟨t1a, t1b, t1c, t1d⟩ := gt1.cells; have GT2 := gt1)
                  | (go_at_call 15; with_reducible (refine Calls.mono (HA.out _ ht1) ?_); rintro e v2 ⟨rfl, hv2⟩; have ht2 := chain ht1 hv2; have gt2 := GT2.keep hv2; obtain ⟨t2a, t2b, t2c, t2d⟩ := gt2.cells))
                go_ret
                exact ⟨rfl, ht2⟩
              · obtain ⟨f1, f2, f3, f4, f5, f6, f7, f8⟩ := hI.out.last hS0
                clear hI
                simp only at f1 f2 f3 f4 f5 f6 f7 f8
                by_cases hR : 0 < R ∧ 1073741824 < T - a
                · obtain ⟨hR1, hR2⟩ := hR
                  clear f8
                  go_wp2_with (go_at_call 15; with_reducible (refine Calls.mono (HA.out _ hT) ?_); rintro e v1 ⟨rfl, hv1⟩; have ht1 := chain hT hv1; have gt1 := GT.keep hv1; obtain ⟨t1a, t1b, t1c, t1d⟩ := gt1.cells; have GT2 := gt1)
                  go_ret
                  exact ⟨rfl, ht1⟩
                · have f9 : 0 ≤ R * (T - a) ∧ R * (T - a) ≤ 4611686018427387904 := by
                    refine ⟨Int.mul_nonneg f1 (by omega), ?_⟩
                    by_cases h : 0 < R
                    · calc _ ≤ (4294967296 : Int) * 1073741824 := Int.mul_le_mul f2 (by omega) (by omega) (by decide)
                        _ = 4611686018427387904 := by decide
                    · rw [show R = 0 by omega, Int.zero_mul]; decide
                  obtain ⟨d, hd⟩ : ∃ d, d = T - a := ⟨_, rfl⟩
                  obtain ⟨P, hP⟩ : ∃ P, P = R * d := ⟨_, rfl⟩
                  rw [← hd] at f8 f9 hR
                  rw [← hP] at f8 f9
                  have hd2 := hd.symm
                  have hP2 := hP.symm
                  have hd3 : 0 ≤ d ∧ d ≤ 1099511627776 := by omega
                  clear hd hP
                  by_cases hR3 : 0 < R
                  · have hR4 : ¬ 1073741824 < d := fun h => hR ⟨hR3, h⟩
                    clear hR
                    go_wp2_with (go_at_call 15; with_reducible (refine Calls.mono (HA.out _ hT) ?_); rintro e v1 ⟨rfl, hv1⟩; have ht1 := chain hT hv1; have gt1 := GT.keep hv1; obtain ⟨t1a, t1b, t1c, t1d⟩ := gt1.cells; have GT2 := gt1)
                    go_ret
                    exact ⟨rfl, ht1⟩
                  · clear hR
                    go_wp2_with (go_at_call 15; with_reducible (refine Calls.mono (HA.out _ hT) ?_); rintro e v1 ⟨rfl, hv1⟩; have ht1 := chain hT hv1; have gt1 := GT.keep hv1; obtain ⟨t1a, t1b, t1c, t1d⟩ := gt1.cells; have GT2 := gt1)
                    go_ret
                    exact ⟨rfl, ht1⟩
            · have GT2 := Lib.hid GT
              have hT2 := Lib.hid hT
              clear GT hT
              go_wp2
              go_roundw
              case rel => exact ⟨S, j + 1, R, B, L, T, rfl, rfl, by omega, by omega, by omega, by omega, hI, GT2, hT2⟩
              case measure => simp [intOf]; omega
    · have GT := hX.out
      have hT := hB.out
      clear hX hB h1 h2
      by_cases c4 : I < asks.length
      · have c5 : 200 ≤ I := by omega
        clear c1
        by_cases hS0 : S = 0
        · subst hS0
          clear hI
          go_wp2_with (first
            | (go_at_call 15; with_reducible (refine Calls.mono (HA.out _ hT) ?_); rintro e v1 ⟨rfl, hv1⟩; have ht1 := chain hT hv1; have gt1 := GT.keep hv1; obtain ⟨t1a, t1b, t1c, t1d⟩ := gt1.cells; have GT2 := gt1)
            | (go_at_call 15; with_reducible (refine Calls.mono (HA.out _ ht1) ?_); rintro e v2 ⟨rfl, hv2⟩; have ht2 := chain ht1 hv2; have gt2 := GT2.keep hv2; obtain ⟨t2a, t2b, t2c, t2d⟩ := gt2.cells))
          go_ret
          exact ⟨rfl, ht2⟩
        · obtain ⟨f1, f2, f3, f4, f5, f6, f7, f8⟩ := hI.out.last hS0
          clear hI
          simp only at f1 f2 f3 f4 f5 f6 f7 f8
          by_cases hR : 0 < R ∧ 1073741824 < T - a
          · obtain ⟨hR1, hR2⟩ := hR
            clear f8
            go_wp2_with (go_at_call 15; with_reducible (refine Calls.mono (HA.out _ hT) ?_); rintro e v1 ⟨rfl, hv1⟩; have ht1 := chain hT hv1; have gt1 := GT.keep hv1; obtain ⟨t1a, t1b, t1c, t1d⟩ := gt1.cells; have GT2 := gt1)
            go_ret
            exact ⟨rfl, ht1⟩
          · have f9 : 0 ≤ R * (T - a) ∧ R * (T - a) ≤ 4611686018427387904 := by
              refine ⟨Int.mul_nonneg f1 (by omega), ?_⟩
              by_cases h : 0 < R
              · calc _ ≤ (4294967296 : Int) * 1073741824 := Int.mul_le_mul f2 (by omega) (by omega) (by decide)
                  _ = 4611686018427387904 := by decide
              · rw [show R = 0 by omega, Int.zero_mul]; decide
            obtain ⟨d, hd⟩ : ∃ d, d = T - a := ⟨_, rfl⟩
            obtain ⟨P, hP⟩ : ∃ P, P = R * d := ⟨_, rfl⟩
            rw [← hd] at f8 f9 hR
            rw [← hP] at f8 f9
            have hd2 := hd.symm
            have hP2 := hP.symm
            have hd3 : 0 ≤ d ∧ d ≤ 1099511627776 := by omega
            clear hd hP
            by_cases hR3 : 0 < R
            · have hR4 : ¬ 1073741824 < d := fun h => hR ⟨hR3, h⟩
              clear hR
              go_wp2_with (go_at_call 15; with_reducible (refine Calls.mono (HA.out _ hT) ?_); rintro e v1 ⟨rfl, hv1⟩; have ht1 := chain hT hv1; have gt1 := GT.keep hv1; obtain ⟨t1a, t1b, t1c, t1d⟩ := gt1.cells; have GT2 := gt1)
              go_ret
              exact ⟨rfl, ht1⟩
            · clear hR
              go_wp2_with (go_at_call 15; with_reducible (refine Calls.mono (HA.out _ hT) ?_); rintro e v1 ⟨rfl, hv1⟩; have ht1 := chain hT hv1; have gt1 := GT.keep hv1; obtain ⟨t1a, t1b, t1c, t1d⟩ := gt1.cells; have GT2 := gt1)
              go_ret
              exact ⟨rfl, ht1⟩
      · clear c1
        by_cases hS0 : S = 0
        · subst hS0
          clear hI
          go_wp2_with (first
            | (go_at_call 15; with_reducible (refine Calls.mono (HA.out _ hT) ?_); rintro e v1 ⟨rfl, hv1⟩; have ht1 := chain hT hv1; have gt1 := GT.keep hv1; obtain ⟨t1a, t1b, t1c, t1d⟩ := gt1.cells; have GT2 := gt1)
            | (go_at_call 15; with_reducible (refine Calls.mono (HA.out _ ht1) ?_); rintro e v2 ⟨rfl, hv2⟩; have ht2 := chain ht1 hv2; have gt2 := GT2.keep hv2; obtain ⟨t2a, t2b, t2c, t2d⟩ := gt2.cells))
          go_ret
          exact ⟨rfl, ht2⟩
        · obtain ⟨f1, f2, f3, f4, f5, f6, f7, f8⟩ := hI.out.last hS0
          clear hI
          simp only at f1 f2 f3 f4 f5 f6 f7 f8
          by_cases hR : 0 < R ∧ 1073741824 < T - a
          · obtain ⟨hR1, hR2⟩ := hR
            clear f8
            go_wp2_with (go_at_call 15; with_reducible (refine Calls.mono (HA.out _ hT) ?_); rintro e v1 ⟨rfl, hv1⟩; have ht1 := chain hT hv1; have gt1 := GT.keep hv1; obtain ⟨t1a, t1b, t1c, t1d⟩ := gt1.cells; have GT2 := gt1)
            go_ret
            exact ⟨rfl, ht1⟩
          · have f9 : 0 ≤ R * (T - a) ∧ R * (T - a) ≤ 4611686018427387904 := by
              refine ⟨Int.mul_nonneg f1 (by omega), ?_⟩
              by_cases h : 0 < R
              · calc _ ≤ (4294967296 : Int) * 1073741824 := Int.mul_le_mul f2 (by omega) (by omega) (by decide)
                  _ = 4611686018427387904 := by decide
              · rw [show R = 0 by omega, Int.zero_mul]; decide
            obtain ⟨d, hd⟩ : ∃ d, d = T - a := ⟨_, rfl⟩
            obtain ⟨P, hP⟩ : ∃ P, P = R * d := ⟨_, rfl⟩
            rw [← hd] at f8 f9 hR
            rw [← hP] at f8 f9
            have hd2 := hd.symm
            have hP2 := hP.symm
            have hd3 : 0 ≤ d ∧ d ≤ 1099511627776 := by omega
            clear hd hP
            by_cases hR3 : 0 < R
            · have hR4 : ¬ 1073741824 < d := fun h => hR ⟨hR3, h⟩
              clear hR
              go_wp2_with (go_at_call 15; with_reducible (refine Calls.mono (HA.out _ hT) ?_); rintro e v1 ⟨rfl, hv1⟩; have ht1 := chain hT hv1; have gt1 := GT.keep hv1; obtain ⟨t1a, t1b, t1c, t1d⟩ := gt1.cells; have GT2 := gt1)
              go_ret
              exact ⟨rfl, ht1⟩
            · clear hR
              go_wp2_with (go_at_call 15; with_reducible (refine Calls.mono (HA.out _ hT) ?_); rintro e v1 ⟨rfl, hv1⟩; have ht1 := chain hT hv1; have gt1 := GT.keep hv1; obtain ⟨t1a, t1b, t1c, t1d⟩ := gt1.cells; have GT2 := gt1)
              go_ret
              exact ⟨rfl, ht1⟩

end Go.Proofs.Ytcliampjgbmeaaa
