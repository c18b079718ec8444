/-
  CurveCorners.
-/
import Derived.Test.YtoedapeookkodaaCurveGoes
import Derived.Test.YtoedapeookkodaaCurveCornN
namespace Go.Proofs.Ytoedapeookkodaa
open Go.RowKit

theorem of_sound {l : List Int} {t : Int} (hb : ofBad l t = false) : soundL (ofL l t) = true := by
  obtain ⟨h1, h2, _, h4⟩ := ofBad_false hb
  refine (soundL_iff _).2 ⟨by rw [ofL_len]; omega, by rw [ofL_len]; omega, by rw [ofL_at l t (Nat.zero_le _)]; simp [sumK], fun i hi => ?_⟩
  rw [ofL_len] at hi
  unfold soundAt
  rw [ofL_at l t (by omega), ofL_at l t (by omega)]
  have := ofL_i64 hb (i := i) (by omega)
  rw [decide_eq_true this.2, Bool.true_and]
  cases i with
  | zero => rfl
  | succ i =>
    have hm := sumK_mono h4 (i := i) 1 (by omega)
    rw [Nat.add_sub_cancel, decide_eq_true (Int.mul_le_mul_of_nonneg_right hm h2)]
    simp
theorem of_small {l : List Int} (hl : ∀ z ∈ l, 0 ≤ z ∧ z ≤ 65535) : ∀ i : Nat, i ≤ l.length → 0 ≤ sumK l i ∧ sumK l i ≤ 65535 * (i : Int)
  | 0, _ => ⟨Int.le_refl _, Int.le_refl _⟩
  | k + 1, h => by
    have ih := of_small hl k (by omega)
    have hz := hl (l.getD k 0) (by rw [List.getD_eq_getElem?_getD, List.getElem?_eq_getElem (by omega : k < l.length)]; exact List.getElem_mem _)
    rw [sumK_succ l (by omega)]
    omega
/-- All that the law looks at, of the curve of counts. -/
theorem corners_met {l : List Int} {m : Nat} (hm : l.length = m) (h3 : m ≤ 300) (hl : ∀ z ∈ l, 0 ≤ z ∧ z ≤ 65535) : ∃ (F : Nat → Int) (J : Nat → Nat) (nl : Nat),
    (∀ i, (ofL l 1).getD i 0 = F i) ∧ (∀ i, i < nl + 1 → (hullL (ofL l 1)).getD i 0 = (J i : Int)) ∧ (hullL (ofL l 1)).length = nl + 1 ∧ J 0 = 0 ∧ J nl = m ∧
    (∀ i, i < nl + 1 → J i ≤ m) ∧ (∀ i, i < nl → J i < J (i + 1)) ∧ (∀ a b, a ≤ b → b ≤ m → 0 ≤ F a ∧ F a ≤ F b ∧ F b ≤ 19660500) ∧
    (∀ i s, i < nl → s ≤ m → (F s - F (J i)) * ((J (i + 1) : Int) - J i) ≤ (F (J (i + 1)) - F (J i)) * ((s : Int) - J i)) ∧
    (∀ i, i + 1 < nl → (F (J (i + 2)) - F (J (i + 1))) * ((J (i + 1) : Int) - J i) < (F (J (i + 1)) - F (J i)) * ((J (i + 2) : Int) - J (i + 1))) ∧ nl ≤ 300 := by
  have hb : ofBad l 1 = false := ofBad_good (by omega) (by decide) (by decide) (fun z hz => by have := hl z hz; omega)
  have hs := of_sound hb
  have hlen : (ofL l 1).length = m + 1 := by rw [ofL_len, hm]
  obtain ⟨c, hc⟩ : ∃ c, c = ofL l 1 := ⟨_, rfl⟩
  have hF : ∀ i, i ≤ m → c.getD i 0 = sumK l i := fun i hi => by rw [hc, ofL_at l 1 (by omega), Int.mul_one]
  rw [← hc] at hs hlen ⊢
  obtain ⟨f1, f2⟩ := corner_first (c := c) (by omega)
  have f3 := corner_last (c := c) (by omega)
  obtain ⟨r1, r2, _⟩ := filt_range (cornerB c) c.length
  have hcl : (List.range c.length).filter (cornerB c) = cornerL c := rfl
  rw [hcl] at r1 r2
  obtain ⟨nl, hnl⟩ : ∃ nl, (cornerL c).length = nl + 1 := ⟨(cornerL c).length - 1, by omega⟩
  rw [hnl] at r1 r2 f3
  rw [Nat.add_sub_cancel] at f3
  have hle := hullTo_le c c.length
  refine ⟨fun i => c.getD i 0, fun i => (cornerL c).getD i 0, nl, fun i => rfl, fun i hi => ?_, ?_, f2, by show (cornerL c).getD nl 0 = m; rw [f3]; omega, fun i hi => ?_, fun i hi => (r2 i (by omega)).1, fun a b hab hbm => ?_, fun i s hi hsm => ?_, fun i hi => ?_, ?_⟩
  · rw [hull_corner]
    simp only [List.getD_eq_getElem?_getD, List.getElem?_map]
    rw [List.getElem?_eq_getElem (by omega : i < (cornerL c).length)]
    rfl
  · rw [hull_corner, List.length_map, hnl]
  · show (cornerL c).getD i 0 ≤ m
    have := (r1 i hi).2; omega
  · have h1 := sound_le hs (Nat.zero_le a) (by omega : a < c.length)
    have h2 := sound_le hs hab (by omega : b < c.length)
    have h4 := sound_bounds hs (show 0 < c.length by omega)
    have h5 := of_small hl b (by omega)
    have h6 := hF b hbm
    simp only []
    exact ⟨by omega, h2, by omega⟩
  · have q := r2 i (by omega)
    have h1 := above_le (r1 i (by omega)).1 (r1 (i + 1) (by omega)).1 q.1 (r1 (i + 1) (by omega)).2 q.2 (s := s) (by omega)
    unfold above at h1
    simp only []
    omega
  · exact corner_fall (r1 (i + 1) (by omega)).1 (r2 i (by omega)).1 (r2 (i + 1) (by omega)).1 (r1 (i + 2) (by omega)).2
  · have : (cornerL c).length ≤ c.length := by unfold cornerL; exact Nat.le_trans (List.length_filter_le _ _) (by simp)
    omega

set_option maxHeartbeats 1600000 in
set_option maxRecDepth 20000 in
theorem curveCorners_le (A : Option Addr) (c : Nat) (l : List Nat) (w : World) (HS : CurveSpec w) (h : Ints w w.heap.size .u16 A (up l)) (hlt : ∀ b ∈ l, b < 65536) (hN : l.length ≤ 300) :
    Calls Try.prog 7 #[.slice A l.length c] w fun e w' => e = .returned (.bool true) ∧ Below w.heap.size w w' := by
  obtain ⟨i0, hif, hz0, hz1, hz2⟩ := info_parts Try.infoI64c
  have HA := Lib.hid (curveAwake HS)
  have hN2 : (l.length : Int) ≤ 300 := by omega
  go_enter Try.func7, Try.ntmps7
  go_wp2
  go_loopw [3, 4] (fun v i wr => ∃ k : Nat, k ≤ l.length ∧ i = .int .i64 k ∧ (∃ A c, v = .slice A k c) ∧ Hid (wr.ownsRow w.heap.size 3 1 v k ((up (l.take k)).map (Value.int .i64)) ∧ Below w.heap.size w wr)) (fun _ i _ => l.length - (intOf i).toNat)
  case atStart => exact ⟨0, Nat.zero_le _, rfl, ⟨_, _, rfl⟩, World.ownsRow_made (base := w.heap.size) (e := 3) (size := 1) w #[] 0 (Nat.le_refl _) (Nat.zero_le _) rfl, (Below.refl _ _).alloc (Nat.le_refl _) _⟩
  case round =>
    obtain ⟨k, hk, rfl, ⟨A1, c1, rfl⟩, hS⟩ := hrel
    by_cases hlt3 : k < l.length
    · have k1 : (k : Int) < (l.length : Int) := by omega
      have k2 : (k : Int) < 300 := by omega
      have k0 : (0 : Int) ≤ (k : Int) := by omega
      obtain ⟨hown, hbel⟩ := hS.out
      obtain ⟨b1, off, rfl, hbl, hc9⟩ := (h.below hbel) k (by rw [up_len]; exact hlt3)
      rw [up_getD] at hc9
      have ht1 := take_snocC (fun x : Nat => Value.int .i64 (x : Int)) l hlt3
      have e1 : ∀ j, (up (l.take j)).map (Value.int .i64) = (l.take j).map fun x : Nat => Value.int .i64 (x : Int) := fun j => by unfold up; rw [List.map_map]; rfl
      have hx2 : l.getD k 0 < 65536 := by rw [List.getD_eq_getElem?_getD, List.getElem?_eq_getElem hlt3]; exact hlt _ (List.getElem_mem hlt3)
      have hsum := sumK_succ (up l) (k := k) (by rw [up_len]; exact hlt3)
      rw [up_getD] at hsum
      have hsb := sumK_bounds (l := up l) (fun z hz => by have := up_i64 hlt z hz; omega) k (by rw [up_len]; omega)
      rw [e1] at hown
      obtain ⟨x, hx⟩ : ∃ x, x = l.getD k 0 := ⟨_, rfl⟩
      rw [← hx] at hc9 ht1 hx2 hsum
      obtain ⟨P1, hP1⟩ : ∃ P, P = (l.take k).map fun x : Nat => Value.int .i64 (x : Int) := ⟨_, rfl⟩
      rw [← hP1] at hown ht1
      have HT1 := Lib.hid ((e1 (k + 1)).trans ht1)
      have x0 : (0 : Int) ≤ (x : Int) := by omega
      have x1 : (x : Int) < 65536 := by omega
      clear hx ht1 e1 hP1 hS hx2 hsum hsb
      go_wp2_with (at_builtin; refine wpList_append_own_at _ rfl _ _ 22 rfl w.heap.size 3 i0 (.int .i64 0) 1 8 Try.underlying22 hif hz0 hz1 hz2 rfl (by decide) _ _ _ rfl (hown.alloc _) ⟨wr.heap.size, 0, none⟩ 1 1 [.int .i64 (x : Int)] rfl rfl (cell_one_new _ _ _) ?d1 ?d2 ?d3 ?d4 ?_)
      case d1 => first | rfl | (intro u hu; simp at hu; subst hu; rfl)
      case d2 => unfold maxLen; omega
      case d3 => omega
      case d4 => have := hbel.size; simp; omega
      intro v3 w3 hown3 hg3 _ _
      have hb3 : Below w.heap.size w w3 := (hbel.alloc hbel.size _).grown hg3 (by have := hbel.size; simp; omega) fun q hq => (hown.lt q hq).1
      have hc3 := (hb3.cell (p := ⟨b1, off + k, none⟩) hbl).trans ((hbel.cell (p := ⟨b1, off + k, none⟩) hbl).symm.trans hc9)
      obtain ⟨A3, c3, rfl⟩ := own_slice hown3
      rw [← HT1.out] at hown3
      have R := Lib.hid (And.intro hown3 hb3)
      clear hown hbel hg3 hc9 hown3 hb3
      go_wp2
      go_roundw
      case rel => first | exact ⟨k + 1, by omega, by go_num, ⟨A3, c3, rfl⟩, R.out⟩ | ((repeat apply Exists.intro); exact ⟨⟨k + 1, by omega, by go_num, ⟨A3, c3, rfl⟩, R.out⟩, rfl⟩)
      case measure => simp [intOf]; omega
    · have hk8 : k = l.length := by omega
      subst hk8
      have hm9 : l.length ≤ 300 := hN
      obtain ⟨hown, hbel⟩ := hS.out
      clear hS
      have hLl : (up l).length = l.length := by rw [up_len]
      have hlt9 : l.take l.length = l := List.take_length
      rw [hlt9] at hown
      have hub := up_i64 hlt
      have hbad : ofBad (up l) 1 = false := ofBad_good (by omega) (by decide) (by decide) (fun z hz => by have := hub z hz; omega)
      have h64 : ∀ z ∈ up l, -9223372036854775808 ≤ z ∧ z ≤ 9223372036854775807 := fun z hz => by have := hub z hz; omega
      have hc1 := own_le hown
      have hi1 : Ints wr wr.heap.size .i64 A1 (up l) := Ints.of_own (n := l.length) (c := c1) (by rw [hLl]; exact hown)
      have eR : ofR (up l) 1 = (0, ofL (up l) 1) := by unfold ofR; rw [hbad]; rfl
      have hlen := ofL_len (up l) 1
      rw [hLl] at hlen
      have h64b : ∀ z ∈ ofL (up l) 1, -9223372036854775808 ≤ z ∧ z ≤ 9223372036854775807 := fun z hz => by
        unfold ofL at hz
        obtain ⟨i, hi, rfl⟩ := List.mem_map.1 hz
        have := ofL_i64 hbad (i := i) (by have := List.mem_range.1 hi; omega)
        omega
      have hsd := of_sound hbad
      have eH : hullR (ofL (up l) 1) = (0, hullL (ofL (up l) 1)) := by unfold hullR; rw [if_pos hsd]
      obtain ⟨F, J, nl, c1F, c2J, c3L, j0, jl, jb, js, cf, cab, cfa, nl3⟩ := corners_met hLl (by omega) hub
      obtain ⟨CN, hCN⟩ : ∃ CN, CN = l.length + 1 := ⟨_, rfl⟩
      obtain ⟨NH, hNH⟩ : ∃ NH, NH = nl + 1 := ⟨_, rfl⟩
      have HO := HS.makes A1 c1 (up l) 1
      rw [eR] at HO
      simp only [hlen] at HO
      rw [hLl, ← hCN] at HO
      have HO' := Lib.hid (fun (W : World) (hb : Below w.heap.size w W) (hi : Ints W W.heap.size .i64 A1 (up l)) => HO W hb hi h64 hc1 (by omega) ⟨by decide, by decide⟩)
      have HH : Hid (∀ (W : World) (A2 : Option Addr) (c2 : Nat), Below w.heap.size w W → Ints W W.heap.size .i64 A2 (ofL (up l) 1) → CN ≤ c2 →
          Calls Try.prog 15 #[.slice A2 CN c2] W fun e w' => ∃ A' c', e = .returned (.tuple #[.slice A' NH c', .int .i64 0]) ∧ Ints w' w'.heap.size .i64 A' (hullL (ofL (up l) 1)) ∧ Below W.heap.size W w') := fun W A2 c2 hb hi hc => by
        have h9 := HS.hull A2 c2 (ofL (up l) 1) W hb hi h64b (by rw [hlen, ← hCN]; exact hc) (by rw [hlen]; omega)
        rw [eH] at h9
        simp only [hlen, c3L] at h9
        rw [← hCN, ← hNH] at h9
        exact h9.mono fun e w' ⟨A', c', q1, _, q3, q4⟩ => ⟨A', c', q1, q3, q4⟩
      obtain ⟨C, hC⟩ : ∃ C, C = ofL (up l) 1 := ⟨_, rfl⟩
      obtain ⟨HL, hHL⟩ : ∃ C, C = hullL (ofL (up l) 1) := ⟨_, rfl⟩
      simp only [← hHL] at HH c2J c3L
      simp only [← hC] at HO' HH hlen c1F
      have HCL := Lib.hid hlen
      have HHL := Lib.hid c3L
      have HCF := Lib.hid c1F
      have HJJ := Lib.hid c2J
      have HJB := Lib.hid jb
      have HJS := Lib.hid js
      have HFF := Lib.hid cf
      have HAB := Lib.hid cab
      have HFA := Lib.hid cfa
      have HCN := Lib.hid hCN
      have HNH := Lib.hid hNH
      have HJ0 := Lib.hid j0
      have HJL := Lib.hid jl
      have h300 : Hid (l.length ≤ 300) := by refine Lib.hid ?_; omega
      have HNL := Lib.hid nl3
      have nh0 : ((NH : Int) == 0) = false := by rw [beq_eq_false_iff_ne]; omega
      have nh1 : (NH : Int) - 1 = (nl : Int) := by omega
      have nh2 : (nl : Int) < (NH : Int) := by omega
      have nh3 : (0 : Int) < (NH : Int) := by omega
      have nh4 : (NH : Int) ≤ 301 := by omega
      clear HS HO h64 h64b eR eH hbad hub hlt9 hown hLl hlen hsd c1F c2J c3L j0 jl jb js cf cab cfa hCN hNH hC hHL hlt nl3 hc1
      go_wp2_with (first
        | (go_at_call 10; with_reducible (refine Calls.mono (HO'.out _ hbel hi1) ?_); rintro e w4 ⟨A4, c4, rfl, hc4, hi4, hb4⟩; have hx4 := chain hbel hb4)
        | (go_at_call 15; with_reducible (refine Calls.mono (HH.out _ _ _ hx4 hi4 hc4) ?_); rintro e w5 ⟨A5, c5, rfl, hi5, hb5⟩; have hx5 := chain hx4 hb5; replace hi4 := (hi4.below hb5).more hb5.size)
        | (go_at_call 12; with_reducible (refine Calls.mono (HA.out _ hx5) ?_); rintro e w6 ⟨rfl, hb6⟩; have hx6 := chain hx5 hb6; replace hi4 := (hi4.below hb6).more hb6.size; replace hi5 := (hi5.below hb6).more hb6.size; obtain ⟨bc, oc, rfl, _, hcc⟩ := hi4.at_ (by rw [HCL.out]; omega); obtain ⟨bh, oh, rfl, _, hch⟩ := hi5.at_ (by rw [HHL.out]; omega); have hz0 := hch 0 (by rw [HHL.out]; omega); have hz1 := hch nl (by rw [HHL.out]; omega); rw [HJJ.out 0 (by omega), HJ0.out, Nat.add_zero] at hz0; rw [HJJ.out nl (by omega), HJL.out] at hz1))
      have HXC : Hid (∀ m' i, i ≤ l.length → (w6.drewN m').cell? ⟨bc, oc + i, none⟩ = some (.int .i64 (F i))) := fun m' i hi => by
        rw [← HCF.out i]
        exact hcc i (by rw [HCL.out]; omega)
      have HXH : Hid (∀ m' i, i < nl + 1 → (w6.drewN m').cell? ⟨bh, oh + i, none⟩ = some (.int .i64 (J i : Int))) := fun m' i hi => by
        rw [← HJJ.out i hi]
        exact hch i (by rw [HHL.out]; exact hi)
      have HX6 := Lib.hid hx6
      clear hcc hch hi4 hi5 hi1 hb4 hb5 hb6 hx4 hx5 hx6 hbel HO' HH HCL HHL HCF HJJ
      go_wp2
      go_loopw [9] (fun i wi => ∃ i' m' : Nat, 1 ≤ i' ∧ i' ≤ nl + 1 ∧ i = .int .i64 i' ∧ wi = w6.drewN m') (fun i _ => nl + 1 - (intOf i).toNat)
      case atStart => exact ⟨1, 0, Nat.le_refl _, by omega, rfl, rfl⟩
      case round =>
        obtain ⟨i', m', hi1, hi2, rfl, hwi⟩ := hrel
        clear hz0 hz1
        by_cases hlt9 : i' < nl + 1
        · obtain ⟨j, rfl⟩ : ∃ j, i' = j + 1 := ⟨i' - 1, by omega⟩
          have hjn : j < nl := by omega
          have qa := HXH.out m' j (by omega)
          have qb := HXH.out m' (j + 1) hlt9
          rw [← hwi] at qa qb
          have HWI := Lib.hid hwi
          have hab := HJS.out j hjn
          have hbm := HJB.out (j + 1) hlt9
          have HAL := Lib.hid (fun s hs => HAB.out j s hjn hs)
          have HFL : Hid (∀ j', j = j' + 1 → (F (J (j + 1)) - F (J j)) * ((J j : Int) - J j') < (F (J j) - F (J j')) * ((J (j + 1) : Int) - J j)) := fun j' e => by subst e; exact HFA.out j' (by omega)
          have HJP : Hid (∀ j', j = j' + 1 → J j' < J j ∧ (w6.drewN m').cell? ⟨bh, oh + j', none⟩ = some (.int .i64 (J j' : Int))) := fun j' e => ⟨by subst e; exact HJS.out j' (by omega), HXH.out m' j' (by omega)⟩
          have HJPC : Hid (∀ m9 j', j = j' + 1 → (w6.drewN m9).cell? ⟨bh, oh + j', none⟩ = some (.int .i64 (J j' : Int))) := fun m9 j' e => HXH.out m9 j' (by omega)
          obtain ⟨a, ha⟩ : ∃ a, a = J j := ⟨_, rfl⟩
          obtain ⟨b, hb⟩ : ∃ b, b = J (j + 1) := ⟨_, rfl⟩
          rw [← ha] at qa hab HAL HFL HJP
          rw [← hb] at qb hab hbm HAL HFL
          have a0 : (0 : Int) ≤ (a : Int) := by omega
          have ab : (a : Int) < (b : Int) := by omega
          have nab : ¬ (b : Int) ≤ (a : Int) := by omega
          have b3 : (b : Int) ≤ 300 := by have := h300.out; omega
          have t0 : (0 : Int) ≤ (j : Int) := by omega
          have t1 : (j : Int) < (NH : Int) := by have := HNH.out; omega
          have t2 : (j : Int) + 1 < (NH : Int) := by have := HNH.out; omega
          have t3 : (j : Int) + 1 - 1 = (j : Int) := by omega
          have t4 : (j : Int) ≤ 300 := by have := HNL.out; omega
          have ac : (a : Int) < (CN : Int) := by have := HCN.out; omega
          have bc9 : (b : Int) < (CN : Int) := by have := HCN.out; omega
          clear hwi ha hb
          go_wp2
          go_quiet (fail)
          go_wp2
          obtain ⟨wo, hwo⟩ : ∃ x, x = wr.drewN nq := ⟨_, rfl⟩
          have hwo2 : wo = w6.drewN (m' + nq) := by rw [hwo, HWI.out, World.drewN_drewN]
          rw [← hwo]
          have HWO := Lib.hid hwo2
          clear hwo hwo2 qa qb
          go_loopw [12] (fun i wj => ∃ s m'' : Nat, a ≤ s ∧ s ≤ b + 1 ∧ i = .int .i64 s ∧ wj = wo.drewN m'') (fun i _ => b + 1 - (intOf i).toNat)
          case atStart => exact ⟨a, 0, Nat.le_refl _, by omega, rfl, rfl⟩
          case round =>
            obtain ⟨s, m'', hs1, hs2, rfl, hwj⟩ := hrel
            by_cases hsb : s ≤ b
            · have hwj2 : wr = w6.drewN (m' + nq + m'') := by rw [hwj, HWO.out, World.drewN_drewN]
              have p0 := HXC.out (m' + nq + m'') s (by omega)
              have p1 := HXC.out (m' + nq + m'') a (by omega)
              have p2 := HXC.out (m' + nq + m'') b (by omega)
              rw [← hwj2] at p0 p1 p2
              have HWJ := Lib.hid hwj
              have k1 := HFF.out a s hs1 (by omega)
              have k2 := HFF.out a b (by omega) (by omega)
              have k3 := HAL.out s (by omega)
              have k4 := HFF.out s s (Nat.le_refl _) (by omega)
              obtain ⟨X, hX⟩ : ∃ X, X = F s := ⟨_, rfl⟩
              obtain ⟨Y, hY⟩ : ∃ X, X = F a := ⟨_, rfl⟩
              obtain ⟨Z, hZ⟩ : ∃ X, X = F b := ⟨_, rfl⟩
              rw [← hX] at p0 k1 k3 k4
              rw [← hY] at p1 k1 k2 k3
              rw [← hZ] at p2 k2 k3
              have g1 := mul_bounds (x := X - Y) (X := 19660500) (y := (b : Int) - a) (Y := 300) (by omega) (by omega) (by omega) (by omega)
              have g2 := mul_bounds (x := Z - Y) (X := 19660500) (y := (s : Int) - a) (Y := 300) (by omega) (by omega) (by omega) (by omega)
              obtain ⟨P, hP⟩ : ∃ P, P = (X - Y) * ((b : Int) - a) := ⟨_, rfl⟩
              obtain ⟨Q, hQ⟩ : ∃ P, P = (Z - Y) * ((s : Int) - a) := ⟨_, rfl⟩
              rw [← hP] at g1 k3
              rw [← hQ] at g2 k3
              have eP := hP.symm
              have eQ := hQ.symm
              have d1 : decide (Q < P) = false := decide_eq_false (by omega)
              have s0 : (0 : Int) ≤ (s : Int) := by omega
              have s1 : (s : Int) ≤ (b : Int) := by omega
              have s2 : (s : Int) < (CN : Int) := by omega
              have s3 : (a : Int) ≤ (s : Int) := by omega
              have x0 : (0 : Int) ≤ X := k4.1
              have x1 : X ≤ 19660500 := by omega
              have y0 : (0 : Int) ≤ Y := k1.1
              have y1 : Y ≤ 19660500 := by omega
              have z0 : (0 : Int) ≤ Z := by omega
              have z1 : Z ≤ 19660500 := by omega
              have pp0 : (0 : Int) ≤ P := g1.1
              have pp1 : P ≤ 5898150000 := by omega
              have qq0 : (0 : Int) ≤ Q := g2.1
              have qq1 : Q ≤ 5898150000 := by omega
              clear hX hY hZ hP hQ k1 k2 k3 k4 g1 g2 hwj hwj2
              go_wp2
              go_quiet (fail)
              go_wp2
              go_roundw
              case rel => first | exact ⟨s + 1, m'' + nq, by omega, by omega, by go_num, by rw [HWJ.out, World.drewN_drewN]⟩ | ((repeat apply Exists.intro); exact ⟨⟨s + 1, m'' + nq, by omega, by omega, by go_num, by rw [HWJ.out, World.drewN_drewN]⟩, rfl⟩)
              case measure => simp [intOf]; omega
            · have hsb2 : s = b + 1 := by omega
              subst hsb2
              have e1 : ¬ ((b + 1 : Nat) : Int) ≤ (b : Int) := by omega
              have e2 : ¬ (b : Int) + 1 ≤ (b : Int) := by omega
              have hwj2 : wr = w6.drewN (m' + nq + m'') := by rw [hwj, HWO.out, World.drewN_drewN]
              by_cases hj0 : j = 0
              · subst hj0
                have HWK := Lib.hid hwj2
                clear hwj hwj2
                go_wp2
                go_quiet (fail)
                go_wp2
                go_roundw
                case rel => first | exact ⟨0 + 1 + 1, m' + nq + m'' + nq_1, by omega, by omega, by go_num, by rw [HWK.out, World.drewN_drewN]⟩ | ((repeat apply Exists.intro); exact ⟨⟨0 + 1 + 1, _, by omega, by omega, by go_num, by rw [HWK.out, World.drewN_drewN]⟩, rfl⟩) | exact ⟨0 + 1 + 1, _, by omega, by omega, by go_num, by rw [HWK.out, World.drewN_drewN]⟩
                case measure => simp [intOf]; omega
              · obtain ⟨j', rfl⟩ : ∃ j', j = j' + 1 := ⟨j - 1, by omega⟩
                have hfl := HFL.out j' rfl
                have hjp := (HJP.out j' rfl).1
                have p3 := HJPC.out (m' + nq + m'') j' rfl
                obtain ⟨p, hp⟩ : ∃ p, p = J j' := ⟨_, rfl⟩
                rw [← hp] at hfl hjp p3
                have p1 := HXC.out (m' + nq + m'') a (by omega)
                have p2 := HXC.out (m' + nq + m'') b (by omega)
                have p4 := HXC.out (m' + nq + m'') p (by omega)
                rw [← hwj2] at p1 p2 p3 p4
                have k1 := HFF.out p a (by omega) (by omega)
                have k2 := HFF.out a b (by omega) (by omega)
                obtain ⟨U, hU⟩ : ∃ X, X = F p := ⟨_, rfl⟩
                obtain ⟨Y, hY⟩ : ∃ X, X = F a := ⟨_, rfl⟩
                obtain ⟨Z, hZ⟩ : ∃ X, X = F b := ⟨_, rfl⟩
                rw [← hU] at p4 k1 hfl
                rw [← hY] at p1 k1 k2 hfl
                rw [← hZ] at p2 k2 hfl
                have g1 := mul_bounds (x := Y - U) (X := 19660500) (y := (b : Int) - a) (Y := 300) (by omega) (by omega) (by omega) (by omega)
                have g2 := mul_bounds (x := Z - Y) (X := 19660500) (y := (a : Int) - p) (Y := 300) (by omega) (by omega) (by omega) (by omega)
                obtain ⟨P, hP⟩ : ∃ P, P = (Y - U) * ((b : Int) - a) := ⟨_, rfl⟩
                obtain ⟨Q, hQ⟩ : ∃ P, P = (Z - Y) * ((a : Int) - p) := ⟨_, rfl⟩
                rw [← hP] at g1 hfl
                rw [← hQ] at g2 hfl
                have eP := hP.symm
                have eQ := hQ.symm
                have d1 : decide (P ≤ Q) = false := decide_eq_false (by omega)
                have u0 : (0 : Int) ≤ U := k1.1
                have u1 : U ≤ Y := k1.2.1
                have y1 : Y ≤ Z := k2.2.1
                have z1 : Z ≤ 19660500 := k2.2.2
                have pa : (p : Int) < (a : Int) := by omega
                have pc : (p : Int) < (CN : Int) := by omega
                have pz : (0 : Int) ≤ (p : Int) := by omega
                have pp0 : (0 : Int) ≤ P := g1.1
                have pp1 : P ≤ 5898150000 := by omega
                have qq0 : (0 : Int) ≤ Q := g2.1
                have qq1 : Q ≤ 5898150000 := by omega
                have i1 : decide ((1 : Int) < (j' : Int) + 1 + 1) = true := decide_eq_true (by omega)
                have i2 : (j' : Int) + 1 + 1 - 2 = (j' : Int) := by omega
                have i3 : (j' : Int) < (NH : Int) := by omega
                have i4 : (0 : Int) ≤ (j' : Int) := by omega
                have HWK := Lib.hid hwj2
                clear hU hY hZ hP hQ k1 k2 g1 g2 hwj hwj2 hp hfl HFL HJP HJPC
                go_wp2
                go_quiet (fail)
                go_wp2
                go_roundw
                case rel => first | exact ⟨j' + 1 + 1 + 1, _, by omega, by omega, by go_num, by rw [HWK.out, World.drewN_drewN]⟩ | ((repeat apply Exists.intro); exact ⟨⟨j' + 1 + 1 + 1, _, by omega, by omega, by go_num, by rw [HWK.out, World.drewN_drewN]⟩, rfl⟩)
                case measure => simp [intOf]; omega
        · have hi9 : i' = nl + 1 := by omega
          subst hi9
          have e1 : ¬ ((nl + 1 : Nat) : Int) < (NH : Int) := by have := HNH.out; omega
          have e2 : ¬ (nl : Int) + 1 < (NH : Int) := by have := HNH.out; omega
          have HWI := Lib.hid hwi
          clear hwi
          go_wp2
          go_ret
          exact ⟨rfl, by rw [HWI.out]; exact below_drewN HX6.out _⟩

set_option maxHeartbeats 1600000 in
set_option maxRecDepth 20000 in
theorem curveCorners_gt (b0 o0 N c : Nat) (l : List Nat) (w : World) (HS : CurveSpec w) (h : Ints w w.heap.size .u16 (some ⟨b0, o0, none⟩) (up l)) (hlt : ∀ b ∈ l, b < 65536) (hl : l.length = 300) (hN : 300 < N) (hc : N ≤ c) :
    Calls Try.prog 7 #[.slice (some ⟨b0, o0, none⟩) N c] w fun e w' => e = .returned (.bool true) ∧ Below w.heap.size w w' := by
  obtain ⟨i0, hif, hz0, hz1, hz2⟩ := info_parts Try.infoI64c
  have HA := Lib.hid (curveAwake HS)
  have hN2 : (300 : Int) < (N : Int) := by omega
  have hc2 : (300 : Int) ≤ (c : Int) := by omega
  go_enter Try.func7, Try.ntmps7
  go_wp2
  go_loopw [3, 4] (fun v i wr => ∃ k : Nat, k ≤ 300 ∧ i = .int .i64 k ∧ (∃ A c, v = .slice A k c) ∧ Hid (wr.ownsRow w.heap.size 3 1 v k ((up (l.take k)).map (Value.int .i64)) ∧ Below w.heap.size w wr)) (fun _ i _ => 300 - (intOf i).toNat)
  case atStart => exact ⟨0, Nat.zero_le _, rfl, ⟨_, _, rfl⟩, World.ownsRow_made (base := w.heap.size) (e := 3) (size := 1) w #[] 0 (Nat.le_refl _) (Nat.zero_le _) rfl, (Below.refl _ _).alloc (Nat.le_refl _) _⟩
  case round =>
    obtain ⟨k, hk, rfl, ⟨A1, c1, rfl⟩, hS⟩ := hrel
    by_cases hlt3 : k < 300
    · have k1 : (k : Int) < (N : Int) := by omega
      have k2 : (k : Int) < 300 := by omega
      have k0 : (0 : Int) ≤ (k : Int) := by omega
      obtain ⟨hown, hbel⟩ := hS.out
      have hlt4 : k < l.length := by rw [hl]; exact hlt3
      have k3 : (k : Int) < (c : Int) := by omega
      obtain ⟨b1, off, e9, hbl, hc9⟩ := (h.below hbel) k (by rw [up_len]; exact hlt4)
      injection e9 with e9
      injection e9 with e10 e11
      subst e10 e11
      rw [up_getD] at hc9
      have ht1 := take_snocC (fun x : Nat => Value.int .i64 (x : Int)) l hlt4
      have e1 : ∀ j, (up (l.take j)).map (Value.int .i64) = (l.take j).map fun x : Nat => Value.int .i64 (x : Int) := fun j => by unfold up; rw [List.map_map]; rfl
      have hx2 : l.getD k 0 < 65536 := by rw [List.getD_eq_getElem?_getD, List.getElem?_eq_getElem hlt4]; exact hlt _ (List.getElem_mem hlt4)
      have hsum := sumK_succ (up l) (k := k) (by rw [up_len]; exact hlt4)
      rw [up_getD] at hsum
      have hsb := sumK_bounds (l := up l) (fun z hz => by have := up_i64 hlt z hz; omega) k (by rw [up_len]; omega)
      rw [e1] at hown
      obtain ⟨x, hx⟩ : ∃ x, x = l.getD k 0 := ⟨_, rfl⟩
      rw [← hx] at hc9 ht1 hx2 hsum
      obtain ⟨P1, hP1⟩ : ∃ P, P = (l.take k).map fun x : Nat => Value.int .i64 (x : Int) := ⟨_, rfl⟩
      rw [← hP1] at hown ht1
      have HT1 := Lib.hid ((e1 (k + 1)).trans ht1)
      have x0 : (0 : Int) ≤ (x : Int) := by omega
      have x1 : (x : Int) < 65536 := by omega
      clear hx ht1 e1 hP1 hS hx2 hsum hsb hlt4
      go_wp2_with (at_builtin; refine wpList_append_own_at _ rfl _ _ 22 rfl w.heap.size 3 i0 (.int .i64 0) 1 8 Try.underlying22 hif hz0 hz1 hz2 rfl (by decide) _ _ _ rfl (hown.alloc _) ⟨wr.heap.size, 0, none⟩ 1 1 [.int .i64 (x : Int)] rfl rfl (cell_one_new _ _ _) ?d1 ?d2 ?d3 ?d4 ?_)
      case d1 => first | rfl | (intro u hu; simp at hu; subst hu; rfl)
      case d2 => unfold maxLen; omega
      case d3 => omega
      case d4 => have := hbel.size; simp; omega
      intro v3 w3 hown3 hg3 _ _
      have hb3 : Below w.heap.size w w3 := (hbel.alloc hbel.size _).grown hg3 (by have := hbel.size; simp; omega) fun q hq => (hown.lt q hq).1
      have hc3 := (hb3.cell (p := ⟨b0, o0 + k, none⟩) hbl).trans ((hbel.cell (p := ⟨b0, o0 + k, none⟩) hbl).symm.trans hc9)
      obtain ⟨A3, c3, rfl⟩ := own_slice hown3
      rw [← HT1.out] at hown3
      have R := Lib.hid (And.intro hown3 hb3)
      clear hown hbel hg3 hc9 hown3 hb3
      go_wp2
      go_roundw
      case rel => first | exact ⟨k + 1, by omega, by go_num, ⟨A3, c3, rfl⟩, R.out⟩ | ((repeat apply Exists.intro); exact ⟨⟨k + 1, by omega, by go_num, ⟨A3, c3, rfl⟩, R.out⟩, rfl⟩)
      case measure => simp [intOf]; omega
    · have hk8 : k = 300 := by omega
      subst hk8
      obtain ⟨hown, hbel⟩ := hS.out
      clear hS
      have hLl : (up l).length = 300 := by rw [up_len]; exact hl
      have hlt9 : l.take 300 = l := List.take_of_length_le (by omega)
      rw [hlt9] at hown
      have hub := up_i64 hlt
      have hbad : ofBad (up l) 1 = false := ofBad_good (by omega) (by decide) (by decide) (fun z hz => by have := hub z hz; omega)
      have h64 : ∀ z ∈ up l, -9223372036854775808 ≤ z ∧ z ≤ 9223372036854775807 := fun z hz => by have := hub z hz; omega
      have hc1 := own_le hown
      have hi1 : Ints wr wr.heap.size .i64 A1 (up l) := Ints.of_own (n := 300) (c := c1) (by rw [hLl]; exact hown)
      have eR : ofR (up l) 1 = (0, ofL (up l) 1) := by unfold ofR; rw [hbad]; rfl
      have hlen := ofL_len (up l) 1
      rw [hLl] at hlen
      have h64b : ∀ z ∈ ofL (up l) 1, -9223372036854775808 ≤ z ∧ z ≤ 9223372036854775807 := fun z hz => by
        unfold ofL at hz
        obtain ⟨i, hi, rfl⟩ := List.mem_map.1 hz
        have := ofL_i64 hbad (i := i) (by have := List.mem_range.1 hi; omega)
        omega
      have hsd := of_sound hbad
      have eH : hullR (ofL (up l) 1) = (0, hullL (ofL (up l) 1)) := by unfold hullR; rw [if_pos hsd]
      obtain ⟨F, J, nl, c1F, c2J, c3L, j0, jl, jb, js, cf, cab, cfa, nl3⟩ := corners_met hLl (by omega) hub
      obtain ⟨CN, hCN⟩ : ∃ CN, CN = 300 + 1 := ⟨_, rfl⟩
      obtain ⟨NH, hNH⟩ : ∃ NH, NH = nl + 1 := ⟨_, rfl⟩
      have HO := HS.makes A1 c1 (up l) 1
      rw [eR] at HO
      simp only [hlen] at HO
      rw [hLl, ← hCN] at HO
      have HO' := Lib.hid (fun (W : World) (hb : Below w.heap.size w W) (hi : Ints W W.heap.size .i64 A1 (up l)) => HO W hb hi h64 hc1 (by omega) ⟨by decide, by decide⟩)
      have HH : Hid (∀ (W : World) (A2 : Option Addr) (c2 : Nat), Below w.heap.size w W → Ints W W.heap.size .i64 A2 (ofL (up l) 1) → CN ≤ c2 →
          Calls Try.prog 15 #[.slice A2 CN c2] W fun e w' => ∃ A' c', e = .returned (.tuple #[.slice A' NH c', .int .i64 0]) ∧ Ints w' w'.heap.size .i64 A' (hullL (ofL (up l) 1)) ∧ Below W.heap.size W w') := fun W A2 c2 hb hi hc => by
        have h9 := HS.hull A2 c2 (ofL (up l) 1) W hb hi h64b (by rw [hlen, ← hCN]; exact hc) (by rw [hlen]; omega)
        rw [eH] at h9
        simp only [hlen, c3L] at h9
        rw [← hCN, ← hNH] at h9
        exact h9.mono fun e w' ⟨A', c', q1, _, q3, q4⟩ => ⟨A', c', q1, q3, q4⟩
      obtain ⟨C, hC⟩ : ∃ C, C = ofL (up l) 1 := ⟨_, rfl⟩
      obtain ⟨HL, hHL⟩ : ∃ C, C = hullL (ofL (up l) 1) := ⟨_, rfl⟩
      simp only [← hHL] at HH c2J c3L
      simp only [← hC] at HO' HH hlen c1F
      have HCL := Lib.hid hlen
      have HHL := Lib.hid c3L
      have HCF := Lib.hid c1F
      have HJJ := Lib.hid c2J
      have HJB := Lib.hid jb
      have HJS := Lib.hid js
      have HFF := Lib.hid cf
      have HAB := Lib.hid cab
      have HFA := Lib.hid cfa
      have HCN := Lib.hid hCN
      have HNH := Lib.hid hNH
      have HJ0 := Lib.hid j0
      have HJL := Lib.hid jl
      have h300 : Hid (300 ≤ 300) := by refine Lib.hid ?_; omega
      have HNL := Lib.hid nl3
      have nh0 : ((NH : Int) == 0) = false := by rw [beq_eq_false_iff_ne]; omega
      have nh1 : (NH : Int) - 1 = (nl : Int) := by omega
      have nh2 : (nl : Int) < (NH : Int) := by omega
      have nh3 : (0 : Int) < (NH : Int) := by omega
      have nh4 : (NH : Int) ≤ 301 := by omega
      clear HS HO h64 h64b eR eH hbad hub hlt9 hown hLl hlen hsd c1F c2J c3L j0 jl jb js cf cab cfa hCN hNH hC hHL hlt nl3 hc1
      go_wp2_with (first
        | (go_at_call 10; with_reducible (refine Calls.mono (HO'.out _ hbel hi1) ?_); rintro e w4 ⟨A4, c4, rfl, hc4, hi4, hb4⟩; have hx4 := chain hbel hb4)
        | (go_at_call 15; with_reducible (refine Calls.mono (HH.out _ _ _ hx4 hi4 hc4) ?_); rintro e w5 ⟨A5, c5, rfl, hi5, hb5⟩; have hx5 := chain hx4 hb5; replace hi4 := (hi4.below hb5).more hb5.size)
        | (go_at_call 12; with_reducible (refine Calls.mono (HA.out _ hx5) ?_); rintro e w6 ⟨rfl, hb6⟩; have hx6 := chain hx5 hb6; replace hi4 := (hi4.below hb6).more hb6.size; replace hi5 := (hi5.below hb6).more hb6.size; obtain ⟨bc, oc, rfl, _, hcc⟩ := hi4.at_ (by rw [HCL.out]; omega); obtain ⟨bh, oh, rfl, _, hch⟩ := hi5.at_ (by rw [HHL.out]; omega); have hz0 := hch 0 (by rw [HHL.out]; omega); have hz1 := hch nl (by rw [HHL.out]; omega); rw [HJJ.out 0 (by omega), HJ0.out, Nat.add_zero] at hz0; rw [HJJ.out nl (by omega), HJL.out] at hz1))
      have HXC : Hid (∀ m' i, i ≤ 300 → (w6.drewN m').cell? ⟨bc, oc + i, none⟩ = some (.int .i64 (F i))) := fun m' i hi => by
        rw [← HCF.out i]
        exact hcc i (by rw [HCL.out]; omega)
      have HXH : Hid (∀ m' i, i < nl + 1 → (w6.drewN m').cell? ⟨bh, oh + i, none⟩ = some (.int .i64 (J i : Int))) := fun m' i hi => by
        rw [← HJJ.out i hi]
        exact hch i (by rw [HHL.out]; exact hi)
      have HX6 := Lib.hid hx6
      clear hcc hch hi4 hi5 hi1 hb4 hb5 hb6 hx4 hx5 hx6 hbel HO' HH HCL HHL HCF HJJ
      go_wp2
      go_loopw [9] (fun i wi => ∃ i' m' : Nat, 1 ≤ i' ∧ i' ≤ nl + 1 ∧ i = .int .i64 i' ∧ wi = w6.drewN m') (fun i _ => nl + 1 - (intOf i).toNat)
      case atStart => exact ⟨1, 0, Nat.le_refl _, by omega, rfl, rfl⟩
      case round =>
        obtain ⟨i', m', hi1, hi2, rfl, hwi⟩ := hrel
        clear hz0 hz1
        by_cases hlt9 : i' < nl + 1
        · obtain ⟨j, rfl⟩ : ∃ j, i' = j + 1 := ⟨i' - 1, by omega⟩
          have hjn : j < nl := by omega
          have qa := HXH.out m' j (by omega)
          have qb := HXH.out m' (j + 1) hlt9
          rw [← hwi] at qa qb
          have HWI := Lib.hid hwi
          have hab := HJS.out j hjn
          have hbm := HJB.out (j + 1) hlt9
          have HAL := Lib.hid (fun s hs => HAB.out j s hjn hs)
          have HFL : Hid (∀ j', j = j' + 1 → (F (J (j + 1)) - F (J j)) * ((J j : Int) - J j') < (F (J j) - F (J j')) * ((J (j + 1) : Int) - J j)) := fun j' e => by subst e; exact HFA.out j' (by omega)
          have HJP : Hid (∀ j', j = j' + 1 → J j' < J j ∧ (w6.drewN m').cell? ⟨bh, oh + j', none⟩ = some (.int .i64 (J j' : Int))) := fun j' e => ⟨by subst e; exact HJS.out j' (by omega), HXH.out m' j' (by omega)⟩
          have HJPC : Hid (∀ m9 j', j = j' + 1 → (w6.drewN m9).cell? ⟨bh, oh + j', none⟩ = some (.int .i64 (J j' : Int))) := fun m9 j' e => HXH.out m9 j' (by omega)
          obtain ⟨a, ha⟩ : ∃ a, a = J j := ⟨_, rfl⟩
          obtain ⟨b, hb⟩ : ∃ b, b = J (j + 1) := ⟨_, rfl⟩
          rw [← ha] at qa hab HAL HFL HJP
          rw [← hb] at qb hab hbm HAL HFL
          have a0 : (0 : Int) ≤ (a : Int) := by omega
          have ab : (a : Int) < (b : Int) := by omega
          have nab : ¬ (b : Int) ≤ (a : Int) := by omega
          have b3 : (b : Int) ≤ 300 := by have := h300.out; omega
          have t0 : (0 : Int) ≤ (j : Int) := by omega
          have t1 : (j : Int) < (NH : Int) := by have := HNH.out; omega
          have t2 : (j : Int) + 1 < (NH : Int) := by have := HNH.out; omega
          have t3 : (j : Int) + 1 - 1 = (j : Int) := by omega
          have t4 : (j : Int) ≤ 300 := by have := HNL.out; omega
          have ac : (a : Int) < (CN : Int) := by have := HCN.out; omega
          have bc9 : (b : Int) < (CN : Int) := by have := HCN.out; omega
          clear hwi ha hb
          go_wp2
          go_quiet (fail)
          go_wp2
          obtain ⟨wo, hwo⟩ : ∃ x, x = wr.drewN nq := ⟨_, rfl⟩
          have hwo2 : wo = w6.drewN (m' + nq) := by rw [hwo, HWI.out, World.drewN_drewN]
          rw [← hwo]
          have HWO := Lib.hid hwo2
          clear hwo hwo2 qa qb
          go_loopw [12] (fun i wj => ∃ s m'' : Nat, a ≤ s ∧ s ≤ b + 1 ∧ i = .int .i64 s ∧ wj = wo.drewN m'') (fun i _ => b + 1 - (intOf i).toNat)
          case atStart => exact ⟨a, 0, Nat.le_refl _, by omega, rfl, rfl⟩
          case round =>
            obtain ⟨s, m'', hs1, hs2, rfl, hwj⟩ := hrel
            by_cases hsb : s ≤ b
            · have hwj2 : wr = w6.drewN (m' + nq + m'') := by rw [hwj, HWO.out, World.drewN_drewN]
              have p0 := HXC.out (m' + nq + m'') s (by omega)
              have p1 := HXC.out (m' + nq + m'') a (by omega)
              have p2 := HXC.out (m' + nq + m'') b (by omega)
              rw [← hwj2] at p0 p1 p2
              have HWJ := Lib.hid hwj
              have k1 := HFF.out a s hs1 (by omega)
              have k2 := HFF.out a b (by omega) (by omega)
              have k3 := HAL.out s (by omega)
              have k4 := HFF.out s s (Nat.le_refl _) (by omega)
              obtain ⟨X, hX⟩ : ∃ X, X = F s := ⟨_, rfl⟩
              obtain ⟨Y, hY⟩ : ∃ X, X = F a := ⟨_, rfl⟩
              obtain ⟨Z, hZ⟩ : ∃ X, X = F b := ⟨_, rfl⟩
              rw [← hX] at p0 k1 k3 k4
              rw [← hY] at p1 k1 k2 k3
              rw [← hZ] at p2 k2 k3
              have g1 := mul_bounds (x := X - Y) (X := 19660500) (y := (b : Int) - a) (Y := 300) (by omega) (by omega) (by omega) (by omega)
              have g2 := mul_bounds (x := Z - Y) (X := 19660500) (y := (s : Int) - a) (Y := 300) (by omega) (by omega) (by omega) (by omega)
              obtain ⟨P, hP⟩ : ∃ P, P = (X - Y) * ((b : Int) - a) := ⟨_, rfl⟩
              obtain ⟨Q, hQ⟩ : ∃ P, P = (Z - Y) * ((s : Int) - a) := ⟨_, rfl⟩
              rw [← hP] at g1 k3
              rw [← hQ] at g2 k3
              have eP := hP.symm
              have eQ := hQ.symm
              have d1 : decide (Q < P) = false := decide_eq_false (by omega)
              have s0 : (0 : Int) ≤ (s : Int) := by omega
              have s1 : (s : Int) ≤ (b : Int) := by omega
              have s2 : (s : Int) < (CN : Int) := by omega
              have s3 : (a : Int) ≤ (s : Int) := by omega
              have x0 : (0 : Int) ≤ X := k4.1
              have x1 : X ≤ 19660500 := by omega
              have y0 : (0 : Int) ≤ Y := k1.1
              have y1 : Y ≤ 19660500 := by omega
              have z0 : (0 : Int) ≤ Z := by omega
              have z1 : Z ≤ 19660500 := by omega
              have pp0 : (0 : Int) ≤ P := g1.1
              have pp1 : P ≤ 5898150000 := by omega
              have qq0 : (0 : Int) ≤ Q := g2.1
              have qq1 : Q ≤ 5898150000 := by omega
              clear hX hY hZ hP hQ k1 k2 k3 k4 g1 g2 hwj hwj2
              go_wp2
              go_quiet (fail)
              go_wp2
              go_roundw
              case rel => first | exact ⟨s + 1, m'' + nq, by omega, by omega, by go_num, by rw [HWJ.out, World.drewN_drewN]⟩ | ((repeat apply Exists.intro); exact ⟨⟨s + 1, m'' + nq, by omega, by omega, by go_num, by rw [HWJ.out, World.drewN_drewN]⟩, rfl⟩)
              case measure => simp [intOf]; omega
            · have hsb2 : s = b + 1 := by omega
              subst hsb2
              have e1 : ¬ ((b + 1 : Nat) : Int) ≤ (b : Int) := by omega
              have e2 : ¬ (b : Int) + 1 ≤ (b : Int) := by omega
              have hwj2 : wr = w6.drewN (m' + nq + m'') := by rw [hwj, HWO.out, World.drewN_drewN]
              by_cases hj0 : j = 0
              · subst hj0
                have HWK := Lib.hid hwj2
                clear hwj hwj2
                go_wp2
                go_quiet (fail)
                go_wp2
                go_roundw
                case rel => first | exact ⟨0 + 1 + 1, m' + nq + m'' + nq_1, by omega, by omega, by go_num, by rw [HWK.out, World.drewN_drewN]⟩ | ((repeat apply Exists.intro); exact ⟨⟨0 + 1 + 1, _, by omega, by omega, by go_num, by rw [HWK.out, World.drewN_drewN]⟩, rfl⟩) | exact ⟨0 + 1 + 1, _, by omega, by omega, by go_num, by rw [HWK.out, World.drewN_drewN]⟩
                case measure => simp [intOf]; omega
              · obtain ⟨j', rfl⟩ : ∃ j', j = j' + 1 := ⟨j - 1, by omega⟩
                have hfl := HFL.out j' rfl
                have hjp := (HJP.out j' rfl).1
                have p3 := HJPC.out (m' + nq + m'') j' rfl
                obtain ⟨p, hp⟩ : ∃ p, p = J j' := ⟨_, rfl⟩
                rw [← hp] at hfl hjp p3
                have p1 := HXC.out (m' + nq + m'') a (by omega)
                have p2 := HXC.out (m' + nq + m'') b (by omega)
                have p4 := HXC.out (m' + nq + m'') p (by omega)
                rw [← hwj2] at p1 p2 p3 p4
                have k1 := HFF.out p a (by omega) (by omega)
                have k2 := HFF.out a b (by omega) (by omega)
                obtain ⟨U, hU⟩ : ∃ X, X = F p := ⟨_, rfl⟩
                obtain ⟨Y, hY⟩ : ∃ X, X = F a := ⟨_, rfl⟩
                obtain ⟨Z, hZ⟩ : ∃ X, X = F b := ⟨_, rfl⟩
                rw [← hU] at p4 k1 hfl
                rw [← hY] at p1 k1 k2 hfl
                rw [← hZ] at p2 k2 hfl
                have g1 := mul_bounds (x := Y - U) (X := 19660500) (y := (b : Int) - a) (Y := 300) (by omega) (by omega) (by omega) (by omega)
                have g2 := mul_bounds (x := Z - Y) (X := 19660500) (y := (a : Int) - p) (Y := 300) (by omega) (by omega) (by omega) (by omega)
                obtain ⟨P, hP⟩ : ∃ P, P = (Y - U) * ((b : Int) - a) := ⟨_, rfl⟩
                obtain ⟨Q, hQ⟩ : ∃ P, P = (Z - Y) * ((a : Int) - p) := ⟨_, rfl⟩
                rw [← hP] at g1 hfl
                rw [← hQ] at g2 hfl
                have eP := hP.symm
                have eQ := hQ.symm
                have d1 : decide (P ≤ Q) = false := decide_eq_false (by omega)
                have u0 : (0 : Int) ≤ U := k1.1
                have u1 : U ≤ Y := k1.2.1
                have y1 : Y ≤ Z := k2.2.1
                have z1 : Z ≤ 19660500 := k2.2.2
                have pa : (p : Int) < (a : Int) := by omega
                have pc : (p : Int) < (CN : Int) := by omega
                have pz : (0 : Int) ≤ (p : Int) := by omega
                have pp0 : (0 : Int) ≤ P := g1.1
                have pp1 : P ≤ 5898150000 := by omega
                have qq0 : (0 : Int) ≤ Q := g2.1
                have qq1 : Q ≤ 5898150000 := by omega
                have i1 : decide ((1 : Int) < (j' : Int) + 1 + 1) = true := decide_eq_true (by omega)
                have i2 : (j' : Int) + 1 + 1 - 2 = (j' : Int) := by omega
                have i3 : (j' : Int) < (NH : Int) := by omega
                have i4 : (0 : Int) ≤ (j' : Int) := by omega
                have HWK := Lib.hid hwj2
                clear hU hY hZ hP hQ k1 k2 g1 g2 hwj hwj2 hp hfl HFL HJP HJPC
                go_wp2
                go_quiet (fail)
                go_wp2
                go_roundw
                case rel => first | exact ⟨j' + 1 + 1 + 1, _, by omega, by omega, by go_num, by rw [HWK.out, World.drewN_drewN]⟩ | ((repeat apply Exists.intro); exact ⟨⟨j' + 1 + 1 + 1, _, by omega, by omega, by go_num, by rw [HWK.out, World.drewN_drewN]⟩, rfl⟩)
                case measure => simp [intOf]; omega
        · have hi9 : i' = nl + 1 := by omega
          subst hi9
          have e1 : ¬ ((nl + 1 : Nat) : Int) < (NH : Int) := by have := HNH.out; omega
          have e2 : ¬ (nl : Int) + 1 < (NH : Int) := by have := HNH.out; omega
          have HWI := Lib.hid hwi
          clear hwi
          go_wp2
          go_ret
          exact ⟨rfl, by rw [HWI.out]; exact below_drewN HX6.out _⟩

/-- CurveCorners. -/
theorem curveCorners_go (A : Option Addr) (c : Nat) (l : List Nat) (w : World) (HS : CurveSpec w) (h : Ints w w.heap.size .u16 A (up l)) (hlt : ∀ b ∈ l, b < 65536) (hc : l.length ≤ c) :
    Calls Try.prog 7 #[.slice A l.length c] w fun e w' => e = .returned (.bool true) ∧ Below w.heap.size w w' := by
  by_cases hN : l.length ≤ 300
  · exact curveCorners_le A c l w HS h hlt hN
  · obtain ⟨b0, o0, rfl, _⟩ := h.at_ (by rw [up_len]; omega)
    have h2 : Ints w w.heap.size .u16 (some ⟨b0, o0, none⟩) (up (l.take 300)) := by
      have := h.take 300
      rwa [show (up l).take 300 = up (l.take 300) by simp [up]] at this
    exact curveCorners_gt b0 o0 l.length c (l.take 300) w HS h2 (fun b hb => hlt b (List.mem_of_mem_take hb)) (by rw [List.length_take]; omega) (by omega) hc

end Go.Proofs.Ytoedapeookkodaa
