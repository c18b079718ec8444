/-
  The document's own 'Split' and 'Same': what they answer; nothing that was there is changed.
-/
import Derived.Test.YtdlmnlgmdfcbfaaSplit
namespace Go.Proofs.Ytdlmnlgmdfcbfaa
open Go.RowKit

/-- 'Same' of two slices that read as the same numbers. -/
theorem same_same (A1 A2 : Option Addr) (c1 c2 B : Nat) (l : List Int) (w : World) (h1 : Ints w B .u64 A1 l) (h2 : Ints w B .u64 A2 l) (hm : l.length ≤ 4096) :
    Calls Try.prog 19 #[.slice A1 l.length c1, .slice A2 l.length c2] w fun e w' => e = .returned (.bool true) ∧ ∃ n, w' = w.drewN n := by
  go_enter Try.func19, Try.ntmps19
  go_wp2
  go_loopw [5] (fun i wr => ∃ k : Nat, k ≤ l.length ∧ i = .int .i64 k ∧ ∃ n, wr = w.drewN n) (fun i _ => l.length - (intOf i).toNat)
  case atStart => exact ⟨0, Nat.zero_le _, rfl, 0, rfl⟩
  case round =>
    obtain ⟨k, hk, rfl, n, rfl⟩ := hrel
    by_cases hlt : k < l.length
    · obtain ⟨b1, o1, rfl, _, hc1⟩ := h1 k hlt
      obtain ⟨b2, o2, rfl, _, hc2⟩ := h2 k hlt
      have hk0 : (0 : Int) ≤ (k : Int) := by omega
      have hk1 : (k : Int) < (l.length : Int) := by omega
      obtain ⟨x, hx⟩ : ∃ x, x = l.getD k 0 := ⟨_, rfl⟩
      rw [← hx] at hc1 hc2
      clear hx
      go_wp2
      go_quiet (fail)
      go_wp2
      go_roundw
      case rel => exact ⟨k + 1, by omega, by go_num, _, rfl⟩
      case measure => simp [intOf]; omega
    · have hkl : k = l.length := by omega
      subst hkl
      go_wp2
      go_ret
      exact ⟨rfl, _, rfl⟩

/-- The document's 'Split': the sizes are refused. -/
theorem refSplit_arg (A1 A2 : Option Addr) (c1 c2 B : Nat) (sizes zs : List Int) (w : World) (hs : Ints w B .i64 A1 sizes) (h : szs sizes = false) :
    Calls Try.prog 18 #[.slice A2 zs.length c2, .slice A1 sizes.length c1] w (MadeN w 1 []) := by
  by_cases h4 : 4096 < sizes.length
  · have h41 : 4096 < (sizes.length : Int) := by omega
    go_enter Try.func18, Try.ntmps18
    go_wp2
    go_ret2
    exact MadeN.nil (Below.refl _ _)
  · have h41 : ¬ 4096 < (sizes.length : Int) := by omega
    have h2 : sizes.all szOk = false := by
      unfold szs at h
      rw [decide_eq_true (by omega : sizes.length ≤ 4096)] at h
      simpa using h
    have hb64 : sizes.length ≤ 4096 := by omega
    have H2 := Lib.hid h2
    clear h h2 h4
    go_enter Try.func18, Try.ntmps18
    go_wp2
    go_loop [6, 7] (fun t i => ∃ k : Nat, k ≤ sizes.length ∧ i = .int .i64 k ∧ t = .int .i64 (total (sizes.take k)) ∧ Hid ((sizes.take k).all szOk = true)) (fun _ i => sizes.length - (intOf i).toNat)
    case atStart => exact ⟨0, Nat.zero_le _, rfl, rfl, rfl⟩
    case round =>
      obtain ⟨k, hk, rfl, rfl, hall⟩ := hrel
      by_cases hlt : k < sizes.length
      · obtain ⟨b, off, rfl, _, hc⟩ := hs k hlt
        have htb := total_bd (sizes.take k) hall.out
        have hln : (sizes.take k).length = k := by rw [List.length_take]; omega
        rw [hln] at htb
        have HT : Hid (total (sizes.take (k + 1)) = total (sizes.take k) + sizes.getD k 0) := by rw [take_snoc sizes k hlt]; exact total_snoc _ _
        have HA : Hid (szOk (sizes.getD k 0) = true → (sizes.take (k + 1)).all szOk = true) := fun hz => by
          rw [take_snoc sizes k hlt, List.all_append, hall.out, List.all_cons, hz]; rfl
        clear hln hall
        obtain ⟨x, hx⟩ : ∃ x, x = sizes.getD k 0 := ⟨_, rfl⟩
        rw [← hx] at hc HT HA
        clear hx
        by_cases ho : 1 ≤ x ∧ x ≤ 8
        · obtain ⟨hm3, hm4⟩ := ho
          have hn1 : ¬ x < 1 := by omega
          have hn2 : ¬ 8 < x := by omega
          go_wp2
          go_round
          case rel => exact ⟨k + 1, by omega, by go_num, by rw [HT.out], HA.out (by simp only [szOk, decide_eq_true_eq]; omega)⟩
          case measure => simp [intOf]; omega
        · clear HT HA htb
          by_cases hn1 : x < 1
          · go_wp2
            go_ret2
            exact MadeN.nil (Below.refl _ _)
          · have hn2 : 8 < x := by omega
            clear ho
            go_wp2
            go_ret2
            exact MadeN.nil (Below.refl _ _)
      · have hks : k = sizes.length := by omega
        subst hks
        have := H2.out
        rw [List.take_length] at hall
        rw [hall.out] at this
        cases this

set_option maxHeartbeats 1600000 in
/-- The document's 'Split': the sizes are sound. -/
theorem refSplit_go (A1 A2 : Option Addr) (c1 c2 : Nat) (sizes zs : List Int) (w : World) (hs : Ints w w.heap.size .i64 A1 sizes) (hn : Ints w w.heap.size .u8 A2 zs) (hc : zs.length ≤ c2)
    (hb : ∀ z ∈ zs, 0 ≤ z ∧ z ≤ 255) (hz : szs sizes = true) (hm64 : zs.length ≤ 9223372036854775807) :
    Calls Try.prog 18 #[.slice A2 zs.length c2, .slice A1 sizes.length c1] w (MadeN w (splitE zs sizes) (splitL zs sizes)) := by
  obtain ⟨i0, hi, hz0, hz1, hz2⟩ := info_parts Try.infoU64
  have hz3 := hz
  simp only [szs, Bool.and_eq_true, decide_eq_true_eq] at hz3
  obtain ⟨hz4, hz5⟩ := hz3
  have h41 : ¬ 4096 < (sizes.length : Int) := by omega
  have htot := total_bd sizes hz5
  have HZ := Lib.hid hz
  have HZ5 := Lib.hid hz5
  have HB := Lib.hid hb
  clear hz hz5 hb
  go_enter Try.func18, Try.ntmps18
  go_wp2
  go_loop [6, 7] (fun t i => ∃ k : Nat, k ≤ sizes.length ∧ i = .int .i64 k ∧ t = .int .i64 (sumTo sizes k)) (fun _ i => sizes.length - (intOf i).toNat)
  case atStart => exact ⟨0, Nat.zero_le _, rfl, by rw [sumTo_zero]; rfl⟩
  case round =>
    obtain ⟨k, hk, rfl, rfl⟩ := hrel
    by_cases hlt : k < sizes.length
    · obtain ⟨b, off, rfl, _, hc⟩ := hs k hlt
      have hso : szOk (sizes.getD k 0) = true := List.all_eq_true.1 HZ5.out _ (getD_mem hlt)
      have hs1 : 1 ≤ sizes.getD k 0 ∧ sizes.getD k 0 ≤ 8 := by simpa only [szOk, decide_eq_true_eq] using hso
      have HS := Lib.hid (sumTo_succ HZ5.out k hlt)
      have hle := sumTo_le HZ5.out k
      obtain ⟨x, hx⟩ : ∃ x, x = sizes.getD k 0 := ⟨_, rfl⟩
      rw [← hx] at hc HS hs1
      clear hx hso
      obtain ⟨hm3, hm4⟩ := hs1
      have hn1 : ¬ x < 1 := by omega
      have hn2 : ¬ 8 < x := by omega
      go_wp2
      go_round
      case rel => exact ⟨k + 1, by omega, by go_num, by rw [HS.out]⟩
      case measure => simp [intOf]; omega
    · have hks : k = sizes.length := by omega
      subst hks
      have hst := sumTo_all HZ5.out
      obtain ⟨T, hT⟩ : ∃ T, T = sumTo sizes sizes.length := ⟨_, rfl⟩
      rw [← hT] at hst ⊢
      clear hk hlt
      by_cases h3 : zs.length < T
      · have h31 : (zs.length : Int) < (T : Int) := by omega
        have e1 : splitE zs sizes = 3 := by unfold splitE; rw [if_pos HZ.out, if_pos (by omega)]
        have e2 : splitL zs sizes = [] := by unfold splitL; rw [e1]; rfl
        have HE1 := Lib.hid e1
        have HE2 := Lib.hid e2
        clear e1 e2 h3 hst hT
        go_wp2
        go_ret2
        rw [HE1.out, HE2.out]
        exact MadeN.nil (Below.refl _ _)
      · have h31 : ¬ (zs.length : Int) < (T : Int) := by omega
        by_cases h4 : T < zs.length
        · have h42 : (T : Int) < (zs.length : Int) := by omega
          have e1 : splitE zs sizes = 2 := by unfold splitE; rw [if_pos HZ.out, if_neg (by omega), if_pos (by omega)]
          have e2 : splitL zs sizes = [] := by unfold splitL; rw [e1]; rfl
          have HE1 := Lib.hid e1
          have HE2 := Lib.hid e2
          clear e1 e2 h3 h4 hst hT
          go_wp2
          go_ret2
          rw [HE1.out, HE2.out]
          exact MadeN.nil (Below.refl _ _)
        · have h42 : ¬ (T : Int) < (zs.length : Int) := by omega
          have e1 : splitE zs sizes = 0 := by unfold splitE; rw [if_pos HZ.out, if_neg (by omega), if_neg (by omega)]
          have e2 : splitL zs sizes = partsOf zs sizes := by unfold splitL; rw [e1]; rfl
          have HE1 := Lib.hid e1
          have HE2 := Lib.hid e2
          have htl : T ≤ zs.length := by omega
          have hTS : ∀ k, sumTo sizes k ≤ T := fun k => by have := sumTo_le HZ5.out k; omega
          have HTS := Lib.hid hTS
          clear e1 e2 h3 h4 hst hT hTS
          go_wp2
          go_loopw [8, 9, 10] (fun v t i wr => ∃ k : Nat, k ≤ sizes.length ∧ i = .int .i64 k ∧ t = .int .i64 (sumTo sizes k) ∧
              wr.ownsRow w.heap.size 22 1 v (partsOf zs (sizes.take k)).length ((partsOf zs (sizes.take k)).map (Value.int .u64)) ∧ Below w.heap.size w wr)
            (fun _ _ i _ => sizes.length - (intOf i).toNat)
          case atStart =>
            refine ⟨0, Nat.zero_le _, rfl, by rw [sumTo_zero]; rfl, ?_, (Below.refl _ _).alloc (Nat.le_refl _) _⟩
            exact World.ownsRow_made w #[] 0 (Nat.le_refl _) (Nat.zero_le _) rfl
          case round =>
            obtain ⟨k, hk, rfl, rfl, hown, hbel⟩ := hrel
            by_cases hlt : k < sizes.length
            · have hso : szOk (sizes.getD k 0) = true := List.all_eq_true.1 HZ5.out _ (getD_mem hlt)
              have hs1 : 1 ≤ sizes.getD k 0 ∧ sizes.getD k 0 ≤ 8 := by simpa only [szOk, decide_eq_true_eq] using hso
              have hsucc := sumTo_succ HZ5.out k hlt
              have hle := HTS.out (k + 1)
              obtain ⟨b1, o1, e1, _, hc1⟩ := hs.below hbel k hlt
              have HPA := Lib.hid (show partsOf zs (sizes.take (k + 1)) = partsOf zs (sizes.take k) ++ [valOf ((zs.drop (sumTo sizes k)).take (sizes.getD k 0).toNat)] by
                rw [take_snoc sizes k hlt, partsOf_append _ _ _ (all_take HZ5.out k)]; rfl)
              obtain ⟨s, hs'⟩ : ∃ s : Nat, (s : Int) = sizes.getD k 0 := ⟨(sizes.getD k 0).toNat, by omega⟩
              rw [← hs'] at hs1 hsucc hc1 HPA hso
              have HSS := Lib.hid hsucc
              have HSG := Lib.hid hs'
              obtain ⟨q, hq⟩ : ∃ q, q = sumTo sizes k := ⟨_, rfl⟩
              rw [← hq] at hsucc HPA HSS ⊢
              have hqs : q + s ≤ zs.length := by omega
              obtain ⟨b2, o2, e2, hb2, _⟩ := hn.at_ (by omega)
              have hcut := (hn.below hbel).cut (n := q) (c := c2) (by omega) hc
              rw [if_neg (by omega), e2] at hcut
              have eA : (some (⟨b2, o2, none⟩ : Addr)).map (·.add q) = some ⟨b2, o2 + q, none⟩ := by unfold Addr.add; split <;> simp_all
              rw [eA] at hcut
              have hg := fun W (hW : Ints W w.heap.size .u8 (some ⟨b2, o2 + q, none⟩) (zs.drop q)) => refGet_any (some ⟨b2, o2 + q, none⟩) (c2 - q) w.heap.size (zs.drop q) s W hW (fun z hz => HB.out z (List.mem_of_mem_drop hz))
              have eE : getE (zs.drop q) s = 0 := by unfold getE; rw [if_pos hso, if_neg (by rw [List.length_drop]; omega)]
              have eV : getV (zs.drop q) s = valOf ((zs.drop q).take s) := by unfold getV; rw [if_pos eE]; rfl
              rw [eE, eV, List.length_drop] at hg
              have hpl : (partsOf zs (sizes.take k)).length ≤ 4096 := by rw [partsOf_len, List.length_take]; omega
              obtain ⟨x, hx⟩ : ∃ x, x = valOf ((zs.drop q).take s) := ⟨_, rfl⟩
              rw [← hx] at hg
              obtain ⟨L, hL⟩ : ∃ L, L = partsOf zs (sizes.take k) := ⟨_, rfl⟩
              rw [← hL] at hown HPA hpl
              have HG := Lib.hid hg
              have HC := Lib.hid hcut
              have HX := Lib.hid hx
              have hq0 : (0 : Int) ≤ (q : Int) := by omega
              have hq1 : (q : Int) ≤ (zs.length : Int) := by omega
              have hq2 : q ≤ zs.length := by omega
              have hq3 : ¬ c2 = q := by omega
              have hk0 : (0 : Int) ≤ (k : Int) := by omega
              have hk1 : (k : Int) < (sizes.length : Int) := by omega
              have hs11 := hs1.1
              have hs12 := hs1.2
              obtain rfl := e1
              obtain rfl := e2
              clear hs' hso hs1 hsucc hle hq eA hg eE eV hcut hx hL
              go_wp2
              go_quiet ((go_at_call 15; refine quiet_left (HG.out _ (HC.out.drewN _))))
              have hownW : (wr.drewN nq).ownsRow w.heap.size 22 1 u8 L.length (L.map (Value.int .u64)) := hown
              have hbelW := below_drewN hbel nq
              have hc1W : (wr.drewN nq).cell? ⟨b1, o1 + k, none⟩ = some (.int .i64 s) := hc1
              clear hown hbel hc1
              generalize wr.drewN nq = W at hownW hbelW hc1W ⊢
              have hcl := (Below.refl w.heap.size W)
              have hbw : b1 < W.heap.size := World.block_lt_of_cell? W _ hc1W
              go_wp2_with (at_builtin; refine wpList_append_own_at _ rfl _ _ 28 rfl w.heap.size 22 i0 (.int .u64 0) 1 8 Try.underlying28 hi hz0 hz1 hz2 rfl (by decide) _ _ _ rfl (hownW.alloc _) ⟨W.heap.size, 0, none⟩ 1 1 [_] rfl rfl (cell_one_new _ _ _) ?c2 ?c3 ?c4 ?c5 ?_)
              case c2 => intro u hu; simp at hu; subst hu; rfl
              case c3 => unfold maxLen; omega
              case c4 => omega
              case c5 => have := hbelW.size; simp; omega
              intro v1 w1 hown1 hgrow _ _
              have hsz := hbelW.size
              have hb1 : Below w.heap.size w w1 := (hbelW.alloc hsz _).grown hgrow (by simp; omega) fun g hg => (hownW.lt g hg).1
              have hc1' : w1.cell? ⟨b1, o1 + k, none⟩ = some (.int .i64 s) := by
                have h0 := hs.below hb1 k hlt
                obtain ⟨b', o', e', _, hc'⟩ := h0
                injection e' with e'
                injection e' with ea eb
                subst ea eb
                rw [hc', ← HSG.out]
              have R : w1.ownsRow w.heap.size 22 1 v1 (partsOf zs (sizes.take (k + 1))).length ((partsOf zs (sizes.take (k + 1))).map (Value.int .u64)) := by
                rw [HPA.out, List.length_append, List.map_append, show ((s : Int)).toNat = s from rfl, ← HX.out]
                exact hown1
              clear hown1 hgrow hownW hbelW hc1W hcl hbw
              go_wp2
              go_roundw
              case rel => exact ⟨k + 1, by omega, by go_num, by have := HSS.out; go_num, R, hb1⟩
              case measure => simp [intOf]; omega
            · have hks : k = sizes.length := by omega
              subst hks
              rw [List.take_length] at hown
              obtain ⟨A, c, hv⟩ := own_slice hown
              subst hv
              have hle := own_le hown
              have hres := Ints.of_own hown
              clear hown
              go_wp2
              go_ret2
              rw [HE1.out, HE2.out]
              exact ⟨A, c, rfl, hle, hres, hbel⟩

/-- The document's 'Split', whatever it is given. -/
theorem refSplit_any (A1 A2 : Option Addr) (c1 c2 : Nat) (sizes zs : List Int) (w : World) (hs : Ints w w.heap.size .i64 A1 sizes) (hn : Ints w w.heap.size .u8 A2 zs) (hc : zs.length ≤ c2)
    (hb : ∀ z ∈ zs, 0 ≤ z ∧ z ≤ 255) (hm64 : zs.length ≤ 9223372036854775807) :
    Calls Try.prog 18 #[.slice A2 zs.length c2, .slice A1 sizes.length c1] w (MadeN w (splitE zs sizes) (splitL zs sizes)) := by
  cases h : szs sizes
  · have e1 : splitE zs sizes = 1 := by unfold splitE; rw [h]; rfl
    have e2 : splitL zs sizes = [] := by unfold splitL; rw [e1]; rfl
    rw [e1, e2]
    exact refSplit_arg A1 A2 c1 c2 _ sizes zs w hs h
  · exact refSplit_go A1 A2 c1 c2 sizes zs w hs hn hc hb h hm64

end Go.Proofs.Ytdlmnlgmdfcbfaa
