/-
  DiskSure: what was flushed is there behind any crash, and nothing else.
-/
import Derived.Test.YtnbgnllkikajpaaDiskRow
import Derived.Deep.Onto
namespace Go.Proofs.Ytnbgnllkikajpaa
open Go.RowKit

section
variable {w : World} {Rep : World → Nat → (Nat → Prop) → Dk → Prop}
def nowV (s : Dk) (k : Nat) : List Value := (List.range k).map fun i => .string (strOfNums (up (nowD s i)))
theorem nowV_succ (s : Dk) (k : Nat) : nowV s (k + 1) = nowV s k ++ [.string (strOfNums (up (nowD s k)))] := by
  unfold nowV; rw [List.range_succ, List.map_append]; rfl
theorem nowV_at (s : Dk) {k i : Nat} (h : i < k) : (nowV s k)[i]? = some (.string (strOfNums (up (nowD s i)))) := by
  unfold nowV; rw [List.getElem?_map, List.getElem?_range h]; rfl
theorem rowD_cell {p n : Nat} {s : Dk} {v : Value} {xs : List Value} {W : World} (h : RowD Rep w p s v n xs W) {i : Nat} (hi : i < n) : ∃ g c, v = .slice (some ⟨g, 0, none⟩) n c ∧ W.cell? ⟨g, i, none⟩ = xs[i]? := by
  obtain ⟨g, c, rfl, _, _⟩ := h.row.form (by omega)
  exact ⟨g, c, rfl, h.row.cellAt i (by omega)⟩
theorem Try.infoStr : (Try.prog.info? 9).map (fun i => (i.zero, i.size, i.bytes)) = some (some (.string ⟨#[]⟩), 1, 16) := by kernel_rfl

set_option maxHeartbeats 3200000 in
set_option maxRecDepth 20000 in
/-- DiskSure. -/
theorem diskSure_go (A1 A2 B : Option Addr) (c1 c2 c3 : Nat) (ps : List Part) (at' : List Nat) (l : List Bool) (w : World) (HS : DiskSpec w Rep) (hP : Parts w w.heap.size A1 ps) (hA : Ints w w.heap.size .u8 A2 (up at')) (ha : ∀ y ∈ at', y < 256) (hB : Bools w w.heap.size B l) (hlc : l.length ≤ c3) (hl47 : l.length ≤ 140737488355328) :
    Calls Try.prog 8 #[.slice A1 ps.length c1, .slice A2 at'.length c2, .slice B l.length c3] w fun e w' => e = .returned (.bool true) ∧ Below w.heap.size w w' := by
  have HA := Lib.hid (fun (W : World) (hb : Below w.heap.size w W) => diskAwake HS W hb)
  have H1 : Hid (Calls Try.prog 9 #[.int .i64 5] w fun e w' => ∃ p, e = .returned (.tuple #[.pointer (some ⟨p, 0, none⟩), .int .i64 0]) ∧ OwnD Rep w w' p (newD 5)) := own_newD (Rep := Rep) HS (W := w) (n := 5) (Below.refl _ _) (by decide) (by decide)
  have HOB : Hid (∀ W p s, OwnD Rep w W p s → Below w.heap.size w W) := fun W p s h => h.below
  have HLT : Hid (∀ W W' p s, OwnD Rep w W p s → Below W.heap.size W W' → OwnD Rep w W' p s) := fun W W' p s h hb => h.later HS hb
  have hmk := make64
  obtain ⟨Z, hZ⟩ : ∃ Z, Z = CB zeroSec := ⟨_, rfl⟩
  rw [← hZ] at hmk
  have HZ : Hid (∀ W : World, RwB W.heap.size zeroSec (W.alloc (.cells Z 5))) := fun W => by rw [hZ]; exact RwB.new W zeroSec
  have HSS := Lib.hid HS
  have HP := Lib.hid hP
  have HAT := Lib.hid hA
  have Ha := Lib.hid ha
  have HB := Lib.hid hB
  have HLC := Lib.hid hlc
  have HL7 := Lib.hid hl47
  obtain ⟨M, hM⟩ : ∃ M, M = ps.length := ⟨_, rfl⟩
  obtain ⟨L, hL⟩ : ∃ L, L = at'.length := ⟨_, rfl⟩
  obtain ⟨K, hK⟩ : ∃ K, K = l.length := ⟨_, rfl⟩
  have HM := Lib.hid hM
  have HL := Lib.hid hL
  have HK := Lib.hid hK
  rw [← hM, ← hL, ← hK]
  clear HS hP hA ha hB hlc hl47 hZ hM hL hK
  go_enter Try.func8, Try.ntmps8
  go_wp2_with (first
    | (go_at_call 9; with_reducible (refine Calls.mono H1.out ?_); rintro e w1 ⟨p, rfl, ho1⟩)
    | (go_at_call 10; with_reducible (refine Calls.mono (HA.out _ (HOB.out _ _ _ ho1)) ?_); rintro e w2 ⟨rfl, hb2⟩; have ho2 := Lib.hid (HLT.out _ _ _ _ ho1 hb2)))
  clear ho1 hb2 H1 HA
  go_loopw [9] (fun i wx => ∃ j : Nat, j ≤ 40 ∧ i = .int .i64 j ∧ Hid (∃ s, FreeD 5 j s ∧ OwnD Rep w wx p s)) (fun i _ => 40 - (intOf i).toNat)
  case atStart => exact ⟨0, Nat.zero_le _, rfl, _, free_new (by decide) (by decide), ho2.out⟩
  case round =>
    clear ho2
    obtain ⟨j, hj4, rfl, hR⟩ := hrel
    have j0 : (0 : Int) ≤ (j : Int) := by omega
    obtain ⟨T0, hT0⟩ : ∃ T0, T0 = decide (j < M ∧ j < L ∧ j < 40) := ⟨_, rfl⟩
    have HT0 := Lib.hid hT0
    clear hT0
    go_upto_region 5 with fail
    go_cut [47] from 34 to 47 (fun v wx => v = .bool T0 ∧ Hid (∃ s, FreeD 5 j s ∧ OwnD Rep w wx p s))
    case first =>
      have HT1 := HT0.out
      by_cases hj1 : j < M
      · have k1 : (j : Int) < (M : Int) := by omega
        by_cases hj2 : j < L
        · have k2 : (j : Int) < (L : Int) := by omega
          by_cases hj3 : j < 40
          · have k3 : (j : Int) < 40 := by omega
            rw [decide_eq_true (And.intro hj1 (And.intro hj2 hj3))] at HT1
            subst HT1
            clear hj1 hj2 hj3
            go_wp2
            go_meet
            exact ⟨rfl, hR⟩
          · have k3 : ¬ (j : Int) < 40 := by omega
            rw [decide_eq_false (fun h => hj3 h.2.2)] at HT1
            subst HT1
            clear hj1 hj2 hj3
            go_wp2
            go_meet
            exact ⟨rfl, hR⟩
        · have k2 : ¬ (j : Int) < (L : Int) := by omega
          rw [decide_eq_false (fun h => hj2 h.2.1)] at HT1
          subst HT1
          clear hj1 hj2
          go_wp2
          go_meet
          exact ⟨rfl, hR⟩
      · have k1 : ¬ (j : Int) < (M : Int) := by omega
        rw [decide_eq_false (fun h => hj1 h.1)] at HT1
        subst HT1
        clear hj1
        go_wp2
        go_meet
        exact ⟨rfl, hR⟩
    clear hR
    obtain ⟨rfl, hR⟩ := hcut
    by_cases hin : j < M ∧ j < L ∧ j < 40
    · have HT1 := HT0.out
      rw [decide_eq_true hin] at HT1
      subst HT1
      clear HT0
      obtain ⟨hj1, hj2, hj3⟩ := hin
      have k1 : (j : Int) < (M : Int) := by omega
      have k2 : (j : Int) < (L : Int) := by omega
      have k3 : (j : Int) < 40 := by omega
      obtain ⟨s, hf, ho⟩ := hR.out
      have hbw := ho.below
      obtain ⟨b1, o1, rfl, hlt1, hc1, hok⟩ := HP.out j (by have := HM.out; omega)
      obtain ⟨b2, o2, rfl, hlt2, hc2⟩ := HAT.out j (by rw [up_len]; have := HL.out; omega)
      have ha := Ha.out (at'.getD j 0) (by rw [List.getD_eq_getElem?_getD, List.getElem?_eq_getElem (by have := HL.out; omega)]; exact List.getElem_mem _)
      rw [up_getD] at hc2
      obtain ⟨pt, hpt⟩ : ∃ pt, pt = ps[j]'(by have := HM.out; omega) := ⟨_, rfl⟩
      rw [← hpt] at hc1 hok
      obtain ⟨x, hx⟩ : ∃ x, x = at'.getD j 0 := ⟨_, rfl⟩
      rw [← hx] at hc2 ha
      have hsec := fitB_sec hok.byte
      have hz := HZ.out wc
      have hbz : Below wc.heap.size wc (wc.alloc (.cells Z 5)) := (Below.refl _ _).alloc (Nat.le_refl _) _
      have hw2 := chain hbw hbz
      have hI := (hok.ints.below hw2).more hw2.size
      have hcz1 := (hw2.cell (p := ⟨b1, o1 + j, none⟩) hlt1).trans hc1
      have HC2 : Hid (∀ W, Below wc.heap.size wc W → W.cell? ⟨b2, o2 + j, none⟩ = some (.int .u8 (x : Int))) := fun W hb => ((chain hbw hb).cell (p := ⟨b2, o2 + j, none⟩) hlt2).trans hc2
      have hx5 : (x : Int).tmod 5 = ((x % 5 : Nat) : Int) := by rw [Int.tmod_eq_emod_of_nonneg (by omega)]; omega
      have HW : Hid (∀ W, Below wc.heap.size wc W → RwB wc.heap.size (fitB pt.b) W → Calls Try.prog 12 #[.pointer (some ⟨p, 0, none⟩), .int .i64 ((x % 5 : Nat) : Int), .slice (some ⟨wc.heap.size, 0, none⟩) 64 64] W fun e w' => e = .returned (.int .i64 0) ∧ ∃ s, FreeD 5 (j + 1) s ∧ OwnD Rep w w' p s) := fun W hb hg =>
        (own_write HSS.out hf (by omega) (Nat.mod_lt _ (by decide)) hsec ho hb (Nat.le_refl _) hg).mono fun e w' ⟨q1, q2, _⟩ => ⟨q1, _, (free_write hf (Nat.mod_lt _ (by decide)) hsec).1, q2⟩
      obtain ⟨T, hT⟩ : ∃ T, T = fitB pt.b := ⟨_, rfl⟩
      rw [← hT] at HW
      have HT := Lib.hid hT
      obtain ⟨r, hr⟩ : ∃ r, r = x % 5 := ⟨_, rfl⟩
      rw [← hr] at HW hx5
      have hr5 : (r : Int) < 5 := by omega
      have hr0 : (0 : Int) ≤ (r : Int) := by omega
      obtain ⟨pA, hpA⟩ : ∃ x, x = pt.A := ⟨_, rfl⟩
      obtain ⟨pN, hpN⟩ : ∃ x, x = pt.b.length := ⟨_, rfl⟩
      obtain ⟨pC, hpC⟩ : ∃ x, x = pt.c := ⟨_, rfl⟩
      have hI2 : Ints (wc.alloc (.cells Z 5)) (wc.alloc (.cells Z 5)).heap.size .u8 pA (up pt.b) := by rw [hpA]; exact hI
      rw [← hpA, ← hpN, ← hpC] at hcz1
      have HPN : Hid (pt.b.length = pN) := hpN.symm
      clear hR hf ho hc1 hok hpt hx hsec hI hT hr hpA hpN hpC ha hc2 HZ HP HAT HB
      go_wp2_with (first
        | (with_reducible (refine wpList_copyB rfl _ _ rfl wc.heap.size pC pA pN 64 rfl rfl pt.b HPN.out hz hI2 wc.heap.size wc hbz (Nat.le_refl _) ?_); intro w3 m3 hg3 hb3; rw [← HT.out] at hg3; have hc3 := HC2.out _ hb3; clear hz hI2 hcz1)
        | (go_at_call 12; with_reducible (refine Calls.mono (HW.out _ hb3 hg3) ?_); rintro e w4 ⟨rfl, hs4⟩; have HS4 := Lib.hid hs4; clear hs4))
      go_roundw
      case rel => first | exact ⟨j + 1, by omega, by go_num, HS4.out⟩ | ((repeat apply Exists.intro); exact ⟨⟨j + 1, by omega, by go_num, HS4.out⟩, rfl⟩)
      case measure => simp [intOf]; omega
    · have HT1 := HT0.out
      rw [decide_eq_false hin] at HT1
      subst HT1
      clear HT0 hin HZ hmk HP HAT Ha
      obtain ⟨s, hf, ho⟩ := hR.out
      have hrd : Hid (∀ i : Nat, i < 5 → readE s (i : Int) = 0 ∧ Sec (nowD s i)) := fun i hi => ⟨(free_read hf hi).1, seenP_sec hf.ok (by rw [hf.len]; exact hi)⟩
      have HF := Lib.hid hf
      have HO := Lib.hid ho
      clear hR hf ho
      obtain ⟨i0, hi, hz0, hz1, hz2⟩ := info_parts Try.infoStr
      go_wp2_with fail
      go_loopw [11, 12] (fun v i wx => ∃ k : Nat, k ≤ 5 ∧ i = .int .i64 k ∧ Hid (RowD Rep w p s v k (nowV s k) wx)) (fun _ i _ => 5 - (intOf i).toNat)
      case atStart =>
        refine ⟨0, Nat.zero_le _, rfl, ?_⟩
        have hb := (Below.refl wc.heap.size wc).alloc (Nat.le_refl _) (.cells #[] 9)
        obtain ⟨F, h1, h2, h3⟩ := HO.out
        refine ⟨chain h3 hb, World.ownsRow_made wc #[] 0 h3.size (by decide) rfl, F, HSS.out.later h1 hb, h2, fun q hq hF => ?_⟩
        have := HSS.out.lt _ _ _ _ h1 q hF
        have e : wc.heap.size = q := by injection hq
        omega
      case round =>
        clear HO
        obtain ⟨k, hk, rfl, hR⟩ := hrel
        obtain ⟨wo, hwo⟩ : ∃ x, x = wr := ⟨_, rfl⟩
        subst hwo
        have k0 : (0 : Int) ≤ (k : Int) := by omega
        by_cases hk5 : k < 5
        · have k5 : (k : Int) < 5 := by omega
          have hrd2 := hrd.out k hk5
          have HRD := Lib.hid (hR.out.read HSS.out hrd2.1 hrd2.2)
          have HVS : Hid (nowV s (k + 1) = nowV s k ++ [.string (strOfNums (up (nowD s k)))]) := nowV_succ s k
          obtain ⟨T, hT⟩ : ∃ T, T = strOfNums (up (nowD s k)) := ⟨_, rfl⟩
          rw [← hT] at HRD HVS
          clear hR hrd2 hT
          go_wp2_with (first
            | (go_at_call 14; with_reducible (refine Calls.mono HRD.out ?_); rintro e w4 ⟨A4, c4, rfl, _, ht4, hr4⟩; have HR4 := Lib.hid hr4; have hrow := Lib.hid hr4.row; have hsz := hr4.below.size; clear hr4)
            | (at_builtin; refine wpList_append_own_at _ rfl _ _ 41 rfl w.heap.size 9 i0 (.string ⟨#[]⟩) 1 16 Try.underlying41 hi hz0 hz1 hz2 rfl (by decide) _ _ _ rfl (hrow.out.alloc _) ⟨w4.heap.size, 0, none⟩ 1 1 [.string T] rfl rfl (cell_one_new _ _ _) (fun u hu => by rw [List.mem_singleton.1 hu]; rfl) (by unfold maxLen; omega) (by omega) (by simp; omega) ?_
               intro v5 w5 hown5 hg5 _ hl5
               rw [← HVS.out] at hown5
               have R := Lib.hid (HR4.out.app HSS.out hown5 hg5 hl5)
               clear hown5 hg5 hl5 hrow HR4 ht4))
          go_roundw
          case rel => first | exact ⟨k + 1, by omega, by go_num, R⟩ | ((repeat apply Exists.intro); exact ⟨⟨k + 1, by omega, by go_num, R⟩, rfl⟩)
          case measure => simp [intOf]; omega
        · have k5 : ¬ (k : Int) < 5 := by omega
          have hk6 : k = 5 := by omega
          subst hk6
          obtain ⟨g, cv, rfl, _⟩ := rowD_cell hR.out (i := 0) (by decide)
          obtain ⟨sf, hsf⟩ : ∃ sf, sf = flushS s := ⟨_, rfl⟩
          have hff := free_flush HF.out
          rw [← hsf] at hff
          have HFL : Hid (Calls Try.prog 16 #[.pointer (some ⟨p, 0, none⟩)] wo fun e w' => e = .returned (.int .i64 0) ∧ RowD Rep w p sf (.slice (some ⟨g, 0, none⟩) 5 cv) 5 (nowV s 5) w') := by
            rw [hsf]
            obtain ⟨F, h1, h2, h3⟩ := hR.out.rep
            exact (HSS.out.flush p F s wo hR.out.below h1 h2).mono fun e w' ⟨F', r1, r2, r3, r4⟩ => ⟨by rw [r1, ← hff.2.1], hR.out.turn h2 h3 r2 r3 r4⟩
          have HPD : Hid (∀ W, RowD Rep w p sf (.slice (some ⟨g, 0, none⟩) 5 cv) 5 (nowV s 5) W → Calls Try.prog 22 #[.pointer (some ⟨p, 0, none⟩)] W fun e w' => e = .returned (.int .i64 0) ∧ RowD Rep w p sf (.slice (some ⟨g, 0, none⟩) 5 cv) 5 (nowV s 5) w') := fun W h => by
            obtain ⟨F, h1, h2, h3⟩ := h.rep
            have hp : sf.pend.length = 0 := by have := hff.1.pen; omega
            exact (HSS.out.pending p F sf W h.below h1 h2).mono fun e w' ⟨r1, r2⟩ => ⟨by rw [r1, hp]; rfl, h.later HSS.out r2⟩
          have HCR : Hid (∀ W, RowD Rep w p sf (.slice (some ⟨g, 0, none⟩) 5 cv) 5 (nowV s 5) W → Calls Try.prog 19 #[.pointer (some ⟨p, 0, none⟩), .slice B K c3] W fun e w' => e = .returned (.tuple #[]) ∧ RowD Rep w p sf (.slice (some ⟨g, 0, none⟩) 5 cv) 5 (nowV s 5) w') := fun W h => by
            obtain ⟨F, h1, h2, h3⟩ := h.rep
            have hcr : crashS sf l = sf := by rw [hsf]; exact crash_flushed HF.out l
            have h2' := HSS.out.crash B c3 l p F sf W h.below ((HB.out.below h.below).more h.below.size) HLC.out HL7.out (off_of HB.out h2) h1 h2
            rw [← HK.out, hcr] at h2'
            exact h2'.mono fun e w' ⟨F', r1, r2, r3, r4⟩ => ⟨r1, h.turn h2 h3 r2 r3 r4⟩
          have HRD : Hid (∀ W (i : Nat), i < 5 → RowD Rep w p sf (.slice (some ⟨g, 0, none⟩) 5 cv) 5 (nowV s 5) W → Calls Try.prog 14 #[.pointer (some ⟨p, 0, none⟩), .int .i64 (i : Int)] W fun e w' => ∃ A c, e = .returned (.tuple #[.slice A 64 c, .int .i64 0]) ∧ Ints w' w'.heap.size .u8 A (up (nowD s i)) ∧ RowD Rep w p sf (.slice (some ⟨g, 0, none⟩) 5 cv) 5 (nowV s 5) w') := fun W i hi5 h => by
            have e1 : nowD sf i = nowD s i := by rw [hsf]; exact (flush_now HF.out hi5).1
            have h2 := h.read HSS.out (free_read hff.1 hi5).1 (by rw [e1]; exact (hrd.out i hi5).2)
            rw [e1] at h2
            exact h2.mono fun e w' ⟨A, c, r1, r2, _, r4⟩ => ⟨A, c, r1, r2, r4⟩
          have HLA : Hid (∀ W (i : Nat), i < 5 → RowD Rep w p sf (.slice (some ⟨g, 0, none⟩) 5 cv) 5 (nowV s 5) W → Calls Try.prog 21 #[.pointer (some ⟨p, 0, none⟩), .int .i64 (i : Int)] W fun e w' => ∃ A c, e = .returned (.tuple #[.slice A 64 c, .int .i64 0]) ∧ Ints w' w'.heap.size .u8 A (up (nowD s i)) ∧ RowD Rep w p sf (.slice (some ⟨g, 0, none⟩) 5 cv) 5 (nowV s 5) w' ∧ Below W.heap.size W w') := fun W i hi5 h => by
            have e1 : sf.last.getD i [] = nowD s i := by rw [hsf]; exact (flush_now HF.out hi5).2
            have h2 := h.last HSS.out (free_read hff.1 hi5).2
            rw [e1] at h2
            exact h2
          clear hR hsf hff
          go_wp2_with (first
            | (go_at_call 16; with_reducible (refine Calls.mono HFL.out ?_); rintro e w6 ⟨rfl, hr6⟩)
            | (go_at_call 22; with_reducible (refine Calls.mono (HPD.out _ hr6) ?_); rintro e w7 ⟨rfl, hr7⟩; clear hr6)
            | (go_at_call 19; with_reducible (refine Calls.mono (HCR.out _ hr7) ?_); rintro e w8 ⟨rfl, hr8⟩; have HR8 := Lib.hid hr8; clear hr7 hr8))
          clear HFL HPD HCR HB HLC HL7
          go_loopw [15] (fun i wx => ∃ k : Nat, k ≤ 5 ∧ i = .int .i64 k ∧ Hid (RowD Rep w p sf (.slice (some ⟨g, 0, none⟩) 5 cv) 5 (nowV s 5) wx)) (fun i _ => 5 - (intOf i).toNat)
          case atStart => exact ⟨0, Nat.zero_le _, rfl, HR8.out⟩
          case round =>
            clear HR8
            obtain ⟨k, hk3, rfl, hR⟩ := hrel
            obtain ⟨wp, hwp⟩ : ∃ x, x = wr := ⟨_, rfl⟩
            subst hwp
            have n0 : (0 : Int) ≤ (k : Int) := by omega
            by_cases hkk : k < 5
            · have n5 : (k : Int) < 5 := by omega
              have HR1 := Lib.hid (HRD.out wp k hkk hR.out)
              have HL1 : Hid (∀ W, RowD Rep w p sf (.slice (some ⟨g, 0, none⟩) 5 cv) 5 (nowV s 5) W → Calls Try.prog 21 #[.pointer (some ⟨p, 0, none⟩), .int .i64 (k : Int)] W fun e w' => ∃ A c, e = .returned (.tuple #[.slice A 64 c, .int .i64 0]) ∧ Ints w' w'.heap.size .u8 A (up (nowD s k)) ∧ RowD Rep w p sf (.slice (some ⟨g, 0, none⟩) 5 cv) 5 (nowV s 5) w' ∧ Below W.heap.size W w') := fun W h => HLA.out W k hkk h
              have HCE : Hid (∀ W, RowD Rep w p sf (.slice (some ⟨g, 0, none⟩) 5 cv) 5 (nowV s 5) W → W.cell? ⟨g, k, none⟩ = some (.string (strOfNums (up (nowD s k))))) := fun W h => by
                obtain ⟨g2, c2, e, hc⟩ := rowD_cell h hkk
                injection e with e _ _
                injection e with e
                injection e with e _
                rw [e, hc, nowV_at s hkk]
              have HTL : Hid (∀ (W W' : World) (A : Option Addr) (c : Nat), Ints W W.heap.size .u8 A (up (nowD s k)) → Below W.heap.size W W' → (convert 30 9 (.slice A 64 c)).run Try.prog W' = .ok (.string (strOfNums (up (nowD s k)))) W') := fun W W' A c hI hb => text_later hI (hrd.out k hkk).2.1 hb
              obtain ⟨T, hT⟩ : ∃ T, T = strOfNums (up (nowD s k)) := ⟨_, rfl⟩
              rw [← hT] at HCE HTL
              obtain ⟨D, hD⟩ : ∃ D, D = up (nowD s k) := ⟨_, rfl⟩
              rw [← hD] at HR1 HTL HL1
              clear hR hT HRD HLA hrd hD
              go_wp2_with (first
                | (go_at_call 14; with_reducible (refine Calls.mono HR1.out ?_); rintro e w6 ⟨A6, c6, rfl, hi6, hr6⟩; have HR6 := Lib.hid hr6; clear hr6)
                | (go_at_call 21; with_reducible (refine Calls.mono (HL1.out _ HR6.out) ?_); rintro e w7 ⟨A7, c7, rfl, hi7, hr7, hb7⟩; have HR7 := Lib.hid hr7; have s1 := (fun n => HTL.out _ (w7.drewN n) _ c6 hi6 (below_drewN hb7 n)); have s2 := (fun n => HTL.out _ (w7.drewN n) _ c7 hi7 (below_drawn w7 n)); have x2 := HCE.out _ hr7; clear hr7 hb7 hi6 hi7 HR6))
              have s3 : ∀ n, (w7.drewN n).cell? ⟨g, k, none⟩ = some (.string T) := fun n => x2
              have HR8 : Hid (∀ n, RowD Rep w p sf (.slice (some ⟨g, 0, none⟩) 5 cv) 5 (nowV s 5) (w7.drewN n)) := fun n => HR7.out.later HSS.out (below_drawn w7 n)
              clear HR7 HL1 HR1 HCE HTL x2
              go_quiet (fail)
              go_wp2
              go_roundw
              case rel => first | exact ⟨k + 1, by omega, by go_num, HR8.out _⟩ | ((repeat apply Exists.intro); exact ⟨⟨k + 1, by omega, by go_num, HR8.out _⟩, rfl⟩)
              case measure => simp [intOf]; omega
            · have n5 : ¬ (k : Int) < 5 := by omega
              have HB9 := Lib.hid hR.out.below
              go_wp2
              go_ret
              exact ⟨rfl, HB9.out⟩
end

end Go.Proofs.Ytnbgnllkikajpaa
