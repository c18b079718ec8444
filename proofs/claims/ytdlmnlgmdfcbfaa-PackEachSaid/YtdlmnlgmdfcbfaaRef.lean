/-
  The document's own answer for fields (stowageref01.Fields): whatever it is given, what it answers; nothing that was there is changed.
-/
import Derived.Test.YtdlmnlgmdfcbfaaJoin
import Derived.Deep.QuietTactic
import Derived.BigQuiet
import Derived.StillTailTactics
import Derived.Deep.RegionHeld3
import Derived.Deep.DeepCutAuto
namespace Go.Proofs.Ytdlmnlgmdfcbfaa
open Go.RowKit

theorem below_drewN {B : Nat} {a w : World} (h : Below B a w) (n : Nat) : Below B a (w.drewN n) := ⟨h.os, h.tape, h.output, h.size, h.block⟩
theorem Ints.cell {w : World} {B : Nat} {k : IntKind} {b off : Nat} {zs : List Int} (h : Ints w B k (some ⟨b, off, none⟩) zs) {i : Nat} (hi : i < zs.length) : w.cell? ⟨b, off + i, none⟩ = some (.int k (zs.getD i 0)) := by
  obtain ⟨b', off', e, _, hc⟩ := h i hi
  injection e with e
  injection e with e1 e2
  subst e1 e2
  exact hc
theorem own_ne {w : World} {base e size n b : Nat} {v : Value} {xs : List Value} (h : w.ownsRow base e size v n xs) (hb : b < base) : some b ≠ v.ownBlock := fun e => by
  have := (h.lt b e.symm).1
  omega
theorem fit_lt (x : Int) (s : Nat) : decide (256 ^ s ≤ x) = !fitB x s := by
  unfold fitB
  rw [Int.toNat_natCast, Bool.eq_iff_iff]
  simp only [decide_eq_true_eq, Bool.not_eq_true', decide_eq_false_iff_not]
  omega
theorem fit_8 (x : Int) (s : Nat) (hs : s = 8) (hx : x ≤ 18446744073709551615) : fitB x s = true := by
  subst hs
  unfold fitB
  rw [decide_eq_true_eq]
  show x < 256 ^ 8
  omega
theorem quiet_left {P : Program} {f : FuncId} {args : Array Value} {w : World} {n : Nat} {v : Value}
    (h : Calls P f args (w.drewN n) fun e w' => e = .returned v ∧ w.drewN n = w') : Calls P f args (w.drewN n) fun e w'' => e = .returned v ∧ ∃ m, w'' = w.drewN m :=
  h.mono fun _ _ ⟨he, hm⟩ => ⟨he, n, hm.symm⟩

/-- The number of sizes is refused. -/
theorem refFields_len (A1 A2 : Option Addr) (c1 c2 : Nat) (sizes list : List Int) (w : World) (h : list.length ≠ sizes.length ∨ 4096 < list.length) :
    Calls Try.prog 12 #[.slice A2 list.length c2, .slice A1 sizes.length c1] w (Made w 1 []) := by
  by_cases hl : list.length = sizes.length
  · have h4 : 4096 < (list.length : Int) := by omega
    have hl1 : ((list.length : Int) == (sizes.length : Int)) = true := by simp; omega
    have hl2 : ((list.length : Int) != (sizes.length : Int)) = false := by simp; omega
    clear h hl
    go_enter Try.func12, Try.ntmps12
    go_wp2
    go_ret2
    exact Made.nil (Below.refl _ _)
  · have hl1 : ((list.length : Int) == (sizes.length : Int)) = false := by simp; omega
    have hl2 : ((list.length : Int) != (sizes.length : Int)) = true := by simp; omega
    clear h hl
    go_enter Try.func12, Try.ntmps12
    go_wp2
    go_ret2
    exact Made.nil (Below.refl _ _)

/-- A size is refused. -/
theorem refFields_size (A1 A2 : Option Addr) (c1 c2 B : Nat) (sizes list : List Int) (w : World) (hs : Ints w B .i64 A1 sizes) (hl : list.length = sizes.length) (h4 : list.length ≤ 4096) (h2 : sizes.all szOk = false) :
    Calls Try.prog 12 #[.slice A2 list.length c2, .slice A1 sizes.length c1] w (Made w 1 []) := by
  have h41 : ¬ 4096 < (list.length : Int) := by omega
  have hl1 : ((list.length : Int) == (sizes.length : Int)) = true := by simp; omega
  have hl2 : ((list.length : Int) != (sizes.length : Int)) = false := by simp; omega
  have hb64 : sizes.length ≤ 4096 := by omega
  have H2 := Lib.hid h2
  clear h2 hl h4
  go_enter Try.func12, Try.ntmps12
  go_wp2
  go_loop [6] (fun i => ∃ k : Nat, k ≤ sizes.length ∧ i = .int .i64 k ∧ Hid ((sizes.take k).all szOk = true)) (fun i => sizes.length - (intOf i).toNat)
  case atStart => exact ⟨0, Nat.zero_le _, rfl, rfl⟩
  case round =>
    obtain ⟨k, hk, rfl, hall⟩ := hrel
    by_cases hlt : k < sizes.length
    · obtain ⟨b, off, rfl, _, hc⟩ := hs k hlt
      have HA : Hid (szOk (sizes.getD k 0) = true → (sizes.take (k + 1)).all szOk = true) := fun hz => by
        rw [take_snoc sizes k hlt, List.all_append, hall.out, List.all_cons, hz]; rfl
      clear hall
      obtain ⟨x, hx⟩ : ∃ x, x = sizes.getD k 0 := ⟨_, rfl⟩
      rw [← hx] at hc HA
      clear hx
      by_cases ho : 1 ≤ x ∧ x ≤ 8
      · obtain ⟨hm3, hm4⟩ := ho
        have hn1 : ¬ x < 1 := by omega
        have hn2 : ¬ 8 < x := by omega
        go_wp2
        go_round
        case rel => exact ⟨k + 1, by omega, by go_num, HA.out (by simp only [szOk, decide_eq_true_eq]; omega)⟩
        case measure => simp [intOf]; omega
      · clear HA
        by_cases hn1 : x < 1
        · go_wp2
          go_ret2
          exact Made.nil (Below.refl _ _)
        · have hn2 : 8 < x := by omega
          clear ho
          go_wp2
          go_ret2
          exact Made.nil (Below.refl _ _)
    · have : k = sizes.length := by omega
      subst this
      have := H2.out
      rw [List.take_length] at hall
      rw [hall.out] at this
      cases this

set_option maxHeartbeats 1600000 in
set_option maxRecDepth 100000 in
/-- All is sound. -/
theorem refFields_go (A1 A2 : Option Addr) (c1 c2 : Nat) (sizes list : List Int) (w : World) (hs : Ints w w.heap.size .i64 A1 sizes) (hn : Ints w w.heap.size .u64 A2 list)
    (hb : ∀ z ∈ list, 0 ≤ z ∧ z ≤ 18446744073709551615) (hz : szs sizes = true) (hl : list.length = sizes.length) :
    Calls Try.prog 12 #[.slice A2 list.length c2, .slice A1 sizes.length c1] w (Made w (fieldsE list sizes) (fieldsB list sizes)) := by
  obtain ⟨i0, hi, hz0, hz1, hz2⟩ := info_parts Try.infoU8
  have hz3 := hz
  simp only [szs, Bool.and_eq_true, decide_eq_true_eq] at hz3
  obtain ⟨hz4, hz5⟩ := hz3
  have h41 : ¬ 4096 < (list.length : Int) := by omega
  have hl1 : ((list.length : Int) == (sizes.length : Int)) = true := by simp; omega
  have hl2 : ((list.length : Int) != (sizes.length : Int)) = false := by simp; omega
  have hlb : list.length ≤ 4096 := by omega
  have HZ := Lib.hid hz
  have HZ5 := Lib.hid hz5
  have HL := Lib.hid hl
  have HB := Lib.hid hb
  clear hz hz5 hl hb
  go_enter Try.func12, Try.ntmps12
  go_wp2
  go_loop [6] (fun i => ∃ k : Nat, k ≤ sizes.length ∧ i = .int .i64 k) (fun i => sizes.length - (intOf i).toNat)
  case atStart => exact ⟨0, Nat.zero_le _, rfl⟩
  case round =>
    obtain ⟨k, hk, rfl⟩ := hrel
    by_cases hlt : k < sizes.length
    · obtain ⟨b, off, rfl, _, hc⟩ := hs k hlt
      have hm : szOk (sizes.getD k 0) = true := List.all_eq_true.1 HZ5.out _ (getD_mem hlt)
      have hm2 : 1 ≤ sizes.getD k 0 ∧ sizes.getD k 0 ≤ 8 := by simpa only [szOk, decide_eq_true_eq] using hm
      obtain ⟨x, hx⟩ : ∃ x, x = sizes.getD k 0 := ⟨_, rfl⟩
      rw [← hx] at hc hm2
      clear hx hm
      obtain ⟨hm3, hm4⟩ := hm2
      have hn1 : ¬ x < 1 := by omega
      have hn2 : ¬ 8 < x := by omega
      go_wp2
      go_round
      case rel => exact ⟨k + 1, by omega, by go_num⟩
      case measure => simp [intOf]; omega
    · have hks : k = sizes.length := by omega
      subst hks
      clear hk hlt
      go_wp2
      go_loopw [7, 8] (fun v i wr => ∃ k : Nat, k ≤ list.length ∧ i = .int .i64 k ∧ wr.ownsRow w.heap.size 5 1 v (fieldsTo list sizes k).length ((fieldsTo list sizes k).map (Value.int .u8)) ∧
          Below w.heap.size w wr ∧ Hid (((list.zip sizes).take k).all (fun p => fitB p.1 p.2) = true)) (fun _ i _ => list.length - (intOf i).toNat)
      case atStart =>
        refine ⟨0, Nat.zero_le _, rfl, ?_, (Below.refl _ _).alloc (Nat.le_refl _) _, by simp [Hid]⟩
        rw [fieldsTo_zero]
        exact World.ownsRow_made w #[] 0 (Nat.le_refl _) (Nat.zero_le _) rfl
      case round =>
        obtain ⟨k, hk, rfl, hown, hbel, hall⟩ := hrel
        by_cases hlt : k < list.length
        · have hlt2 : k < sizes.length := by have := HL.out; omega
          obtain ⟨b1, o1, rfl, _, hc1⟩ := hs.below hbel k hlt2
          obtain ⟨b2, o2, rfl, hlt3, hc2⟩ := hn.below hbel k hlt
          have hm : szOk (sizes.getD k 0) = true := List.all_eq_true.1 HZ5.out _ (getD_mem hlt2)
          have hm2 : 1 ≤ sizes.getD k 0 ∧ sizes.getD k 0 ≤ 8 := by simpa only [szOk, decide_eq_true_eq] using hm
          have hx := HB.out _ (getD_mem hlt)
          have hfl := fieldsTo_len list sizes HZ5.out k
          have HF := Lib.hid (fieldsTo_succ list sizes k hlt hlt2)
          have HA := Lib.hid (zip_take_snoc list sizes k hlt hlt2)
          have HR := Lib.hid (fieldsE_range HZ.out HL.out k hlt)
          obtain ⟨x, hx'⟩ : ∃ x, x = list.getD k 0 := ⟨_, rfl⟩
          obtain ⟨s, hs'⟩ : ∃ s : Nat, (s : Int) = sizes.getD k 0 := ⟨(sizes.getD k 0).toNat, by omega⟩
          rw [← hx'] at hc2 hx HF HA HR
          rw [← hs'] at hc1 hm2 HF HA HR
          have HX := Lib.hid hx'
          clear hx' hs' hm
          obtain ⟨hm3, hm4⟩ := hm2
          obtain ⟨hx0, hx1⟩ := hx
          obtain ⟨ys, hys⟩ : ∃ ys, ys = fieldsTo list sizes k := ⟨_, rfl⟩
          rw [← hys] at hown hfl HF
          clear hys
          go_wp2
          go_upto_region 12 with fail
          go_cut [61] (fun t wx => t = .bool (!fitB x s) ∧ ∃ nq, wx = wr.drewN nq)
          case first =>
            by_cases h8 : s < 8
            · have h81 : (s : Int) < 8 := by omega
              have h82 : decide ((s : Int) < 8) = true := by simpa using h81
              go_quiet ((go_at_call 21; refine quiet_left (power_any s _ (by omega))))
              go_wp2_with fail
              go_meet
              exact ⟨by rw [fit_lt], _, rfl⟩
            · have h81 : ¬ (s : Int) < 8 := by omega
              have h82 : decide ((s : Int) < 8) = false := by simpa using h81
              go_quiet (fail)
              go_wp2_with fail
              go_meet
              exact ⟨by rw [fit_8 x s (by omega) hx1]; rfl, _, rfl⟩
          case rest =>
            obtain ⟨ht, nq, rfl⟩ := hcut
            by_cases hf : fitB x s = true
            · rw [hf] at ht
              obtain rfl := ht
              have hownO : (wr.drewN nq).ownsRow w.heap.size 5 1 u7 ys.length (ys.map (Value.int .u8)) := hown
              have hbelO := below_drewN hbel nq
              go_wp2
              go_loopw [7, 9] (fun v i wi => ∃ j : Nat, j ≤ s ∧ i = .int .i64 ((s : Int) - 1 - j) ∧ wi.ownsRow w.heap.size 5 1 v (ys ++ bytesTo x s j).length ((ys ++ bytesTo x s j).map (Value.int .u8)) ∧ Below w.heap.size w wi)
                (fun _ i _ => (intOf i + 1).toNat)
              case atStart => exact ⟨0, Nat.zero_le _, by go_num, by simpa [bytesTo_zero] using hownO, hbelO⟩
              case round =>
                obtain ⟨j, hj, rfl, hownI, hbelI⟩ := hrel
                clear hown hbel hownO hbelO hc1 hc2
                by_cases hlj : j < s
                · have hcI := (hn.below hbelI).cell hlt
                  rw [← HX.out] at hcI
                  have hln : (ys ++ bytesTo x s j).length ≤ 40000 := by rw [List.length_append, bytesTo_len]; omega
                  have HS := Lib.hid (bytesTo_succ x s j)
                  obtain ⟨zs, hzs⟩ : ∃ zs, zs = ys ++ bytesTo x s j := ⟨_, rfl⟩
                  rw [← hzs] at hln hownI
                  have HY := Lib.hid hzs
                  obtain ⟨q, hq⟩ : ∃ q : Nat, (q : Int) = (s : Int) - 1 - j := ⟨((s : Int) - 1 - j).toNat, by omega⟩
                  rw [← hq]
                  have hq7 : q ≤ 7 := by omega
                  have HQ := Lib.hid hq
                  have hpow := power_any q
                  have hp := pow_pos q
                  obtain ⟨p, hpq⟩ : ∃ p : Int, p = 256 ^ q := ⟨_, rfl⟩
                  rw [← hpq] at hp hpow
                  have HP := Lib.hid hpq
                  obtain ⟨d, hd⟩ : ∃ d : Int, d = x / p := ⟨_, rfl⟩
                  have hd0 : 0 ≤ d ∧ d ≤ x := by rw [hd]; exact IntWalk.tdiv_le x p hx0 (by omega)
                  obtain ⟨r, hr⟩ : ∃ r : Int, r = d % 256 := ⟨_, rfl⟩
                  have hr0 : 0 ≤ r ∧ r ≤ 255 := by omega
                  have hw1 : IntKind.u64.wrap (x.tdiv p) = d := by rw [IntWalk.u64_quo x p ⟨hx0, hx1, by omega⟩, hd]
                  have hw2 : d.tmod 256 = r := by rw [IntWalk.rem_in d 256 hd0.1, hr]
                  have hw3 : IntKind.u64.wrap r = r := IntWalk.u64_in r (by omega)
                  have hw4 : IntKind.u8.wrap r = r := IntWalk.u8_in r (by omega)
                  have hp0 : p ≠ 0 := by omega
                  have hp1 : (p == 0) = false := by simpa using hp0
                  have HD := Lib.hid hd
                  have HR' := Lib.hid hr
                  have HPW := Lib.hid hpow
                  have hu1 := hd0.1
                  have hu2 : d ≤ 18446744073709551615 := by omega
                  have hu3 := hr0.1
                  have hu4 := hr0.2
                  clear hzs hq hpq hd hr hd0 hr0 hpow
                  go_wp2
                  have hne := own_ne hownI hlt3
                  have hsz := hbelI.size
                  go_region_held3 (fun w' => w'.cell? ⟨b2, o2 + k, none⟩ = some (.int .u64 x))
                    (first
                      | go_keep
                      | (rw [hgrow.cell_far _ (by simp; omega) hne]; assumption))
                    (first
                      | (go_at_call 21; refine (HPW.out _ hq7).mono ?_; rintro e w' ⟨rfl, rfl⟩)
                      | (refine step_append_lies _ (by rfl) _ _ _ (by rfl) w.heap.size 5 i0 _ 1 1 Try.underlying23 hi hz0 hz1 hz2 rfl (by omega) _ zs.length _ (by rfl) ((hownI.alloc _).drew) ⟨wr.heap.size, 0, none⟩ 1 1 [.int .u8 r] (by rfl) (by rfl) (cell_one_new wr (.int .u8 r) 5) (by simp [Value.oneCell']) (by omega) (by unfold maxLen; omega) (by omega) (by simp; omega) (wr.heap.size + 1) (by simp) ?_; intro gg cap w1 hown1 hgrow hat hlt'))
                  have R : w1.ownsRow w.heap.size 5 1 (.slice (some ⟨gg, 0, none⟩) (zs.length + 1) cap) (ys ++ bytesTo x s (j + 1)).length ((ys ++ bytesTo x s (j + 1)).map (Value.int .u8)) ∧ Below w.heap.size w w1 := by
                    have e1 : ys ++ bytesTo x s (j + 1) = zs ++ [r] := by
                      have eq1 : s - 1 - j = q := by have := HQ.out; omega
                      rw [HS.out, HY.out, List.append_assoc, HR'.out, HD.out, HP.out, eq1]
                    rw [e1, List.length_append, List.map_append]
                    exact ⟨hown1, ((hbelI.alloc hsz _).drew).grown hgrow (by simp; omega) fun q hq => (hownI.lt q hq).1⟩
                  clear hown1 hgrow hownI hbelI hcI
                  go_wp2
                  go_roundw
                  case rel => (repeat apply Exists.intro); exact ⟨⟨j + 1, by omega, by have := HQ.out; go_num, R.1, R.2⟩, rfl⟩
                  case measure => simp [intOf]
                · have hjs : j = s := by omega
                  subst hjs
                  have R : wr.ownsRow w.heap.size 5 1 u7 (fieldsTo list sizes (k + 1)).length ((fieldsTo list sizes (k + 1)).map (Value.int .u8)) := by
                    rw [HF.out]; exact hownI
                  have RA : Hid (((list.zip sizes).take (k + 1)).all (fun p => fitB p.1 p.2) = true) := by
                    unfold Hid; rw [HA.out, List.all_append, hall.out, List.all_cons, hf]; rfl
                  clear hownI
                  go_wp2
                  go_roundw
                  case rel => exact ⟨k + 1, by omega, by go_num, R, hbelI, RA⟩
                  case measure => simp [intOf]; omega
            · have hf' : fitB x s = false := by simpa using hf
              rw [hf'] at ht
              obtain rfl := ht
              go_wp2
              go_ret2
              have R := HR.out hf'
              rw [R.1, R.2]
              exact Made.nil (below_drewN hbel nq)
        · have hks : k = list.length := by omega
          subst hks
          go_wp2
          go_ret2
          have R := fieldsE_ok HZ.out HL.out hall.out
          obtain ⟨A, c, hv⟩ := own_slice hown
          subst hv
          rw [R.1, R.2]
          exact ⟨A, c, rfl, own_le hown, Ints.of_own hown, hbel⟩

/-- The document's 'Fields', whatever it is given. -/
theorem refFields_any (A1 A2 : Option Addr) (c1 c2 : Nat) (sizes list : List Int) (w : World) (hs : Ints w w.heap.size .i64 A1 sizes) (hn : Ints w w.heap.size .u64 A2 list)
    (hb : ∀ z ∈ list, 0 ≤ z ∧ z ≤ 18446744073709551615) :
    Calls Try.prog 12 #[.slice A2 list.length c2, .slice A1 sizes.length c1] w (Made w (fieldsE list sizes) (fieldsB list sizes)) := by
  by_cases h : list.length ≠ sizes.length ∨ 4096 < list.length
  · have R : fieldsE list sizes = 1 ∧ fieldsB list sizes = [] := fieldsE_arg (by
      rcases h with h | h
      · exact .inr h
      · rcases Nat.decEq list.length sizes.length with e | e
        · exact .inr e
        · exact .inl (by unfold szs; rw [decide_eq_false (by omega)]; rfl))
    rw [R.1, R.2]
    exact refFields_len A1 A2 c1 c2 sizes list w h
  · have hl : list.length = sizes.length := by omega
    cases e : sizes.all szOk
    · have R := fieldsE_arg (list := list) (sizes := sizes) (.inl (by unfold szs; rw [e]; simp))
      rw [R.1, R.2]
      exact refFields_size A1 A2 c1 c2 _ sizes list w hs hl (by omega) e
    · exact refFields_go A1 A2 c1 c2 sizes list w hs hn hb (by unfold szs; rw [e, decide_eq_true (by omega)]; rfl) hl

end Go.Proofs.Ytdlmnlgmdfcbfaa
