/-
  The program's blocks: added, each byte replaced, rows turned, columns mixed.
-/
import Derived.Test.YtcoiincgclglbaaAesC3
namespace Go.Proofs.Ytcoiincgclglbaa
open Go.RowKit

set_option maxHeartbeats 3200000 in
set_option maxRecDepth 20000 in
/-- 'replaced'. -/
theorem repl_any (a box : List Nat) (g o : Nat) (w : World) (ha : Ok16 a) (hx : ∀ x ∈ box, x < 256) (hg : g < w.heap.size) (hbox : ∀ i, i < 256 → w.cell? ⟨g, o + i, none⟩ = some (.int .u8 (box.getD i 0 : Nat))) :
    Calls Try.prog 32 #[.agg (BA a), .pointer (some ⟨g, o, none⟩)] w fun e w' => e = .returned (.agg (BA (replL box a))) ∧ Below w.heap.size w w' := by
  have hz := (zero_of_info (P := Try.prog) (t := 57) (v := .agg (BA (zeros 16))) (n := 16) (by kernel_rfl)).1
  have hu := Try.underlying57
  have HP0 : Hid (prog 16 (fun i => box.getD (a.getD i 0) 0) (fun i => a.getD i 0) 0 = a) := prog_zero ha.len _
  have HP4 : Hid (prog 16 (fun i => box.getD (a.getD i 0) 0) (fun i => a.getD i 0) 16 = replL box a) := prog_all _ _ _
  have HPL := Lib.hid (fun k => prog_len 16 (fun i => box.getD (a.getD i 0) 0) (fun i => a.getD i 0) k)
  have HPN := Lib.hid (fun k => prog_next 16 (fun i => box.getD (a.getD i 0) 0) (fun i => a.getD i 0) k)
  have HPT := Lib.hid (fun k i (hi : i < 16) => prog_at (n := 16) (fun i => box.getD (a.getD i 0) 0) (fun i => a.getD i 0) k hi)
  obtain ⟨P, hP⟩ : ∃ P, P = prog 16 (fun i => box.getD (a.getD i 0) 0) (fun i => a.getD i 0) := ⟨_, rfl⟩
  simp only [← hP] at HP0 HP4 HPL HPN HPT
  have HBX : Hid (∀ W, Below w.heap.size w W → ∀ i, i < 256 → W.cell? ⟨g, o + i, none⟩ = some (.int .u8 (box.getD i 0 : Nat))) := fun W hb i hi => (hb.cell (p := ⟨g, o + i, none⟩) hg).trans (hbox i hi)
  obtain ⟨Z, hZ⟩ : ∃ Z, Z = zeros 16 := ⟨_, rfl⟩
  have hzl : Z.length = 16 := by rw [hZ]; rfl
  rw [← hZ] at hz
  have i1 : ((w.alloc (.cells (BA a) 57)).alloc (.cells (BA Z) 57)).heap[w.heap.size]? = some (.cells (BA a) 57 (0, 0)) := (Below.heap_alloc _ _ _ (by simp)).trans (heap_alloc_new _ _)
  have i2 : ((w.alloc (.cells (BA a) 57)).alloc (.cells (BA Z) 57)).heap[w.heap.size + 1]? = some (.cells (BA Z) 57 (0, 0)) := heap_alloc_new' _ _ _ (by simp)
  have ib : Below w.heap.size w ((w.alloc (.cells (BA a) 57)).alloc (.cells (BA Z) 57)) := ((Below.refl _ _).alloc (Nat.le_refl _) _).alloc (by simp) _
  have R0 := Lib.hid (And.intro i1 (And.intro i2 ib))
  clear hZ hP i1 i2 ib hbox
  go_enter Try.func32, Try.ntmps32
  go_wp2
  go_loopw [7] (fun i wr => ∃ c : Nat, c ≤ 4 ∧ i = .int .i64 c ∧ wr.heap[w.heap.size]? = some (.cells (BA (P (4 * c))) 57 (0, 0)) ∧ wr.heap[w.heap.size + 1]? = some (.cells (BA Z) 57 (0, 0)) ∧ Below w.heap.size w wr) (fun i _ => 4 - (intOf i).toNat)
  case atStart => exact ⟨0, by omega, rfl, by rw [show 4 * 0 = 0 from rfl, HP0.out]; exact R0.out.1, R0.out.2⟩
  case round =>
    clear R0
    obtain ⟨c, hc, rfl, r1, r2, rb⟩ := hrel
    by_cases hlt : c < 4
    · have R1 := Lib.hid (And.intro r1 (And.intro r2 rb))
      have c1 : (c : Int) < 4 := by omega
      have c0 : (0 : Int) ≤ (c : Int) := by omega
      clear r1 r2 rb
      go_wp2
      go_loopw [10] (fun i wx => ∃ r : Nat, r ≤ 4 ∧ i = .int .i64 r ∧ wx.heap[w.heap.size]? = some (.cells (BA (P (4 * c + r))) 57 (0, 0)) ∧ wx.heap[w.heap.size + 1]? = some (.cells (BA Z) 57 (0, 0)) ∧ Below w.heap.size w wx) (fun i _ => 4 - (intOf i).toNat)
      case atStart => exact ⟨0, by omega, rfl, R1.out⟩
      case round =>
        clear R1
        obtain ⟨r, hr, rfl, r1, r2, rb⟩ := hrel
        by_cases hr4 : r < 4
        · obtain ⟨k, hk⟩ : ∃ k, k = 4 * c + r := ⟨_, rfl⟩
          have hk16 : k < 16 := by omega
          rw [← hk] at r1
          have d1 := BA_cell r1 (i := k) (by rw [HPL.out]; exact hk16)
          rw [HPT.out k k hk16, if_neg (Nat.lt_irrefl k)] at d1
          have d2 := frozen_row _ w.heap.size k _ _ r1
          have hal := ha.at_ k
          have d3 := HBX.out _ rb (a.getD k 0) hal
          have s1 := set_BA r1 k (box.getD (a.getD k 0) 0)
          rw [HPN.out] at s1
          have s2 := (heap_cell_other _ w.heap.size k (w.heap.size + 1) (.int .u8 (box.getD (a.getD k 0) 0 : Nat)) (by omega)).trans r2
          have s4 := below_cell rb (Nat.le_refl _) k (.int .u8 (box.getD (a.getD k 0) 0 : Nat))
          have R := Lib.hid (And.intro s1 (And.intro s2 s4))
          obtain ⟨x, hx'⟩ : ∃ x, x = a.getD k 0 := ⟨_, rfl⟩
          rw [← hx'] at d1 d3 R hal
          obtain ⟨y, hy'⟩ : ∃ y, y = box.getD x 0 := ⟨_, rfl⟩
          rw [← hy'] at d3 R
          have HK := Lib.hid hk
          have ek : c * 4 + r = k := by omega
          have x1 : (x : Int) < 256 := by omega
          have r5 : (r : Int) < 4 := by omega
          have r0 : (0 : Int) ≤ (r : Int) := by omega
          clear r1 r2 rb s1 s2 s4 hx' hy' hk
          go_wp2
          go_region
          all_goals
            go_wp2
            go_roundw
            case rel => first | exact ⟨r + 1, by omega, by go_num, by rw [← Nat.add_assoc, ← HK.out]; exact R.out.1, R.out.2.1, R.out.2.2.drew⟩ | ((repeat apply Exists.intro); exact ⟨⟨r + 1, by omega, by go_num, by rw [← Nat.add_assoc, ← HK.out]; exact R.out.1, R.out.2.1, R.out.2.2.drew⟩, rfl⟩)
            case measure => simp [intOf]; omega
        · have hr' : r = 4 := by omega
          subst hr'
          have R2 := Lib.hid (And.intro r1 (And.intro r2 rb))
          clear r1 r2 rb
          go_wp2
          go_roundw
          case rel => first | exact ⟨c + 1, by omega, by go_num, R2.out⟩ | ((repeat apply Exists.intro); exact ⟨⟨c + 1, by omega, by go_num, R2.out⟩, rfl⟩)
          case measure => simp [intOf]; omega
    · have hk8 : c = 4 := by omega
      subst hk8
      rw [show 4 * 4 = 16 from rfl, HP4.out] at r1
      have hl := (replL_ok hx a).len
      have h1 := BA_one (replL box a)
      obtain ⟨I, hI⟩ : ∃ I, I = replL box a := ⟨_, rfl⟩
      rw [← hI] at r1 hl h1
      have hi := (show (Try.prog.info? 57).map (·.size) = some (BA I).size by rw [BA_size, hl]; kernel_rfl)
      have hzi : (BA Z).size = (BA I).size := by rw [BA_size, BA_size, hl, hzl]
      have HI := Lib.hid hI
      clear hI
      go_wp2_with (first
        | (refine wpList_load_row rfl 57 _ rfl (w.heap.size) rfl 57 _ (0, 0) _ r1 hu rfl hi ?_)
        | (refine wpList_store_fresh rfl 57 _ _ rfl (w.heap.size + 1) (BA I) rfl rfl 57 (BA Z) r2 hi hzi h1 rb (by omega) ?_; intro W hW hbW hkW hsW))
      refine bodyPost_ret (v := .agg (BA I)) ?_ rfl ⟨by rw [HI.out], hbW⟩
      exact results_mid rfl _ _ (w.heap.size + 1) I _ _ _ rfl hW hu rfl (by rw [hi, BA_size])

set_option maxHeartbeats 3200000 in
set_option maxRecDepth 20000 in
/-- 'turned'. -/
theorem turn_any (a : List Nat) (t : Nat) (w : World) (ha : Ok16 a) (ht : t ≤ 3) :
    Calls Try.prog 33 #[.agg (BA a), .int .i64 (t : Int)] w fun e w' => e = .returned (.agg (BA (turnL a t))) ∧ Below w.heap.size w w' := by
  have hz := (zero_of_info (P := Try.prog) (t := 57) (v := .agg (BA (zeros 16))) (n := 16) (by kernel_rfl)).1
  have hu := Try.underlying57
  have HP0 : Hid (prog 16 (fun i => a.getD (4 * ((i / 4 + i % 4 * t) % 4) + i % 4) 0) (fun i => (zeros 16).getD i 0) 0 = zeros 16) := prog_zero (zeros_len 16) _
  have HP4 : Hid (prog 16 (fun i => a.getD (4 * ((i / 4 + i % 4 * t) % 4) + i % 4) 0) (fun i => (zeros 16).getD i 0) 16 = turnL a t) := prog_all _ _ _
  have HPL := Lib.hid (fun k => prog_len 16 (fun i => a.getD (4 * ((i / 4 + i % 4 * t) % 4) + i % 4) 0) (fun i => (zeros 16).getD i 0) k)
  have HPN := Lib.hid (fun k => prog_next 16 (fun i => a.getD (4 * ((i / 4 + i % 4 * t) % 4) + i % 4) 0) (fun i => (zeros 16).getD i 0) k)
  obtain ⟨P, hP⟩ : ∃ P, P = prog 16 (fun i => a.getD (4 * ((i / 4 + i % 4 * t) % 4) + i % 4) 0) (fun i => (zeros 16).getD i 0) := ⟨_, rfl⟩
  simp only [← hP] at HP0 HP4 HPL HPN
  obtain ⟨Z, hZ⟩ : ∃ Z, Z = zeros 16 := ⟨_, rfl⟩
  have hzl : Z.length = 16 := by rw [hZ]; rfl
  rw [← hZ] at hz HP0
  have i1 : ((w.alloc (.cells (BA a) 57)).alloc (.cells (BA Z) 57)).heap[w.heap.size]? = some (.cells (BA a) 57 (0, 0)) := (Below.heap_alloc _ _ _ (by simp)).trans (heap_alloc_new _ _)
  have i2 : ((w.alloc (.cells (BA a) 57)).alloc (.cells (BA Z) 57)).heap[w.heap.size + 1]? = some (.cells (BA Z) 57 (0, 0)) := heap_alloc_new' _ _ _ (by simp)
  have ib : Below w.heap.size w ((w.alloc (.cells (BA a) 57)).alloc (.cells (BA Z) 57)) := ((Below.refl _ _).alloc (Nat.le_refl _) _).alloc (by simp) _
  have is : ((w.alloc (.cells (BA a) 57)).alloc (.cells (BA Z) 57)).heap.size = w.heap.size + 2 := by simp
  have h1 := (Below.heap_alloc _ (.cells (BA Z) 57) _ (by rw [is]; omega)).trans i1
  have h2 := (Below.heap_alloc _ (.cells (BA Z) 57) _ (by rw [is]; omega)).trans i2
  have h3 := heap_alloc_new' ((w.alloc (.cells (BA a) 57)).alloc (.cells (BA Z) 57)) (.cells (BA Z) 57) (w.heap.size + 2) is.symm
  have h4 := ib.alloc (by rw [is]; omega) (.cells (BA Z) 57)
  have R0 := Lib.hid (And.intro h1 (And.intro h2 (And.intro h3 h4)))
  clear hZ hP i1 i2 ib is h1 h2 h3 h4
  go_enter Try.func33, Try.ntmps33
  go_wp2
  go_loopw [8] (fun i wr => ∃ c : Nat, c ≤ 4 ∧ i = .int .i64 c ∧ wr.heap[w.heap.size]? = some (.cells (BA a) 57 (0, 0)) ∧ wr.heap[w.heap.size + 1]? = some (.cells (BA Z) 57 (0, 0)) ∧ wr.heap[w.heap.size + 2]? = some (.cells (BA (P (4 * c))) 57 (0, 0)) ∧ Below w.heap.size w wr) (fun i _ => 4 - (intOf i).toNat)
  case atStart => exact ⟨0, by omega, rfl, R0.out.1, R0.out.2.1, by rw [show 4 * 0 = 0 from rfl, HP0.out]; exact R0.out.2.2⟩
  case round =>
    clear R0
    obtain ⟨c, hc, rfl, r1, r2, r3, rb⟩ := hrel
    by_cases hlt : c < 4
    · have R1 := Lib.hid (And.intro r1 (And.intro r2 (And.intro r3 rb)))
      have c1 : (c : Int) < 4 := by omega
      have c0 : (0 : Int) ≤ (c : Int) := by omega
      clear r1 r2 r3 rb
      go_wp2
      go_loopw [11] (fun i wx => ∃ r : Nat, r ≤ 4 ∧ i = .int .i64 r ∧ wx.heap[w.heap.size]? = some (.cells (BA a) 57 (0, 0)) ∧ wx.heap[w.heap.size + 1]? = some (.cells (BA Z) 57 (0, 0)) ∧ wx.heap[w.heap.size + 2]? = some (.cells (BA (P (4 * c + r))) 57 (0, 0)) ∧ Below w.heap.size w wx) (fun i _ => 4 - (intOf i).toNat)
      case atStart => exact ⟨0, by omega, rfl, R1.out⟩
      case round =>
        clear R1
        obtain ⟨r, hr, rfl, r1, r2, r3, rb⟩ := hrel
        by_cases hr4 : r < 4
        · obtain ⟨k, hk⟩ : ∃ k, k = 4 * c + r := ⟨_, rfl⟩
          have hk16 : k < 16 := by omega
          have hrt : r * t ≤ 9 := Nat.mul_le_mul (show r ≤ 3 by omega) ht
          obtain ⟨m, hm⟩ : ∃ m, m = r * t := ⟨_, rfl⟩
          rw [← hm] at hrt
          obtain ⟨j, hj⟩ : ∃ j, j = (c + m) % 4 := ⟨_, rfl⟩
          have hf : 4 * ((k / 4 + k % 4 * t) % 4) + k % 4 = 4 * j + r := by
            rw [show k / 4 = c by omega, show k % 4 = r by omega, ← hm, ← hj]
          have hN := HPN.out k
          rw [hf] at hN
          have mi : (r : Int) * (t : Int) = (m : Int) := by rw [hm, Int.natCast_mul]
          have v1 : IntKind.i64.wrap ((r : Int) * (t : Int)) = (m : Int) := by rw [mi]; exact IntWalk.i64_in _ (by omega)
          have v2 : IntKind.i64.wrap ((c : Int) + (m : Int)) = (c : Int) + (m : Int) := IntWalk.i64_in _ (by omega)
          have v3 : ((c : Int) + (m : Int)).tmod 4 = (j : Int) := by rw [Int.tmod_eq_emod_of_nonneg (by omega)]; omega
          have v4 : ((c : Int) + (m : Int)) % 4 = (j : Int) := by omega
          have v5 : IntKind.i64.wrap (j : Int) = (j : Int) := IntWalk.i64_in _ (by omega)
          have v6 : IntKind.i64.wrap (m : Int) = (m : Int) := IntWalk.i64_in _ (by omega)
          have m0 : (0 : Int) ≤ (m : Int) := by omega
          have m9 : (m : Int) ≤ 9 := by omega
          have j4 : (j : Int) < 4 := by omega
          have j0 : (0 : Int) ≤ (j : Int) := by omega
          have hp16 : 4 * j + r < 16 := by omega
          obtain ⟨p, hp⟩ : ∃ p, p = 4 * j + r := ⟨_, rfl⟩
          rw [← hp] at hN hp16
          rw [← hk] at r3
          have d0 := BA_cell r1 (i := p) (by rw [ha.len]; exact hp16)
          have d1 := BA_cell r3 (i := k) (by rw [HPL.out]; exact hk16)
          have d2 := frozen_row _ (w.heap.size + 2) k _ _ r3
          have s3 := set_BA r3 k (a.getD p 0)
          rw [hN] at s3
          have s1 := (heap_cell_other _ (w.heap.size + 2) k w.heap.size (.int .u8 (a.getD p 0 : Nat)) (by omega)).trans r1
          have s2 := (heap_cell_other _ (w.heap.size + 2) k (w.heap.size + 1) (.int .u8 (a.getD p 0 : Nat)) (by omega)).trans r2
          have s4 := below_cell rb (show w.heap.size ≤ w.heap.size + 2 by omega) k (.int .u8 (a.getD p 0 : Nat))
          have R := Lib.hid (And.intro s1 (And.intro s2 (And.intro s3 s4)))
          obtain ⟨x, hx'⟩ : ∃ x, x = a.getD p 0 := ⟨_, rfl⟩
          rw [← hx'] at d0 R
          obtain ⟨y, hy'⟩ : ∃ y, y = (P k).getD k 0 := ⟨_, rfl⟩
          rw [← hy'] at d1
          have HK := Lib.hid hk
          have ek : c * 4 + r = k := by omega
          have ep : j * 4 + r = p := by omega
          have r5 : (r : Int) < 4 := by omega
          have r0 : (0 : Int) ≤ (r : Int) := by omega
          clear r1 r2 r3 rb s1 s2 s3 s4 hx' hy' hk hN hf hm hj hp hrt
          go_wp2
          go_region
          all_goals
            go_wp2
            go_roundw
            case rel => first | exact ⟨r + 1, by omega, by go_num, R.out.1, R.out.2.1, by rw [← Nat.add_assoc, ← HK.out]; exact R.out.2.2.1, R.out.2.2.2.drew⟩ | ((repeat apply Exists.intro); exact ⟨⟨r + 1, by omega, by go_num, R.out.1, R.out.2.1, by rw [← Nat.add_assoc, ← HK.out]; exact R.out.2.2.1, R.out.2.2.2.drew⟩, rfl⟩)
            case measure => simp [intOf]; omega
        · have hr' : r = 4 := by omega
          subst hr'
          have R2 := Lib.hid (And.intro r1 (And.intro r2 (And.intro r3 rb)))
          clear r1 r2 r3 rb
          go_wp2
          go_roundw
          case rel => first | exact ⟨c + 1, by omega, by go_num, R2.out⟩ | ((repeat apply Exists.intro); exact ⟨⟨c + 1, by omega, by go_num, R2.out⟩, rfl⟩)
          case measure => simp [intOf]; omega
    · have hk8 : c = 4 := by omega
      subst hk8
      rw [show 4 * 4 = 16 from rfl, HP4.out] at r3
      have hl := (turnL_ok ha t).len
      have h1 := BA_one (turnL a t)
      obtain ⟨I, hI⟩ : ∃ I, I = turnL a t := ⟨_, rfl⟩
      rw [← hI] at r3 hl h1
      have hi := (show (Try.prog.info? 57).map (·.size) = some (BA I).size by rw [BA_size, hl]; kernel_rfl)
      have hzi : (BA Z).size = (BA I).size := by rw [BA_size, BA_size, hl, hzl]
      have HI := Lib.hid hI
      clear hI
      go_wp2_with (first
        | (refine wpList_load_row rfl 57 _ rfl (w.heap.size + 2) rfl 57 _ (0, 0) _ r3 hu rfl hi ?_)
        | (refine wpList_store_fresh rfl 57 _ _ rfl (w.heap.size + 1) (BA I) rfl rfl 57 (BA Z) r2 hi hzi h1 rb (by omega) ?_; intro W hW hbW hkW hsW))
      refine bodyPost_ret (v := .agg (BA I)) ?_ rfl ⟨by rw [HI.out], hbW⟩
      exact results_mid rfl _ _ (w.heap.size + 1) I _ _ _ rfl hW hu rfl (by rw [hi, BA_size])

end Go.Proofs.Ytcoiincgclglbaa
