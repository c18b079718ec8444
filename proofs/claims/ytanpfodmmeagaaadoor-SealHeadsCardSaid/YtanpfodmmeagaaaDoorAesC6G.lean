/-
  The program's blocks: added, each byte replaced, rows turned, columns mixed. The program's blocks: added, columns mixed. The program's cipher as it lies in memory: its images and all its round keys.
-/
import Derived.Test.YtanpfodmmeagaaaDoorAesC1G
import Derived.Deep.RegionWith
import Derived.Test.YtanpfodmmeagaaaDoorAesCNG
import Derived.Deep.RegionHeld3
namespace Go.Proofs.YtanpfodmmeagaaaDoor
open Go.RowKit

set_option maxHeartbeats 3200000 in
set_option maxRecDepth 20000 in
/-- 'replaced'. -/
theorem repl_any (a box : List Nat) (g o : Nat) (w : World) (ha : Ok16 a) (hx : ∀ x ∈ box, x < 256) (hg : g < w.heap.size) (hbox : ∀ i, i < 256 → w.cell? ⟨g, o + i, none⟩ = some (.int .u8 (box.getD i 0 : Nat))) :
    Calls Tryd.prog 54 #[.agg (BA a), .pointer (some ⟨g, o, none⟩)] w fun e w' => e = .returned (.agg (BA (replL box a))) ∧ Below w.heap.size w w' := by
  have hz := (zero_of_info (P := Tryd.prog) (t := 80) (v := .agg (BA (zeros 16))) (n := 16) (by kernel_rfl)).1
  have hu := Tryd.underlying80
  have HP0 : Hid (prog 16 (fun i => box.getD (a.getD i 0) 0) (fun i => a.getD i 0) 0 = a) := prog_zero ha.len _
  have HP4 : Hid (prog 16 (fun i => box.getD (a.getD i 0) 0) (fun i => a.getD i 0) 16 = replL box a) := prog_all _ _ _
  have HPL := Lib.hid (fun k => prog_len 16 (fun i => box.getD (a.getD i 0) 0) (fun i => a.getD i 0) k)
  have HPN := Lib.hid (fun k => prog_next 16 (fun i => box.getD (a.getD i 0) 0) (fun i => a.getD i 0) k)
  have HPT := Lib.hid (fun k i (hi : i < 16) => prog_at (n := 16) (fun i => box.getD (a.getD i 0) 0) (fun i => a.getD i 0) k hi)
  obtain ⟨P, hP⟩ : ∃ P, P = prog 16 (fun i => box.getD (a.getD i 0) 0) (fun i => a.getD i 0) := ⟨_, rfl⟩
  simp only [← hP] at HP0 HP4 HPL HPN HPT
  have HBX : Hid (∀ W, Below w.heap.size w W → ∀ i, i < 256 → W.cell? ⟨g, o + i, none⟩ = some (.int .u8 (box.getD i 0 : Nat))) := fun W hb i hi => (hb.cell (p := ⟨g, o + i, none⟩) hg).trans (hbox i hi)
  obtain ⟨Z, hZ⟩ : ∃ Z, Z = zeros 16 := ⟨_, rfl⟩
  have hzl : Z.length = 16 := by rw [hZ]; rfl
  rw [← hZ] at hz
  have i1 : ((w.alloc (.cells (BA a) 80)).alloc (.cells (BA Z) 80)).heap[w.heap.size]? = some (.cells (BA a) 80 (0, 0)) := (Below.heap_alloc _ _ _ (by simp)).trans (heap_alloc_new _ _)
  have i2 : ((w.alloc (.cells (BA a) 80)).alloc (.cells (BA Z) 80)).heap[w.heap.size + 1]? = some (.cells (BA Z) 80 (0, 0)) := heap_alloc_new' _ _ _ (by simp)
  have ib : Below w.heap.size w ((w.alloc (.cells (BA a) 80)).alloc (.cells (BA Z) 80)) := ((Below.refl _ _).alloc (Nat.le_refl _) _).alloc (by simp) _
  have R0 := Lib.hid (And.intro i1 (And.intro i2 ib))
  clear hZ hP i1 i2 ib hbox
  go_enter Tryd.func54, Tryd.ntmps54
  go_wp2
  go_loopw [7] (fun i wr => ∃ c : Nat, c ≤ 4 ∧ i = .int .i64 c ∧ wr.heap[w.heap.size]? = some (.cells (BA (P (4 * c))) 80 (0, 0)) ∧ wr.heap[w.heap.size + 1]? = some (.cells (BA Z) 80 (0, 0)) ∧ Below w.heap.size w wr) (fun i _ => 4 - (intOf i).toNat)
  case atStart => exact ⟨0, by omega, rfl, by rw [show 4 * 0 = 0 from rfl, HP0.out]; exact R0.out.1, R0.out.2⟩
  case round =>
    clear R0
    obtain ⟨c, hc, rfl, r1, r2, rb⟩ := hrel
    by_cases hlt : c < 4
    · have R1 := Lib.hid (And.intro r1 (And.intro r2 rb))
      have c1 : (c : Int) < 4 := by omega
      have c0 : (0 : Int) ≤ (c : Int) := by omega
      clear r1 r2 rb
      go_wp2
      go_loopw [10] (fun i wx => ∃ r : Nat, r ≤ 4 ∧ i = .int .i64 r ∧ wx.heap[w.heap.size]? = some (.cells (BA (P (4 * c + r))) 80 (0, 0)) ∧ wx.heap[w.heap.size + 1]? = some (.cells (BA Z) 80 (0, 0)) ∧ Below w.heap.size w wx) (fun i _ => 4 - (intOf i).toNat)
      case atStart => exact ⟨0, by omega, rfl, R1.out⟩
      case round =>
        clear R1
        obtain ⟨r, hr, rfl, r1, r2, rb⟩ := hrel
        by_cases hr4 : r < 4
        · obtain ⟨k, hk⟩ : ∃ k, k = 4 * c + r := ⟨_, rfl⟩
          have hk16 : k < 16 := by omega
          rw [← hk] at r1
          have d1 := BA_cell r1 (i := k) (by rw [HPL.out]; exact hk16)
          rw [HPT.out k k hk16, if_neg (Nat.lt_irrefl k)] at d1
          have d2 := frozen_row _ w.heap.size k _ _ r1
          have hal := ha.at_ k
          have d3 := HBX.out _ rb (a.getD k 0) hal
          have s1 := set_BA r1 k (box.getD (a.getD k 0) 0)
          rw [HPN.out] at s1
          have s2 := (heap_cell_other _ w.heap.size k (w.heap.size + 1) (.int .u8 (box.getD (a.getD k 0) 0 : Nat)) (by omega)).trans r2
          have s4 := below_cell rb (Nat.le_refl _) k (.int .u8 (box.getD (a.getD k 0) 0 : Nat))
          have R := Lib.hid (And.intro s1 (And.intro s2 s4))
          obtain ⟨x, hx'⟩ : ∃ x, x = a.getD k 0 := ⟨_, rfl⟩
          rw [← hx'] at d1 d3 R hal
          obtain ⟨y, hy'⟩ : ∃ y, y = box.getD x 0 := ⟨_, rfl⟩
          rw [← hy'] at d3 R
          have HK := Lib.hid hk
          have ek : c * 4 + r = k := by omega
          have x1 : (x : Int) < 256 := by omega
          have r5 : (r : Int) < 4 := by omega
          have r0 : (0 : Int) ≤ (r : Int) := by omega
          clear r1 r2 rb s1 s2 s4 hx' hy' hk
          go_wp2
          go_region
          all_goals
            go_wp2
            go_roundw
            case rel => first | exact ⟨r + 1, by omega, by go_num, by rw [← Nat.add_assoc, ← HK.out]; exact R.out.1, R.out.2.1, R.out.2.2.drew⟩ | ((repeat apply Exists.intro); exact ⟨⟨r + 1, by omega, by go_num, by rw [← Nat.add_assoc, ← HK.out]; exact R.out.1, R.out.2.1, R.out.2.2.drew⟩, rfl⟩)
            case measure => simp [intOf]; omega
        · have hr' : r = 4 := by omega
          subst hr'
          have R2 := Lib.hid (And.intro r1 (And.intro r2 rb))
          clear r1 r2 rb
          go_wp2
          go_roundw
          case rel => first | exact ⟨c + 1, by omega, by go_num, R2.out⟩ | ((repeat apply Exists.intro); exact ⟨⟨c + 1, by omega, by go_num, R2.out⟩, rfl⟩)
          case measure => simp [intOf]; omega
    · have hk8 : c = 4 := by omega
      subst hk8
      rw [show 4 * 4 = 16 from rfl, HP4.out] at r1
      have hl := (replL_ok hx a).len
      have h1 := BA_one (replL box a)
      obtain ⟨I, hI⟩ : ∃ I, I = replL box a := ⟨_, rfl⟩
      rw [← hI] at r1 hl h1
      have hi := (show (Tryd.prog.info? 80).map (·.size) = some (BA I).size by rw [BA_size, hl]; kernel_rfl)
      have hzi : (BA Z).size = (BA I).size := by rw [BA_size, BA_size, hl, hzl]
      have HI := Lib.hid hI
      clear hI
      go_wp2_with (first
        | (refine wpList_load_row rfl 80 _ rfl (w.heap.size) rfl 80 _ (0, 0) _ r1 hu rfl hi ?_)
        | (refine wpList_store_fresh rfl 80 _ _ rfl (w.heap.size + 1) (BA I) rfl rfl 80 (BA Z) r2 hi hzi h1 rb (by omega) ?_; intro W hW hbW hkW hsW))
      refine bodyPost_ret (v := .agg (BA I)) ?_ rfl ⟨by rw [HI.out], hbW⟩
      exact results_mid rfl _ _ (w.heap.size + 1) I _ _ _ rfl hW hu rfl (by rw [hi, BA_size])

set_option maxHeartbeats 3200000 in
set_option maxRecDepth 20000 in
/-- 'turned'. -/
theorem turn_any (a : List Nat) (t : Nat) (w : World) (ha : Ok16 a) (ht : t ≤ 3) :
    Calls Tryd.prog 55 #[.agg (BA a), .int .i64 (t : Int)] w fun e w' => e = .returned (.agg (BA (turnL a t))) ∧ Below w.heap.size w w' := by
  have hz := (zero_of_info (P := Tryd.prog) (t := 80) (v := .agg (BA (zeros 16))) (n := 16) (by kernel_rfl)).1
  have hu := Tryd.underlying80
  have HP0 : Hid (prog 16 (fun i => a.getD (4 * ((i / 4 + i % 4 * t) % 4) + i % 4) 0) (fun i => (zeros 16).getD i 0) 0 = zeros 16) := prog_zero (zeros_len 16) _
  have HP4 : Hid (prog 16 (fun i => a.getD (4 * ((i / 4 + i % 4 * t) % 4) + i % 4) 0) (fun i => (zeros 16).getD i 0) 16 = turnL a t) := prog_all _ _ _
  have HPL := Lib.hid (fun k => prog_len 16 (fun i => a.getD (4 * ((i / 4 + i % 4 * t) % 4) + i % 4) 0) (fun i => (zeros 16).getD i 0) k)
  have HPN := Lib.hid (fun k => prog_next 16 (fun i => a.getD (4 * ((i / 4 + i % 4 * t) % 4) + i % 4) 0) (fun i => (zeros 16).getD i 0) k)
  obtain ⟨P, hP⟩ : ∃ P, P = prog 16 (fun i => a.getD (4 * ((i / 4 + i % 4 * t) % 4) + i % 4) 0) (fun i => (zeros 16).getD i 0) := ⟨_, rfl⟩
  simp only [← hP] at HP0 HP4 HPL HPN
  obtain ⟨Z, hZ⟩ : ∃ Z, Z = zeros 16 := ⟨_, rfl⟩
  have hzl : Z.length = 16 := by rw [hZ]; rfl
  rw [← hZ] at hz HP0
  have i1 : ((w.alloc (.cells (BA a) 80)).alloc (.cells (BA Z) 80)).heap[w.heap.size]? = some (.cells (BA a) 80 (0, 0)) := (Below.heap_alloc _ _ _ (by simp)).trans (heap_alloc_new _ _)
  have i2 : ((w.alloc (.cells (BA a) 80)).alloc (.cells (BA Z) 80)).heap[w.heap.size + 1]? = some (.cells (BA Z) 80 (0, 0)) := heap_alloc_new' _ _ _ (by simp)
  have ib : Below w.heap.size w ((w.alloc (.cells (BA a) 80)).alloc (.cells (BA Z) 80)) := ((Below.refl _ _).alloc (Nat.le_refl _) _).alloc (by simp) _
  have is : ((w.alloc (.cells (BA a) 80)).alloc (.cells (BA Z) 80)).heap.size = w.heap.size + 2 := by simp
  have h1 := (Below.heap_alloc _ (.cells (BA Z) 80) _ (by rw [is]; omega)).trans i1
  have h2 := (Below.heap_alloc _ (.cells (BA Z) 80) _ (by rw [is]; omega)).trans i2
  have h3 := heap_alloc_new' ((w.alloc (.cells (BA a) 80)).alloc (.cells (BA Z) 80)) (.cells (BA Z) 80) (w.heap.size + 2) is.symm
  have h4 := ib.alloc (by rw [is]; omega) (.cells (BA Z) 80)
  have R0 := Lib.hid (And.intro h1 (And.intro h2 (And.intro h3 h4)))
  clear hZ hP i1 i2 ib is h1 h2 h3 h4
  go_enter Tryd.func55, Tryd.ntmps55
  go_wp2
  go_loopw [8] (fun i wr => ∃ c : Nat, c ≤ 4 ∧ i = .int .i64 c ∧ wr.heap[w.heap.size]? = some (.cells (BA a) 80 (0, 0)) ∧ wr.heap[w.heap.size + 1]? = some (.cells (BA Z) 80 (0, 0)) ∧ wr.heap[w.heap.size + 2]? = some (.cells (BA (P (4 * c))) 80 (0, 0)) ∧ Below w.heap.size w wr) (fun i _ => 4 - (intOf i).toNat)
  case atStart => exact ⟨0, by omega, rfl, R0.out.1, R0.out.2.1, by rw [show 4 * 0 = 0 from rfl, HP0.out]; exact R0.out.2.2⟩
  case round =>
    clear R0
    obtain ⟨c, hc, rfl, r1, r2, r3, rb⟩ := hrel
    by_cases hlt : c < 4
    · have R1 := Lib.hid (And.intro r1 (And.intro r2 (And.intro r3 rb)))
      have c1 : (c : Int) < 4 := by omega
      have c0 : (0 : Int) ≤ (c : Int) := by omega
      clear r1 r2 r3 rb
      go_wp2
      go_loopw [11] (fun i wx => ∃ r : Nat, r ≤ 4 ∧ i = .int .i64 r ∧ wx.heap[w.heap.size]? = some (.cells (BA a) 80 (0, 0)) ∧ wx.heap[w.heap.size + 1]? = some (.cells (BA Z) 80 (0, 0)) ∧ wx.heap[w.heap.size + 2]? = some (.cells (BA (P (4 * c + r))) 80 (0, 0)) ∧ Below w.heap.size w wx) (fun i _ => 4 - (intOf i).toNat)
      case atStart => exact ⟨0, by omega, rfl, R1.out⟩
      case round =>
        clear R1
        obtain ⟨r, hr, rfl, r1, r2, r3, rb⟩ := hrel
        by_cases hr4 : r < 4
        · obtain ⟨k, hk⟩ : ∃ k, k = 4 * c + r := ⟨_, rfl⟩
          have hk16 : k < 16 := by omega
          have hrt : r * t ≤ 9 := Nat.mul_le_mul (show r ≤ 3 by omega) ht
          obtain ⟨m, hm⟩ : ∃ m, m = r * t := ⟨_, rfl⟩
          rw [← hm] at hrt
          obtain ⟨j, hj⟩ : ∃ j, j = (c + m) % 4 := ⟨_, rfl⟩
          have hf : 4 * ((k / 4 + k % 4 * t) % 4) + k % 4 = 4 * j + r := by
            rw [show k / 4 = c by omega, show k % 4 = r by omega, ← hm, ← hj]
          have hN := HPN.out k
          rw [hf] at hN
          have mi : (r : Int) * (t : Int) = (m : Int) := by rw [hm, Int.natCast_mul]
          have v1 : IntKind.i64.wrap ((r : Int) * (t : Int)) = (m : Int) := by rw [mi]; exact IntWalk.i64_in _ (by omega)
          have v2 : IntKind.i64.wrap ((c : Int) + (m : Int)) = (c : Int) + (m : Int) := IntWalk.i64_in _ (by omega)
          have v3 : ((c : Int) + (m : Int)).tmod 4 = (j : Int) := by rw [Int.tmod_eq_emod_of_nonneg (by omega)]; omega
          have v4 : ((c : Int) + (m : Int)) % 4 = (j : Int) := by omega
          have v5 : IntKind.i64.wrap (j : Int) = (j : Int) := IntWalk.i64_in _ (by omega)
          have v6 : IntKind.i64.wrap (m : Int) = (m : Int) := IntWalk.i64_in _ (by omega)
          have m0 : (0 : Int) ≤ (m : Int) := by omega
          have m9 : (m : Int) ≤ 9 := by omega
          have j4 : (j : Int) < 4 := by omega
          have j0 : (0 : Int) ≤ (j : Int) := by omega
          have hp16 : 4 * j + r < 16 := by omega
          obtain ⟨p, hp⟩ : ∃ p, p = 4 * j + r := ⟨_, rfl⟩
          rw [← hp] at hN hp16
          rw [← hk] at r3
          have d0 := BA_cell r1 (i := p) (by rw [ha.len]; exact hp16)
          have d1 := BA_cell r3 (i := k) (by rw [HPL.out]; exact hk16)
          have d2 := frozen_row _ (w.heap.size + 2) k _ _ r3
          have s3 := set_BA r3 k (a.getD p 0)
          rw [hN] at s3
          have s1 := (heap_cell_other _ (w.heap.size + 2) k w.heap.size (.int .u8 (a.getD p 0 : Nat)) (by omega)).trans r1
          have s2 := (heap_cell_other _ (w.heap.size + 2) k (w.heap.size + 1) (.int .u8 (a.getD p 0 : Nat)) (by omega)).trans r2
          have s4 := below_cell rb (show w.heap.size ≤ w.heap.size + 2 by omega) k (.int .u8 (a.getD p 0 : Nat))
          have R := Lib.hid (And.intro s1 (And.intro s2 (And.intro s3 s4)))
          obtain ⟨x, hx'⟩ : ∃ x, x = a.getD p 0 := ⟨_, rfl⟩
          rw [← hx'] at d0 R
          obtain ⟨y, hy'⟩ : ∃ y, y = (P k).getD k 0 := ⟨_, rfl⟩
          rw [← hy'] at d1
          have HK := Lib.hid hk
          have ek : c * 4 + r = k := by omega
          have ep : j * 4 + r = p := by omega
          have r5 : (r : Int) < 4 := by omega
          have r0 : (0 : Int) ≤ (r : Int) := by omega
          clear r1 r2 r3 rb s1 s2 s3 s4 hx' hy' hk hN hf hm hj hp hrt
          go_wp2
          go_region
          all_goals
            go_wp2
            go_roundw
            case rel => first | exact ⟨r + 1, by omega, by go_num, R.out.1, R.out.2.1, by rw [← Nat.add_assoc, ← HK.out]; exact R.out.2.2.1, R.out.2.2.2.drew⟩ | ((repeat apply Exists.intro); exact ⟨⟨r + 1, by omega, by go_num, R.out.1, R.out.2.1, by rw [← Nat.add_assoc, ← HK.out]; exact R.out.2.2.1, R.out.2.2.2.drew⟩, rfl⟩)
            case measure => simp [intOf]; omega
        · have hr' : r = 4 := by omega
          subst hr'
          have R2 := Lib.hid (And.intro r1 (And.intro r2 (And.intro r3 rb)))
          clear r1 r2 r3 rb
          go_wp2
          go_roundw
          case rel => first | exact ⟨c + 1, by omega, by go_num, R2.out⟩ | ((repeat apply Exists.intro); exact ⟨⟨c + 1, by omega, by go_num, R2.out⟩, rfl⟩)
          case measure => simp [intOf]; omega
    · have hk8 : c = 4 := by omega
      subst hk8
      rw [show 4 * 4 = 16 from rfl, HP4.out] at r3
      have hl := (turnL_ok ha t).len
      have h1 := BA_one (turnL a t)
      obtain ⟨I, hI⟩ : ∃ I, I = turnL a t := ⟨_, rfl⟩
      rw [← hI] at r3 hl h1
      have hi := (show (Tryd.prog.info? 80).map (·.size) = some (BA I).size by rw [BA_size, hl]; kernel_rfl)
      have hzi : (BA Z).size = (BA I).size := by rw [BA_size, BA_size, hl, hzl]
      have HI := Lib.hid hI
      clear hI
      go_wp2_with (first
        | (refine wpList_load_row rfl 80 _ rfl (w.heap.size + 2) rfl 80 _ (0, 0) _ r3 hu rfl hi ?_)
        | (refine wpList_store_fresh rfl 80 _ _ rfl (w.heap.size + 1) (BA I) rfl rfl 80 (BA Z) r2 hi hzi h1 rb (by omega) ?_; intro W hW hbW hkW hsW))
      refine bodyPost_ret (v := .agg (BA I)) ?_ rfl ⟨by rw [HI.out], hbW⟩
      exact results_mid rfl _ _ (w.heap.size + 1) I _ _ _ rfl hW hu rfl (by rw [hi, BA_size])

end Go.Proofs.YtanpfodmmeagaaaDoor

namespace Go.Proofs.YtanpfodmmeagaaaDoor
open Go.RowKit

theorem sub_prog {n : Nat} (f : Nat → Nat) (l : List Nat) {k m : Nat} (h : k + m ≤ n) : subB (prog n f (fun i => l.getD i 0) k) k m = subB l k m := by
  unfold subB
  refine List.map_congr_left fun i hi => ?_
  have := List.mem_range.1 hi
  rw [prog_at _ _ _ (by omega), if_neg (by omega)]
theorem plus_sub (a k : List Nat) (o : Nat) : plus4 (subB a o 4) (subB k o 4) = (List.range 4).map fun i => a.getD (o + i) 0 ^^^ k.getD (o + i) 0 := by
  unfold plus4
  refine List.map_congr_left fun i hi => ?_
  have := List.mem_range.1 hi
  rw [subB_at _ _ this, subB_at _ _ this]
theorem sub4_ok {a : List Nat} (ha : Ok16 a) (o : Nat) : Ok4 (subB a o 4) := ⟨subB_len _ _ _, subB_lt ha.lt _ _⟩

theorem sub_four (l : List Nat) (m : Nat) : subB l m 4 = [l.getD m 0, l.getD (m + 1) 0, l.getD (m + 2) 0, l.getD (m + 3) 0] := rfl
/-- Four cells that may be stored into one behind the other. -/
theorem four_free {W : World} {g m : Nat} {t : TypeId} {l : List Nat} (h : W.heap[g]? = some (.cells (BA l) t (0, 0))) (hm : m + 4 ≤ l.length) (v0 v1 v2 : Nat) :
    (W.cell? ⟨g, m, none⟩ = some (.int .u8 (l.getD m 0 : Nat)) ∧ (W.setCell ⟨g, m, none⟩ (.int .u8 (v0 : Int))).cell? ⟨g, m + 1, none⟩ = some (.int .u8 (((l.set m v0).getD (m + 1) 0 : Nat) : Int)) ∧
    ((W.setCell ⟨g, m, none⟩ (.int .u8 (v0 : Int))).setCell ⟨g, m + 1, none⟩ (.int .u8 (v1 : Int))).cell? ⟨g, m + 2, none⟩ = some (.int .u8 ((((l.set m v0).set (m + 1) v1).getD (m + 2) 0 : Nat) : Int)) ∧
    (((W.setCell ⟨g, m, none⟩ (.int .u8 (v0 : Int))).setCell ⟨g, m + 1, none⟩ (.int .u8 (v1 : Int))).setCell ⟨g, m + 2, none⟩ (.int .u8 (v2 : Int))).cell? ⟨g, m + 3, none⟩ = some (.int .u8 (((((l.set m v0).set (m + 1) v1).set (m + 2) v2).getD (m + 3) 0 : Nat) : Int))) ∧
    W.frozen? ⟨g, m, none⟩ = false ∧ W.frozen? ⟨g, m + 1, none⟩ = false ∧ W.frozen? ⟨g, m + 2, none⟩ = false ∧ W.frozen? ⟨g, m + 3, none⟩ = false :=
  ⟨⟨BA_cell h (by omega), BA_cell (set_BA h m v0) (by rw [List.length_set]; omega), BA_cell (set_BA (set_BA h m v0) (m + 1) v1) (by simp only [List.length_set]; omega), BA_cell (set_BA (set_BA (set_BA h m v0) (m + 1) v1) (m + 2) v2) (by simp only [List.length_set]; omega)⟩,
    frozen_row _ _ _ _ _ h, frozen_row _ _ _ _ _ h, frozen_row _ _ _ _ _ h, frozen_row _ _ _ _ _ h⟩

set_option maxHeartbeats 3200000 in
set_option maxRecDepth 20000 in
/-- 'plus' of blocks. -/
theorem plus_any (a b : List Nat) (w : World) (ha : Ok16 a) (hb : Ok16 b) : Calls Tryd.prog 53 #[.agg (BA a), .agg (BA b)] w fun e w' => e = .returned (.agg (BA (plusL a b))) ∧ Below w.heap.size w w' := by
  have hz := (zero_of_info (P := Tryd.prog) (t := 80) (v := .agg (BA (zeros 16))) (n := 16) (by kernel_rfl)).1
  have hu := Tryd.underlying80
  have HP0 : Hid (prog 16 (fun i => a.getD i 0 ^^^ b.getD i 0) (fun i => a.getD i 0) 0 = a) := prog_zero ha.len _
  have HP4 : Hid (prog 16 (fun i => a.getD i 0 ^^^ b.getD i 0) (fun i => a.getD i 0) 16 = plusL a b) := prog_all _ _ _
  have HPL := Lib.hid (fun k => prog_len 16 (fun i => a.getD i 0 ^^^ b.getD i 0) (fun i => a.getD i 0) k)
  have HPU := Lib.hid (fun k => putL_prog 16 (fun i => a.getD i 0 ^^^ b.getD i 0) (fun i => a.getD i 0) k 4)
  have HPB := Lib.hid (fun k (h : k + 4 ≤ 16) => sub_prog (n := 16) (fun i => a.getD i 0 ^^^ b.getD i 0) a h)
  obtain ⟨P, hP⟩ : ∃ P, P = prog 16 (fun i => a.getD i 0 ^^^ b.getD i 0) (fun i => a.getD i 0) := ⟨_, rfl⟩
  simp only [← hP] at HP0 HP4 HPL HPU HPB
  obtain ⟨Z, hZ⟩ : ∃ Z, Z = zeros 16 := ⟨_, rfl⟩
  have hzl : Z.length = 16 := by rw [hZ]; rfl
  rw [← hZ] at hz
  have i1 : ((w.alloc (.cells (BA a) 80)).alloc (.cells (BA b) 80)).heap[w.heap.size]? = some (.cells (BA a) 80 (0, 0)) := (Below.heap_alloc _ _ _ (by simp)).trans (heap_alloc_new _ _)
  have i2 : ((w.alloc (.cells (BA a) 80)).alloc (.cells (BA b) 80)).heap[w.heap.size + 1]? = some (.cells (BA b) 80 (0, 0)) := heap_alloc_new' _ _ _ (by simp)
  have ib : Below w.heap.size w ((w.alloc (.cells (BA a) 80)).alloc (.cells (BA b) 80)) := ((Below.refl _ _).alloc (Nat.le_refl _) _).alloc (by simp) _
  have is : ((w.alloc (.cells (BA a) 80)).alloc (.cells (BA b) 80)).heap.size = w.heap.size + 2 := by simp
  have h1 := (Below.heap_alloc _ (.cells (BA Z) 80) _ (by rw [is]; omega)).trans i1
  have h2 := (Below.heap_alloc _ (.cells (BA Z) 80) _ (by rw [is]; omega)).trans i2
  have h3 := heap_alloc_new' ((w.alloc (.cells (BA a) 80)).alloc (.cells (BA b) 80)) (.cells (BA Z) 80) (w.heap.size + 2) is.symm
  have h4 := ib.alloc (by rw [is]; omega) (.cells (BA Z) 80)
  have R0 := Lib.hid (And.intro h1 (And.intro h2 (And.intro h3 h4)))
  have HC := Lib.hid (fun (o : Nat) (W : World) => plus4_any (subB a o 4) (subB b o 4) W (sub4_ok ha o) (sub4_ok hb o))
  clear hZ hP i1 i2 ib is h1 h2 h3 h4
  go_enter Tryd.func53, Tryd.ntmps53
  go_wp2
  go_loopw [6] (fun i wr => ∃ c : Nat, c ≤ 4 ∧ i = .int .i64 c ∧ wr.heap[w.heap.size]? = some (.cells (BA (P (4 * c))) 80 (0, 0)) ∧ wr.heap[w.heap.size + 1]? = some (.cells (BA b) 80 (0, 0)) ∧ wr.heap[w.heap.size + 2]? = some (.cells (BA Z) 80 (0, 0)) ∧ Below w.heap.size w wr) (fun i _ => 4 - (intOf i).toNat)
  case atStart => exact ⟨0, by omega, rfl, by rw [show 4 * 0 = 0 from rfl, HP0.out]; exact R0.out.1, R0.out.2⟩
  case round =>
    clear R0
    obtain ⟨c, hc, rfl, r1, r2, r3, rb⟩ := hrel
    by_cases hlt : c < 4
    · obtain ⟨m, hm⟩ : ∃ m, m = 4 * c := ⟨_, rfl⟩
      have hm16 : m + 4 ≤ 16 := by omega
      rw [← hm] at r1
      have HM := Lib.hid hm
      have hpl := HPL.out m
      have hsb := HPB.out m hm16
      have g0 := BA_cell r1 (i := m) (by rw [hpl]; omega)
      have g1 := BA_cell r1 (i := m + 1) (by rw [hpl]; omega)
      have g2 := BA_cell r1 (i := m + 2) (by rw [hpl]; omega)
      have g3 := BA_cell r1 (i := m + 3) (by rw [hpl]; omega)
      have k0 := BA_cell r2 (i := m) (by rw [hb.len]; omega)
      have k1 := BA_cell r2 (i := m + 1) (by rw [hb.len]; omega)
      have k2 := BA_cell r2 (i := m + 2) (by rw [hb.len]; omega)
      have k3 := BA_cell r2 (i := m + 3) (by rw [hb.len]; omega)
      have hC := HC.out m
      have hpu := HPU.out m
      rw [← plus_sub] at hpu
      have hl0 : (plus4 (subB a m 4) (subB b m 4)).length = 4 := by simp [plus4]
      rw [sub_four, sub_four] at hsb hpu hl0
      have hC' : ∀ W : World, Calls Tryd.prog 72 #[.agg #[.int .u8 (a.getD m 0 : Nat), .int .u8 (a.getD (m + 1) 0 : Nat), .int .u8 (a.getD (m + 2) 0 : Nat), .int .u8 (a.getD (m + 3) 0 : Nat)], .agg #[.int .u8 (b.getD m 0 : Nat), .int .u8 (b.getD (m + 1) 0 : Nat), .int .u8 (b.getD (m + 2) 0 : Nat), .int .u8 (b.getD (m + 3) 0 : Nat)]] W
          fun e w' => e = .returned (.agg #[.int .u8 (a.getD m 0 ^^^ b.getD m 0 : Nat), .int .u8 (a.getD (m + 1) 0 ^^^ b.getD (m + 1) 0 : Nat), .int .u8 (a.getD (m + 2) 0 ^^^ b.getD (m + 2) 0 : Nat), .int .u8 (a.getD (m + 3) 0 ^^^ b.getD (m + 3) 0 : Nat)]) ∧ Below W.heap.size W w' := hC
      clear hC
      injection hsb with e0 hsb
      injection hsb with e1 hsb
      injection hsb with e2 hsb
      injection hsb with e3 hsb
      rw [e0] at g0
      rw [e1] at g1
      rw [e2] at g2
      rw [e3] at g3
      have hpu' : putL (P m) m [a.getD m 0 ^^^ b.getD m 0, a.getD (m + 1) 0 ^^^ b.getD (m + 1) 0, a.getD (m + 2) 0 ^^^ b.getD (m + 2) 0, a.getD (m + 3) 0 ^^^ b.getD (m + 3) 0] = P (m + 4) := hpu
      clear hpu hl0 e0 e1 e2 e3 hsb
      obtain ⟨x0, e0⟩ : ∃ x, x = a.getD m 0 := ⟨_, rfl⟩
      obtain ⟨x1, e1⟩ : ∃ x, x = a.getD (m + 1) 0 := ⟨_, rfl⟩
      obtain ⟨x2, e2⟩ : ∃ x, x = a.getD (m + 2) 0 := ⟨_, rfl⟩
      obtain ⟨x3, e3⟩ : ∃ x, x = a.getD (m + 3) 0 := ⟨_, rfl⟩
      obtain ⟨y0, f0⟩ : ∃ x, x = b.getD m 0 := ⟨_, rfl⟩
      obtain ⟨y1, f1⟩ : ∃ x, x = b.getD (m + 1) 0 := ⟨_, rfl⟩
      obtain ⟨y2, f2⟩ : ∃ x, x = b.getD (m + 2) 0 := ⟨_, rfl⟩
      obtain ⟨y3, f3⟩ : ∃ x, x = b.getD (m + 3) 0 := ⟨_, rfl⟩
      simp only [← e0, ← e1, ← e2, ← e3, ← f0, ← f1, ← f2, ← f3] at hC' hpu' g0 g1 g2 g3 k0 k1 k2 k3
      obtain ⟨z0, d0⟩ : ∃ x, x = x0 ^^^ y0 := ⟨_, rfl⟩
      obtain ⟨z1, d1⟩ : ∃ x, x = x1 ^^^ y1 := ⟨_, rfl⟩
      obtain ⟨z2, d2⟩ : ∃ x, x = x2 ^^^ y2 := ⟨_, rfl⟩
      obtain ⟨z3, d3⟩ : ∃ x, x = x3 ^^^ y3 := ⟨_, rfl⟩
      simp only [← d0, ← d1, ← d2, ← d3] at hC' hpu'
      have R1 := Lib.hid (And.intro r1 (And.intro r2 (And.intro r3 rb)))
      have HFF : Hid (∀ W, Below wr.drew.heap.size wr.drew W → _) := fun W hb => four_free ((hb.block _ (lt_heap r1)).trans r1) (by rw [hpl]; exact hm16) z0 z1 z2
      have HC1 := Lib.hid hC'
      have HPU1 := Lib.hid hpu'
      have ec : c * 4 = m := by omega
      have c1 : (c : Int) < 4 := by omega
      have c0 : (0 : Int) ≤ (c : Int) := by omega
      clear hm r1 r2 r3 rb hC' hpu' hpl e0 e1 e2 e3 f0 f1 f2 f3 d0 d1 d2 d3
      go_wp2
      go_region_with (first
        | (go_at_call 72; with_reducible (refine Calls.mono (HC1.out _) ?_); rintro e wq ⟨rfl, hbq⟩; obtain ⟨⟨q0, q1, q2, q3⟩, p0, p1, p2, p3⟩ := HFF.out _ hbq))
      all_goals
        obtain ⟨r1, r2, r3, rb⟩ := R1.out
        have hb2 : Below wr.heap.size wr wq := ((Below.refl _ _).drew).trans hbq
        have s1 := put_BA ((hb2.block _ (lt_heap r1)).trans r1) m [z0, z1, z2, z3]
        rw [HPU1.out] at s1
        have s2 := (heap_setCells_other w.heap.size (w.heap.size + 1) (by omega) (vals [z0, z1, z2, z3]) wq m).trans ((hb2.block _ (lt_heap r2)).trans r2)
        have s3 := (heap_setCells_other w.heap.size (w.heap.size + 2) (by omega) (vals [z0, z1, z2, z3]) wq m).trans ((hb2.block _ (lt_heap r3)).trans r3)
        have s4 := below_setCs (chain rb hb2) (Nat.le_refl w.heap.size) (vals [z0, z1, z2, z3]) m
        rw [show m + 4 = 4 * (c + 1) by rw [HM.out]; omega] at s1
        have R := Lib.hid (And.intro s1 (And.intro s2 (And.intro s3 s4)))
        clear s1 s2 s3 s4 r1 r2 r3 rb hb2 hbq q0 q1 q2 q3 p0 p1 p2 p3
        go_wp2
        go_roundw
        case rel => first | exact ⟨c + 1, by omega, by go_num, R.out⟩ | ((repeat apply Exists.intro); exact ⟨⟨c + 1, by omega, by go_num, R.out⟩, rfl⟩)
        case measure => simp [intOf]; omega
    · have hk8 : c = 4 := by omega
      subst hk8
      rw [show 4 * 4 = 16 from rfl, HP4.out] at r1
      have hl := (plusL_ok ha hb).len
      have h1 := BA_one (plusL a b)
      obtain ⟨I, hI⟩ : ∃ I, I = plusL a b := ⟨_, rfl⟩
      rw [← hI] at r1 hl h1
      have hi := (show (Tryd.prog.info? 80).map (·.size) = some (BA I).size by rw [BA_size, hl]; kernel_rfl)
      have hzi : (BA Z).size = (BA I).size := by rw [BA_size, BA_size, hl, hzl]
      have HI := Lib.hid hI
      clear hI
      go_wp2_with (first
        | (refine wpList_load_row rfl 80 _ rfl (w.heap.size) rfl 80 _ (0, 0) _ r1 hu rfl hi ?_)
        | (refine wpList_store_fresh rfl 80 _ _ rfl (w.heap.size + 2) (BA I) rfl rfl 80 (BA Z) r3 hi hzi h1 rb (by omega) ?_; intro W hW hbW hkW hsW))
      refine bodyPost_ret (v := .agg (BA I)) ?_ rfl ⟨by rw [HI.out], hbW⟩
      exact results_mid rfl _ _ (w.heap.size + 2) I _ _ _ rfl hW hu rfl (by rw [hi, BA_size])

def mixF (l : List Nat) (i : Nat) : Nat := mix1 (l.getD i 0) (l.getD (i / 4 * 4 + (i + 1) % 4) 0) (l.getD (i / 4 * 4 + (i + 2) % 4) 0) (l.getD (i / 4 * 4 + (i + 3) % 4) 0)
theorem mix_sub (l : List Nat) (c m : Nat) (hm : m = 4 * c) : mix4 (subB l m 4) = (List.range 4).map fun i => mixF l (m + i) := by
  subst hm
  rw [sub_four]
  show [_, _, _, _] = [mixF l (4 * c), mixF l (4 * c + 1), mixF l (4 * c + 2), mixF l (4 * c + 3)]
  unfold mixF
  rw [show 4 * c / 4 * 4 + (4 * c + 1) % 4 = 4 * c + 1 by omega, show 4 * c / 4 * 4 + (4 * c + 2) % 4 = 4 * c + 2 by omega, show 4 * c / 4 * 4 + (4 * c + 3) % 4 = 4 * c + 3 by omega,
    show (4 * c + 1) / 4 * 4 + (4 * c + 1 + 1) % 4 = 4 * c + 2 by omega, show (4 * c + 1) / 4 * 4 + (4 * c + 1 + 2) % 4 = 4 * c + 3 by omega, show (4 * c + 1) / 4 * 4 + (4 * c + 1 + 3) % 4 = 4 * c by omega,
    show (4 * c + 2) / 4 * 4 + (4 * c + 2 + 1) % 4 = 4 * c + 3 by omega, show (4 * c + 2) / 4 * 4 + (4 * c + 2 + 2) % 4 = 4 * c by omega, show (4 * c + 2) / 4 * 4 + (4 * c + 2 + 3) % 4 = 4 * c + 1 by omega,
    show (4 * c + 3) / 4 * 4 + (4 * c + 3 + 1) % 4 = 4 * c by omega, show (4 * c + 3) / 4 * 4 + (4 * c + 3 + 2) % 4 = 4 * c + 1 by omega, show (4 * c + 3) / 4 * 4 + (4 * c + 3 + 3) % 4 = 4 * c + 2 by omega]
  rfl

set_option maxHeartbeats 3200000 in
set_option maxRecDepth 20000 in
/-- 'mixed' of a block. -/
theorem mix_any (a : List Nat) (t : Nat) (w : World) (ha : Ok16 a) (ht : t ≤ 3) : Calls Tryd.prog 56 #[.agg (BA a), .int .i64 (t : Int)] w fun e w' => e = .returned (.agg (BA (mixT a t))) ∧ Below w.heap.size w w' := by
  have hz := (zero_of_info (P := Tryd.prog) (t := 80) (v := .agg (BA (zeros 16))) (n := 16) (by kernel_rfl)).1
  have hu := Tryd.underlying80
  obtain ⟨Z, hZ⟩ : ∃ Z, Z = zeros 16 := ⟨_, rfl⟩
  have hzl : Z.length = 16 := by rw [hZ]; rfl
  rw [← hZ] at hz
  have i1 : ((w.alloc (.cells (BA a) 80)).alloc (.cells (BA Z) 80)).heap[w.heap.size]? = some (.cells (BA a) 80 (0, 0)) := (Below.heap_alloc _ _ _ (by simp)).trans (heap_alloc_new _ _)
  have i2 : ((w.alloc (.cells (BA a) 80)).alloc (.cells (BA Z) 80)).heap[w.heap.size + 1]? = some (.cells (BA Z) 80 (0, 0)) := heap_alloc_new' _ _ _ (by simp)
  have ib : Below w.heap.size w ((w.alloc (.cells (BA a) 80)).alloc (.cells (BA Z) 80)) := ((Below.refl _ _).alloc (Nat.le_refl _) _).alloc (by simp) _
  have R0 := Lib.hid (And.intro i1 (And.intro i2 ib))
  have HOK := Lib.hid (fun n => mixT_ok ha n)
  have HS : Hid (∀ n, mixT a (n + 1) = mixL (mixT a n)) := fun _ => rfl
  have HT0 : Hid (mixT a 0 = a) := rfl
  have t3 : (t : Int) ≤ 3 := by omega
  have t0 : (0 : Int) ≤ (t : Int) := by omega
  clear hZ i1 i2 ib
  go_enter Tryd.func56, Tryd.ntmps56
  go_wp2
  go_loopw [7] (fun i wr => ∃ n : Nat, n ≤ t ∧ i = .int .i64 n ∧ wr.heap[w.heap.size]? = some (.cells (BA (mixT a n)) 80 (0, 0)) ∧ wr.heap[w.heap.size + 1]? = some (.cells (BA Z) 80 (0, 0)) ∧ Below w.heap.size w wr) (fun i _ => t - (intOf i).toNat)
  case atStart => exact ⟨0, by omega, rfl, R0.out⟩
  case round =>
    clear R0
    obtain ⟨n, hn, rfl, r1, r2, rb⟩ := hrel
    by_cases hlt : n < t
    · have R1 := Lib.hid (And.intro r1 (And.intro r2 rb))
      have hok := HOK.out n
      have hs := HS.out n
      obtain ⟨l, hl⟩ : ∃ l, l = mixT a n := ⟨_, rfl⟩
      rw [← hl] at hok hs R1
      have HS1 := Lib.hid hs
      have n1 : (n : Int) < (t : Int) := by omega
      have n0 : (0 : Int) ≤ (n : Int) := by omega
      have HP0 : Hid (prog 16 (mixF l) (fun i => l.getD i 0) 0 = l) := prog_zero hok.len _
      have HP4 : Hid (prog 16 (mixF l) (fun i => l.getD i 0) 16 = mixL l) := prog_all _ _ _
      have HPL := Lib.hid (fun k => prog_len 16 (mixF l) (fun i => l.getD i 0) k)
      have HPU := Lib.hid (fun k => putL_prog 16 (mixF l) (fun i => l.getD i 0) k 4)
      have HPB := Lib.hid (fun k (h : k + 4 ≤ 16) => sub_prog (n := 16) (mixF l) l h)
      have HMS := Lib.hid (fun c m hm => mix_sub l c m hm)
      have HC := Lib.hid (fun (o : Nat) (W : World) => mix4_any (subB l o 4) W (sub4_ok hok o))
      obtain ⟨P, hP⟩ : ∃ P, P = prog 16 (mixF l) (fun i => l.getD i 0) := ⟨_, rfl⟩
      simp only [← hP] at HP0 HP4 HPL HPU HPB
      clear r1 r2 rb hl hs hP
      go_wp2
      go_loopw [9] (fun i wx => ∃ c : Nat, c ≤ 4 ∧ i = .int .i64 c ∧ wx.heap[w.heap.size]? = some (.cells (BA (P (4 * c))) 80 (0, 0)) ∧ wx.heap[w.heap.size + 1]? = some (.cells (BA Z) 80 (0, 0)) ∧ Below w.heap.size w wx) (fun i _ => 4 - (intOf i).toNat)
      case atStart => exact ⟨0, by omega, rfl, by rw [show 4 * 0 = 0 from rfl, HP0.out]; exact R1.out.1, R1.out.2⟩
      case round =>
        clear R1
        obtain ⟨c, hc, rfl, r1, r2, rb⟩ := hrel
        by_cases hc4 : c < 4
        · obtain ⟨m, hm⟩ : ∃ m, m = 4 * c := ⟨_, rfl⟩
          have hm16 : m + 4 ≤ 16 := by omega
          rw [← hm] at r1
          have HM := Lib.hid hm
          have hpl := HPL.out m
          have hsb := HPB.out m hm16
          have g0 := BA_cell r1 (i := m) (by rw [hpl]; omega)
          have g1 := BA_cell r1 (i := m + 1) (by rw [hpl]; omega)
          have g2 := BA_cell r1 (i := m + 2) (by rw [hpl]; omega)
          have g3 := BA_cell r1 (i := m + 3) (by rw [hpl]; omega)
          have hC := HC.out m
          have hpu := HPU.out m
          rw [← HMS.out c m hm] at hpu
          rw [sub_four] at hpu
          rw [sub_four, sub_four] at hsb
          rw [sub_four] at hC
          injection hsb with e0 hsb
          injection hsb with e1 hsb
          injection hsb with e2 hsb
          injection hsb with e3 hsb
          rw [e0] at g0
          rw [e1] at g1
          rw [e2] at g2
          rw [e3] at g3
          clear e0 e1 e2 e3 hsb
          obtain ⟨x0, e0⟩ : ∃ x, x = l.getD m 0 := ⟨_, rfl⟩
          obtain ⟨x1, e1⟩ : ∃ x, x = l.getD (m + 1) 0 := ⟨_, rfl⟩
          obtain ⟨x2, e2⟩ : ∃ x, x = l.getD (m + 2) 0 := ⟨_, rfl⟩
          obtain ⟨x3, e3⟩ : ∃ x, x = l.getD (m + 3) 0 := ⟨_, rfl⟩
          simp only [← e0, ← e1, ← e2, ← e3] at hC hpu g0 g1 g2 g3
          obtain ⟨z0, d0⟩ : ∃ z, z = mix1 x0 x1 x2 x3 := ⟨_, rfl⟩
          obtain ⟨z1, d1⟩ : ∃ z, z = mix1 x1 x2 x3 x0 := ⟨_, rfl⟩
          obtain ⟨z2, d2⟩ : ∃ z, z = mix1 x2 x3 x0 x1 := ⟨_, rfl⟩
          obtain ⟨z3, d3⟩ : ∃ z, z = mix1 x3 x0 x1 x2 := ⟨_, rfl⟩
          have hmx : mix4 [x0, x1, x2, x3] = [z0, z1, z2, z3] := by rw [d0, d1, d2, d3]; rfl
          rw [hmx] at hpu hC
          have hC' : ∀ W : World, Calls Tryd.prog 75 #[.agg #[.int .u8 (x0 : Int), .int .u8 (x1 : Int), .int .u8 (x2 : Int), .int .u8 (x3 : Int)]] W
              fun e w' => e = .returned (.agg #[.int .u8 (z0 : Int), .int .u8 (z1 : Int), .int .u8 (z2 : Int), .int .u8 (z3 : Int)]) ∧ Below W.heap.size W w' := hC
          have R1 := Lib.hid (And.intro r1 (And.intro r2 rb))
          have HFF : Hid (∀ W, Below wr.heap.size wr W → _) := fun W hb => four_free ((hb.block _ (lt_heap r1)).trans r1) (by rw [hpl]; exact hm16) z0 z1 z2
          have HC1 := Lib.hid hC'
          have HPU1 := Lib.hid hpu
          have ec : c * 4 = m := by omega
          have c1 : (c : Int) < 4 := by omega
          have c0 : (0 : Int) ≤ (c : Int) := by omega
          clear hm r1 r2 rb hC' hC hpu hpl e0 e1 e2 e3 d0 d1 d2 d3 hmx HMS
          go_wp2_with (first
            | (go_at_call 75; with_reducible (refine Calls.mono (HC1.out _) ?_); rintro e wq ⟨rfl, hbq⟩; obtain ⟨⟨q0, q1, q2, q3⟩, p0, p1, p2, p3⟩ := HFF.out _ hbq))
          obtain ⟨r1, r2, rb⟩ := R1.out
          have s1 := put_BA ((hbq.block _ (lt_heap r1)).trans r1) m [z0, z1, z2, z3]
          rw [HPU1.out] at s1
          have s2 := (heap_setCells_other w.heap.size (w.heap.size + 1) (by omega) (vals [z0, z1, z2, z3]) wq m).trans ((hbq.block _ (lt_heap r2)).trans r2)
          have s4 := below_setCs (chain rb hbq) (Nat.le_refl w.heap.size) (vals [z0, z1, z2, z3]) m
          rw [show m + 4 = 4 * (c + 1) by rw [HM.out]; omega] at s1
          have R := Lib.hid (And.intro s1 (And.intro s2 s4))
          clear s1 s2 s4 r1 r2 rb hbq q0 q1 q2 q3 p0 p1 p2 p3
          go_roundw
          case rel => first | exact ⟨c + 1, by omega, by go_num, R.out⟩ | ((repeat apply Exists.intro); exact ⟨⟨c + 1, by omega, by go_num, R.out⟩, rfl⟩)
          case measure => simp [intOf]; omega
        · have hc' : c = 4 := by omega
          subst hc'
          rw [show 4 * 4 = 16 from rfl, HP4.out, ← HS1.out] at r1
          have R2 := Lib.hid (And.intro r1 (And.intro r2 rb))
          clear r1 r2 rb
          go_wp2
          go_roundw
          case rel => first | exact ⟨n + 1, by omega, by go_num, R2.out⟩ | ((repeat apply Exists.intro); exact ⟨⟨n + 1, by omega, by go_num, R2.out⟩, rfl⟩)
          case measure => simp [intOf]; omega
    · have hk8 : n = t := by omega
      rw [hk8] at r1
      have n1 : ¬ (n : Int) < (t : Int) := by omega
      have hl := (mixT_ok ha t).len
      have h1 := BA_one (mixT a t)
      obtain ⟨I, hI⟩ : ∃ I, I = mixT a t := ⟨_, rfl⟩
      rw [← hI] at r1 hl h1
      have hi := (show (Tryd.prog.info? 80).map (·.size) = some (BA I).size by rw [BA_size, hl]; kernel_rfl)
      have hzi : (BA Z).size = (BA I).size := by rw [BA_size, BA_size, hl, hzl]
      have HI := Lib.hid hI
      clear hI
      go_wp2_with (first
        | (refine wpList_load_row rfl 80 _ rfl (w.heap.size) rfl 80 _ (0, 0) _ r1 hu rfl hi ?_)
        | (refine wpList_store_fresh rfl 80 _ _ rfl (w.heap.size + 1) (BA I) rfl rfl 80 (BA Z) r2 hi hzi h1 rb (by omega) ?_; intro W hW hbW hkW hsW))
      refine bodyPost_ret (v := .agg (BA I)) ?_ rfl ⟨by rw [HI.out], hbW⟩
      exact results_mid rfl _ _ (w.heap.size + 1) I _ _ _ rfl hW hu rfl (by rw [hi, BA_size])

end Go.Proofs.YtanpfodmmeagaaaDoor

namespace Go.Proofs.YtanpfodmmeagaaaDoor
open Go.RowKit

/-- The cells of a cipher that has its first n round keys. -/
def ciph (key : List Nat) (n : Nat) : List Nat := (sbox ++ ibox) ++ prog 176 (fun i => (kbN key).getD i 0) (fun _ => 0) (16 * n)
theorem box_len : (sbox ++ ibox).length = 512 := by decide +kernel
theorem ciph_len (key : List Nat) (n : Nat) : (ciph key n).length = 688 := by rw [ciph, List.length_append, prog_len, box_len]
theorem kbN_len (key : List Nat) : (kbN key).length = 176 := kbTo_len key 176
theorem ciph_all (key : List Nat) : ciph key 11 = (sbox ++ ibox) ++ kbN key := by
  unfold ciph
  refine congrArg ((sbox ++ ibox) ++ ·) ?_
  show prog 176 _ _ 176 = _
  rw [prog_all]
  apply List.ext_getElem
  · simp [kbN_len]
  · intro i h1 h2
    simp [List.getD_eq_getElem?_getD, h2]
theorem prog_zeros (n : Nat) (f : Nat → Nat) : prog n f (fun _ => 0) 0 = zeros n := by
  unfold prog zeros
  refine List.eq_replicate_iff.2 ⟨by simp, fun x hx => ?_⟩
  obtain ⟨i, _, rfl⟩ := List.mem_map.1 hx
  exact if_neg (Nat.not_lt_zero i)
theorem ciph_zero (key : List Nat) : ciph key 0 = (sbox ++ ibox) ++ zeros 176 := by
  unfold ciph
  exact congrArg ((sbox ++ ibox) ++ ·) (prog_zeros 176 _)
theorem putL_append (I : List Nat) : ∀ (vs l : List Nat) (o : Nat), putL (I ++ l) (I.length + o) vs = I ++ putL l o vs
  | [], _, _ => rfl
  | v :: vs, l, o => by
    show putL ((I ++ l).set (I.length + o) v) (I.length + o + 1) vs = I ++ putL (l.set o v) (o + 1) vs
    rw [List.set_append_right _ _ (by omega), Nat.add_sub_cancel_left, Nat.add_assoc, putL_append I vs]
theorem getD_append_right' (I l : List Nat) (i : Nat) : (I ++ l).getD (I.length + i) 0 = l.getD i 0 := by
  rw [List.getD_eq_getElem?_getD, List.getElem?_append_right (by omega), Nat.add_sub_cancel_left, List.getD_eq_getElem?_getD]
theorem getD_append_left' (I l : List Nat) {i : Nat} (h : i < I.length) : (I ++ l).getD i 0 = I.getD i 0 := by
  rw [List.getD_eq_getElem?_getD, List.getElem?_append_left h, List.getD_eq_getElem?_getD]
/-- The next round key is put in. -/
theorem ciph_put (key : List Nat) (n : Nat) : putL (ciph key n) (512 + 16 * n) (rk key n) = ciph key (n + 1) := by
  have h := putL_append (sbox ++ ibox) (rk key n) (prog 176 (fun i => (kbN key).getD i 0) (fun _ => 0) (16 * n)) (16 * n)
  rw [box_len] at h
  have h2 : putL (prog 176 (fun i => (kbN key).getD i 0) (fun _ => 0) (16 * n)) (16 * n) (rk key n) = prog 176 (fun i => (kbN key).getD i 0) (fun _ => 0) (16 * n + 16) := putL_prog 176 (fun i => (kbN key).getD i 0) (fun _ => 0) (16 * n) 16
  exact h.trans (congrArg ((sbox ++ ibox) ++ ·) (h2.trans (congrArg _ (show 16 * n + 16 = 16 * (n + 1) by omega))))
/-- A round key that is there. -/
theorem ciph_key (key : List Nat) {r n : Nat} (hr : r < n) (hn : n ≤ 11) : subB (ciph key n) (512 + 16 * r) 16 = rk key r := by
  unfold subB rk L16
  refine List.map_congr_left fun i hi => ?_
  have hi' := List.mem_range.1 hi
  have h := getD_append_right' (sbox ++ ibox) (prog 176 (fun i => (kbN key).getD i 0) (fun _ => 0) (16 * n)) (16 * r + i)
  rw [box_len, ← Nat.add_assoc] at h
  exact h.trans ((prog_at _ _ _ (by omega)).trans (if_pos (by omega)))
theorem ciph_sbox (key : List Nat) (n : Nat) {i : Nat} (hi : i < 256) : (ciph key n).getD i 0 = sbox.getD i 0 := by
  have hs : sbox.length = 256 := by decide +kernel
  exact (getD_append_left' _ _ (by rw [box_len]; omega)).trans (getD_append_left' _ _ (by rw [hs]; exact hi))
theorem ciph_ibox (key : List Nat) (n : Nat) {i : Nat} (hi : i < 256) : (ciph key n).getD (256 + i) 0 = ibox.getD i 0 := by
  have hs : sbox.length = 256 := by decide +kernel
  have h := getD_append_right' sbox ibox i
  rw [hs] at h
  exact (getD_append_left' _ _ (by rw [box_len]; omega)).trans h

/-- A cipher of a key that lies in memory. -/
def Ciph (w : World) (a : Addr) (key : List Nat) : Prop := key.length = 16 ∧ (∀ x ∈ key, x < 256) ∧ ∃ g t fr, a = ⟨g, 0, none⟩ ∧ w.heap[g]? = some (.cells (BA (ciph key 11)) t fr)
theorem Ciph.keep {w w' : World} {a : Addr} {key : List Nat} (h : Ciph w a key) (hb : Below w.heap.size w w') : Ciph w' a key := by
  obtain ⟨h1, h2, g, t, fr, rfl, hg⟩ := h
  exact ⟨h1, h2, g, t, fr, rfl, (hb.block g (lt_heap hg)).trans hg⟩
section
variable {P : Program} {ops : Array Oper} {op : Oper} {a : Act} {S : World → Prop} {K : Act → World → Prop} {Q : Exit → Act → World → Prop} {w : World} {E : Prop}
/-- A load of some bytes at once, in a region that draws: taken first. -/
theorem yields_load_BA (hw : Region.wanted op (yielded ops a.tmps) = true) (ty : TypeId) (x : Operand) (ho : op.op = .load ty x) (b o : Nat) (hx : a.eval x = .pointer (some ⟨b, o, none⟩)) (l : List Nat) (d : TypeDesc)
    (hS : ∀ w, S w → w.rangeAt b o (vals l)) (hu : P.underlying ty = some d) (hd : d.isRow = true) (hi : (P.info? ty).map (·.size) = some l.length) : YieldsIf P ops S op (.agg (BA l)) a :=
  yieldsIf_load_mid hw ty x ho b o hx (vals l) d hS hu hd (by rw [hi, vals_len])
/-- The same at the world at hand. -/
theorem step_load_BA (hw : Region.wanted op (yielded ops a.tmps) = true) (ty : TypeId) (x : Operand) (ho : op.op = .load ty x) (b o : Nat) (hx : a.eval x = .pointer (some ⟨b, o, none⟩)) (l : List Nat) (d : TypeDesc)
    (hc : w.rangeAt b o (vals l)) (hu : P.underlying ty = some d) (hd : d.isRow = true) (hi : (P.info? ty).map (·.size) = some l.length) (h : K (a.put op.dst (.agg (BA l))) w) : if Region.wanted op (yielded ops a.tmps) = true then Oper.wp P op a w K Q else E := by
  rw [if_pos hw]
  exact wp_load_mid ty x ho b o hx (vals l) d hc hu hd (by rw [hi, vals_len]) h
/-- Some bytes are stored at once. -/
theorem step_store_BA (hw : Region.wanted op (yielded ops a.tmps) = true) (ty : TypeId) (x y : Operand) (ho : op.op = .store ty x y) (b o : Nat) (l : List Nat) (hx : a.eval x = .pointer (some ⟨b, o, none⟩)) (hy : a.eval y = .agg (BA l))
    (ht : w.there b o l.length) (hi : (P.info? ty).map (·.size) = some l.length) (h : K (a.put op.dst undef) (w.setCells b o (vals l))) : if Region.wanted op (yielded ops a.tmps) = true then Oper.wp P op a w K Q else E := by
  rw [if_pos hw]
  exact wp_store_mid ty x y ho b o (BA l) hx hy (by rw [BA_size]; exact ht) (by rw [BA_size]; exact hi) (BA_one l) h
/-- In a region that doesn't draw. -/
theorem list_load_BA {rest : List Oper} (hgd : op.guard = none) (ty : TypeId) (x : Operand) (ho : op.op = .load ty x) (b o : Nat) (hx : a.eval x = .pointer (some ⟨b, o, none⟩)) (l : List Nat) (d : TypeDesc)
    (hc : w.rangeAt b o (vals l)) (hu : P.underlying ty = some d) (hd : d.isRow = true) (hi : (P.info? ty).map (·.size) = some l.length) (h : wpList P ops Q rest (a.put op.dst (.agg (BA l))) w) : wpList P ops Q (op :: rest) a w :=
  wpList_load_mid hgd ty x ho b o hx (vals l) d hc hu hd (by rw [hi, vals_len]) h
end

end Go.Proofs.YtanpfodmmeagaaaDoor
