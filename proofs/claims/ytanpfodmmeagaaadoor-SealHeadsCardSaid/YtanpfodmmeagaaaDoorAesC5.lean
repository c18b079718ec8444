/-
  The program's blocks as bytes.
-/
import Derived.Test.YtanpfodmmeagaaaDoorAesC4
import Derived.Deep.OwnRows
namespace Go.Proofs.YtanpfodmmeagaaaDoor
open Go.RowKit

theorem Tryd.infoU8d : (Tryd.prog.info? 5).map (fun i => (i.zero, i.size, i.bytes)) = some (some (.int .u8 0), 1, 1) := by kernel_rfl

set_option maxHeartbeats 1600000 in
set_option maxRecDepth 20000 in
/-- 'bytes'. -/
theorem bytes_new (b : List Nat) (w : World) (hb : Ok16 b) :
    Calls Tryd.prog 57 #[.agg (BA b)] w fun e w' => ∃ g, e = .returned (.slice (some ⟨g, 0, none⟩) 16 16) ∧ w'.heap[g]? = some (.cells (BA b) 5 (0, 0)) ∧ Below w.heap.size w w' ∧ w.heap.size ≤ g := by
  have hmk : ∀ w : World, (Instr.makeSlice 24 (.int .i64 16) (.int .i64 16)).run Tryd.prog w = .ok (.slice (some ⟨w.heap.size, 0, none⟩) 16 16) (w.alloc (.cells (BA (zeros 16)) 5)) := fun w => by
    have h := run_make_row' (P := Tryd.prog) 24 5 (.int .u8 0) 1 Tryd.underlying24 Tryd.infoU8d rfl .i64 .i64 16 (by decide) (by decide) w
    rw [show madeCells #[Value.int .u8 0] 16 = BA (zeros 16) from Array.toList_inj.1 (by rw [toList_madeCells_one]; rfl)] at h
    exact h
  have HP0 : Hid (prog 16 (fun i => b.getD i 0) (fun i => (zeros 16).getD i 0) 0 = zeros 16) := prog_zero (zeros_len 16) _
  have HP4 : Hid (prog 16 (fun i => b.getD i 0) (fun i => (zeros 16).getD i 0) 16 = b) := by
    unfold Hid
    rw [prog_all]; exact L16_ext hb.len fun _ _ => rfl
  have HPL := Lib.hid (fun k => prog_len 16 (fun i => b.getD i 0) (fun i => (zeros 16).getD i 0) k)
  have HPS := Lib.hid (fun k (h : k + 4 ≤ 16) => splice_prog (n := 16) (fun i => b.getD i 0) (fun i => (zeros 16).getD i 0) k 4 h)
  obtain ⟨P, hP⟩ : ∃ P, P = prog 16 (fun i => b.getD i 0) (fun i => (zeros 16).getD i 0) := ⟨_, rfl⟩
  simp only [← hP] at HP0 HP4 HPL HPS
  obtain ⟨Z, hZ⟩ : ∃ Z, Z = zeros 16 := ⟨_, rfl⟩
  rw [← hZ] at HP0 hmk
  have i1 : ((w.alloc (.cells (BA b) 80)).alloc (.cells (BA Z) 5)).heap[w.heap.size + 1]? = some (.cells (BA Z) 5 (0, 0)) := heap_alloc_new' _ _ _ (by simp)
  have i2 : (w.alloc (.cells (BA b) 80)).heap[w.heap.size]? = some (.cells (BA b) 80 (0, 0)) := heap_alloc_new _ _
  have is : (w.alloc (.cells (BA b) 80)).heap.size = w.heap.size + 1 := by simp
  have ib : Below (w.heap.size + 1) (w.alloc (.cells (BA b) 80)) ((w.alloc (.cells (BA b) 80)).alloc (.cells (BA Z) 5)) := (Below.refl _ _).alloc (by simp) _
  have jb : Below w.heap.size w (w.alloc (.cells (BA b) 80)) := (Below.refl _ _).alloc (Nat.le_refl _) _
  have R0 := Lib.hid (And.intro i1 ib)
  have HB := Lib.hid (And.intro i2 jb)
  have HC : Hid (∀ (W : World), W.heap[w.heap.size]? = some (.cells (BA b) 80 (0, 0)) → ∀ k, k + 4 ≤ 16 → ∀ j v, (vals ((List.range 4).map fun i => b.getD (k + i) 0))[j]? = some v → W.cell? ((⟨w.heap.size, k, none⟩ : Addr).add j) = some v) := fun W hg k hk j v hv => by
    have hj : j < 4 := by
      rcases Nat.lt_or_ge j 4 with h | h
      · exact h
      · rw [List.getElem?_eq_none (by simpa [vals] using h)] at hv; cases hv
    rw [Addr.add_mid, BA_cell hg (i := k + j) (by rw [hb.len]; omega), ← hv]
    simp [vals, hj]
  clear hZ i1 i2 ib jb hP
  go_enter Tryd.func57, Tryd.ntmps57
  go_wp2
  go_loopw [6] (fun i wr => ∃ k : Nat, k ≤ 4 ∧ i = .int .i64 k ∧ wr.heap[w.heap.size + 1]? = some (.cells (BA (P (4 * k))) 5 (0, 0)) ∧ Below (w.heap.size + 1) (w.alloc (.cells (BA b) 80)) wr) (fun i _ => 4 - (intOf i).toNat)
  case atStart => exact ⟨0, by omega, rfl, by rw [show 4 * 0 = 0 from rfl, HP0.out]; exact R0.out.1, R0.out.2⟩
  case round =>
    clear R0
    obtain ⟨k, hk, rfl, r1, rb⟩ := hrel
    by_cases hlt : k < 4
    · have hcx := HC.out wr ((rb.block w.heap.size (by omega)).trans HB.out.1) (4 * k) (by omega)
      have hS := HPS.out (4 * k) (by omega)
      have hpl := HPL.out (4 * k)
      obtain ⟨cur, hcur⟩ : ∃ cur, cur = vals (P (4 * k)) := ⟨_, rfl⟩
      have hcl : cur.length = 16 := by rw [hcur, vals_len, hpl]
      have hg : wr.heap[w.heap.size + 1]? = some (.cells cur.toArray 5 (0, 0)) := by rw [hcur, vals_BA]; exact r1
      obtain ⟨cs, hcs⟩ : ∃ cs, cs = vals ((List.range 4).map fun i => b.getD (4 * k + i) 0) := ⟨_, rfl⟩
      have hcsl : cs.length = 4 := by rw [hcs]; rfl
      have hone : ∀ v ∈ cs, v.oneCell' = true := by rw [hcs]; exact vals_one _
      rw [← hcs] at hcx hS
      rw [← hcur] at hS
      have HS := Lib.hid hS
      obtain ⟨m, hm⟩ : ∃ m, m = 4 * k := ⟨_, rfl⟩
      rw [← hm] at hcx HS
      have hkm : k * 4 = m := by omega
      have HCX : Hid (∀ j v, cs[j]? = some v → wr.cell? ((⟨w.heap.size, k * 4, none⟩ : Addr).add j) = some v) := by rw [hkm]; exact hcx
      have HM := Lib.hid hm
      have k1 : (k : Int) < 4 := by omega
      have k0 : (0 : Int) ≤ (k : Int) := by omega
      have v1 : IntKind.i64.wrap (4 * (k : Int)) = (m : Int) := by rw [IntWalk.i64_in _ (by omega)]; omega
      have v2 : (4 : Int) * (k : Int) = (m : Int) := by omega
      have v3 : IntKind.i64.wrap (m : Int) = (m : Int) := IntWalk.i64_in _ (by omega)
      have hcm : ¬ 16 = m := by omega
      have m1 : (m : Int) ≤ 16 := by omega
      have m0 : (0 : Int) ≤ (m : Int) := by omega
      have HN : Hid (cs.length = Nat.min 4 (16 - m)) := by unfold Hid; rw [hcsl]; exact (Nat.min_eq_left (by omega)).symm
      have HFT : Hid (m + cs.length ≤ cur.length) := by unfold Hid; rw [hcsl, hcl]; omega
      clear hcs hcur hS hcx r1 hm hpl hcl hcsl hkm
      go_wp2
      go_region_law (refine step_copy_splice rfl (.tmp 12) (.tmp 15) 24 24 rfl 5 Tryd.underlying24 (by kernel_rfl) _ _ _ _ _ _ rfl rfl (w.heap.size + 1) m cur 5 hg cs HN.out (fun _ => ⟨by first | rfl | (congr 2; omega), _, rfl, HCX.out⟩) HFT.out hone (w.heap.size + 1) (w.alloc (.cells (BA b) 80)) rb.drew (Nat.le_refl _) ?_; intro w4 hg4 hb4)
      all_goals
        have R2 : Hid (w4.heap[w.heap.size + 1]? = some (.cells (BA (P (4 * (k + 1)))) 5 (0, 0))) := by
          unfold Hid
          rw [hg4.out, HS.out, vals_BA, show m + 4 = 4 * (k + 1) by rw [HM.out]; omega]
        clear hg4
        go_wp2
        go_roundw
        case rel => first | exact ⟨k + 1, by omega, by go_num, R2.out, hb4⟩ | ((repeat apply Exists.intro); exact ⟨⟨k + 1, by omega, by go_num, R2.out, hb4⟩, rfl⟩)
        case measure => simp [intOf]; omega
    · have hk8 : k = 4 := by omega
      subst hk8
      rw [show 4 * 4 = 16 from rfl, HP4.out] at r1
      have rb2 := (HB.out.2).trans (rb.mono (by omega))
      clear rb
      go_wp2
      go_ret
      exact ⟨w.heap.size + 1, rfl, r1, rb2, by omega⟩

theorem bytes_any (b : List Nat) (w : World) (hb : Ok16 b) :
    Calls Tryd.prog 57 #[.agg (BA b)] w fun e w' => ∃ g, e = .returned (.slice (some ⟨g, 0, none⟩) 16 16) ∧ w'.heap[g]? = some (.cells (BA b) 5 (0, 0)) ∧ Below w.heap.size w w' :=
  (bytes_new b w hb).mono fun _ _ ⟨g, h1, h2, h3, _⟩ => ⟨g, h1, h2, h3⟩

end Go.Proofs.YtanpfodmmeagaaaDoor
