/-
  The program's blocks: of bytes, as bytes.
-/
import Derived.Test.YtanpfodmmeagaaaDoorAesC1G
import Derived.Laws.CopyOwn
import Derived.Deep.RegionLaw
namespace Go.Proofs.YtanpfodmmeagaaaDoor
open Go.RowKit

theorem splice_prog {n : Nat} (f g : Nat → Nat) (k m : Nat) (h : k + m ≤ n) : splice (vals (prog n f g k)) k (vals ((List.range m).map fun i => f (k + i))) = vals (prog n f g (k + m)) := by
  unfold splice
  have e : vals (prog n f g (k + m)) = (vals (prog n f g k)).take k ++ (vals ((List.range m).map fun i => f (k + i)) ++ (vals (prog n f g k)).drop (k + m)) := by
    simp only [vals, ← List.map_take, ← List.map_drop, ← List.map_append]
    congr 1
    apply List.ext_getElem
    · simp [prog_len]; omega
    · intro i h1 h2
      rcases Nat.lt_or_ge i k with hi | hi
      · rw [List.getElem_append_left (by simp [prog_len]; omega), List.getElem_take]
        simp [prog, hi, show i < k + m by omega]
      · rw [List.getElem_append_right (by simp [prog_len]; omega)]
        have hl : ((prog n f g k).take k).length = k := by rw [List.length_take, prog_len]; omega
        rcases Nat.lt_or_ge i (k + m) with hj | hj
        · rw [List.getElem_append_left (by simp [prog_len]; omega)]
          simp only [prog, List.getElem_map, List.getElem_range, hj, if_true]
          congr 1
          have : ((List.map (fun i => if i < k then f i else g i) (List.range n)).take k).length = k := by simp; omega
          omega
        · rw [List.getElem_append_right (by simp [prog_len]; omega), List.getElem_drop]
          simp only [prog, List.getElem_map, List.getElem_range, List.length_map, List.length_range, List.length_take]
          rw [if_neg (by omega), show k + m + (i - min k n - m) = i by omega, if_neg (by omega)]
  rw [e]
  simp [vals]

set_option maxHeartbeats 1600000 in
set_option maxRecDepth 20000 in
/-- 'blockOf'. -/
theorem blockOf_any (A : Option Addr) (c : Nat) (b : List Nat) (w : World) (hr : Ints w w.heap.size .u8 A (up b)) (hb : Ok16 b) (hc : 16 ≤ c) :
    Calls Tryd.prog 46 #[.slice A 16 c] w fun e w' => e = .returned (.agg (BA b)) ∧ Below w.heap.size w w' := by
  have hz := (zero_of_info (P := Tryd.prog) (t := 80) (v := .agg (BA (zeros 16))) (n := 16) (by kernel_rfl)).1
  have hu := Tryd.underlying80
  obtain ⟨bi, off, rfl, hbi, hcl⟩ := hr.at_ (by rw [up_len, hb.len]; decide)
  have HP0 : Hid (prog 16 (fun i => b.getD i 0) (fun i => (zeros 16).getD i 0) 0 = zeros 16) := prog_zero (zeros_len 16) _
  have HP4 : Hid (prog 16 (fun i => b.getD i 0) (fun i => (zeros 16).getD i 0) 16 = b) := by
    unfold Hid
    rw [prog_all]; exact L16_ext hb.len fun _ _ => rfl
  have HPL := Lib.hid (fun k => prog_len 16 (fun i => b.getD i 0) (fun i => (zeros 16).getD i 0) k)
  have HPS := Lib.hid (fun k (h : k + 4 ≤ 16) => splice_prog (n := 16) (fun i => b.getD i 0) (fun i => (zeros 16).getD i 0) k 4 h)
  obtain ⟨P, hP⟩ : ∃ P, P = prog 16 (fun i => b.getD i 0) (fun i => (zeros 16).getD i 0) := ⟨_, rfl⟩
  simp only [← hP] at HP0 HP4 HPL HPS
  obtain ⟨Z, hZ⟩ : ∃ Z, Z = zeros 16 := ⟨_, rfl⟩
  have hzl : Z.length = 16 := by rw [hZ]; rfl
  rw [← hZ] at hz HP0
  have HC : Hid (∀ (W : World), Below w.heap.size w W → ∀ k, k + 4 ≤ 16 → ∀ j v, (vals ((List.range 4).map fun i => b.getD (k + i) 0))[j]? = some v → W.cell? ((⟨bi, off + k, none⟩ : Addr).add j) = some v) := fun W hb' k hk j v hv => by
    have hj : j < 4 := by
      rcases Nat.lt_or_ge j 4 with h | h
      · exact h
      · rw [List.getElem?_eq_none (by simpa [vals] using h)] at hv; cases hv
    have h := (hb'.cell (p := ⟨bi, off + (k + j), none⟩) hbi).trans (hcl (k + j) (by rw [up_len, hb.len]; omega))
    rw [up_getD] at h
    rw [Addr.add_mid, Nat.add_assoc, h, ← hv]
    simp [vals, hj]
  have i1 : ((w.alloc (.cells (BA Z) 80)).alloc (.cells (BA Z) 80)).heap[w.heap.size + 1]? = some (.cells (BA Z) 80 (0, 0)) := heap_alloc_new' _ _ _ (by simp)
  have i2 : (w.alloc (.cells (BA Z) 80)).heap[w.heap.size]? = some (.cells (BA Z) 80 (0, 0)) := heap_alloc_new _ _
  have ib : Below (w.heap.size + 1) (w.alloc (.cells (BA Z) 80)) ((w.alloc (.cells (BA Z) 80)).alloc (.cells (BA Z) 80)) := (Below.refl _ _).alloc (by simp) _
  have jb : Below w.heap.size w (w.alloc (.cells (BA Z) 80)) := (Below.refl _ _).alloc (Nat.le_refl _) _
  have R0 := Lib.hid (And.intro i1 ib)
  have HB := Lib.hid (And.intro i2 jb)
  clear hcl hr hZ i1 i2 ib jb hP
  have hb1 : (16 : Int) ≤ (c : Int) := by omega
  go_enter Tryd.func46, Tryd.ntmps46
  go_wp2
  go_loopw [5] (fun i wr => ∃ k : Nat, k ≤ 4 ∧ i = .int .i64 k ∧ wr.heap[w.heap.size + 1]? = some (.cells (BA (P (4 * k))) 80 (0, 0)) ∧ Below (w.heap.size + 1) (w.alloc (.cells (BA Z) 80)) wr) (fun i _ => 4 - (intOf i).toNat)
  case atStart => exact ⟨0, by omega, rfl, by rw [show 4 * 0 = 0 from rfl, HP0.out]; exact R0.out.1, R0.out.2⟩
  case round =>
    clear R0
    obtain ⟨k, hk, rfl, r1, rb⟩ := hrel
    by_cases hlt : k < 4
    · have hcx := HC.out wr ((HB.out.2).trans (rb.mono (by omega))) (4 * k) (by omega)
      have hS := HPS.out (4 * k) (by omega)
      have hpl := HPL.out (4 * k)
      obtain ⟨cur, hcur⟩ : ∃ cur, cur = vals (P (4 * k)) := ⟨_, rfl⟩
      have hcl : cur.length = 16 := by rw [hcur, vals_len, hpl]
      have hg : wr.heap[w.heap.size + 1]? = some (.cells cur.toArray 80 (0, 0)) := by rw [hcur, vals_BA]; exact r1
      obtain ⟨cs, hcs⟩ : ∃ cs, cs = vals ((List.range 4).map fun i => b.getD (4 * k + i) 0) := ⟨_, rfl⟩
      have hcsl : cs.length = 4 := by rw [hcs]; rfl
      have hone : ∀ v ∈ cs, v.oneCell' = true := by rw [hcs]; exact vals_one _
      rw [← hcs] at hcx hS
      rw [← hcur] at hS
      have HS := Lib.hid hS
      obtain ⟨m, hm⟩ : ∃ m, m = 4 * k := ⟨_, rfl⟩
      rw [← hm] at hcx HS
      have HCX := Lib.hid hcx
      have HM := Lib.hid hm
      have k1 : (k : Int) < 4 := by omega
      have k0 : (0 : Int) ≤ (k : Int) := by omega
      have v1 : IntKind.i64.wrap (4 * (k : Int)) = (m : Int) := by rw [IntWalk.i64_in _ (by omega)]; omega
      have v2 : (4 : Int) * (k : Int) = (m : Int) := by omega
      have v3 : IntKind.i64.wrap (m : Int) = (m : Int) := IntWalk.i64_in _ (by omega)
      have hcm : ¬ c = m := by omega
      have m1 : (m : Int) ≤ 16 := by omega
      have m0 : (0 : Int) ≤ (m : Int) := by omega
      have HN : Hid (cs.length = Nat.min (16 - m) 4) := by unfold Hid; rw [hcsl]; exact (Nat.min_eq_right (by omega)).symm
      have HFT : Hid (m + cs.length ≤ cur.length) := by unfold Hid; rw [hcsl, hcl]; omega
      have HKM : Hid (k * 4 = m) := by unfold Hid; omega
      clear hcs hcur hS hcx r1 hm hpl hcl hcsl
      go_wp2
      go_region_law (refine step_copy_splice rfl (.tmp 10) (.tmp 14) 24 24 rfl 5 Tryd.underlying24 (by kernel_rfl) _ _ _ _ _ _ rfl rfl (w.heap.size + 1) m cur 80 hg cs HN.out (fun _ => ⟨congrArg (fun x => some (Addr.mk (w.heap.size + 1) x none)) HKM.out, _, rfl, HCX.out⟩) HFT.out hone (w.heap.size + 1) (w.alloc (.cells (BA Z) 80)) rb.drew (Nat.le_refl _) ?_; intro w4 hg4 hb4)
      all_goals
        have R2 : Hid (w4.heap[w.heap.size + 1]? = some (.cells (BA (P (4 * (k + 1)))) 80 (0, 0))) := by
          unfold Hid
          rw [hg4.out, HS.out, vals_BA, show m + 4 = 4 * (k + 1) by rw [HM.out]; omega]
        clear hg4
        go_wp2
        go_roundw
        case rel => first | exact ⟨k + 1, by omega, by go_num, R2.out, hb4⟩ | ((repeat apply Exists.intro); exact ⟨⟨k + 1, by omega, by go_num, R2.out, hb4⟩, rfl⟩)
        case measure => simp [intOf]; omega
    · have hk8 : k = 4 := by omega
      subst hk8
      rw [show 4 * 4 = 16 from rfl, HP4.out] at r1
      have r0 := (rb.block w.heap.size (by omega)).trans HB.out.1
      have rb2 := (HB.out.2).trans (rb.mono (by omega))
      have hl := hb.len
      have h1 := BA_one b
      have hi := (show (Tryd.prog.info? 80).map (·.size) = some (BA b).size by rw [BA_size, hl]; kernel_rfl)
      have hzi : (BA Z).size = (BA b).size := by rw [BA_size, BA_size, hl, hzl]
      clear rb
      go_wp2_with (first
        | (refine wpList_load_row rfl 80 _ rfl (w.heap.size + 1) rfl 80 _ (0, 0) _ r1 hu rfl hi ?_)
        | (refine wpList_store_fresh rfl 80 _ _ rfl w.heap.size (BA b) rfl rfl 80 (BA Z) r0 hi hzi h1 rb2 (Nat.le_refl _) ?_; intro W hW hbW hkW hsW))
      refine bodyPost_ret (v := .agg (BA b)) ?_ rfl ⟨rfl, hbW⟩
      exact results_mid rfl _ _ w.heap.size b _ _ _ rfl hW hu rfl (by rw [hi, BA_size])

end Go.Proofs.YtanpfodmmeagaaaDoor
