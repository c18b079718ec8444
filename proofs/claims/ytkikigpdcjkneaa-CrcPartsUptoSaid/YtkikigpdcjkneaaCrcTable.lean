/-
  The table of what each byte makes of a register (byteChanges), for its every call.
-/
import Derived.Test.YtkikigpdcjkneaaCrcMats
namespace Go.Proofs.Ytkikigpdcjkneaa
open Go.RowKit

theorem upTo_all (l zs : List Nat) (n : Nat) (hl : l.length ≤ n) (hz : zs.length ≤ n) : upTo l zs n = l := by
  simp only [upTo]
  rw [List.take_of_length_le hl, List.drop_eq_nil_of_le hz, List.append_nil]

theorem changes_any (w : World) :
    Calls Try.prog 19 #[] w fun e w' => e = .returned (.agg (U tab)) ∧ Below w.heap.size w w' := by
  have HE := Lib.hid eight_any
  have hz := (zero_of_info (P := Try.prog) (t := 37) (v := .agg (U none256)) (n := 256) (by kernel_rfl)).1
  go_enter Try.func19, Try.ntmps19
  go_wp2
  clear hz
  go_loopw [6] (fun i wr => ∃ j : Nat, j ≤ 8 ∧ i = .int .i64 j ∧ Below w.heap.size w wr ∧ Row wr w.heap.size 37 none256 ∧ Row wr (w.heap.size + 1) 37 (upTo tab none256 (2 ^ j))) (fun i _ => 8 - (intOf i).toNat)
  case atStart =>
    refine ⟨0, by omega, rfl, ?_, ?_, ?_⟩
    · exact ((Below.refl _ _).alloc (Nat.le_refl _) _).alloc (by simp) _
    · exact (Row.new' w _ _ none256 rfl rfl).alloc _
    · exact Row.new' (w.alloc _) _ _ (upTo tab none256 (2 ^ 0)) (by simp) rfl
  case round =>
    obtain ⟨j, hj, rfl, hbel, hr2, hr3⟩ := hrel
    by_cases hj8 : j < 8
    · have hp : 2 ^ j ≤ 128 := Nat.pow_le_pow_right (n := 2) (j := 7) (by decide) (by omega)
      have hA := Lib.hid (power_add j)
      have HD : Hid (2 ^ (j + 1) = 2 ^ j + 2 ^ j) := by unfold Hid; rw [Nat.pow_succ]; omega
      obtain ⟨p, hpe⟩ : ∃ p, p = 2 ^ j := ⟨_, rfl⟩
      have hpi : (2 : Int) ^ j = (p : Int) := by rw [hpe, Int.natCast_pow]; rfl
      rw [← hpe] at hp hA HD hr3
      have HE' := Lib.hid fun w => HE.out p w (by omega)
      have R := Lib.hid (And.intro hbel (And.intro hr2 hr3))
      obtain ⟨ch, hch⟩ : ∃ ch, ch = byteStep p := ⟨_, rfl⟩
      rw [← hch] at HE' hA
      have hch1 : ch < 2 ^ 32 := by rw [hch]; exact byteStep_lt (by omega)
      clear hpe HE hr2 hr3 hbel hch
      go_wp2_with (go_at_call 23; refine Calls.mono (HE'.out _) ?_; rintro e w' ⟨rfl, rfl⟩)
      have hwr := R.out
      go_loopw [15] (fun i wq => ∃ k : Nat, k ≤ p ∧ i = .int .i64 k ∧ Below w.heap.size w wq ∧ Row wq w.heap.size 37 none256 ∧ Row wq (w.heap.size + 1) 37 (upTo tab none256 (p + k))) (fun i _ => p - (intOf i).toNat)
      case atStart => exact ⟨0, by omega, rfl, hwr⟩
      case round =>
        obtain ⟨k, hk, rfl, hbel, hr2, hr3⟩ := hrel
        by_cases hkp : k < p
        · have hx := hA.out k hkp
          have hl3 := hr3.lt
          have hlen : (upTo tab none256 (p + k)).length = 256 := by simp only [upTo, List.length_append, List.length_take, List.length_drop, tab, none256, List.length_map, List.length_range, List.length_replicate]; omega
          have hc3 := hr3.cell (i := k) (by rw [hlen]; omega)
          rw [upTo_at tab none256 (p + k) k (by omega) (by simp only [tab, List.length_map, List.length_range]; omega), tab_at k (by omega)] at hc3
          have hc4 := hr3.cell (i := p + k) (by rw [hlen]; omega)
          have hf4 := hr3.free (p + k)
          have HN := Lib.hid (upTo_next tab none256 (p + k) (by simp only [tab, List.length_map, List.length_range]; omega) (by simp only [none256, List.length_replicate]; omega))
          rw [tab_at _ (by omega), hx] at HN
          obtain ⟨y, hy⟩ : ∃ y, y = (upTo tab none256 (p + k)).getD (p + k) 0 := ⟨_, rfl⟩
          obtain ⟨x, hxe⟩ : ∃ x, x = byteStep k := ⟨_, rfl⟩
          have hx1 : x < 2 ^ 32 := by rw [hxe]; exact byteStep_lt (by omega)
          rw [← hy] at hc4
          rw [← hxe] at hc3 HN
          have hxr := u32_x ch x hch1 hx1
          obtain ⟨q, hq⟩ : ∃ q, q = ch ^^^ x := ⟨_, rfl⟩
          rw [← hq] at hxr HN
          have R := Lib.hid (And.intro hbel (And.intro hr2 hr3))
          clear hy hxe hq hx hlen hr2 hr3 hbel hwr
          go_wp2
          obtain ⟨hbel, hr2, hr3⟩ := R.out
          have R2 : Below w.heap.size w (wr.setCell ⟨w.heap.size + 1, p + k, none⟩ (.int .u32 (q : Int))) ∧ Row (wr.setCell ⟨w.heap.size + 1, p + k, none⟩ (.int .u32 (q : Int))) w.heap.size 37 none256 ∧
              Row (wr.setCell ⟨w.heap.size + 1, p + k, none⟩ (.int .u32 (q : Int))) (w.heap.size + 1) 37 (upTo tab none256 (p + (k + 1))) :=
            ⟨hbel.setCell (by simp only []; omega) _, hr2.other _ _ (by simp only []; omega), by rw [← Nat.add_assoc, ← HN.out]; exact hr3.set _ _⟩
          clear hbel hr2 hr3
          go_roundw
          case rel => exact ⟨k + 1, by omega, by go_num, R2⟩
          case measure => simp [intOf]; omega
        · have hkp2 : k = p := by omega
          subst hkp2
          rw [← HD.out] at hr3
          have R2 : Below w.heap.size w wr ∧ Row wr w.heap.size 37 none256 ∧ Row wr (w.heap.size + 1) 37 (upTo tab none256 (2 ^ (j + 1))) := ⟨hbel, hr2, hr3⟩
          clear hbel hr2 hr3 hwr R
          go_wp2
          go_roundw
          case rel => exact ⟨j + 1, by omega, by go_num, R2⟩
          case measure => simp [intOf]; omega
    · have hj9 : j = 8 := by omega
      subst hj9
      have e3 : upTo tab none256 (2 ^ 8) = tab := upTo_all _ _ _ (by simp only [tab, List.length_map, List.length_range]; decide) (by simp only [none256, List.length_replicate]; decide)
      rw [e3] at hr3
      have hu := Try.underlying37
      have hi : (Try.prog.info? 37).map (·.size) = some (U tab).size := by rw [U_size]; kernel_rfl
      have ho : (U none256).size = (U tab).size := by rw [U_size, U_size]; kernel_rfl
      go_wp2_with (first
        | (refine wpList_load_row rfl 37 _ rfl (w.heap.size + 1) rfl 37 _ (0, 0) _ hr3 hu rfl hi ?_)
        | (refine wpList_store_row rfl 37 _ _ rfl w.heap.size _ rfl rfl 37 _ hr2 hi ho (U_one _) ?_))
      refine bodyPost_ret (v := .agg (U tab)) ?_ rfl ⟨rfl, below_setRow hbel (by omega) _⟩
      exact results_cell_row rfl _ _ w.heap.size 37 _ (0, 0) _ rfl (hr2.laid _) hu rfl hi
end Go.Proofs.Ytkikigpdcjkneaa
