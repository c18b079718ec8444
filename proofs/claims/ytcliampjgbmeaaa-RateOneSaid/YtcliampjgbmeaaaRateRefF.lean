/-
  The document's own Fill, Take and Filled.
-/
import Derived.Test.YtcliampjgbmeaaaRateRef
namespace Go.Proofs.Ytcliampjgbmeaaa
open Go.RowKit

def refFillK (k : Bk) (m : Int) : Bk := if fillE k m = 0 then ⟨min k.r (65536 * k.b), k.b, lev k m, m⟩ else zeroK

set_option maxHeartbeats 1600000 in
theorem refFill_no (k : Bk) (m : Int) (w : World) (h : fillE k m ≠ 0) : Calls Try.prog 32 #[k.V, .int .i64 m] w fun e w' => e = .returned (.tuple #[zeroK.V, .int .i64 (fillE k m)]) ∧ Below w.heap.size w w' := by
  have HS := Lib.hid (refSound_any k)
  have HB : ∀ a b c : Obj, Hid (Below w.heap.size w (((w.alloc a).alloc b).alloc c)) := fun a b c => (((Below.refl _ _).alloc (Nat.le_refl _) _).alloc (by simp) _).alloc (by simp; omega) _
  by_cases hs : soundB k = true
  · rw [hs] at HS
    have hE : fillE k m = 1 := by
      unfold fillE at h ⊢
      rw [if_pos hs] at h ⊢
      by_cases g : m < k.a ∨ m > 1099511627776
      · rw [if_pos g]
      · rw [if_neg g] at h; exact absurd rfl h
    have hm : m < k.a ∨ 1099511627776 < m := by
      rcases Int.lt_or_le m k.a with g | g
      · exact .inl g
      · rcases Int.lt_or_le 1099511627776 m with g2 | g2
        · exact .inr g2
        · exact absurd (fill_ok.2 ⟨hs, g, g2⟩) h
    rw [hE]
    clear hE h hs
    obtain ⟨r, b, l, a⟩ := k
    simp only [Bk.V] at HS ⊢
    simp only [] at hm
    by_cases c1 : m < a
    · clear hm
      go_enter Try.func32, Try.ntmps32
      go_wp2_with (go_at_call 35; with_reducible (refine Calls.mono (HS.out _) ?_); rintro e w1 ⟨rfl, rfl⟩)
      refine bodyPost_ret (results_row_tmp rfl _ _ (w.heap.size + 1) _ _ _ _ rfl ((Below.heap_alloc _ _ _ (by simp)).trans (new_at _ _ _ (by simp))) Try.underlying32 rfl (by kernel_rfl)) rfl ⟨rfl, (HB _ _ _).out⟩
    · have c2 : 1099511627776 < m := by omega
      have c3 : a ≤ m := by omega
      clear hm c1
      go_enter Try.func32, Try.ntmps32
      go_wp2_with (go_at_call 35; with_reducible (refine Calls.mono (HS.out _) ?_); rintro e w1 ⟨rfl, rfl⟩)
      refine bodyPost_ret (results_row_tmp rfl _ _ (w.heap.size + 1) _ _ _ _ rfl ((Below.heap_alloc _ _ _ (by simp)).trans (new_at _ _ _ (by simp))) Try.underlying32 rfl (by kernel_rfl)) rfl ⟨rfl, (HB _ _ _).out⟩
  · have hs' : soundB k = false := by simpa using hs
    rw [hs'] at HS
    have hE : fillE k m = 2 := by unfold fillE; rw [if_neg hs]
    rw [hE]
    clear hE h hs hs'
    obtain ⟨r, b, l, a⟩ := k
    simp only [Bk.V] at HS ⊢
    go_enter Try.func32, Try.ntmps32
    go_wp2_with (go_at_call 35; with_reducible (refine Calls.mono (HS.out _) ?_); rintro e w1 ⟨rfl, rfl⟩)
    refine bodyPost_ret (results_row_tmp rfl _ _ (w.heap.size + 1) _ _ _ _ rfl ((Below.heap_alloc _ _ _ (by simp)).trans (new_at _ _ _ (by simp))) Try.underlying32 rfl (by kernel_rfl)) rfl ⟨rfl, (HB _ _ _).out⟩

set_option maxHeartbeats 3200000 in
theorem refFill_go (k : Bk) (m : Int) (w : World) (h : fillE k m = 0) : Calls Try.prog 32 #[k.V, .int .i64 m] w fun e w' => e = .returned (.tuple #[Bk.V ⟨min k.r (65536 * k.b), k.b, lev k m, m⟩, .int .i64 0]) ∧ Below w.heap.size w w' := by
  have HS := Lib.hid (refSound_any k)
  have HB : ∀ a b c : Obj, Hid (Below w.heap.size w (((w.alloc a).alloc b).alloc c)) := fun a b c => (((Below.refl _ _).alloc (Nat.le_refl _) _).alloc (by simp) _).alloc (by simp; omega) _
  obtain ⟨hs, hm1, hm2⟩ := fill_ok.1 h
  have hlev := lev_capped hs hm1
  have hcb := capped_bounds hs hm1
  obtain ⟨s1, s2, s3, s4, s5, s6, s7, s8⟩ := (sound_iff k).1 hs
  rw [hs] at HS
  rw [hlev]
  clear h hlev hs
  obtain ⟨r, b, l, a⟩ := k
  simp only [Bk.V] at HS hm1 hm2 hcb s1 s2 s3 s4 s5 s6 s7 s8 ⊢
  obtain ⟨F, hF⟩ : ∃ F, 65536 * b = F := ⟨_, rfl⟩
  obtain ⟨s, hs⟩ : ∃ s, m - a = s := ⟨_, rfl⟩
  rw [hF] at hcb s6 ⊢
  rw [hs] at hcb ⊢
  have hF1 : 65536 ≤ F ∧ F ≤ 4194304 := by omega
  have hs1 : 0 ≤ s ∧ s ≤ 1099511627776 := by omega
  have HF1 := hF1.1
  have HF2 := hF1.2
  have hma : ¬ m < a := by omega
  have hmm : ¬ 1099511627776 < m := by omega
  by_cases A : F < s
  · have mA : min s F = F := by omega
    by_cases B : F < r
    · have mB : min r F = F := by omega
      rw [mA, mB] at hcb ⊢
      obtain ⟨p, hp⟩ : ∃ p, F * F = p := ⟨_, rfl⟩
      rw [hp] at hcb ⊢
      obtain ⟨hcb1, hcb2⟩ := hcb
      by_cases C : F < l + p
      · rw [show min (l + p) F = F by omega]
        clear mA mB
        go_enter Try.func32, Try.ntmps32
        go_wp2_with (go_at_call 35; with_reducible (refine Calls.mono (HS.out _) ?_); rintro e w1 ⟨rfl, rfl⟩)
        refine bodyPost_ret (results_row_tmp rfl _ _ (w.heap.size + 1) _ _ _ _ rfl ((Below.heap_alloc _ _ _ (by simp)).trans (new_at _ _ _ (by simp))) Try.underlying32 rfl (by kernel_rfl)) rfl ⟨rfl, (HB _ _ _).out⟩
      · rw [show min (l + p) F = l + p by omega]
        clear mA mB
        go_enter Try.func32, Try.ntmps32
        go_wp2_with (go_at_call 35; with_reducible (refine Calls.mono (HS.out _) ?_); rintro e w1 ⟨rfl, rfl⟩)
        refine bodyPost_ret (results_row_tmp rfl _ _ (w.heap.size + 1) _ _ _ _ rfl ((Below.heap_alloc _ _ _ (by simp)).trans (new_at _ _ _ (by simp))) Try.underlying32 rfl (by kernel_rfl)) rfl ⟨rfl, (HB _ _ _).out⟩
    · have mB : min r F = r := by omega
      rw [mA, mB] at hcb ⊢
      obtain ⟨p, hp⟩ : ∃ p, r * F = p := ⟨_, rfl⟩
      rw [hp] at hcb ⊢
      obtain ⟨hcb1, hcb2⟩ := hcb
      by_cases C : F < l + p
      · rw [show min (l + p) F = F by omega]
        clear mA mB
        go_enter Try.func32, Try.ntmps32
        go_wp2_with (go_at_call 35; with_reducible (refine Calls.mono (HS.out _) ?_); rintro e w1 ⟨rfl, rfl⟩)
        refine bodyPost_ret (results_row_tmp rfl _ _ (w.heap.size + 1) _ _ _ _ rfl ((Below.heap_alloc _ _ _ (by simp)).trans (new_at _ _ _ (by simp))) Try.underlying32 rfl (by kernel_rfl)) rfl ⟨rfl, (HB _ _ _).out⟩
      · rw [show min (l + p) F = l + p by omega]
        clear mA mB
        go_enter Try.func32, Try.ntmps32
        go_wp2_with (go_at_call 35; with_reducible (refine Calls.mono (HS.out _) ?_); rintro e w1 ⟨rfl, rfl⟩)
        refine bodyPost_ret (results_row_tmp rfl _ _ (w.heap.size + 1) _ _ _ _ rfl ((Below.heap_alloc _ _ _ (by simp)).trans (new_at _ _ _ (by simp))) Try.underlying32 rfl (by kernel_rfl)) rfl ⟨rfl, (HB _ _ _).out⟩
  · have mA : min s F = s := by omega
    by_cases B : F < r
    · have mB : min r F = F := by omega
      rw [mA, mB] at hcb ⊢
      obtain ⟨p, hp⟩ : ∃ p, F * s = p := ⟨_, rfl⟩
      rw [hp] at hcb ⊢
      obtain ⟨hcb1, hcb2⟩ := hcb
      by_cases C : F < l + p
      · rw [show min (l + p) F = F by omega]
        clear mA mB
        go_enter Try.func32, Try.ntmps32
        go_wp2_with (go_at_call 35; with_reducible (refine Calls.mono (HS.out _) ?_); rintro e w1 ⟨rfl, rfl⟩)
        refine bodyPost_ret (results_row_tmp rfl _ _ (w.heap.size + 1) _ _ _ _ rfl ((Below.heap_alloc _ _ _ (by simp)).trans (new_at _ _ _ (by simp))) Try.underlying32 rfl (by kernel_rfl)) rfl ⟨rfl, (HB _ _ _).out⟩
      · rw [show min (l + p) F = l + p by omega]
        clear mA mB
        go_enter Try.func32, Try.ntmps32
        go_wp2_with (go_at_call 35; with_reducible (refine Calls.mono (HS.out _) ?_); rintro e w1 ⟨rfl, rfl⟩)
        refine bodyPost_ret (results_row_tmp rfl _ _ (w.heap.size + 1) _ _ _ _ rfl ((Below.heap_alloc _ _ _ (by simp)).trans (new_at _ _ _ (by simp))) Try.underlying32 rfl (by kernel_rfl)) rfl ⟨rfl, (HB _ _ _).out⟩
    · have mB : min r F = r := by omega
      rw [mA, mB] at hcb ⊢
      obtain ⟨p, hp⟩ : ∃ p, r * s = p := ⟨_, rfl⟩
      rw [hp] at hcb ⊢
      obtain ⟨hcb1, hcb2⟩ := hcb
      by_cases C : F < l + p
      · rw [show min (l + p) F = F by omega]
        clear mA mB
        go_enter Try.func32, Try.ntmps32
        go_wp2_with (go_at_call 35; with_reducible (refine Calls.mono (HS.out _) ?_); rintro e w1 ⟨rfl, rfl⟩)
        refine bodyPost_ret (results_row_tmp rfl _ _ (w.heap.size + 1) _ _ _ _ rfl ((Below.heap_alloc _ _ _ (by simp)).trans (new_at _ _ _ (by simp))) Try.underlying32 rfl (by kernel_rfl)) rfl ⟨rfl, (HB _ _ _).out⟩
      · rw [show min (l + p) F = l + p by omega]
        clear mA mB
        go_enter Try.func32, Try.ntmps32
        go_wp2_with (go_at_call 35; with_reducible (refine Calls.mono (HS.out _) ?_); rintro e w1 ⟨rfl, rfl⟩)
        refine bodyPost_ret (results_row_tmp rfl _ _ (w.heap.size + 1) _ _ _ _ rfl ((Below.heap_alloc _ _ _ (by simp)).trans (new_at _ _ _ (by simp))) Try.underlying32 rfl (by kernel_rfl)) rfl ⟨rfl, (HB _ _ _).out⟩

end Go.Proofs.Ytcliampjgbmeaaa
