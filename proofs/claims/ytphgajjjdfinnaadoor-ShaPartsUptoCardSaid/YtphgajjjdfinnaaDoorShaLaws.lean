/-
  Laws of layer 3 as walks, from what is asked of the layer's calls. Conditions: those properties; what comes in is of its type.
-/
import Derived.Test.YtphgajjjdfinnaaDoorShaSpec
import Derived.Deep.RegionHeld3
import Derived.Deep.TreeCalls
import Derived.Deep.RegionWith
namespace Go.Proofs.YtphgajjjdfinnaaDoor
open Go.RowKit

theorem shaDigests_go (A : Option Addr) (c : Nat) (b : List Nat) (w : World) (HD : DigestSpec w) (HR : RefSpec) (hr : Ints w w.heap.size .u8 A (up b)) (hA : A = none → c = 0) (hb : ∀ x ∈ b, x < 256) (hc : b.length ≤ c) (hm : b.length ≤ 140737488355000) :
    Calls Tryd.prog 3 #[.slice A b.length c] w fun e w' => e = .returned (.bool true) ∧ Below w.heap.size w w' := by
  have HA := Lib.hid (shaAwake HD)
  have H1 := Lib.hid (HD A c b w (Below.refl _ _) hr hA hb hc hm)
  have H2 := Lib.hid (fun w1 (hbel : Below w.heap.size w w1) => HR A c b w1 ((hr.below hbel).more hbel.size) hA hb hm)
  have HI : Hid ((Tryd.prog.info? 23).map (·.size) = some (BA (digestN b)).size) := by unfold Hid; rw [BA_size, digest_len]; kernel_rfl
  have HO : Hid (zero32.size = (BA (digestN b)).size) := by unfold Hid; rw [BA_size, digest_len]; rfl
  have H1' : Hid ((BA (digestN b)).all (·.oneCell') = true) := BA_one _
  have HT : Hid (∀ (W : World) (g B : Nat) (t : TypeId) (fr : Nat × Nat), W.heap[g]? = some (.cells (BA (digestN b)) t fr) → g < B → Ints W B .u8 (some ⟨g, 0, none⟩) (up (digestN b))) := fun W g B t fr h hg => ints_of_BA h hg
  have HL : Hid ((up (digestN b)).length = 32) := by unfold Hid; rw [up_len, digest_len]
  clear HD HR hr hA hb hc hm
  obtain ⟨D, hD⟩ : ∃ D, D = BA (digestN b) := ⟨_, rfl⟩
  rw [← hD] at H1 HI HO H1' HT
  obtain ⟨d, hd⟩ : ∃ d, d = up (digestN b) := ⟨_, rfl⟩
  rw [← hd] at H2 HT HL
  obtain ⟨n, hn⟩ : ∃ n, n = b.length := ⟨_, rfl⟩
  rw [← hn] at H1 H2 ⊢
  obtain ⟨t, ht⟩ : ∃ t, strOfNums d = t := ⟨_, rfl⟩
  have HST := Lib.hid ht
  clear hD hd hn ht
  go_enter Tryd.func3, Tryd.ntmps3
  go_wp2_with (first
    | (go_at_call 7; refine Calls.mono H1.out ?_; rintro e w1 ⟨rfl, hb1⟩)
    | (refine wpList_store_fresh rfl 23 _ _ rfl w1.heap.size _ rfl rfl 23 zero32 (heap_alloc_new _ _) HI.out HO.out H1'.out (hb1.alloc hb1.size _) hb1.size ?_; intro W hW hbW hkW hsW; clear hkW))
  have hgW : w1.heap.size < W.heap.size := by rw [hsW]; simp
  have HS : Hid (∀ w' : World, Below W.heap.size W w' → Below w.heap.size w w' ∧ (convert 22 9 (.slice (some ⟨w1.heap.size, 0, none⟩) 32 32)).run Tryd.prog w' = .ok (.string t) w') := fun w' hb' =>
    ⟨chain hbW hb', (HT.out w' w1.heap.size W.heap.size _ _ (row_keep hW hb' hgW) hgW).textAs Tryd.underlying22 Tryd.underlying5 Tryd.underlying9 HL.out HST.out 32⟩
  simp only [Act.put]
  clear hbW hW hsW
  go_region_with (first
    | (go_at_call 8; refine Calls.mono (HA.out _ (HS.out _ ((Below.refl _ _).drew)).1) ?_; rintro e w2 ⟨rfl, hbq⟩; have hb2 : Below W.heap.size W w2 := ((Below.refl _ _).drew).trans hbq; have hk2 := (HS.out _ hb2).2)
    | (go_at_call 9; refine Calls.mono (H2.out _ (HS.out _ hb2).1) ?_; rintro e w3 ⟨A3, c3, rfl, hc3, hi3, hb3⟩; have hb4 := chain hb2 hb3; have hk3 := (HS.out _ hb4).2; have hk4 := hi3.textAs (P := Tryd.prog) (n := 32) (t := t) Tryd.underlying22 Tryd.underlying5 Tryd.underlying9 HL.out HST.out c3))
  all_goals (go_wp2; go_ret; exact ⟨rfl, (HS.out _ hb4).1⟩)

end Go.Proofs.YtphgajjjdfinnaaDoor
