/-
  The document's own buckets.
-/
import Derived.Test.YtcliampjgbmeaaaRateNums
import Derived.Test.YtcliampjgbmeaaaWords
import Derived.Test.YtcliampjgbmeaaaChecked
import Derived.Tactics
import Derived.Tactics2
import Derived.LoopTactic
import Derived.OpenShut
import Derived.Laws.StructEq
import Derived.Laws.ResultCell
import Derived.Laws.Rows
namespace Go.Proofs.Ytcliampjgbmeaaa
open Go.RowKit

/-- A struct in memory and a number are handed back. -/
theorem results_row_tmp {P : Program} {fn : Func} {p u : Tmp} {ty : TypeId} (h : fn.results = #[.cell p ty, .tmp u]) (tmps : Array Value) (w : World) (g : Nat) (t : TypeId) (cs : Array Value) (fr : Nat × Nat) (d : TypeDesc)
    (hp : tmps.getD p undef = .pointer (some ⟨g, 0, none⟩)) (hg : w.heap[g]? = some (.cells cs t fr))
    (hu : P.underlying ty = some d) (hd : (match d with | .struct _ | .array _ _ => true | _ => false) = true) (hi : (P.info? ty).map (·.size) = some cs.size) :
    (results fn tmps).run P w = .ok (.tuple #[.agg cs, tmps.getD u undef]) w := by
  have hp' : tmps[p]?.getD undef = .pointer (some ⟨g, 0, none⟩) := by simpa using hp
  simp [results, h, hp', asAddr, run_loadVar_row w g t ty cs fr d hg hu hd hi]

theorem new_at (w : World) (o : Obj) (g : Nat) (h : g = w.heap.size) : (w.alloc o).heap[g]? = some o := h ▸ heap_alloc_new w o
/-- A bucket's cells. -/
def Bk.C (k : Bk) : Array Value := #[.int .i64 k.r, .int .i64 k.b, .int .i64 k.l, .int .i64 k.a]
theorem bkCells {W : World} {g : Nat} {t : TypeId} {r b l a : Int} (h : W.heap[g]? = some (.cells #[.int .i64 r, .int .i64 b, .int .i64 l, .int .i64 a] t (0, 0))) :
    W.cell? ⟨g, 0, none⟩ = some (.int .i64 r) ∧ W.cell? ⟨g, 1, none⟩ = some (.int .i64 b) ∧ W.cell? ⟨g, 2, none⟩ = some (.int .i64 l) ∧ W.cell? ⟨g, 3, none⟩ = some (.int .i64 a) ∧
    W.frozen? ⟨g, 0, none⟩ = false ∧ W.frozen? ⟨g, 1, none⟩ = false ∧ W.frozen? ⟨g, 2, none⟩ = false ∧ W.frozen? ⟨g, 3, none⟩ = false :=
  ⟨cell_of_row W g 0 _ _ _ h, cell_of_row W g 1 _ _ _ h, cell_of_row W g 2 _ _ _ h, cell_of_row W g 3 _ _ _ h, frozen_of_row W g 0 _ _ h, frozen_of_row W g 1 _ _ h, frozen_of_row W g 2 _ _ h, frozen_of_row W g 3 _ _ h⟩

set_option maxHeartbeats 1600000 in
theorem refSound_any (k : Bk) (w : World) : Calls Try.prog 35 #[k.V] w fun e w' => e = .returned (.bool (soundB k)) ∧ w' = w.alloc (.cells #[.int .i64 k.r, .int .i64 k.b, .int .i64 k.l, .int .i64 k.a] 32) := by
  obtain ⟨r, b, l, a⟩ := k
  simp only [Bk.V]
  by_cases c1 : 0 ≤ r
  · skip
    by_cases c2 : r ≤ 4294967296
    · skip
      by_cases c3 : 1 ≤ b
      · skip
        by_cases c4 : b ≤ 64
        · skip
          by_cases c5 : 0 ≤ l
          · skip
            by_cases c6 : l ≤ 65536 * b
            · skip
              by_cases c7 : 0 ≤ a
              · skip
                by_cases c8 : a ≤ 1099511627776
                · skip
                  have hS : soundB ⟨r, b, l, a⟩ = true := decide_eq_true ⟨c1, c2, c3, c4, c5, c6, c7, c8⟩
                  rw [hS]
                  clear hS
                  go_enter Try.func35, Try.ntmps35
                  go_wp2
                  go_ret
                  first | exact ⟨rfl, rfl⟩ | exact ⟨ret_bool (by simp; omega), rfl⟩
                · have c8n : 1099511627776 < a := by omega
                  have hS : soundB ⟨r, b, l, a⟩ = false := decide_eq_false (fun h => by have := h; simp only [] at this; omega)
                  rw [hS]
                  clear hS c8
                  go_enter Try.func35, Try.ntmps35
                  go_wp2
                  go_ret
                  first | exact ⟨rfl, rfl⟩ | exact ⟨ret_bool (by simp; omega), rfl⟩
              · have c7n : a < 0 := by omega
                have hS : soundB ⟨r, b, l, a⟩ = false := decide_eq_false (fun h => by have := h; simp only [] at this; omega)
                rw [hS]
                clear hS c7
                go_enter Try.func35, Try.ntmps35
                go_wp2
                go_ret
                first | exact ⟨rfl, rfl⟩ | exact ⟨ret_bool (by simp; omega), rfl⟩
            · have c6n : 65536 * b < l := by omega
              have hS : soundB ⟨r, b, l, a⟩ = false := decide_eq_false (fun h => by have := h; simp only [] at this; omega)
              rw [hS]
              clear hS c6
              go_enter Try.func35, Try.ntmps35
              go_wp2
              go_ret
              first | exact ⟨rfl, rfl⟩ | exact ⟨ret_bool (by simp; omega), rfl⟩
          · have c5n : l < 0 := by omega
            have hS : soundB ⟨r, b, l, a⟩ = false := decide_eq_false (fun h => by have := h; simp only [] at this; omega)
            rw [hS]
            clear hS c5
            go_enter Try.func35, Try.ntmps35
            go_wp2
            go_ret
            first | exact ⟨rfl, rfl⟩ | exact ⟨ret_bool (by simp; omega), rfl⟩
        · have c4n : 64 < b := by omega
          have hS : soundB ⟨r, b, l, a⟩ = false := decide_eq_false (fun h => by have := h; simp only [] at this; omega)
          rw [hS]
          clear hS c4
          go_enter Try.func35, Try.ntmps35
          go_wp2
          go_ret
          first | exact ⟨rfl, rfl⟩ | exact ⟨ret_bool (by simp; omega), rfl⟩
      · have c3n : b < 1 := by omega
        have hS : soundB ⟨r, b, l, a⟩ = false := decide_eq_false (fun h => by have := h; simp only [] at this; omega)
        rw [hS]
        clear hS c3
        go_enter Try.func35, Try.ntmps35
        go_wp2
        go_ret
        first | exact ⟨rfl, rfl⟩ | exact ⟨ret_bool (by simp; omega), rfl⟩
    · have c2n : 4294967296 < r := by omega
      have hS : soundB ⟨r, b, l, a⟩ = false := decide_eq_false (fun h => by have := h; simp only [] at this; omega)
      rw [hS]
      clear hS c2
      go_enter Try.func35, Try.ntmps35
      go_wp2
      go_ret
      first | exact ⟨rfl, rfl⟩ | exact ⟨ret_bool (by simp; omega), rfl⟩
  · have c1n : r < 0 := by omega
    have hS : soundB ⟨r, b, l, a⟩ = false := decide_eq_false (fun h => by have := h; simp only [] at this; omega)
    rw [hS]
    clear hS c1
    go_enter Try.func35, Try.ntmps35
    go_wp2
    go_ret
    first | exact ⟨rfl, rfl⟩ | exact ⟨ret_bool (by simp; omega), rfl⟩

set_option maxHeartbeats 1600000 in
theorem refNew_any (r b a : Int) (w : World) : Calls Try.prog 21 #[.int .i64 r, .int .i64 b, .int .i64 a] w fun e w' => e = .returned (.tuple #[(newK r b a).V, .int .i64 (newE r b a)]) ∧ Below w.heap.size w w' := by
  by_cases c1 : ¬ r < 0
  · skip
    by_cases c2 : ¬ r > 4294967296
    · skip
      by_cases c3 : ¬ b < 1
      · skip
        by_cases c4 : ¬ b > 64
        · skip
          by_cases c7 : ¬ a < 0
          · skip
            by_cases c8 : ¬ a > 1099511627776
            · skip
              have hE : newE r b a = 0 := by unfold newE; rw [if_neg (by omega)]
              have hK : newK r b a = ⟨r, b, 65536 * b, a⟩ := by unfold newK; rw [hE]; rfl
              rw [hE, hK]
              clear hE hK
              go_enter Try.func21, Try.ntmps21
              go_wp2
              refine bodyPost_ret (results_row_tmp rfl _ _ w.heap.size _ _ _ _ rfl (heap_alloc_new _ _) Try.underlying32 rfl (by kernel_rfl)) rfl ⟨rfl, (Below.refl _ _).alloc (Nat.le_refl _) _⟩
            · have c8n : 1099511627776 < a := by omega
              have hE : newE r b a = 1 := by unfold newE; rw [if_pos (by omega)]
              have hK : newK r b a = zeroK := by unfold newK; rw [hE]; rfl
              rw [hE, hK]
              clear hE hK c8
              go_enter Try.func21, Try.ntmps21
              go_wp2
              refine bodyPost_ret (results_row_tmp rfl _ _ w.heap.size _ _ _ _ rfl (heap_alloc_new _ _) Try.underlying32 rfl (by kernel_rfl)) rfl ⟨rfl, (Below.refl _ _).alloc (Nat.le_refl _) _⟩
          · have c7n : a < 0 := by omega
            have hE : newE r b a = 1 := by unfold newE; rw [if_pos (by omega)]
            have hK : newK r b a = zeroK := by unfold newK; rw [hE]; rfl
            rw [hE, hK]
            clear hE hK c7
            go_enter Try.func21, Try.ntmps21
            go_wp2
            refine bodyPost_ret (results_row_tmp rfl _ _ w.heap.size _ _ _ _ rfl (heap_alloc_new _ _) Try.underlying32 rfl (by kernel_rfl)) rfl ⟨rfl, (Below.refl _ _).alloc (Nat.le_refl _) _⟩
        · have c4n : 64 < b := by omega
          have hE : newE r b a = 1 := by unfold newE; rw [if_pos (by omega)]
          have hK : newK r b a = zeroK := by unfold newK; rw [hE]; rfl
          rw [hE, hK]
          clear hE hK c4
          go_enter Try.func21, Try.ntmps21
          go_wp2
          refine bodyPost_ret (results_row_tmp rfl _ _ w.heap.size _ _ _ _ rfl (heap_alloc_new _ _) Try.underlying32 rfl (by kernel_rfl)) rfl ⟨rfl, (Below.refl _ _).alloc (Nat.le_refl _) _⟩
      · have c3n : b < 1 := by omega
        have hE : newE r b a = 1 := by unfold newE; rw [if_pos (by omega)]
        have hK : newK r b a = zeroK := by unfold newK; rw [hE]; rfl
        rw [hE, hK]
        clear hE hK c3
        go_enter Try.func21, Try.ntmps21
        go_wp2
        refine bodyPost_ret (results_row_tmp rfl _ _ w.heap.size _ _ _ _ rfl (heap_alloc_new _ _) Try.underlying32 rfl (by kernel_rfl)) rfl ⟨rfl, (Below.refl _ _).alloc (Nat.le_refl _) _⟩
    · have c2n : 4294967296 < r := by omega
      have hE : newE r b a = 1 := by unfold newE; rw [if_pos (by omega)]
      have hK : newK r b a = zeroK := by unfold newK; rw [hE]; rfl
      rw [hE, hK]
      clear hE hK c2
      go_enter Try.func21, Try.ntmps21
      go_wp2
      refine bodyPost_ret (results_row_tmp rfl _ _ w.heap.size _ _ _ _ rfl (heap_alloc_new _ _) Try.underlying32 rfl (by kernel_rfl)) rfl ⟨rfl, (Below.refl _ _).alloc (Nat.le_refl _) _⟩
  · have c1n : r < 0 := by omega
    have hE : newE r b a = 1 := by unfold newE; rw [if_pos (by omega)]
    have hK : newK r b a = zeroK := by unfold newK; rw [hE]; rfl
    rw [hE, hK]
    clear hE hK c1
    go_enter Try.func21, Try.ntmps21
    go_wp2
    refine bodyPost_ret (results_row_tmp rfl _ _ w.heap.size _ _ _ _ rfl (heap_alloc_new _ _) Try.underlying32 rfl (by kernel_rfl)) rfl ⟨rfl, (Below.refl _ _).alloc (Nat.le_refl _) _⟩

end Go.Proofs.Ytcliampjgbmeaaa
