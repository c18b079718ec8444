/-
  The landed disk: demand, has, spend, bytes; attempt.
-/
import Derived.Test.YtnbgnllkikajpaaDiskC1
import Derived.Tactics
import Derived.Tactics2
import Derived.Defers
import Derived.Recover
import Derived.Laws.Pointers
import Derived.OpenShut
import Derived.WalkLawsBesides
import Derived.BigQuiet
import Derived.Shelf.RegionOpenPlain
import Derived.Deep.WholeRow
namespace Go.Proofs.Ytnbgnllkikajpaa
open Go.RowKit

/-- What is given up with. -/
def upV (c : Int) : List PanicEntry := [{ v := .iface 24 (.int .i64 c), recovered := false }]

theorem demand_ok (c : Int) (w : World) : Calls Try.prog 25 #[.bool true, .int .i64 c] w fun e w' => e = .returned (.tuple #[]) ∧ w' = w := by
  have hnot : ∀ (x : Bool) (w : World), (Op.unary .not (.bool x)).run Try.prog w = .ok (.bool (!x)) w := fun _ _ => rfl
  go_enter Try.func25, Try.ntmps25
  go_wp2
  exact bodyPost_end (results_none rfl _ _ _) rfl ⟨rfl, rfl⟩
theorem demand_no (c : Int) (w : World) : Calls Try.prog 25 #[.bool false, .int .i64 c] w fun e w' => e = .panicked (upV c) ∧ w' = w := by
  have hnot : ∀ (x : Bool) (w : World), (Op.unary .not (.bool x)).run Try.prog w = .ok (.bool (!x)) w := fun _ _ => rfl
  go_enter Try.func25, Try.ntmps25
  go_wp2
  exact ⟨rfl, rfl, rfl⟩

theorem assertE (c : Int) (w : World) : (Instr.typeAssert (.iface 24 (.int .i64 c)) 20 24 false).run Try.prog w = .ok (.int .i64 c) w := by kernel_rfl

theorem catch_up (a : Addr) (x c : Int) (w : World) (hc : w.cell? a = some (.int .i64 x)) (hz : w.frozen? a = false) :
    CallsD Try.prog 38 #[.pointer (some a)] (.panicking (upV c)) w fun e u' w' =>
      e = .returned (.tuple #[]) ∧ u' = .panicking [{ v := .iface 24 (.int .i64 c), recovered := true }] ∧ w' = w.setCell a (.int .i64 c) := by
  refine callsD_of_wpS Try.func38 rfl fun c₀ cs hu => ?_
  unfold upV at hu
  apply wpS_seq
  apply wpS_region
  simp [wpOpsS, go_sem, recoverD, hu, Try.ntmps38, Exit.thenS]
  apply wpS_seq
  apply wpS_region
  simp [wpOpsS, go_sem, Exit.thenS]
  refine wpS_cond (t := true) (by simp [Act.eval, Array.replicate]) ?_
  simp only [if_true]
  apply wpS_region
  simp [wpOpsS, go_sem, assertE, hc, hz, bodyPostS, results, Try.results38]

theorem catch_idle (a : Addr) (w : World) :
    CallsD Try.prog 38 #[.pointer (some a)] .returning w fun e u' w' => e = .returned (.tuple #[]) ∧ u' = .returning ∧ w' = w := by
  refine callsD_of_wpS Try.func38 rfl fun c₀ cs hu => ?_
  apply wpS_seq
  apply wpS_region
  simp [wpOpsS, go_sem, recoverD, hu, Try.ntmps38, Exit.thenS]
  apply wpS_seq
  apply wpS_region
  simp [wpOpsS, go_sem, Exit.thenS]
  refine wpS_cond (t := false) (by simp [Act.eval, Array.replicate]) ?_
  simp only [Bool.false_eq_true, if_false]
  refine wpS_of_wp (wp_skip ?_)
  cases c₀
  simp_all [bodyPostS, results, Try.results38]

section
variable {p : Nat}
/-- What is done of a disk, and comes to its end. -/
theorem attempt_ok (fid : FuncId) (cap : Array Value) (Q : World → Prop) (w : World) (he : ∀ args w, (callFunc fid args).run Try.prog w = .ok (.enter fid args) w)
    (hcall : Calls Try.prog fid cap (w.alloc (.cells #[.int .i64 0] 24)) fun e w' => e = .returned (.tuple #[]) ∧ Q w')
    (hQ : ∀ W, Q W → W.heap[w.heap.size]? = some (.cells #[.int .i64 0] 24 (0, 0))) :
    Calls Try.prog 23 #[.pointer (some ⟨p, 0, none⟩), .func (.func fid) #[] cap] w fun e w' => e = .returned (.int .i64 0) ∧ ∃ W, Q W ∧ w' = W.setCell ⟨w.heap.size, 0, none⟩ (.int .i64 0) := by
  have hmf : ∀ (fn : Fn) (first cap : Array Value) (w : World), (Instr.makeFunc fn first cap).run Try.prog w = .ok (.func fn first cap) w := fun _ _ _ _ => rfl
  have HC := Lib.hid hcall
  have HQ := Lib.hid hQ
  clear hcall hQ
  have eg := he
  go_enter_defers Try.func23, Try.ntmps23
  go_wp2_with (go_at_fn fid; with_reducible (refine Calls.mono HC.out ?_); rintro e w2 ⟨rfl, hq2⟩
               have hc := HQ.out _ hq2
               have c0 : w2.cell? ⟨w.heap.size, 0, none⟩ = some (.int .i64 0) := cell_of_row _ _ _ _ _ _ hc
               have f0 : w2.frozen? ⟨w.heap.size, 0, none⟩ = false := frozen_of_row _ _ _ _ _ hc)
  refine leaves_cons (f := 38) (args := #[.pointer (some ⟨w.heap.size, 0, none⟩)]) (by simp) (by simp [go_sem]) ?_
  refine (catch_idle ⟨w.heap.size, 0, none⟩ _).mono ?_
  rintro e u' w'' ⟨rfl, rfl, rfl⟩
  have hc2 := setc_same w2 w.heap.size 0 (.int .i64 0) _ _ hc
  have c1 : (w2.setCell ⟨w.heap.size, 0, none⟩ (.int .i64 0)).cell? ⟨w.heap.size, 0, none⟩ = some (.int .i64 0) := cell_of_row _ _ _ _ _ _ hc2
  simp [Leaves, settle, results, Try.results23, go_sem, c1]
  exact ⟨w2, hq2, rfl⟩

/-- What is done of a disk, and is given up. -/
theorem attempt_no (fid : FuncId) (cap : Array Value) (c : Int) (Q : World → Prop) (w : World) (he : ∀ args w, (callFunc fid args).run Try.prog w = .ok (.enter fid args) w)
    (hcall : Calls Try.prog fid cap (w.alloc (.cells #[.int .i64 0] 24)) fun e w' => e = .panicked (upV c) ∧ Q w')
    (hQ : ∀ W, Q W → W.heap[w.heap.size]? = some (.cells #[.int .i64 0] 24 (0, 0))) :
    Calls Try.prog 23 #[.pointer (some ⟨p, 0, none⟩), .func (.func fid) #[] cap] w fun e w' => e = .returned (.int .i64 c) ∧ ∃ W, Q W ∧ w' = W.setCell ⟨w.heap.size, 0, none⟩ (.int .i64 c) := by
  have hmf : ∀ (fn : Fn) (first cap : Array Value) (w : World), (Instr.makeFunc fn first cap).run Try.prog w = .ok (.func fn first cap) w := fun _ _ _ _ => rfl
  have HC := Lib.hid hcall
  have HQ := Lib.hid hQ
  clear hcall hQ
  have eg := he
  go_enter_defers Try.func23, Try.ntmps23
  go_wp2_with (go_at_fn fid; with_reducible (refine Calls.mono HC.out ?_); rintro e w2 ⟨rfl, hq2⟩
               have hc := HQ.out _ hq2
               have c0 : w2.cell? ⟨w.heap.size, 0, none⟩ = some (.int .i64 0) := cell_of_row _ _ _ _ _ _ hc
               have f0 : w2.frozen? ⟨w.heap.size, 0, none⟩ = false := frozen_of_row _ _ _ _ _ hc)
  refine leaves_cons (f := 38) (args := #[.pointer (some ⟨w.heap.size, 0, none⟩)]) (by simp) (by simp [go_sem]) ?_
  refine (catch_up ⟨w.heap.size, 0, none⟩ 0 c _ c0 f0).mono ?_
  rintro e u' w'' ⟨rfl, rfl, rfl⟩
  have hc2 := setc_same w2 w.heap.size 0 (.int .i64 c) _ _ hc
  have c1 : (w2.setCell ⟨w.heap.size, 0, none⟩ (.int .i64 c)).cell? ⟨w.heap.size, 0, none⟩ = some (.int .i64 c) := cell_of_row _ _ _ _ _ _ hc2
  simp [Leaves, settle, results, Try.results23, go_sem, c1]
  exact ⟨w2, hq2, rfl⟩

/-- A disk that is none. -/
theorem attempt_nil (v : Value) (w : World) : Calls Try.prog 23 #[.pointer none, v] w fun e w' => e = .returned (.int .i64 11) ∧ Below w.heap.size w w' := by
  have hb : Hid (Below w.heap.size w (w.alloc (.cells #[.int .i64 11] 24))) := (Below.refl _ _).alloc (Nat.le_refl _) _
  go_enter_defers Try.func23, Try.ntmps23
  go_wp2
  simp [bodyPostD, Leaves, results, Try.results23, go_sem]
  exact hb.out
end

section
variable {w : World} {p gl gn : Nat} {V : Value} {z : Int} {DL : DataW Value} {DN : DataW Unit} {s : Dk}
theorem has_yes (h : DiskIn w p gl gn V z DL DN s) (n : Int) (ho : ¬ outD s n) : Calls Try.prog 26 #[.pointer (some ⟨p, 0, none⟩), .int .i64 n] w fun e w' => e = .returned (.bool true) ∧ w' = w := by
  obtain ⟨c0, _⟩ := h.cells
  obtain ⟨i, rfl, hi⟩ := not_out ho
  have k0 : (0 : Int) ≤ (i : Int) := by omega
  have k1 : (i : Int) < (s.last.length : Int) := by omega
  obtain ⟨N, hN⟩ : ∃ N : Int, N = (s.last.length : Int) := ⟨_, rfl⟩
  rw [← hN] at c0 k1
  clear h ho hi hN
  go_enter Try.func26, Try.ntmps26
  go_wp2
  go_ret
  exact ⟨rfl, rfl⟩
theorem has_no (h : DiskIn w p gl gn V z DL DN s) (n : Int) (ho : outD s n) : Calls Try.prog 26 #[.pointer (some ⟨p, 0, none⟩), .int .i64 n] w fun e w' => e = .returned (.bool false) ∧ w' = w := by
  obtain ⟨c0, _⟩ := h.cells
  obtain ⟨N, hN⟩ : ∃ N : Int, N = (s.last.length : Int) := ⟨_, rfl⟩
  unfold outD at ho
  rw [← hN] at c0 ho
  by_cases k0 : n < 0
  · have k1 : ¬ 0 ≤ n := by omega
    clear h hN ho k0
    go_enter Try.func26, Try.ntmps26
    go_wp2
    go_ret
    exact ⟨rfl, rfl⟩
  · have k1 : 0 ≤ n := by omega
    have k2 : ¬ n < N := by omega
    clear h hN ho k0
    go_enter Try.func26, Try.ntmps26
    go_wp2
    go_ret
    exact ⟨rfl, rfl⟩
end

theorem bytes_go (t : List Nat) (ht : t.length = 64) (w : World) : Calls Try.prog 31 #[secV t] w fun e w' => e = .returned (.slice (some ⟨w.heap.size, 0, none⟩) 64 64) ∧ w' = w.alloc (.cells (BA t) 65) := by
  unfold secV
  have hB : (BA t).size = 64 := by rw [BA_size, ht]
  obtain ⟨C, hC⟩ : ∃ C, C = BA t := ⟨_, rfl⟩
  rw [← hC] at hB ⊢
  clear hC ht
  go_enter Try.func31, Try.ntmps31
  go_wp2
  go_ret
  exact ⟨rfl, rfl⟩

theorem Try.und64 : Try.prog.underlying 65 = some (.array 64 5) := by kernel_rfl
/-- A struct or an array is built of values. -/
theorem wpList_buildL {P : Program} {w : World} {ops : Array Oper} {rest : List Oper} {o : Oper} {a : Act} {Q : Exit → Act → World → Prop} (hgd : o.guard = none) (t : TypeId) (parts : Array (Nat × Operand)) (ho : o.op = .build t parts)
    (vs : Array (Nat × Value)) (hv : parts.map (fun (i, x) => (i, a.eval x)) = vs) (cells : Array Value) (hb : (Instr.build t vs).run P w = .ok (.agg cells) w) (h : wpList P ops Q rest (a.put o.dst (.agg cells)) w) : wpList P ops Q (o :: rest) a w := by
  refine wpList_plain hgd fun K hK => ?_
  unfold Oper.wp execOp
  simp only [ho, hv, hb, Sem.run_bind, Sem.run_pure, Result.andThen_ok]
  exact hK _ _ h
theorem eqSec {t : List Nat} (ht : t.length = 64) {C Z : Array Value} (hC : C = BA t) (hZ : Z = BA zeroSec) (W : World) : (Op.equalIn 10000 65 (.agg C) (.agg Z)).run Try.prog W = .ok (t == zeroSec) W := by
  obtain ⟨i, hi, hs⟩ : ∃ i, Try.prog.info? 5 = some i ∧ i.size = 1 := by
    have e : (Try.prog.info? 5).map (fun i => i.size) = some 1 := by kernel_rfl
    simpa using e
  rw [hC, hZ]
  exact run_eqArrays (P := Try.prog) (t := 65) (e := 5) (n := 64) (i := i) (by kernel_rfl) (by kernel_rfl) (by kernel_rfl) hi hs t zeroSec ht (by simp [zeroSec]) W
theorem builtZ : Try.prog.built 65 [] = some (BA zeroSec) := by kernel_rfl
theorem buildZ {Z : Array Value} (hZ : Z = BA zeroSec) (W : World) : (Instr.build 65 #[]).run Try.prog W = .ok (.agg Z) W := by
  rw [hZ]
  exact run_build W _ #[] _ builtZ
set_option maxHeartbeats 800000 in
set_option maxRecDepth 20000 in
theorem blank_go (t : List Nat) (ht : t.length = 64) (w : World) : Calls Try.prog 40 #[secV t] w fun e w' => e = .returned (.bool (t == zeroSec)) ∧ w' = w.alloc (.cells (BA t) 65) := by
  unfold secV
  have hB : (BA t).size = 64 := by rw [BA_size, ht]
  obtain ⟨C, hC⟩ : ∃ C, C = BA t := ⟨_, rfl⟩
  obtain ⟨Z, hZ⟩ : ∃ Z, Z = BA zeroSec := ⟨_, rfl⟩
  have hq := eqSec ht hC hZ
  have hz := buildZ hZ
  obtain ⟨r, hr⟩ : ∃ r, r = (t == zeroSec) := ⟨_, rfl⟩
  rw [← hC] at hB ⊢
  rw [← hr]
  simp only [← hr] at hq
  have hg := heap_alloc_new w (.cells C 65)
  have hi : (Try.prog.info? 65).map (·.size) = some C.size := by rw [hB]; kernel_rfl
  have hu := Try.und64
  clear hC hZ hr ht
  go_enter Try.func40, Try.ntmps40
  go_wp2_with (first
    | (refine wpList_load_row rfl 65 _ rfl w.heap.size rfl 65 _ (0, 0) _ hg hu rfl hi ?_)
    | (refine wpList_buildL rfl 65 _ rfl #[] (by simp) Z (hz _) ?_))
  go_ret
  exact ⟨rfl, rfl⟩

end Go.Proofs.Ytnbgnllkikajpaa
