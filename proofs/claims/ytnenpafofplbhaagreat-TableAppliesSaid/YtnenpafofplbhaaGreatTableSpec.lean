/-
  What is asked of the layer table, as properties of its calls.
-/
import Derived.Test.YtnenpafofplbhaaGreatTableSame
import Derived.Test.YtnenpafofplbhaaGreatTableBackN
namespace Go.Proofs.YtnenpafofplbhaaGreat
open Go.RowKit

/-- All of it lies in blocks from here on. -/
def TabFrom (lo : Nat) (V : TabW) : Prop := ∀ a, V.A1 = some a ∨ V.A2 = some a ∨ V.A3 = some a → lo ≤ a.block
theorem cell_other {w W : World} {g b off : Nat} (hk : ∀ k, k ≠ g → W.heap[k]? = w.heap[k]?) (hb : b ≠ g) : W.cell? ⟨b, off, none⟩ = w.cell? ⟨b, off, none⟩ := by
  unfold World.cell?
  simp only [hk b hb]
/-- Another block is written. -/
theorem TabAt.other {w W : World} {B lo g : Nat} {V : TabW} {t : Tab} (h : TabAt w B V t) (hf : TabFrom lo V) (hg : g < lo) (hk : ∀ k, k ≠ g → W.heap[k]? = w.heap[k]?) : TabAt W B V t := by
  refine ⟨fun k hk' => ?_, fun k hk' => ?_, fun k hk' => ?_, h.l1, h.l2, h.l3⟩
  · obtain ⟨b, off, e, hl, c⟩ := h.ts k hk'
    have hne : b ≠ g := by have : lo ≤ b := hf ⟨b, off, none⟩ (.inl e); omega
    refine ⟨b, off, e, hl, ?_⟩
    simp only [cell_other hk hne]
    exact c
  · obtain ⟨b, off, e, hl, c⟩ := h.vs k hk'
    have hne : b ≠ g := by have : lo ≤ b := hf ⟨b, off, none⟩ (.inr (.inl e)); omega
    refine ⟨b, off, e, hl, ?_⟩
    simp only [cell_other hk hne]
    exact c
  · obtain ⟨b, off, e, hl, c⟩ := h.os k hk'
    have hne : b ≠ g := by have : lo ≤ b := hf ⟨b, off, none⟩ (.inr (.inr e)); omega
    refine ⟨b, off, e, hl, ?_⟩
    rw [cell_other hk hne]
    exact c
/-- What is asked of New, Check, Owned and Apply (in a seat without Image). What comes in lies in memory that is there; what is answered, in new memory. -/
structure TableSpec (w0 : World) : Prop where
  new : ∀ (n : Nat) (w : World), Below w0.heap.size w0 w → 1 ≤ n → n ≤ 64 →
    Calls Tryz.prog 16 #[.int .i64 (n : Int)] w fun e w' => ∃ V, e = .returned (.tuple #[.agg (tabV V (newR n)), .int .i64 0]) ∧ TabAt w' w'.heap.size V (newR n) ∧ TabFrom w.heap.size V ∧ Below w.heap.size w w'
  newNo : ∀ (n : Int) (w : World), Below w0.heap.size w0 w → I64n n → ¬ inR n 1 64 →
    Calls Tryz.prog 16 #[.int .i64 n] w fun e w' => ∃ V, e = .returned (.tuple #[.agg (tabV V Tab.zero), .int .i64 1]) ∧ Below w.heap.size w w'
  check : ∀ (V : TabW) (t : Tab) (w : World), Below w0.heap.size w0 w → TabAt w w.heap.size V t → t.ok → t.sound →
    Calls Tryz.prog 8 #[.agg (tabV V t)] w fun e w' => e = .returned (.int .i64 0) ∧ Below w.heap.size w w'
  checkNo : ∀ (V : TabW) (t : Tab) (w : World), Below w0.heap.size w0 w → TabAt w w.heap.size V t → t.ok → ¬ t.sound →
    Calls Tryz.prog 8 #[.agg (tabV V t)] w fun e w' => e = .returned (.int .i64 2) ∧ Below w.heap.size w w'
  owned : ∀ (V : TabW) (t : Tab) (id : Int) (w : World), Below w0.heap.size w0 w → TabAt w w.heap.size V t → t.ok → I64n id →
    Calls Tryz.prog 17 #[.agg (tabV V t), .int .i64 id] w fun e w' => e = .returned (.int .i64 (ownN t.os id : Nat)) ∧ Below w.heap.size w w'
  apply : ∀ (V : TabW) (t : Tab) (A : Option Addr) (c : Nat) (l : List Rc) (w : World), Below w0.heap.size w0 w → TabAt w w.heap.size V t → t.ok → RecsAt w w.heap.size A l → l.length ≤ c → (∀ r ∈ l, r.ok) → l.length ≤ 140737488355328 →
    Calls Tryz.prog 4 #[.agg (tabV V t), .slice A l.length c] w fun e w' => ∃ V', e = .returned (.tuple #[.agg (tabV V' (applyR t l).2), .int .i64 (applyR t l).1]) ∧ TabAt w' w'.heap.size V' (applyR t l).2 ∧ TabFrom w.heap.size V' ∧ Below w.heap.size w w'

/-! ### What the simplest facts speak of -/
def key1 : ByteArray := ⟨#[48, 49, 50, 51, 52, 53, 54, 55, 56, 57, 97, 98, 99, 100, 101, 102]⟩
def recA : Rc := ⟨1, 1, 2, 0, 1, key1⟩
def recB : Rc := ⟨9, 3, 1, 0, 0, ⟨#[]⟩⟩
def tabAB : Tab := ⟨[⟨1, 2, 0, 1, key1, false⟩], [], [0, 0, 0, 1]⟩
theorem newR_sound {n : Nat} (h1 : 1 ≤ n) (h2 : n ≤ 64) : (newR n).sound :=
  ⟨by show 1 ≤ (List.replicate n (0 : Int)).length ∧ (List.replicate n (0 : Int)).length ≤ 64; rw [List.length_replicate]; omega, fun x hx => absurd hx (by simp [newR]), List.Pairwise.nil, fun x hx => absurd hx (by simp [newR]), List.Pairwise.nil,
    fun o ho => .inl (List.eq_of_mem_replicate ho), by show (0 : Int) ≤ _; omega⟩
theorem applyAB : applyR (newR 4) [recA, recB] = (0, tabAB) := by
  rw [apply_one (newR_sound (by decide) (by decide)), run_cons (t' := ⟨[⟨1, 2, 0, 1, key1, false⟩], [], [0, 0, 0, 0]⟩) (by decide +kernel), run_cons (t' := tabAB) (by decide +kernel)]
  · rfl
  · rfl
  · rfl
theorem soundAB : tabAB.sound := by
  have h := sound_run (l := [recA, recB]) (newR_sound (n := 4) (by decide) (by decide))
  have e := applyAB
  rw [apply_one (newR_sound (by decide) (by decide))] at e
  rw [e] at h
  exact (h rfl).1
theorem newR_ok {n : Nat} (h2 : n ≤ 64) : (newR n).ok := ⟨by simp [newR], by simp [newR], fun x hx => by rw [List.eq_of_mem_replicate hx]; exact ⟨by decide, by decide⟩, by simp [newR], by simp [newR], by show (List.replicate n (0 : Int)).length ≤ _; rw [List.length_replicate]; omega⟩
theorem okAB : tabAB.ok := ⟨by
    intro x hx
    have : x = ⟨1, 2, 0, 1, key1, false⟩ := by simpa [tabAB] using hx
    subst this
    exact ⟨⟨by decide, by decide⟩, ⟨by decide, by decide⟩, ⟨by decide, by decide⟩, ⟨by decide, by decide⟩, by decide +kernel⟩, by simp [tabAB], by
    intro x hx
    have : x = 0 ∨ x = 1 := by simpa [tabAB] using hx
    rcases this with rfl | rfl <;> exact ⟨by decide, by decide⟩, by decide +kernel, by decide +kernel, by decide +kernel⟩

end Go.Proofs.YtnenpafofplbhaaGreat
