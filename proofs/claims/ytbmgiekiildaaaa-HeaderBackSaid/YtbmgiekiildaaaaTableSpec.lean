/-
  What is asked of the layer table, as properties of its calls.
-/
import Derived.Test.YtbmgiekiildaaaaTableSame
import Derived.Test.YtbmgiekiildaaaaTableBackN
namespace Go.Proofs.Ytbmgiekiildaaaa
open Go.RowKit

/-- All of it lies in blocks from here on. -/
def TabFrom (lo : Nat) (V : TabW) : Prop := ∀ a, V.A1 = some a ∨ V.A2 = some a ∨ V.A3 = some a → lo ≤ a.block
theorem cell_other {w W : World} {g b off : Nat} (hk : ∀ k, k ≠ g → W.heap[k]? = w.heap[k]?) (hb : b ≠ g) : W.cell? ⟨b, off, none⟩ = w.cell? ⟨b, off, none⟩ := by
  unfold World.cell?
  simp only [hk b hb]
/-- Another block is written. -/
theorem TabAt.other {w W : World} {B lo g : Nat} {V : TabW} {t : Tab} (h : TabAt w B V t) (hf : TabFrom lo V) (hg : g < lo) (hk : ∀ k, k ≠ g → W.heap[k]? = w.heap[k]?) : TabAt W B V t := by
  refine ⟨fun k hk' => ?_, fun k hk' => ?_, fun k hk' => ?_, h.l1, h.l2, h.l3⟩
  · obtain ⟨b, off, e, hl, c⟩ := h.ts k hk'
    have hne : b ≠ g := by have : lo ≤ b := hf ⟨b, off, none⟩ (.inl e); omega
    refine ⟨b, off, e, hl, ?_⟩
    simp only [cell_other hk hne]
    exact c
  · obtain ⟨b, off, e, hl, c⟩ := h.vs k hk'
    have hne : b ≠ g := by have : lo ≤ b := hf ⟨b, off, none⟩ (.inr (.inl e)); omega
    refine ⟨b, off, e, hl, ?_⟩
    simp only [cell_other hk hne]
    exact c
  · obtain ⟨b, off, e, hl, c⟩ := h.os k hk'
    have hne : b ≠ g := by have : lo ≤ b := hf ⟨b, off, none⟩ (.inr (.inr e)); omega
    refine ⟨b, off, e, hl, ?_⟩
    rw [cell_other hk hne]
    exact c
/-! ### What the simplest facts speak of -/
def key1 : ByteArray := ⟨#[48, 49, 50, 51, 52, 53, 54, 55, 56, 57, 97, 98, 99, 100, 101, 102]⟩
def recA : Rc := ⟨1, 1, 2, 0, 1, key1⟩
def recB : Rc := ⟨9, 3, 1, 0, 0, ⟨#[]⟩⟩
def tabAB : Tab := ⟨[⟨1, 2, 0, 1, key1, false⟩], [], [0, 0, 0, 1]⟩
theorem newR_sound {n : Nat} (h1 : 1 ≤ n) (h2 : n ≤ 64) : (newR n).sound :=
  ⟨by show 1 ≤ (List.replicate n (0 : Int)).length ∧ (List.replicate n (0 : Int)).length ≤ 64; rw [List.length_replicate]; omega, fun x hx => absurd hx (by simp [newR]), List.Pairwise.nil, fun x hx => absurd hx (by simp [newR]), List.Pairwise.nil,
    fun o ho => .inl (List.eq_of_mem_replicate ho), by show (0 : Int) ≤ _; omega⟩
theorem applyAB : applyR (newR 4) [recA, recB] = (0, tabAB) := by
  rw [apply_one (newR_sound (by decide) (by decide)), run_cons (t' := ⟨[⟨1, 2, 0, 1, key1, false⟩], [], [0, 0, 0, 0]⟩) (by decide +kernel), run_cons (t' := tabAB) (by decide +kernel)]
  · rfl
  · rfl
  · rfl
theorem soundAB : tabAB.sound := by
  have h := sound_run (l := [recA, recB]) (newR_sound (n := 4) (by decide) (by decide))
  have e := applyAB
  rw [apply_one (newR_sound (by decide) (by decide))] at e
  rw [e] at h
  exact (h rfl).1
theorem newR_ok {n : Nat} (h2 : n ≤ 64) : (newR n).ok := ⟨by simp [newR], by simp [newR], fun x hx => by rw [List.eq_of_mem_replicate hx]; exact ⟨by decide, by decide⟩, by simp [newR], by simp [newR], by show (List.replicate n (0 : Int)).length ≤ _; rw [List.length_replicate]; omega⟩
theorem okAB : tabAB.ok := ⟨by
    intro x hx
    have : x = ⟨1, 2, 0, 1, key1, false⟩ := by simpa [tabAB] using hx
    subst this
    exact ⟨⟨by decide, by decide⟩, ⟨by decide, by decide⟩, ⟨by decide, by decide⟩, ⟨by decide, by decide⟩, by decide +kernel⟩, by simp [tabAB], by
    intro x hx
    have : x = 0 ∨ x = 1 := by simpa [tabAB] using hx
    rcases this with rfl | rfl <;> exact ⟨by decide, by decide⟩, by decide +kernel, by decide +kernel, by decide +kernel⟩

end Go.Proofs.Ytbmgiekiildaaaa
