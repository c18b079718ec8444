/-
  What is asked of the layer table, as properties of its calls. The simplest facts of the layer table. Words for vaults in memory: what the layers below answer, whatever world it is; holdings, logs and vaults by value. The landed vault: places, room, generations, which of two holdings counts more; has a disk two areas? Two rows of one's own that grow side by side.
-/
import Derived.Test.YtbnhkplhmanmoaaGreatTableRef2G
import Derived.Test.YtbnhkplhmanmoaaGreatTableBackNG
import Derived.Test.YtbnhkplhmanmoaaGreatVaultHoldG
import Derived.Test.YtbnhkplhmanmoaaGreatDiskAskG
import Derived.Tactics
import Derived.Tactics2
import Derived.LoopTactic
import Derived.OpenShut
import Derived.WalkLawsBesides
import Derived.BigQuiet
import Derived.Deep.RegionWith
import Derived.Deep.OwnRows
import Derived.Lib.Hide
import Derived.Test.YtbnhkplhmanmoaaGreatWordsG
namespace Go.Proofs.YtbnhkplhmanmoaaGreat
open Go.RowKit

/-- All of it lies in blocks from here on. -/
def TabFrom (lo : Nat) (V : TabW) : Prop := ∀ a, V.A1 = some a ∨ V.A2 = some a ∨ V.A3 = some a → lo ≤ a.block
theorem cell_other {w W : World} {g b off : Nat} (hk : ∀ k, k ≠ g → W.heap[k]? = w.heap[k]?) (hb : b ≠ g) : W.cell? ⟨b, off, none⟩ = w.cell? ⟨b, off, none⟩ := by
  unfold World.cell?
  simp only [hk b hb]
/-- Another block is written. -/
theorem TabAt.other {w W : World} {B lo g : Nat} {V : TabW} {t : Tab} (h : TabAt w B V t) (hf : TabFrom lo V) (hg : g < lo) (hk : ∀ k, k ≠ g → W.heap[k]? = w.heap[k]?) : TabAt W B V t := by
  refine ⟨fun k hk' => ?_, fun k hk' => ?_, fun k hk' => ?_, h.l1, h.l2, h.l3⟩
  · obtain ⟨b, off, e, hl, c⟩ := h.ts k hk'
    have hne : b ≠ g := by have : lo ≤ b := hf ⟨b, off, none⟩ (.inl e); omega
    refine ⟨b, off, e, hl, ?_⟩
    simp only [cell_other hk hne]
    exact c
  · obtain ⟨b, off, e, hl, c⟩ := h.vs k hk'
    have hne : b ≠ g := by have : lo ≤ b := hf ⟨b, off, none⟩ (.inr (.inl e)); omega
    refine ⟨b, off, e, hl, ?_⟩
    simp only [cell_other hk hne]
    exact c
  · obtain ⟨b, off, e, hl, c⟩ := h.os k hk'
    have hne : b ≠ g := by have : lo ≤ b := hf ⟨b, off, none⟩ (.inr (.inr e)); omega
    refine ⟨b, off, e, hl, ?_⟩
    rw [cell_other hk hne]
    exact c
/-- What is asked of New, Check, Owned, Apply and Image. What comes in lies in memory that is there; what is answered, in new memory. -/
structure TableSpec (w0 : World) : Prop where
  new : ∀ (n : Nat) (w : World), Below w0.heap.size w0 w → 1 ≤ n → n ≤ 64 →
    Calls Tryz.prog 19 #[.int .i64 (n : Int)] w fun e w' => ∃ V, e = .returned (.tuple #[.agg (tabV V (newR n)), .int .i64 0]) ∧ TabAt w' w'.heap.size V (newR n) ∧ TabFrom w.heap.size V ∧ Below w.heap.size w w'
  newNo : ∀ (n : Int) (w : World), Below w0.heap.size w0 w → I64n n → ¬ inR n 1 64 →
    Calls Tryz.prog 19 #[.int .i64 n] w fun e w' => ∃ V, e = .returned (.tuple #[.agg (tabV V Tab.zero), .int .i64 1]) ∧ Below w.heap.size w w'
  check : ∀ (V : TabW) (t : Tab) (w : World), Below w0.heap.size w0 w → TabAt w w.heap.size V t → t.ok → t.sound →
    Calls Tryz.prog 36 #[.agg (tabV V t)] w fun e w' => e = .returned (.int .i64 0) ∧ Below w.heap.size w w'
  checkNo : ∀ (V : TabW) (t : Tab) (w : World), Below w0.heap.size w0 w → TabAt w w.heap.size V t → t.ok → ¬ t.sound →
    Calls Tryz.prog 36 #[.agg (tabV V t)] w fun e w' => e = .returned (.int .i64 2) ∧ Below w.heap.size w w'
  owned : ∀ (V : TabW) (t : Tab) (id : Int) (w : World), Below w0.heap.size w0 w → TabAt w w.heap.size V t → t.ok → I64n id →
    Calls Tryz.prog 95 #[.agg (tabV V t), .int .i64 id] w fun e w' => e = .returned (.int .i64 (ownN t.os id : Nat)) ∧ Below w.heap.size w w'
  apply : ∀ (V : TabW) (t : Tab) (A : Option Addr) (c : Nat) (l : List Rc) (w : World), Below w0.heap.size w0 w → TabAt w w.heap.size V t → t.ok → RecsAt w w.heap.size A l → l.length ≤ c → (∀ r ∈ l, r.ok) → l.length ≤ 140737488355328 →
    Calls Tryz.prog 24 #[.agg (tabV V t), .slice A l.length c] w fun e w' => ∃ V', e = .returned (.tuple #[.agg (tabV V' (applyR t l).2), .int .i64 (applyR t l).1]) ∧ TabAt w' w'.heap.size V' (applyR t l).2 ∧ TabFrom w.heap.size V' ∧ Below w.heap.size w w'
  image : ∀ (V : TabW) (t : Tab) (w : World), Below w0.heap.size w0 w → TabAt w w.heap.size V t → t.ok → t.sound →
    Calls Tryz.prog 77 #[.agg (tabV V t)] w fun e w' => ∃ A c, e = .returned (.tuple #[.slice A (imageR t).length c, .int .i64 0]) ∧ (imageR t).length ≤ c ∧ RecsAt w' w'.heap.size A (imageR t) ∧ (∀ a, A = some a → w.heap.size ≤ a.block) ∧ Below w.heap.size w w'
  imageNo : ∀ (V : TabW) (t : Tab) (w : World), Below w0.heap.size w0 w → TabAt w w.heap.size V t → t.ok → ¬ t.sound →
    Calls Tryz.prog 77 #[.agg (tabV V t)] w fun e w' => ∃ A c, e = .returned (.tuple #[.slice A 0 c, .int .i64 2]) ∧ Below w.heap.size w w'

/-! ### What the simplest facts speak of -/
def key1 : ByteArray := ⟨#[48, 49, 50, 51, 52, 53, 54, 55, 56, 57, 97, 98, 99, 100, 101, 102]⟩
def recA : Rc := ⟨1, 1, 2, 0, 1, key1⟩
def recB : Rc := ⟨9, 3, 1, 0, 0, ⟨#[]⟩⟩
def tabAB : Tab := ⟨[⟨1, 2, 0, 1, key1, false⟩], [], [0, 0, 0, 1]⟩
theorem newR_sound {n : Nat} (h1 : 1 ≤ n) (h2 : n ≤ 64) : (newR n).sound :=
  ⟨by show 1 ≤ (List.replicate n (0 : Int)).length ∧ (List.replicate n (0 : Int)).length ≤ 64; rw [List.length_replicate]; omega, fun x hx => absurd hx (by simp [newR]), List.Pairwise.nil, fun x hx => absurd hx (by simp [newR]), List.Pairwise.nil,
    fun o ho => .inl (List.eq_of_mem_replicate ho), by show (0 : Int) ≤ _; omega⟩
theorem applyAB : applyR (newR 4) [recA, recB] = (0, tabAB) := by
  rw [apply_one (newR_sound (by decide) (by decide)), run_cons (t' := ⟨[⟨1, 2, 0, 1, key1, false⟩], [], [0, 0, 0, 0]⟩) (by decide +kernel), run_cons (t' := tabAB) (by decide +kernel)]
  · rfl
  · rfl
  · rfl
theorem soundAB : tabAB.sound := by
  have h := sound_run (l := [recA, recB]) (newR_sound (n := 4) (by decide) (by decide))
  have e := applyAB
  rw [apply_one (newR_sound (by decide) (by decide))] at e
  rw [e] at h
  exact (h rfl).1
theorem newR_ok {n : Nat} (h2 : n ≤ 64) : (newR n).ok := ⟨by simp [newR], by simp [newR], fun x hx => by rw [List.eq_of_mem_replicate hx]; exact ⟨by decide, by decide⟩, by simp [newR], by simp [newR], by show (List.replicate n (0 : Int)).length ≤ _; rw [List.length_replicate]; omega⟩
theorem okAB : tabAB.ok := ⟨by
    intro x hx
    have : x = ⟨1, 2, 0, 1, key1, false⟩ := by simpa [tabAB] using hx
    subst this
    exact ⟨⟨by decide, by decide⟩, ⟨by decide, by decide⟩, ⟨by decide, by decide⟩, ⟨by decide, by decide⟩, by decide +kernel⟩, by simp [tabAB], by
    intro x hx
    have : x = 0 ∨ x = 1 := by simpa [tabAB] using hx
    rcases this with rfl | rfl <;> exact ⟨by decide, by decide⟩, by decide +kernel, by decide +kernel, by decide +kernel⟩

end Go.Proofs.YtbnhkplhmanmoaaGreat

namespace Go.Proofs.YtbnhkplhmanmoaaGreat
open Go.RowKit

/-- Two records laid in a row of their own. -/
theorem recs_new (W : World) (r s : Rc) (T : TypeId) : RecsAt (W.alloc (.cells ((rcV r).toList ++ (rcV s).toList).toArray T)) (W.alloc (.cells ((rcV r).toList ++ (rcV s).toList).toArray T)).heap.size (some ⟨W.heap.size, 0, none⟩) [r, s] := fun k hk => by
  have h := heap_alloc_new W (.cells ((rcV r).toList ++ (rcV s).toList).toArray T)
  have hk2 : k = 0 ∨ k = 1 := by simp at hk; omega
  rcases hk2 with rfl | rfl
  · exact ⟨W.heap.size, 0, rfl, by simp, by rw [cell_of_row _ _ _ _ _ _ h]; rfl, by rw [cell_of_row _ _ _ _ _ _ h]; rfl, by rw [cell_of_row _ _ _ _ _ _ h]; rfl, by rw [cell_of_row _ _ _ _ _ _ h]; rfl, by rw [cell_of_row _ _ _ _ _ _ h]; rfl, by rw [cell_of_row _ _ _ _ _ _ h]; rfl⟩
  · exact ⟨W.heap.size, 0, rfl, by simp, by rw [cell_of_row _ _ _ _ _ _ h]; rfl, by rw [cell_of_row _ _ _ _ _ _ h]; rfl, by rw [cell_of_row _ _ _ _ _ _ h]; rfl, by rw [cell_of_row _ _ _ _ _ _ h]; rfl, by rw [cell_of_row _ _ _ _ _ _ h]; rfl, by rw [cell_of_row _ _ _ _ _ _ h]; rfl⟩
/-- Strictly rising numbers between two bounds are not many. -/
theorem rising_len {α : Type} (k : α → Int) (hi : Int) : ∀ {l : List α} (lo : Int), (l.Pairwise fun a b => k a < k b) → (∀ x ∈ l, lo ≤ k x ∧ k x ≤ hi) → lo ≤ hi + 1 → (l.length : Int) ≤ hi + 1 - lo
  | [], lo, _, _, h => by simp; omega
  | x :: l, lo, hp, hb, h => by
    obtain ⟨h1, h2⟩ := List.pairwise_cons.1 hp
    have hx := hb x (by simp)
    have := rising_len k hi (l := l) (k x + 1) h2 (fun y hy => ⟨by have := h1 y hy; omega, (hb y (by simp [hy])).2⟩) (by omega)
    rw [List.length_cons]
    omega
theorem sound_few {t : Tab} (h : t.sound) : t.ts.length ≤ 7 ∧ t.vs.length ≤ 8 ∧ t.os.length ≤ 64 := by
  have h1 := rising_len Ten.id 7 1 h.up (fun x hx => (h.ten x hx).1.id) (by omega)
  have h2 := rising_len Vol.id 7 0 h.vup (fun x hx => (h.vol x hx).1) (by omega)
  have h3 := h.len
  omega
/-- A sound table's numbers are small. -/
theorem sound_ok {t : Tab} (h : t.sound) : t.ok := by
  obtain ⟨n1, n2, n3⟩ := sound_few h
  refine ⟨fun x hx => ?_, fun x hx => ?_, fun o ho => ?_, by omega, by omega, by omega⟩
  · obtain ⟨p1, p2, p3, p4, p5⟩ := (h.ten x hx).1
    exact ⟨⟨by omega, by omega⟩, ⟨by omega, by omega⟩, ⟨by omega, by omega⟩, ⟨by omega, by omega⟩, by omega⟩
  · obtain ⟨q1, q2, q3, q4⟩ := h.vol x hx
    obtain ⟨y, hy, hk⟩ := tenAt_isSome.1 q2
    have := (h.ten y hy).1.id
    exact ⟨⟨by omega, by omega⟩, ⟨by omega, by omega⟩, ⟨by omega, by omega⟩, ⟨by omega, by omega⟩⟩
  · rcases h.own o ho with rfl | h0
    · exact ⟨by decide, by decide⟩
    · obtain ⟨y, hy, hk⟩ := tenAt_isSome.1 h0
      have := (h.ten y hy).1.id
      exact ⟨by omega, by omega⟩
theorem zero_ok : Tab.zero.ok := ⟨by simp [Tab.zero], by simp [Tab.zero], by simp [Tab.zero], by simp [Tab.zero], by simp [Tab.zero], by simp [Tab.zero]⟩
theorem apply_sound {t : Tab} {l : List Rc} (h : (applyR t l).1 = 0) : t.sound ∧ (applyR t l).2.sound ∧ (applyR t l).2.os.length = t.os.length := by
  unfold applyR at h ⊢
  by_cases hs : t.sound
  · rw [if_pos hs] at h ⊢
    exact ⟨hs, sound_run hs h⟩
  · rw [if_neg hs] at h
    exact absurd h (by decide)
theorem apply_ok {t : Tab} {l : List Rc} : (applyR t l).2.ok := by
  by_cases h : (applyR t l).1 = 0
  · exact sound_ok (apply_sound h).2.1
  · rw [apply_zero h]; exact zero_ok
/-- One change: taken, given back, and taken twice, all told. -/
theorem apply_takes {t : Tab} {a b : Int} (ha : inR a 0 63) (hb : inR b 1 7) (h : (applyR t [ownRec a b]).1 = 0) :
    applyR (applyR t [ownRec a b]).2 [ownRec a 0] = (0, t) ∧ (applyR (applyR t [ownRec a b]).2 [ownRec a b]).1 = 5 ∧ ownN (applyR t [ownRec a b]).2.os b = ownN t.os b + 1 := by
  obtain ⟨hs, hs2, _⟩ := apply_sound h
  have hf : formR (ownRec a b) := own_form ha (by unfold inR at hb ⊢; omega)
  have hf0 : formR (ownRec a 0) := own_form ha (by unfold inR; omega)
  have e : ∀ {t : Tab} {r : Rc}, t.sound → formR r → applyR t [r] = if (oneR t r).1 = 0 then (0, (oneR t r).2) else ((oneR t r).1, Tab.zero) := fun {t r} hs hf => by
    rw [apply_one hs]
    unfold runR
    rw [if_pos hf]
    rfl
  rw [e hs hf] at h
  have ho : (oneR t (ownRec a b)).1 = 0 := by
    by_cases h0 : (oneR t (ownRec a b)).1 = 0
    · exact h0
    · rw [if_neg h0] at h; exact h
  obtain ⟨g1, g2, g3⟩ := given ha hb ho
  have e1 : applyR t [ownRec a b] = (0, (oneR t (ownRec a b)).2) := by rw [e hs hf, if_pos ho]
  rw [e1] at hs2 ⊢
  refine ⟨?_, ?_, g3⟩
  · rw [e hs2 hf0]
    show (if (oneR (oneR t (ownRec a b)).2 (ownRec a 0)).1 = 0 then _ else _) = _
    rw [g1, if_pos rfl]
  · rw [e hs2 hf]
    have hne : ¬ (oneR (oneR t (ownRec a b)).2 (ownRec a b)).1 = 0 := by rw [g2]; decide
    show (if (oneR (oneR t (ownRec a b)).2 (ownRec a b)).1 = 0 then ((0 : Int), (oneR (oneR t (ownRec a b)).2 (ownRec a b)).2) else ((oneR (oneR t (ownRec a b)).2 (ownRec a b)).1, Tab.zero)).1 = _
    rw [if_neg hne, g2]
theorem okA : recA.ok := ⟨⟨by decide, by decide⟩, ⟨by decide, by decide⟩, ⟨by decide, by decide⟩, ⟨by decide, by decide⟩, ⟨by decide, by decide⟩, by decide +kernel⟩
theorem okB : recB.ok := ⟨⟨by decide, by decide⟩, ⟨by decide, by decide⟩, ⟨by decide, by decide⟩, ⟨by decide, by decide⟩, ⟨by decide, by decide⟩, by decide +kernel⟩
theorem tabV_one (V : TabW) (t : Tab) : (tabV V t).all (·.oneCell') = true := by simp [tabV, Value.oneCell']
theorem Tryz.infoTable : (Tryz.prog.info? 35).map (·.size) = some 3 := by kernel_rfl

end Go.Proofs.YtbnhkplhmanmoaaGreat

namespace Go.Proofs.YtbnhkplhmanmoaaGreat
open Go.RowKit

/-- The world with nothing in memory. -/
def bare (w : World) : World := { w with heap := #[] }
theorem below_bare (w : World) : Below (bare w).heap.size (bare w) w := ⟨rfl, rfl, rfl, Nat.zero_le _, fun k hk => absurd hk (Nat.not_lt_zero k)⟩
/-- What the layers below are asked. -/
structure Lows (Rep : World → Nat → (Nat → Prop) → Dk → Prop) : Prop where
  d : ∀ w, DiskSpec w Rep
  l : ∀ w, LineSpec w
  t : ∀ w, TableSpec w
section
variable {Rep : World → Nat → (Nat → Prop) → Dk → Prop} (L : Lows Rep)
include L
theorem Lows.keep {w w' : World} {p : Nat} {F : Nat → Prop} {s : Dk} (h : Rep w p F s) (hb : Below w.heap.size w w') : Rep w' p F s := (L.d w).later h hb
theorem Lows.lt {w : World} {p : Nat} {F : Nat → Prop} {s : Dk} (h : Rep w p F s) {b : Nat} (hb : F b) : b < w.heap.size := (L.d w).lt w p F s h b hb
theorem Lows.read {i p : Nat} {F : Nat → Prop} {s : Dk} {w : World} (h : Rep w p F s) (he : readE s (i : Int) = 0) : Calls Tryz.prog 106 #[.pointer (some ⟨p, 0, none⟩), .int .i64 (i : Int)] w fun e w' => ∃ A c, e = .returned (.tuple #[.slice A 64 c, .int .i64 0]) ∧ 64 ≤ c ∧ Got w w' A (nowD s i) ∧ Below w.heap.size w w' :=
  (L.d (bare w)).read i p F s w (below_bare w) h (fun _ _ => Nat.zero_le _) he
theorem Lows.last {i p : Nat} {F : Nat → Prop} {s : Dk} {w : World} (h : Rep w p F s) (he : lastE s (i : Int) = 0) : Calls Tryz.prog 33 #[.pointer (some ⟨p, 0, none⟩), .int .i64 (i : Int)] w fun e w' => ∃ A c, e = .returned (.tuple #[.slice A 64 c, .int .i64 0]) ∧ 64 ≤ c ∧ Got w w' A (s.last.getD i []) ∧ Below w.heap.size w w' :=
  (L.d (bare w)).last i p F s w (below_bare w) h (fun _ _ => Nat.zero_le _) he
theorem Lows.lastNo {n : Int} {p : Nat} {F : Nat → Prop} {s : Dk} {w : World} (hn : I64c n) (h : Rep w p F s) (he : lastE s n ≠ 0) : Calls Tryz.prog 33 #[.pointer (some ⟨p, 0, none⟩), .int .i64 n] w fun e w' => ∃ A c, e = .returned (.tuple #[.slice A 0 c, .int .i64 (lastE s n)]) ∧ Below w.heap.size w w' :=
  (L.d (bare w)).lastNo n p F s w (below_bare w) hn h (fun _ _ => Nat.zero_le _) he
theorem Lows.nlast (n : Int) (w : World) : Calls Tryz.prog 33 #[.pointer none, .int .i64 n] w fun e w' => ∃ A c, e = .returned (.tuple #[.slice A 0 c, .int .i64 11]) ∧ Below w.heap.size w w' :=
  (L.d w).nlast n w (Below.refl _ _)
theorem Lows.write {n : Int} {A : Option Addr} {c : Nat} {t : List Nat} {p : Nat} {F : Nat → Prop} {s : Dk} {w : World} (hn : I64c n) (hi : Ints w w.heap.size .u8 A (up t)) (hs : Sec t) (hc : 64 ≤ c) (ho : Off F A 64) (hp : s.pend.length ≤ 2147483647) (h : Rep w p F s) :
    Calls Tryz.prog 81 #[.pointer (some ⟨p, 0, none⟩), .int .i64 n, .slice A 64 c] w fun e w' => ∃ F', e = .returned (.int .i64 (writeE s n t)) ∧ Rep w' p F' (writeS s n t) ∧ More F F' w.heap.size ∧ Away F w w' := by
  have := (L.d (bare w)).write n A c t p F s w (below_bare w) hn hi hs.2 (by rw [hs.1]; exact hc) (by rw [hs.1]; decide) (by rw [hs.1]; exact ho) hp h (fun _ _ => Nat.zero_le _)
  rwa [hs.1] at this
theorem Lows.flush {p : Nat} {F : Nat → Prop} {s : Dk} {w : World} (h : Rep w p F s) : Calls Tryz.prog 83 #[.pointer (some ⟨p, 0, none⟩)] w fun e w' => ∃ F', e = .returned (.int .i64 (flushE s)) ∧ Rep w' p F' (flushS s) ∧ More F F' w.heap.size ∧ Away F w w' :=
  (L.d (bare w)).flush p F s w (below_bare w) h (fun _ _ => Nat.zero_le _)
theorem Lows.limit {n : Int} {p : Nat} {F : Nat → Prop} {s : Dk} {w : World} (hn : I64c n) (h : Rep w p F s) : Calls Tryz.prog 12 #[.pointer (some ⟨p, 0, none⟩), .int .i64 n] w fun e w' => ∃ F', e = .returned (.tuple #[]) ∧ Rep w' p F' (limitS s n) ∧ More F F' w.heap.size ∧ Away F w w' :=
  (L.d (bare w)).limit n p F s w (below_bare w) hn h (fun _ _ => Nat.zero_le _)
theorem Lows.crash {A : Option Addr} {c : Nat} {l : List Bool} {p : Nat} {F : Nat → Prop} {s : Dk} {w : World} (hb : Bools w w.heap.size A l) (hc : l.length ≤ c) (hl : l.length ≤ 140737488355328) (ho : Off F A l.length) (h : Rep w p F s) :
    Calls Tryz.prog 13 #[.pointer (some ⟨p, 0, none⟩), .slice A l.length c] w fun e w' => ∃ F', e = .returned (.tuple #[]) ∧ Rep w' p F' (crashS s l) ∧ More F F' w.heap.size ∧ Away F w w' :=
  (L.d (bare w)).crash A c l p F s w (below_bare w) hb hc hl ho h (fun _ _ => Nat.zero_le _)
theorem Lows.enc {l : Ln} {w : World} (ho : l.ok) (he : encE l = 0) : Calls Tryz.prog 80 #[.agg (lnV l)] w fun e w' => ∃ A c, e = .returned (.tuple #[.slice A 64 c, .int .i64 0]) ∧ 64 ≤ c ∧ GotI w w' A (encB l) ∧ Below w.heap.size w w' :=
  ((L.l w).enc l w (Below.refl _ _) ho he).mono fun _ _ ⟨A, c, h1, h2, _, h4, h5⟩ => ⟨A, c, h1, h2, h4, h5⟩
theorem Lows.dec {A : Option Addr} {c : Nat} {b : List Int} {w : World} (hi : Ints w w.heap.size .u8 A b) (hb : ∀ z ∈ b, 0 ≤ z ∧ z ≤ 255) (hl : b.length = 64) (hc : 64 ≤ c) :
    Calls Tryz.prog 86 #[.slice A 64 c] w fun e w' => e = .returned (.tuple #[.agg (lnV (decR b).2), .int .i64 (decR b).1]) ∧ Below w.heap.size w w' := by
  have := (L.l w).dec A c b w (Below.refl _ _) hi hb (by omega) (by omega)
  rwa [hl] at this
end

/-- A number of 64 bits, and one that an area's places are told by. -/
def hdV (a g : Int) (A : Option Addr) (n c : Nat) : Array Value := #[.int .i64 a, .int .i64 g, .slice A n c]
def lgV (a g u : Int) : Array Value := #[.int .i64 a, .int .i64 g, .int .i64 u]
/-- A vault's cells. -/
def vtC (d : Option Addr) (V : TabW) (t : Tab) (a g u : Int) : Array Value := #[.pointer d, .slice V.A1 t.ts.length V.c1, .slice V.A2 t.vs.length V.c2, .slice V.A3 t.os.length V.c3, .int .i64 a, .int .i64 g, .int .i64 u]

end Go.Proofs.YtbnhkplhmanmoaaGreat

namespace Go.Proofs.YtbnhkplhmanmoaaGreat
open Go.RowKit

theorem place_any (a i : Nat) (w : World) (ha : a < 2) (hi : i < 193) : Calls Tryz.prog 82 #[.int .i64 (a : Int), .int .i64 (i : Int)] w fun e w' => e = .returned (.int .i64 ((a * 192 + i : Nat) : Int)) ∧ w = w' := by
  have h1 : ((a * 192 + i : Nat) : Int) = (a : Int) * 192 + (i : Int) := by omega
  rw [h1]
  have h2 : (a : Int) ≤ 1 := by omega
  have h3 : (i : Int) ≤ 192 := by omega
  clear h1
  go_enter Tryz.func82, Tryz.ntmps82
  go_wp2
  go_ret
  exact ⟨rfl, rfl⟩

theorem following_any (g : Int) (w : World) (h0 : 0 ≤ g) (h1 : g ≤ 2147483646) : Calls Tryz.prog 110 #[.int .i64 g] w fun e w' => e = .returned (.int .i64 (g + 1)) ∧ w = w' := by
  have hr : Int.tmod g 2147483647 = g := by rw [Int.tmod_eq_emod_of_nonneg h0]; omega
  go_enter Tryz.func110, Tryz.ntmps110
  go_wp2
  go_ret
  exact ⟨rfl, rfl⟩

theorem room_any (a g u : Int) (w : World) (h0 : 0 ≤ u) (h1 : u ≤ 192) : Calls Tryz.prog 40 #[.agg (lgV a g u)] w fun e w' => e = .returned (.int .i64 (192 - u)) ∧ Below w.heap.size w w' := by
  have hg := heap_alloc_new w (.cells (lgV a g u) 66)
  have hb : Below w.heap.size w (w.alloc (.cells (lgV a g u) 66)) := (Below.refl _ _).alloc (Nat.le_refl _) _
  unfold lgV at hg hb ⊢
  obtain ⟨W, hW⟩ : ∃ W, W = w.alloc (.cells #[.int .i64 a, .int .i64 g, .int .i64 u] 66) := ⟨_, rfl⟩
  rw [← hW] at hg hb
  have c2 : W.cell? ⟨w.heap.size, 2, none⟩ = some (.int .i64 u) := by rw [cell_of_row _ _ _ _ _ _ hg]; rfl
  clear hg
  go_enter Tryz.func40, Tryz.ntmps40
  go_wp2_with fail
  rw [← hW]
  go_wp2
  go_ret
  exact ⟨rfl, hb⟩

theorem over_any (a g : Int) (A : Option Addr) (n c : Nat) (a2 g2 : Int) (A2 : Option Addr) (n2 c2 : Nat) (w : World) :
    Calls Tryz.prog 59 #[.agg (hdV a g A n c), .agg (hdV a2 g2 A2 n2 c2)] w fun e w' => e = .returned (.bool (decide (0 < n) && (decide (n2 = 0) || decide (g2 < g)))) ∧ Below w.heap.size w w' := by
  have hg0 := heap_alloc_new w (.cells (hdV a g A n c) 87)
  have hb0 : Below w.heap.size w (w.alloc (.cells (hdV a g A n c) 87)) := (Below.refl _ _).alloc (Nat.le_refl _) _
  obtain ⟨W0, hW0⟩ : ∃ W, W = w.alloc (.cells (hdV a g A n c) 87) := ⟨_, rfl⟩
  rw [← hW0] at hg0 hb0
  have hg1 := heap_alloc_new W0 (.cells (hdV a2 g2 A2 n2 c2) 87)
  have hb1 : Below W0.heap.size W0 (W0.alloc (.cells (hdV a2 g2 A2 n2 c2) 87)) := (Below.refl _ _).alloc (Nat.le_refl _) _
  obtain ⟨W1, hW1⟩ : ∃ W, W = W0.alloc (.cells (hdV a2 g2 A2 n2 c2) 87) := ⟨_, rfl⟩
  rw [← hW1] at hg1 hb1
  have hg0 := (hb1.block _ (Array.getElem?_eq_some_iff.1 hg0).1).trans hg0
  have hb2 := chain hb0 hb1
  have hsz : W0.heap.size = w.heap.size + 1 := by rw [hW0]; simp
  rw [hsz] at hg1
  unfold hdV at hg0 hg1 hW0 hW1 ⊢
  have c1 : W1.cell? ⟨w.heap.size, 1, none⟩ = some (.int .i64 g) := by rw [cell_of_row _ _ _ _ _ _ hg0]; rfl
  have c2' : W1.cell? ⟨w.heap.size, 2, none⟩ = some (.slice A n c) := by rw [cell_of_row _ _ _ _ _ _ hg0]; rfl
  have d1 : W1.cell? ⟨w.heap.size + 1, 1, none⟩ = some (.int .i64 g2) := by rw [cell_of_row _ _ _ _ _ _ hg1]; rfl
  have d2 : W1.cell? ⟨w.heap.size + 1, 2, none⟩ = some (.slice A2 n2 c2) := by rw [cell_of_row _ _ _ _ _ _ hg1]; rfl
  have HB := Lib.hid hb2
  clear hg0 hg1 hb0 hb1 hb2 hsz
  by_cases hn : 0 < n
  · have e1 : (0 : Int) < (n : Int) := by omega
    by_cases hn2 : n2 = 0
    · subst hn2
      rw [decide_eq_true hn, decide_eq_true (rfl : 0 = 0)]
      clear hn
      go_enter Tryz.func59, Tryz.ntmps59
      go_wp2_with fail
      rw [← hW0, ← hW1]
      clear hW0 hW1
      go_wp2
      go_ret
      exact ⟨rfl, HB.out⟩
    · have e2 : ((n2 : Int) == 0) = false := by rw [beq_eq_false_iff_ne]; omega
      rw [decide_eq_true hn, decide_eq_false hn2]
      by_cases hgg : g2 < g
      · rw [decide_eq_true hgg]
        clear hn hn2
        go_enter Tryz.func59, Tryz.ntmps59
        go_wp2_with fail
        rw [← hW0, ← hW1]
        clear hW0 hW1
        go_wp2
        go_ret
        exact ⟨rfl, HB.out⟩
      · rw [decide_eq_false hgg]
        clear hn hn2
        go_enter Tryz.func59, Tryz.ntmps59
        go_wp2_with fail
        rw [← hW0, ← hW1]
        clear hW0 hW1
        go_wp2
        go_ret
        exact ⟨rfl, HB.out⟩
  · have e1 : ¬ (0 : Int) < (n : Int) := by omega
    rw [decide_eq_false hn]
    clear hn
    go_enter Tryz.func59, Tryz.ntmps59
    go_wp2_with fail
    rw [← hW0, ← hW1]
    clear hW0 hW1
    go_wp2
    go_ret
    exact ⟨rfl, HB.out⟩

section
variable {Rep : World → Nat → (Nat → Prop) → Dk → Prop} (L : Lows Rep)
include L
theorem areas_yes (p : Nat) (F : Nat → Prop) (s : Dk) (w : World) (h : Rep w p F s) (hl : 384 ≤ s.last.length) : Calls Tryz.prog 20 #[.pointer (some ⟨p, 0, none⟩)] w fun e w' => e = .returned (.bool true) ∧ Below w.heap.size w w' := by
  have H := Lib.hid (L.last (i := 383) h (by unfold lastE; rw [if_neg (in_not (by omega))]))
  clear h hl
  go_enter Tryz.func20, Tryz.ntmps20
  go_wp2_with (go_at_call 33; with_reducible (refine Calls.mono H.out ?_); rintro e w1 ⟨A, c, rfl, _, _, hb⟩)
  go_ret
  exact ⟨rfl, hb⟩
theorem areas_no (p : Nat) (F : Nat → Prop) (s : Dk) (w : World) (h : Rep w p F s) (hl : s.last.length < 384) : Calls Tryz.prog 20 #[.pointer (some ⟨p, 0, none⟩)] w fun e w' => e = .returned (.bool false) ∧ Below w.heap.size w w' := by
  have he : lastE s 383 = 7 := by unfold lastE; rw [if_pos (.inr (by omega))]
  have H := L.lastNo (n := 383) (by unfold I64c; omega) h (by rw [he]; decide)
  rw [he] at H
  have H := Lib.hid H
  clear h hl he
  go_enter Tryz.func20, Tryz.ntmps20
  go_wp2_with (go_at_call 33; with_reducible (refine Calls.mono H.out ?_); rintro e w1 ⟨A, c, rfl, hb⟩)
  go_ret
  exact ⟨rfl, hb⟩
theorem areas_nil (w : World) : Calls Tryz.prog 20 #[.pointer none] w fun e w' => e = .returned (.bool false) ∧ Below w.heap.size w w' := by
  have H := Lib.hid (L.nlast 383 w)
  go_enter Tryz.func20, Tryz.ntmps20
  go_wp2_with (go_at_call 33; with_reducible (refine Calls.mono H.out ?_); rintro e w1 ⟨A, c, rfl, hb⟩)
  go_ret
  exact ⟨rfl, hb⟩
end

end Go.Proofs.YtbnhkplhmanmoaaGreat

namespace Go.Proofs.YtbnhkplhmanmoaaGreat
open Go.RowKit

theorem own_kept {w w' : World} {base e size n : Nat} {row : Option Nat} {v : Value} {xs : List Value} (h : w.ownsRow base e size v n xs) (hg : w.grownBy w' row) (hne : ∀ q, row = some q → v.ownBlock ≠ some q) : w'.ownsRow base e size v n xs := by
  refine h.kept hg ?_
  cases hv : v.ownBlock with
  | none => exact Or.inl rfl
  | some q => exact Or.inr fun e => hne q e.symm hv
/-- Two slices have no block in common. -/
def Apart (v u : Value) : Prop := ∀ q, v.ownBlock = some q → u.ownBlock ≠ some q
theorem Apart.symm {v u : Value} (h : Apart v u) : Apart u v := fun q hu hv => h q hv hu
theorem Apart.grown {v u v' : Value} {N : Nat} (h : Apart v u) (hu : ∀ q, u.ownBlock = some q → q < N) (hv : v'.ownBlock = v.ownBlock ∨ v'.ownBlock = some N) : Apart v' u := fun q hq hqu => by
  rcases hv with e | e
  · exact h q (e ▸ hq) hqu
  · have := hu q hqu
    rw [e] at hq; injection hq with hq; omega

end Go.Proofs.YtbnhkplhmanmoaaGreat
