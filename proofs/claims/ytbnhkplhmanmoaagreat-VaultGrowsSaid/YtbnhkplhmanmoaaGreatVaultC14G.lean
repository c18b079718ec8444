/-
  The landed vault: Commit, of changes that are done, or cut off.
-/
import Derived.Test.YtbnhkplhmanmoaaGreatVaultC11G
namespace Go.Proofs.YtbnhkplhmanmoaaGreat
open Go.RowKit

theorem set0 {X : World} {g : Nat} {T : TypeId} {v0 v1 v2 v3 v4 v5 v6 : Value} (a : Value) (h : X.heap[g]? = some (.cells #[v0, v1, v2, v3, v4, v5, v6] T (0, 0))) : (X.setCell ⟨g, 0, none⟩ a).heap[g]? = some (.cells #[a, v1, v2, v3, v4, v5, v6] T (0, 0)) := by
  rw [setc_same _ _ _ _ _ _ h]; rfl
theorem TabOff.weak {N N' : Nat → Prop} {w : World} {B : Nat} {V : TabW} {t : Tab} (h : TabOff N V t) (ht : TabAt w B V t) (hN : ∀ b, b < B → N' b → N b) : TabOff N' V t := by
  refine ⟨fun h0 b o e hb => ?_, fun h0 b o e hb => ?_, fun h0 b o e hb => ?_⟩
  · obtain ⟨b', o', e', hl, _⟩ := ht.ts 0 h0
    have := addr_eq e e'; subst this; exact h.1 h0 _ o e (hN _ hl hb)
  · obtain ⟨b', o', e', hl, _⟩ := ht.vs 0 h0
    have := addr_eq e e'; subst this; exact h.2.1 h0 _ o e (hN _ hl hb)
  · obtain ⟨b', o', e', hl, _⟩ := ht.os 0 h0
    have := addr_eq e e'; subst this; exact h.2.2 h0 _ o e (hN _ hl hb)
/-- What Commit answers, of changes that a table takes. -/
def CmAns (Rep : World → Nat → (Nat → Prop) → Dk → Prop) (p q : Nat) (F : Nat → Prop) (s : Dk) (n : Nat) (v : Vt) (K : Int) (t : Tab) (w : World) (e : Ending) (w' : World) : Prop :=
  ∃ F' s' E V' v' d, e = .returned (.int .i64 E) ∧ VtAt Rep w' p q F' s' d V' v' ∧ More F F' w.heap.size ∧ Away (fun b => F b ∨ b = q) w w' ∧ (s.lim = none → s'.lim = none) ∧
    ((E = 0 ∧ d = some ⟨p, 0, none⟩ ∧ v'.t = t ∧ Alive s' n v' (K + 1) ∧ v.g ≤ v'.g) ∨ (E = 8 ∧ d = none ∧ v' = v ∧ Down s' n v.t t (K + 1) ∧ s.lim ≠ none))
section
variable {Rep : World → Nat → (Nat → Prop) → Dk → Prop} {w X : World} {p q m B lo : Nat} {F F6 : Nat → Prop} {s6 : Dk} {d : Option Addr} {V V2 : TabW} {T : Tab}
set_option maxHeartbeats 1600000 in
theorem cm_done (L : Lows Rep) (v' : Vt) (hA : Away (fun b => F b ∨ b = q) w X) (hrep : Rep X p F6 s6) (hm : More F F6 m) (hmw : w.heap.size + 2 ≤ m) (hq : q < w.heap.size) (hnq : ¬ F q) (hlt : ∀ b, F b → b < w.heap.size) {c1 c2 c3 c4 c5 c6 : Value}
    (hc : X.heap[q]? = some (.cells #[.pointer d, c1, c2, c3, c4, c5, c6] 68 (0, 0))) (hT : TabAt X B V2 v'.t) (hB : B ≤ m) (hBX : B ≤ X.heap.size) (hF : TabFrom lo V2) (hlo : w.heap.size + 2 ≤ lo) {e0 : Int} (hre : X.heap[w.heap.size + 1]? = some (.cells #[.int .i64 e0] 24 (0, 0))) :
    VtAt Rep (((((((X.setCell ⟨q, 1, none⟩ (.slice V2.A1 v'.t.ts.length V2.c1)).setCell ⟨q, 2, none⟩ (.slice V2.A2 v'.t.vs.length V2.c2)).setCell ⟨q, 3, none⟩ (.slice V2.A3 v'.t.os.length V2.c3)).setCell ⟨q, 4, none⟩ (.int .i64 (v'.a : Int))).setCell ⟨q, 5, none⟩ (.int .i64 v'.g)).setCell ⟨q, 6, none⟩ (.int .i64 (v'.u : Int))).drew.setCell ⟨w.heap.size + 1, 0, none⟩ (.int .i64 0)) p q F6 s6 d V2 v' ∧
    Away (fun b => F b ∨ b = q) w (((((((X.setCell ⟨q, 1, none⟩ (.slice V2.A1 v'.t.ts.length V2.c1)).setCell ⟨q, 2, none⟩ (.slice V2.A2 v'.t.vs.length V2.c2)).setCell ⟨q, 3, none⟩ (.slice V2.A3 v'.t.os.length V2.c3)).setCell ⟨q, 4, none⟩ (.int .i64 (v'.a : Int))).setCell ⟨q, 5, none⟩ (.int .i64 v'.g)).setCell ⟨q, 6, none⟩ (.int .i64 (v'.u : Int))).drew.setCell ⟨w.heap.size + 1, 0, none⟩ (.int .i64 0)) ∧ (((((((X.setCell ⟨q, 1, none⟩ (.slice V2.A1 v'.t.ts.length V2.c1)).setCell ⟨q, 2, none⟩ (.slice V2.A2 v'.t.vs.length V2.c2)).setCell ⟨q, 3, none⟩ (.slice V2.A3 v'.t.os.length V2.c3)).setCell ⟨q, 4, none⟩ (.int .i64 (v'.a : Int))).setCell ⟨q, 5, none⟩ (.int .i64 v'.g)).setCell ⟨q, 6, none⟩ (.int .i64 (v'.u : Int))).drew.setCell ⟨w.heap.size + 1, 0, none⟩ (.int .i64 0)).heap[w.heap.size + 1]? = some (.cells #[.int .i64 0] 24 (0, 0)) := by
  have hs := set6 (.slice V2.A1 v'.t.ts.length V2.c1) (.slice V2.A2 v'.t.vs.length V2.c2) (.slice V2.A3 v'.t.os.length V2.c3) (.int .i64 (v'.a : Int)) (.int .i64 v'.g) (.int .i64 (v'.u : Int)) hc
  have ho : ∀ k, k ≠ q → ((((((X.setCell ⟨q, 1, none⟩ (.slice V2.A1 v'.t.ts.length V2.c1)).setCell ⟨q, 2, none⟩ (.slice V2.A2 v'.t.vs.length V2.c2)).setCell ⟨q, 3, none⟩ (.slice V2.A3 v'.t.os.length V2.c3)).setCell ⟨q, 4, none⟩ (.int .i64 (v'.a : Int))).setCell ⟨q, 5, none⟩ (.int .i64 v'.g)).setCell ⟨q, 6, none⟩ (.int .i64 (v'.u : Int))).heap[k]? = X.heap[k]? := fun k hk => setCells_other q k hk [.slice V2.A1 v'.t.ts.length V2.c1, .slice V2.A2 v'.t.vs.length V2.c2, .slice V2.A3 v'.t.os.length V2.c3, .int .i64 (v'.a : Int), .int .i64 v'.g, .int .i64 (v'.u : Int)] 1 X
  obtain ⟨Z, hZ⟩ : ∃ Z, Z = ((((((X.setCell ⟨q, 1, none⟩ (.slice V2.A1 v'.t.ts.length V2.c1)).setCell ⟨q, 2, none⟩ (.slice V2.A2 v'.t.vs.length V2.c2)).setCell ⟨q, 3, none⟩ (.slice V2.A3 v'.t.os.length V2.c3)).setCell ⟨q, 4, none⟩ (.int .i64 (v'.a : Int))).setCell ⟨q, 5, none⟩ (.int .i64 v'.g)).setCell ⟨q, 6, none⟩ (.int .i64 (v'.u : Int))) := ⟨_, rfl⟩
  rw [← hZ] at hs ho ⊢
  clear hZ
  have hos : Z.os = X.os ∧ Z.tape = X.tape ∧ Z.output = X.output := ⟨hs.2.os, hs.2.tape, hs.2.output⟩
  have hzs := hs.2.size
  obtain ⟨Y, hY⟩ : ∃ Y, Y = Z.drew.setCell ⟨w.heap.size + 1, 0, none⟩ (.int .i64 0) := ⟨_, rfl⟩
  have hy : ∀ k, k ≠ w.heap.size + 1 → Y.heap[k]? = Z.heap[k]? := fun k hk => by rw [hY]; exact setc_other _ _ _ _ _ (Ne.symm hk)
  have hye : Y.heap[w.heap.size + 1]? = some (.cells #[.int .i64 0] 24 (0, 0)) := by rw [hY]; exact setc_same _ _ _ _ _ _ (show Z.drew.heap[w.heap.size + 1]? = _ from (ho _ (by omega)).trans hre)
  have hyo : Y.os = Z.os ∧ Y.tape = Z.tape ∧ Y.output = Z.output ∧ Y.heap.size = Z.heap.size := by rw [hY]; exact ⟨rfl, rfl, rfl, by show (Z.drew.heap.modify _ _).size = _; rw [Array.size_modify]; rfl⟩
  rw [← hY]
  have hyx : ∀ k, k ≠ q → k ≠ w.heap.size + 1 → Y.heap[k]? = X.heap[k]? := fun k h1 h2 => (hy k h2).trans (ho k h1)
  have hF6 : ∀ b, F6 b → b < w.heap.size ∧ F b ∨ m ≤ b := fun b hb => (hm b hb).imp (fun h => ⟨hlt b h, h⟩) id
  have hTo : TabOff (fun b => b = q ∨ b = w.heap.size + 1) V2 v'.t := TabOff.of hT hF fun b hN => .inl (by rcases hN with rfl | rfl <;> omega)
  refine ⟨⟨(L.d X).keep X Y p F6 s6 hrep fun b hb => hyx b (fun e => ?_) (fun e => ?_), fun h => ?_, (hy q (by omega)).trans hs.1, ?_, TabOff.of hT hF fun b hN => ?_⟩, ⟨hyo.1.trans (hos.1.trans hA.os), hyo.2.1.trans (hos.2.1.trans hA.tape), hyo.2.2.1.trans (hos.2.2.trans hA.output), by rw [hyo.2.2.2]; exact Nat.le_trans hA.size hzs, fun k hk hn => (hyx k (fun e => hn (.inr e)) (by omega)).trans (hA.block k hk hn)⟩, hye⟩
  · subst e
    rcases hF6 _ hb with h | h
    · exact hnq h.2
    · omega
  · subst e
    rcases hF6 _ hb with h | h
    · omega
    · omega
  · rcases hF6 _ h with h | h
    · exact hnq h.2
    · omega
  · exact (hT.away hTo fun k _ hn => hyx k (fun e => hn (.inl e)) (fun e => hn (.inr e))).more (by rw [hyo.2.2.2]; omega)
  · rcases hN with hN | hN
    · rcases hF6 _ hN with h | h
      · exact .inl (by omega)
      · exact .inr (by omega)
    · exact .inl (by omega)
theorem cm_cut (L : Lows Rep) {v : Vt} {s : Dk} (h : VtAt Rep w p q F s d V v) (hA : Away (fun b => F b ∨ b = q) w X) (hrep : Rep X p F6 s6) (hm : More F F6 m) (hmw : w.heap.size + 2 ≤ m) (hc : X.heap[q]? = some (.cells (vtC d V v.t v.a v.g v.u) 68 (0, 0))) :
    VtAt Rep ((X.setCell ⟨w.heap.size + 1, 0, none⟩ (.int .i64 8)).setCell ⟨q, 0, none⟩ (.pointer none)) p q F6 s6 none V v ∧ Away (fun b => F b ∨ b = q) w ((X.setCell ⟨w.heap.size + 1, 0, none⟩ (.int .i64 8)).setCell ⟨q, 0, none⟩ (.pointer none)) := by
  have hq := (Array.getElem?_eq_some_iff.1 h.cells).1
  have hlt : ∀ b, F b → b < w.heap.size := fun b hb => L.lt h.rep hb
  obtain ⟨Z, hZ⟩ : ∃ Z, Z = X.setCell ⟨w.heap.size + 1, 0, none⟩ (.int .i64 8) := ⟨_, rfl⟩
  have hz : ∀ k, k ≠ w.heap.size + 1 → Z.heap[k]? = X.heap[k]? := fun k hk => by rw [hZ]; exact setc_other _ _ _ _ _ (Ne.symm hk)
  have hzo : Z.os = X.os ∧ Z.tape = X.tape ∧ Z.output = X.output ∧ Z.heap.size = X.heap.size := by rw [hZ]; exact ⟨rfl, rfl, rfl, by simp [World.setCell]⟩
  rw [← hZ]
  have hc2 := (hz q (by omega)).trans hc
  unfold vtC at hc2
  have hs := set0 (.pointer none) hc2
  obtain ⟨Y, hY⟩ : ∃ Y, Y = Z.setCell ⟨q, 0, none⟩ (.pointer none) := ⟨_, rfl⟩
  have hy : ∀ k, k ≠ q → Y.heap[k]? = Z.heap[k]? := fun k hk => by rw [hY]; exact setc_other _ _ _ _ _ (Ne.symm hk)
  have hyo : Y.os = Z.os ∧ Y.tape = Z.tape ∧ Y.output = Z.output ∧ Y.heap.size = Z.heap.size := by rw [hY]; exact ⟨rfl, rfl, rfl, by simp [World.setCell]⟩
  rw [← hY] at hs ⊢
  have hyx : ∀ k, k ≠ q → k ≠ w.heap.size + 1 → Y.heap[k]? = X.heap[k]? := fun k h1 h2 => (hy k h1).trans (hz k h2)
  have hF6 : ∀ b, F6 b → b < w.heap.size ∧ F b ∨ m ≤ b := fun b hb => (hm b hb).imp (fun h => ⟨hlt b h, h⟩) id
  refine ⟨⟨(L.d X).keep X Y p F6 s6 hrep fun b hb => hyx b (fun e => ?_) (fun e => ?_), fun hF => ?_, hs, ?_, h.off.weak h.tab fun b hb hN => ?_⟩, ⟨hyo.1.trans (hzo.1.trans hA.os), hyo.2.1.trans (hzo.2.1.trans hA.tape), hyo.2.2.1.trans (hzo.2.2.1.trans hA.output), by rw [hyo.2.2.2, hzo.2.2.2]; exact hA.size, fun k hk hn => (hyx k (fun e => hn (.inr e)) (by omega)).trans (hA.block k hk hn)⟩⟩
  · subst e
    rcases hF6 _ hb with h' | h'
    · exact h.nq h'.2
    · omega
  · subst e
    rcases hF6 _ hb with h' | h'
    · omega
    · omega
  · rcases hF6 _ hF with h' | h'
    · exact h.nq h'.2
    · omega
  · exact (h.tab.away h.off fun k hk hn => (hyx k (fun e => hn (.inr e)) (by omega)).trans (hA.block k hk hn)).more (by rw [hyo.2.2.2, hzo.2.2.2]; exact hA.size)
  · rcases hN with hN | hN
    · rcases hF6 _ hN with h' | h'
      · exact .inl h'.2
      · omega
    · exact .inr hN
end
/-- Behind the write. -/
structure CmMid (Rep : World → Nat → (Nat → Prop) → Dk → Prop) (w X7 : World) (p q bT bL B m : Nat) (F F6 : Nat → Prop) (s6 : Dk) (V V1 : TabW) (v : Vt) (T : Tab) (x y z E : Int) : Prop where
  co : CoS w X7 q E
  tab : X7.heap[bT]? = some (.cells #[.slice V1.A1 T.ts.length V1.c1, .slice V1.A2 T.vs.length V1.c2, .slice V1.A3 T.os.length V1.c3] 35 (0, 0))
  cells : X7.heap[q]? = some (.cells (vtC (some ⟨p, 0, none⟩) V v.t v.a v.g v.u) 68 (0, 0))
  log : X7.heap[bL]? = some (.cells #[.int .i64 x, .int .i64 y, .int .i64 z] 66 (0, 0))
  rep : Rep X7 p F6 s6
  away : Away (fun b => F b ∨ b = q) w X7
  rows : TabAt X7 B V1 T
  big : B ≤ X7.heap.size
  ne : q < bT ∧ q < bL ∧ q < w.heap.size
theorem cm_mid {Rep : World → Nat → (Nat → Prop) → Dk → Prop} (L : Lows Rep) {w X5 w6 : World} {p q bT B : Nat} {F F6 : Nat → Prop} {s s6 : Dk} {V V1 : TabW} {v : Vt} {T : Tab} {x y z E : Int} (h : VtAt Rep w p q F s (some ⟨p, 0, none⟩) V v) (co : CoS w X5 q 0) (hb : Below w.heap.size w X5) (hT : TabAt X5 B V1 T) (hF : TabFrom (w.heap.size + 2) V1)
    (ht : X5.heap[bT]? = some (.cells #[.slice V1.A1 T.ts.length V1.c1, .slice V1.A2 T.vs.length V1.c2, .slice V1.A3 T.os.length V1.c3] 35 (0, 0))) (hbT : w.heap.size + 2 ≤ bT) (hB : B ≤ X5.heap.size) (hr : Rep w6 p F6 s6) (hm : More F F6 X5.heap.size) (ha : Away F X5 w6) :
    CmMid Rep w ((w6.alloc (.cells #[.int .i64 x, .int .i64 y, .int .i64 z] 66)).setCell ⟨w.heap.size + 1, 0, none⟩ (.int .i64 E)) p q bT w6.heap.size B X5.heap.size F F6 s6 V V1 v T x y z E := by
  have hlt : ∀ b, F b → b < w.heap.size := fun b hb => L.lt h.rep hb
  have hq := (Array.getElem?_eq_some_iff.1 h.cells).1
  have hba : Below w6.heap.size w6 (w6.alloc (.cells #[.int .i64 x, .int .i64 y, .int .i64 z] 66)) := (Below.refl _ _).alloc (Nat.le_refl _) _
  have hbt := (Array.getElem?_eq_some_iff.1 ht).1
  have h6 := ha.size
  have h5 := hb.size
  have ho : ∀ k, k ≠ w.heap.size + 1 → ((w6.alloc (.cells #[.int .i64 x, .int .i64 y, .int .i64 z] 66)).setCell ⟨w.heap.size + 1, 0, none⟩ (.int .i64 E)).heap[k]? = (w6.alloc (.cells #[.int .i64 x, .int .i64 y, .int .i64 z] 66)).heap[k]? := fun k hk => setc_other _ _ _ _ _ (Ne.symm hk)
  have hk6 : ∀ k, k < w6.heap.size → (w6.alloc (.cells #[.int .i64 x, .int .i64 y, .int .i64 z] 66)).heap[k]? = w6.heap[k]? := fun k hk => hba.block k hk
  have key : ∀ k, k < X5.heap.size → ¬ F k → k ≠ w.heap.size + 1 → ((w6.alloc (.cells #[.int .i64 x, .int .i64 y, .int .i64 z] 66)).setCell ⟨w.heap.size + 1, 0, none⟩ (.int .i64 E)).heap[k]? = X5.heap[k]? := fun k h1 h2 h3 => (ho k h3).trans ((hk6 k (by omega)).trans (ha.block k h1 h2))
  have nf : ∀ k, w.heap.size ≤ k → ¬ F k := fun k hk hF => by have := hlt k hF; omega
  have hsz : ((w6.alloc (.cells #[.int .i64 x, .int .i64 y, .int .i64 z] 66)).setCell ⟨w.heap.size + 1, 0, none⟩ (.int .i64 E)).heap.size = w6.heap.size + 1 := by simp [World.setCell]
  have hcc := co.away ha hlt
  refine ⟨(hcc.later hba).setE E, (key bT hbt (nf _ (by omega)) (by omega)).trans ht, (key q (by omega) h.nq (by omega)).trans ((hb.block q hq).trans h.cells), (ho _ (by omega)).trans (heap_alloc_new w6 _), ?_, ?_, ?_, by rw [hsz]; omega, by omega, by omega, hq⟩
  · refine (L.d w6).keep _ _ p F6 s6 (L.keep hr hba) fun b hbF => ho b fun e => ?_
    subst e
    rcases hm _ hbF with q' | q'
    · have := hlt _ q'; omega
    · have := (Array.getElem?_eq_some_iff.1 co.re).1
      omega
  · refine ⟨ha.os.trans hb.os, ha.tape.trans hb.tape, ha.output.trans hb.output, by rw [hsz]; omega, fun k hk hn => (key k (by omega) (fun hF => hn (.inl hF)) (by omega)).trans (hb.block k hk)⟩
  · refine (hT.away (N := fun b => F b ∨ b = w.heap.size + 1) (TabOff.of hT hF fun b hN => .inl ?_) fun k hk hn => key k (by omega) (fun hF => hn (.inl hF)) (fun e => hn (.inr e)))
    rcases hN with hN | hN
    · have := hlt b hN; omega
    · omega
section
variable {Rep : World → Nat → (Nat → Prop) → Dk → Prop} {w X7 : World} {p q bT bL B m : Nat} {F F6 : Nat → Prop} {s s6 : Dk} {V V1 : TabW} {v v' : Vt} {x y z : Int}
theorem drew_setCell (Z : World) (a : Addr) (u : Value) : Z.drew.setCell a u = (Z.setCell a u).drew := rfl
theorem CmMid.done (L : Lows Rep) (hV : VtAt Rep w p q F s (some ⟨p, 0, none⟩) V v) (h : CmMid Rep w X7 p q bT bL B m F F6 s6 V V1 v v'.t x y z 0) (hm : More F F6 m) (hmw : w.heap.size + 2 ≤ m) (hB : B ≤ m) (hF : TabFrom (w.heap.size + 2) V1) :
    VtAt Rep (((((((X7.setCell ⟨q, 1, none⟩ (.slice V1.A1 v'.t.ts.length V1.c1)).setCell ⟨q, 2, none⟩ (.slice V1.A2 v'.t.vs.length V1.c2)).setCell ⟨q, 3, none⟩ (.slice V1.A3 v'.t.os.length V1.c3)).setCell ⟨q, 4, none⟩ (.int .i64 (v'.a : Int))).setCell ⟨q, 5, none⟩ (.int .i64 v'.g)).setCell ⟨q, 6, none⟩ (.int .i64 (v'.u : Int))).setCell ⟨w.heap.size + 1, 0, none⟩ (.int .i64 0)).drew p q F6 s6 (some ⟨p, 0, none⟩) V1 v' ∧ Away (fun b => F b ∨ b = q) w (((((((X7.setCell ⟨q, 1, none⟩ (.slice V1.A1 v'.t.ts.length V1.c1)).setCell ⟨q, 2, none⟩ (.slice V1.A2 v'.t.vs.length V1.c2)).setCell ⟨q, 3, none⟩ (.slice V1.A3 v'.t.os.length V1.c3)).setCell ⟨q, 4, none⟩ (.int .i64 (v'.a : Int))).setCell ⟨q, 5, none⟩ (.int .i64 v'.g)).setCell ⟨q, 6, none⟩ (.int .i64 (v'.u : Int))).setCell ⟨w.heap.size + 1, 0, none⟩ (.int .i64 0)).drew ∧ (((((((X7.setCell ⟨q, 1, none⟩ (.slice V1.A1 v'.t.ts.length V1.c1)).setCell ⟨q, 2, none⟩ (.slice V1.A2 v'.t.vs.length V1.c2)).setCell ⟨q, 3, none⟩ (.slice V1.A3 v'.t.os.length V1.c3)).setCell ⟨q, 4, none⟩ (.int .i64 (v'.a : Int))).setCell ⟨q, 5, none⟩ (.int .i64 v'.g)).setCell ⟨q, 6, none⟩ (.int .i64 (v'.u : Int))).setCell ⟨w.heap.size + 1, 0, none⟩ (.int .i64 0)).drew.cell? ⟨w.heap.size + 1, 0, none⟩ = some (.int .i64 0) := by
  have hc := h.cells
  unfold vtC at hc
  obtain ⟨r1, r2, r3⟩ := cm_done L v' h.away h.rep hm hmw h.ne.2.2 hV.nq (fun b hb => L.lt hV.rep hb) hc h.rows hB h.big hF (Nat.le_refl _) h.co.re
  rw [drew_setCell] at r1 r2 r3
  exact ⟨r1, r2, by rw [cell_of_row _ _ _ _ _ _ r3]; rfl⟩
theorem CmMid.cut (L : Lows Rep) {T : Tab} (hV : VtAt Rep w p q F s (some ⟨p, 0, none⟩) V v) (h : CmMid Rep w X7 p q bT bL B m F F6 s6 V V1 v T x y z 8) (hm : More F F6 m) (hmw : w.heap.size + 2 ≤ m) :
    (VtAt Rep ((X7.setCell ⟨w.heap.size + 1, 0, none⟩ (.int .i64 8)).setCell ⟨q, 0, none⟩ (.pointer none)) p q F6 s6 none V v ∧ Away (fun b => F b ∨ b = q) w ((X7.setCell ⟨w.heap.size + 1, 0, none⟩ (.int .i64 8)).setCell ⟨q, 0, none⟩ (.pointer none))) ∧
    ((X7.setCell ⟨w.heap.size + 1, 0, none⟩ (.int .i64 8)).setCell ⟨q, 0, none⟩ (.pointer none)).cell? ⟨w.heap.size + 1, 0, none⟩ = some (.int .i64 8) ∧
    CallsD Tryz.prog 21 #[.pointer (some ⟨w.heap.size + 1, 0, none⟩), .func (.func 25) #[] #[.pointer (some ⟨w.heap.size, 0, none⟩)]] .returning (X7.setCell ⟨w.heap.size + 1, 0, none⟩ (.int .i64 8)) fun e u' w' => u' = .returning ∧ e = .returned (.tuple #[]) ∧ w' = (X7.setCell ⟨w.heap.size + 1, 0, none⟩ (.int .i64 8)).setCell ⟨q, 0, none⟩ (.pointer none) := by
  have hr := cm_cut L hV h.away h.rep hm hmw h.cells
  have hco := h.co.setE 8
  obtain ⟨d0, d1, _⟩ := hco.cells
  obtain ⟨_, _, n3⟩ := h.ne
  have hqc := (setc_other X7 (w.heap.size + 1) q 0 (.int .i64 8) (by omega)).trans h.cells
  unfold vtC at hqc
  obtain ⟨u0, _⟩ := cells7 hqc
  have f0 := frozen_of_row _ _ 0 _ _ hqc
  have hrow := (setc_other (X7.setCell ⟨w.heap.size + 1, 0, none⟩ (.int .i64 8)) q (w.heap.size + 1) 0 (.pointer none) (by omega)).trans hco.re
  exact ⟨hr, by rw [cell_of_row _ _ _ _ _ _ hrow]; rfl, caught_no ⟨w.heap.size + 1, 0, none⟩ 8 w.heap.size q (.pointer (some ⟨p, 0, none⟩)) _ d1 (by decide) d0 u0 f0⟩
end
section
variable {Rep : World → Nat → (Nat → Prop) → Dk → Prop} (L : Lows Rep)
include L
set_option maxHeartbeats 1600000 in
set_option maxRecDepth 20000 in
/-- Changes that a table takes. -/
theorem commit_some {w : World} {p q : Nat} {F : Nat → Prop} {s : Dk} {V : TabW} {v : Vt} (n : Nat) (K : Int) (T : Tab) (h : VtAt Rep w p q F s (some ⟨p, 0, none⟩) V v) (hA : Alive s n v K) (hK : K ≤ 2147483600) (A : Option Addr) (c : Nat) (l : List Rc) (hrec : RecsAt w w.heap.size A l) (hc : l.length ≤ c) (hok : ∀ r ∈ l, r.ok) (hm : l.length ≤ 140737488355328) (hoff : Off F A l.length) (happ : applyR v.t l = (0, T)) (hne : l ≠ []) :
    Calls Tryz.prog 10 #[.pointer (some ⟨q, 0, none⟩), .slice A l.length c] w (CmAns Rep p q F s n v K T w) := by
  have hsn := hA.sound
  have hrun : runR v.t l = (0, T) := by rw [← apply_one hsn.1]; exact happ
  have hb0 : Below w.heap.size w (w.alloc (.cells #[.pointer (some ⟨q, 0, none⟩)] 27)) := (Below.refl _ _).alloc (Nat.le_refl _) _
  have hb1 := hb0.alloc hb0.size (.cells #[.int .i64 0] 24)
  have hvc := (hb1.block _ (Array.getElem?_eq_some_iff.1 h.cells).1).trans h.cells
  unfold vtC at hvc
  obtain ⟨c0, c1, c2, c3, _⟩ := cells7 hvc
  have HO := CoS.start w q
  obtain ⟨y0, y1, y2⟩ := HO.cells
  obtain ⟨W0, hW0⟩ : ∃ W, W = (w.alloc (.cells #[.pointer (some ⟨q, 0, none⟩)] 27)).alloc (.cells #[.int .i64 0] 24) := ⟨_, rfl⟩
  rw [← hW0] at HO hb1
  have hs0 : W0.heap.size = w.heap.size + 2 := by rw [hW0]; simp
  have HO := Lib.hid HO
  have HW0 := Lib.hid hW0
  have HB0 := Lib.hid hb1
  have hlt : Hid (∀ b, F b → b < w.heap.size) := fun b hb => L.lt h.rep hb
  have hq := (Array.getElem?_eq_some_iff.1 h.cells).1
  have HA : Hid (Calls Tryz.prog 24 #[.agg #[.slice V.A1 v.t.ts.length V.c1, .slice V.A2 v.t.vs.length V.c2, .slice V.A3 v.t.os.length V.c3], .slice A l.length c] W0 fun e w' => ∃ V' : TabW, e = .returned (.tuple #[.agg #[.slice V'.A1 T.ts.length V'.c1, .slice V'.A2 T.vs.length V'.c2, .slice V'.A3 T.os.length V'.c3], .int .i64 0]) ∧ TabAt w' w'.heap.size V' T ∧ TabFrom (w.heap.size + 2) V' ∧ Below W0.heap.size W0 w') := by
    have := (L.t W0).apply V v.t A c l W0 (Below.refl _ _) ((h.tab.below hb1).more hb1.size) (sound_ok hsn.1) ((hrec.below hb1).more hb1.size) hc hok hm
    rw [happ] at this
    exact this.mono fun e w' ⟨V', a1, a2, a3, a4⟩ => ⟨V', a1, a2, by rw [← hs0]; exact a3, a4⟩
  -- the state ahead of the write, and behind it
  have HX : Hid (∀ (V1 : TabW) (w1 : World), TabAt w1 w1.heap.size V1 T → TabFrom (w.heap.size + 2) V1 → Below W0.heap.size W0 w1 → CoS w ((w1.alloc (.cells #[.slice V1.A1 T.ts.length V1.c1, .slice V1.A2 T.vs.length V1.c2, .slice V1.A3 T.os.length V1.c3] 35)).setCell ⟨w.heap.size + 1, 0, none⟩ (.int .i64 0)) q 0 ∧ Below w.heap.size w ((w1.alloc (.cells #[.slice V1.A1 T.ts.length V1.c1, .slice V1.A2 T.vs.length V1.c2, .slice V1.A3 T.os.length V1.c3] 35)).setCell ⟨w.heap.size + 1, 0, none⟩ (.int .i64 0)) ∧ VtAt Rep ((w1.alloc (.cells #[.slice V1.A1 T.ts.length V1.c1, .slice V1.A2 T.vs.length V1.c2, .slice V1.A3 T.os.length V1.c3] 35)).setCell ⟨w.heap.size + 1, 0, none⟩ (.int .i64 0)) p q F s (some ⟨p, 0, none⟩) V v ∧
      ((w1.alloc (.cells #[.slice V1.A1 T.ts.length V1.c1, .slice V1.A2 T.vs.length V1.c2, .slice V1.A3 T.os.length V1.c3] 35)).setCell ⟨w.heap.size + 1, 0, none⟩ (.int .i64 0)).heap[w1.heap.size]? = some (.cells #[.slice V1.A1 T.ts.length V1.c1, .slice V1.A2 T.vs.length V1.c2, .slice V1.A3 T.os.length V1.c3] 35 (0, 0)) ∧ TabAt ((w1.alloc (.cells #[.slice V1.A1 T.ts.length V1.c1, .slice V1.A2 T.vs.length V1.c2, .slice V1.A3 T.os.length V1.c3] 35)).setCell ⟨w.heap.size + 1, 0, none⟩ (.int .i64 0)) w1.heap.size V1 T ∧ w.heap.size + 2 ≤ w1.heap.size ∧ ((w1.alloc (.cells #[.slice V1.A1 T.ts.length V1.c1, .slice V1.A2 T.vs.length V1.c2, .slice V1.A3 T.os.length V1.c3] 35)).setCell ⟨w.heap.size + 1, 0, none⟩ (.int .i64 0)).heap.size = w1.heap.size + 1) := fun V1 w1 q1 q2 q3 => by
    have hw1 : w.heap.size + 2 ≤ w1.heap.size := by rw [← hs0]; exact q3.size
    have hba : Below w1.heap.size w1 (w1.alloc (.cells #[.slice V1.A1 T.ts.length V1.c1, .slice V1.A2 T.vs.length V1.c2, .slice V1.A3 T.os.length V1.c3] 35)) := (Below.refl _ _).alloc (Nat.le_refl _) _
    have hbb := ((chain hb1 (chain q3 hba)).setCell (p := ⟨w.heap.size + 1, 0, none⟩) (Nat.le_succ _) (.int .i64 0))
    have hT : TabAt ((w1.alloc (.cells #[.slice V1.A1 T.ts.length V1.c1, .slice V1.A2 T.vs.length V1.c2, .slice V1.A3 T.os.length V1.c3] 35)).setCell ⟨w.heap.size + 1, 0, none⟩ (.int .i64 0)) w1.heap.size V1 T := (q1.below hba).other q2 (Nat.lt_succ_self _) fun k hk => setc_other _ _ _ _ _ (Ne.symm hk)
    exact ⟨((HO.out.later q3).later hba).setE 0, hbb, h.later L hbb, (setc_other _ _ _ _ _ (by omega)).trans (heap_alloc_new w1 _), hT, hw1, by simp [World.setCell]⟩
  have HWR : Hid (∀ (V1 : TabW) (B : Nat) (X : World), VtAt Rep X p q F s (some ⟨p, 0, none⟩) V v → Below w.heap.size w X → TabAt X B V1 T → B ≤ X.heap.size → Calls Tryz.prog 26 #[.pointer (some ⟨q, 0, none⟩), .agg #[.slice V1.A1 T.ts.length V1.c1, .slice V1.A2 T.vs.length V1.c2, .slice V1.A3 T.os.length V1.c3], .slice A l.length c] X (WvAns Rep p F s n v K T X)) := fun V1 B X q1 q2 q3 q4 =>
    write_any L p q F s n v K V V1 T A c l X q1 hA hK (q3.more q4) hrun hne hm ((hrec.below q2).more q2.size) hoff
  have hnl : ((l.length : Int) == 0) = false := by
    have := List.length_pos_iff.2 hne
    rw [beq_eq_false_iff_ne]; omega
  obtain ⟨NL, hNL⟩ : ∃ x, x = l.length := ⟨_, rfl⟩
  rw [← hNL] at HA HWR hnl ⊢
  have HVT := Lib.hid h
  have HLL := Lib.hid L
  have hmf : ∀ (fn : Fn) (first cap : Array Value) (w : World), (Instr.makeFunc fn first cap).run Tryz.prog w = .ok (.func fn first cap) w := fun _ _ _ _ => rfl
  clear hvc hb0 hb1 h L hrec hc hok hm happ hne hrun hW0 hs0 hNL hoff hsn hA
  go_enter_defers Tryz.func10, Tryz.ntmps10
  go_wp2_with (go_at_call 24; rw [← HW0.out]; with_reducible (refine Calls.mono HA.out ?_); rintro e w1 ⟨V1, rfl, hT1, hF1, hb1⟩
               have HO1 := Lib.hid ((HO.out.later hb1).later ((Below.refl w1.heap.size w1).alloc (Nat.le_refl _) (.cells #[.slice V1.A1 T.ts.length V1.c1, .slice V1.A2 T.vs.length V1.c2, .slice V1.A3 T.os.length V1.c3] 35)))
               have HX1 := Lib.hid (HX.out _ _ hT1 hF1 hb1)
               have HF1 := Lib.hid hF1
               obtain ⟨x0, x1, x2⟩ := HO1.out.cells
               obtain ⟨z0, z1, z2⟩ := HX1.out.1.cells
               obtain ⟨t0, t1, t2⟩ := cells3 HX1.out.2.2.2.1
               clear hb1 hT1 hF1 y0 y1 y2 c0 c1 c2 c3)
  obtain ⟨X5, hX5⟩ : ∃ X, X = (w1.alloc (.cells #[.slice V1.A1 T.ts.length V1.c1, .slice V1.A2 T.vs.length V1.c2, .slice V1.A3 T.os.length V1.c3] 35)).setCell ⟨w.heap.size + 1, 0, none⟩ (.int .i64 0) := ⟨_, rfl⟩
  obtain ⟨bT, hbT⟩ : ∃ b, b = w1.heap.size := ⟨_, rfl⟩
  rw [← hX5, ← hbT] at HX1
  rw [← hX5, ← hbT]
  have HW5 := Lib.hid (HWR.out V1 bT X5 HX1.out.2.2.1 HX1.out.2.1 HX1.out.2.2.2.2.1 (by rw [HX1.out.2.2.2.2.2.2]; exact Nat.le_succ _))
  clear hX5 hbT x0 x1 x2 z0 z1 z2 t0 t1 t2 HO1 HWR HX HA
  go_at_call 26
  with_reducible (refine Calls.mono HW5.out ?_)
  rintro e w6 ⟨F6, s6, E, x, y, z, rfl, hr6, hm6, ha6, hl6, hor⟩
  have HM := Lib.hid (cm_mid (x := x) (y := y) (z := z) (E := E) HLL.out HVT.out HX1.out.1 HX1.out.2.1 HX1.out.2.2.2.2.1 HF1.out HX1.out.2.2.2.1 HX1.out.2.2.2.2.2.1 (by rw [HX1.out.2.2.2.2.2.2]; exact Nat.le_succ _) hr6 hm6 ha6)
  have HAL := Lib.hid (heap_alloc_new w6 (.cells #[.int .i64 x, .int .i64 y, .int .i64 z] 66))
  have HC6 := Lib.hid ((HX1.out.1.away ha6 hlt.out).later ((Below.refl w6.heap.size w6).alloc (Nat.le_refl _) (.cells #[.int .i64 x, .int .i64 y, .int .i64 z] 66)))
  have HS5 : Hid (X5.heap.size = bT + 1 ∧ w.heap.size + 2 ≤ bT) := ⟨HX1.out.2.2.2.2.2.2, HX1.out.2.2.2.2.2.1⟩
  have HMO := Lib.hid hm6
  have HLI := Lib.hid hl6
  clear hr6 hm6 ha6 hl6 HW5 HX1
  obtain ⟨a0, a1, a2⟩ := HC6.out.cells
  obtain ⟨b0, b1, b2⟩ := HM.out.co.cells
  rcases hor with ⟨rfl, v', rfl, rfl, rfl, rfl, hal, hge⟩ | ⟨rfl, hdn, hlim⟩
  · obtain ⟨x0, x1, x2⟩ := cells3 HM.out.tab
    obtain ⟨l0, l1, l2⟩ := cells3 HM.out.log
    have hqc := HM.out.cells
    unfold vtC at hqc
    obtain ⟨u0, u1, u2, u3, u4, u5, u6⟩ := cells7 hqc
    have f1 := frozen_of_row _ _ 1 _ _ hqc
    have f2 := frozen_of_row _ _ 2 _ _ hqc
    have f3 := frozen_of_row _ _ 3 _ _ hqc
    have f4 := frozen_of_row _ _ 4 _ _ hqc
    have f5 := frozen_of_row _ _ 5 _ _ hqc
    have f6 := frozen_of_row _ _ 6 _ _ hqc
    obtain ⟨n1, n2, n3⟩ := HM.out.ne
    have m1 : ¬ q = bT := by omega
    have m2 : ¬ bT = q := by omega
    have m3 : ¬ q = w6.heap.size := by omega
    have m4 : ¬ w6.heap.size = q := by omega
    have m5 : ¬ q = w.heap.size := by omega
    have m6 : ¬ w.heap.size = q := by omega
    have m7 : ¬ q = w.heap.size + 1 := by omega
    have m8 : ¬ w.heap.size + 1 = q := by omega
    have HAV := Lib.hid (And.intro hal hge)
    have hmw : w.heap.size + 2 ≤ X5.heap.size := by have := HS5.out; omega
    have hB5 : bT ≤ X5.heap.size := by have := HS5.out; omega
    obtain ⟨r1, r2, hz⟩ := HM.out.done HLL.out HVT.out HMO.out hmw hB5 HF1.out
    have HR := Lib.hid (And.intro r1 r2)
    clear hal hge hqc n1 n2 n3 r1 r2 hmw hB5
    go_wp2
    go_region
    go_wp2
    refine leaves_cons (f := 21) (args := #[.pointer (some ⟨w.heap.size + 1, 0, none⟩), .func (.func 25) #[] #[.pointer (some ⟨w.heap.size, 0, none⟩)]]) (by simp) (by simp [go_sem]) ?_
    refine (caught_ok ⟨w.heap.size + 1, 0, none⟩ _ _ hz).mono ?_
    rintro e u' w'' ⟨rfl, rfl, rfl⟩
    simp [Leaves, settle, results, Tryz.results10, go_sem, hz]
    exact ⟨F6, s6, 0, V1, v', some ⟨p, 0, none⟩, rfl, HR.out.1, fun b hb => (HMO.out b hb).imp id fun h => by have := HS5.out; omega, HR.out.2, HLI.out, .inl ⟨rfl, rfl, rfl, HAV.out.1, HAV.out.2⟩⟩
  · have hmw : w.heap.size + 2 ≤ X5.heap.size := by have := HS5.out; omega
    obtain ⟨hr, hz, hcn⟩ := HM.out.cut HLL.out HVT.out HMO.out hmw
    have HR := Lib.hid hr
    have HCN := Lib.hid hcn
    have HDN := Lib.hid (And.intro hdn hlim)
    have HZ := Lib.hid hz
    clear hr hcn hmw hdn hlim hz
    go_wp2
    refine leaves_cons (f := 21) (args := #[.pointer (some ⟨w.heap.size + 1, 0, none⟩), .func (.func 25) #[] #[.pointer (some ⟨w.heap.size, 0, none⟩)]]) (by simp) (by simp [go_sem]) ?_
    refine HCN.out.mono ?_
    rintro e u' w'' ⟨rfl, rfl, rfl⟩
    have hz := HZ.out
    simp [Leaves, settle, results, Tryz.results10, go_sem, hz]
    exact ⟨F6, s6, 8, V, v, none, rfl, HR.out.1, fun b hb => (HMO.out b hb).imp id fun h => by have := HS5.out; omega, HR.out.2, HLI.out, .inr ⟨rfl, rfl, rfl, HDN.out.1, HDN.out.2⟩⟩
end

end Go.Proofs.YtbnhkplhmanmoaaGreat
