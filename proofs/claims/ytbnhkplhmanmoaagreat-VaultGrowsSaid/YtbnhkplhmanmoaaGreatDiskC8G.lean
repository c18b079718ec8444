/-
  The landed disk: Write's attempt.
-/
import Derived.Test.YtbnhkplhmanmoaaGreatDiskC5G
import Derived.Deep.AppendLies
import Derived.Great.BuildSlice
namespace Go.Proofs.YtbnhkplhmanmoaaGreat
open Go.RowKit

section
variable {P : Program} {ops : Array Oper} {o : Oper} {a : Act} {w : World} {K : Act → World → Prop} {Q : Exit → Act → World → Prop} {E : Prop}
theorem yields_build {S : World → Prop} (hw : Region.wanted o (yielded ops a.tmps) = true) (t : TypeId) (parts : Array (Nat × Operand)) (ho : o.op = .build t parts)
    (vs : Array (Nat × Value)) (hv : parts.map (fun (i, x) => (i, a.eval x)) = vs) (cells : Array Value) (hb : ∀ w, (Instr.build t vs).run P w = .ok (.agg cells) w) : YieldsIf P ops S o (.agg cells) a :=
  .inl ⟨hw, fun w _ => by
    unfold execOp
    simp only [ho, hv, hb, Sem.run_bind, Sem.run_pure, Result.andThen_ok]⟩
theorem step_buildSlice (hw : Region.wanted o (yielded ops a.tmps) = true) (t : TypeId) (len : Nat) (parts : Array (Nat × Operand)) (ho : o.op = .buildSlice t len parts)
    (vs : Array (Nat × Value)) (hv : parts.map (fun (i, x) => (i, a.eval x)) = vs) (v : Value) (w' : World) (hb : (Instr.buildSlice t len vs).run P w = .ok v w') (h : K (a.put o.dst v) w') :
    if Region.wanted o (yielded ops a.tmps) = true then Oper.wp P o a w K Q else E := by
  rw [if_pos hw]
  unfold Oper.wp execOp
  simp only [ho, hv, hb, Sem.run_bind, Sem.run_pure, Result.andThen_ok]
  exact h
end

theorem Tryz.infoWb : (Tryz.prog.info? 105).map (fun i => (i.zero, i.size, i.bytes)) = some (some (.agg (wrV (0, zeroSec)).toArray), 65, 72) := by kernel_rfl
theorem built_struct {P : Program} {t : TypeId} {z : Array Value} {pl : List (Nat × Nat)} (h : (match P.info? t, P.underlying t with
    | some it, some (.struct fields) => (match it.zero, fields.toList.mapM (fun f => (P.info? f.type).map fun i => (f.offset, i.size)) with
      | some z, some places => some (z.cells, places)
      | _, _ => none)
    | _, _ => none) = some (z, pl)) (parts : List (Nat × Value)) : P.built t parts = Instr.fill (pl.toArray[·]?) z parts := by
  unfold Program.built
  cases hi : P.info? t with
  | none => rw [hi] at h; cases h
  | some it =>
    cases hu : P.underlying t with
    | none => rw [hi, hu] at h; cases h
    | some d =>
      rw [hi, hu] at h
      cases d <;> try (cases h; done)
      rename_i fields
      cases hz : it.zero with
      | none => simp only [hz] at h; cases h
      | some z0 =>
        cases hp : fields.toList.mapM (fun f => (P.info? f.type).map fun i => (f.offset, i.size)) with
        | none => simp only [hz, hp] at h; cases h
        | some pl0 =>
          simp only [hz, hp] at h ⊢
          injection h with h
          injection h with h1 h2
          rw [h1, h2]
theorem fill_next {place : Nat → Option (Nat × Nat)} {cells : Array Value} {i off size : Nat} {v : Value} {rest : List (Nat × Value)} (hp : place i = some (off, size)) (hv : v.cells.size = size) (hl : off + size ≤ cells.size) :
    Instr.fill place cells ((i, v) :: rest) = Instr.fill place ((v.cells.toList.zipIdx 0).foldl (fun cs (x : Value × Nat) => cs.setIfInBounds (off + x.2) x.1) cells) rest := by
  conv => lhs; unfold Instr.fill
  rw [hp]
  simp only [hv]
  rw [if_neg (by simp; omega)]
  congr 1
  rw [← Array.foldl_toList, Array.toList_zipIdx]
theorem builtW : (match Tryz.prog.info? 105, Tryz.prog.underlying 105 with
    | some it, some (.struct fields) => (match it.zero, fields.toList.mapM (fun f => (Tryz.prog.info? f.type).map fun i => (f.offset, i.size)) with
      | some z, some places => some (z.cells, places)
      | _, _ => none)
    | _, _ => none) = some ((wrV (0, zeroSec)).toArray, [(0, 64), (64, 1)]) := by kernel_rfl
set_option maxRecDepth 20000 in
/-- A write is built. -/
theorem buildW (i : Int) {T C : Array Value} (hT : T.size = 64) (hC : C = (T.toList ++ [Value.int .i64 i]).toArray) (W : World) : (Instr.build 105 #[(0, .agg T), (1, .int .i64 i)]).run Tryz.prog W = .ok (.agg C) W := by
  refine run_build W _ _ _ ?_
  rw [built_struct builtW]
  have hs : (wrV (0, zeroSec)).toArray.size = 65 := rfl
  obtain ⟨g1, g2⟩ := Great.foldl_set 0 T.toList 0 (wrV (0, zeroSec)).toArray
  show Instr.fill _ _ [(0, Value.agg T), (1, Value.int .i64 i)] = _
  rw [fill_next (off := 0) (size := 64) rfl (by exact hT) (by rw [hs]; decide)]
  obtain ⟨D, hD⟩ : ∃ D, D = ((T.toList.zipIdx 0).foldl (fun cs (x : Value × Nat) => cs.setIfInBounds (0 + x.2) x.1) (wrV (0, zeroSec)).toArray) := ⟨_, rfl⟩
  rw [← hD] at g1 g2
  show Instr.fill _ ((T.toList.zipIdx 0).foldl (fun cs (x : Value × Nat) => cs.setIfInBounds (0 + x.2) x.1) (wrV (0, zeroSec)).toArray) _ = _
  rw [← hD, fill_next (off := 64) (size := 1) rfl rfl (by rw [g1, hs]; decide)]
  show some (D.setIfInBounds (64 + 0) (.int .i64 i)) = _
  congr 1
  apply Array.ext_getElem?
  intro k
  rw [hC, Array.getElem?_setIfInBounds]
  rw [hs] at g1 g2
  have hTl : T.toList.length = 64 := by rw [Array.length_toList]; exact hT
  have hr : (T.toList ++ [Value.int .i64 i]).toArray[k]? = (T.toList ++ [Value.int .i64 i])[k]? := List.getElem?_toArray
  rw [hr]
  by_cases e : 64 + 0 = k
  · rw [if_pos e, if_pos (by rw [g1]; omega), ← e, List.getElem?_append_right (by omega), hTl]; rfl
  · rw [if_neg e]
    rcases Nat.lt_or_ge k 64 with hk | hk
    · rw [g2 k, if_pos ⟨by omega, by omega, by omega⟩, List.getElem?_append_left (by omega)]; rfl
    · rw [Array.getElem?_eq_none (by rw [g1]; omega), List.getElem?_eq_none (by rw [List.length_append, hTl]; simp; omega)]
/-- .. and laid into a slice. -/
theorem sliceW {C : Array Value} (hC : C.size = 65) (W : World) : (Instr.buildSlice 60 1 #[(0, .agg C)]).run Tryz.prog W = .ok (.slice (some ⟨W.heap.size, 0, none⟩) 1 1) (W.alloc (.cells C 105)) := by
  obtain ⟨i0, hif, hz0, hz1, hz2⟩ := info_parts Tryz.infoWb
  refine run_buildSlice W _ _ 1 _ C i0 _ Tryz.underlying60 hif hz0 (by rw [hz1]; decide) (by rw [hz1]; decide) ?_
  rw [hz1]
  have h := Great.fill_whole (s := 65) (by decide) [.agg C] ((Array.range (1 * 65)).map (fun k => (Value.agg (wrV (0, zeroSec)).toArray).cells[k % (Value.agg (wrV (0, zeroSec)).toArray).cells.size]!)) (fun v hv => by rw [List.mem_singleton.1 hv]; exact hC) (by simp)
  refine Eq.trans ?_ (h.trans ?_)
  · rfl
  · simp [Value.cells]

section
variable {w w2 w3 w7 : World} {p gl gn : Nat} {V V' : Value} {z : Int} {DL : DataW Value} {DN : DataW Unit} {s : Dk}
/-- One write more is pending. -/
theorem DiskIn.push (h : DiskIn w p gl gn V z DL DN s) {i : Nat} {t : List Nat} (hi : i < s.last.length) (ht : Sec t) (ho : w2.ownsMap Tryz.prog 3 (plainElem Tryz.prog 3) gn (s.pend.length + 1) (DN.put (.int .i64 (i : Int)) (.lit (.int .i64 (s.pend.length : Int)))))
    (hm : w.mapTurned w2 gn) (hb : Below w2.heap.size w2 w3) (hg : w3.grownBy w7 V.ownBlock) (hown : w7.ownsRow 0 105 65 V' (s.pend.length + 1) (pendC s.pend ++ wrV (i, t))) (hV : V.ownBlock = V'.ownBlock ∨ ∃ g, V'.ownBlock = some g ∧ w3.heap.size ≤ g) :
    DiskIn (w7.setCell ⟨p, 2, none⟩ V') p gl gn V' z DL (DN.put (.int .i64 (i : Int)) (.lit (.int .i64 (s.pend.length : Int)))) ⟨s.last, s.pend ++ [(i, t)], s.lim, s.off⟩ := by
  have hsz : w.heap.size ≤ w2.heap.size := by
    obtain ⟨es, clock, es', clock', hb', rfl⟩ := hm
    simp [ChangeMaps.setBlock]
  have lp := Nat.lt_of_lt_of_le (h.lt p own_p) hsz
  have ll := Nat.lt_of_lt_of_le (h.lt gl own_l) hsz
  have ln := Nat.lt_of_lt_of_le (h.lt gn own_n) hsz
  have hne : ∀ b, b < w2.heap.size → V.ownBlock ≠ some b → V'.ownBlock ≠ some b := fun b hlt hn e => by
    rcases hV with e2 | ⟨g, e2, hl⟩
    · exact hn (e2.trans e)
    · rw [e2] at e; injection e with e; have := hb.size; omega
  have k7 : ∀ b, b < w2.heap.size → V.ownBlock ≠ some b → w7.heap[b]? = w2.heap[b]? := fun b hlt hn => (hg.block b (Nat.lt_of_lt_of_le hlt hb.size) (fun e => hn e.symm)).trans (hb.block b hlt)
  have kp := (k7 p lp h.a2.1).trans ((mt_other hm h.a1.2.1).trans h.box)
  refine ⟨⟨h.ok.pos, h.ok.le, h.ok.sec, fun j hj => ?_⟩, setc_same w7 p 2 V' _ _ kp, mapHeap h.last ((setc_other w7 p gl 2 V' h.a1.1).trans ((k7 gl ll h.a2.2.1).trans (mt_other hm h.a1.2.2))), h.lsays, ?_, ?_, ?_, h.lim, h.zi, h.a1, ⟨hne p lp h.a2.1, hne gl ll h.a2.2.1, hne gn ln h.a2.2.2⟩⟩
  · simp only [List.length_append, List.length_cons, List.length_nil] at hj
    rw [List.getD_eq_getElem?_getD]
    by_cases hj2 : j < s.pend.length
    · rw [List.getElem?_append_left hj2, ← List.getD_eq_getElem?_getD]; exact h.ok.pen j hj2
    · rw [List.getElem?_append_right (by omega), show j - s.pend.length = 0 by omega]
      exact ⟨hi, ht⟩
  · rw [show (s.pend ++ [(i, t)]).length = s.pend.length + 1 by simp]
    exact mapHeap ho ((setc_other w7 p gn 2 V' h.a1.2.1).trans (k7 gn ln h.a2.2.2))
  · exact h.nsays.put h.new.isMap i t
  · rw [show (s.pend ++ [(i, t)]).length = s.pend.length + 1 by simp, pendC_app]
    exact own_same hown (fun g e => setc_other w7 p g 2 V' (fun e2 => hne p lp h.a2.1 (by rw [e2]; exact e)))
end

end Go.Proofs.YtbnhkplhmanmoaaGreat
