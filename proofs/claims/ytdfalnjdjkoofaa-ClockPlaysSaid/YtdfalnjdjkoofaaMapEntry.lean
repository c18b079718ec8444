/-
  'm[k], .. = v, ..' of a key that is not there yet, and 'delete(m, k)', as steps of a region that draws. No program is spoken of here.
-/
import Derived.Test.YtdfalnjdjkoofaaWords
import Derived.Maps.OwnSet
import Derived.RegionTactic
namespace Go.Proofs.Ytdfalnjdjkoofaa
open Go.RowKit
open Go.ChangeMaps (setBlock)
open Go.Maps (Keyed)

section
variable {P : Program} {k : TypeId} {R : Value → Option (DataW Unit × List MemPlace)} {w : World} {b n : Nat} {D : DataW Unit}

theorem map_here {w : World} {b : Nat} {o o' : Obj} (hb : w.heap[b]? = some o) : (setBlock w b o').heap[b]? = some o' := by
  obtain ⟨hlt, _⟩ := Array.getElem?_eq_some_iff.1 hb
  show (w.heap.setIfInBounds b o')[b]? = _
  rw [Array.getElem?_setIfInBounds_self, if_pos hlt]

/-- A place for a new key, and what is stored there later, whatever else has been stored meanwhile. -/
theorem map_entry {t e : TypeId} (h : w.ownsMap P k R b n D) (K : Keyed P k) (ht : P.underlying t = some (.map k e)) (hn : n < maxLen) {z : Value} (hz : ∀ u : World, (zeroValue e).run P u = .ok z u) {key : Value} {kl : Lit} (hkey : keyOf P k key = some kl) (hno : Maps.has D kl = false) :
    ∃ (st : Nat) (w1 : World), (Instr.mapEntry t (.map (some b)) key).run P w = .ok (.tuple #[z, goInt st]) w1 ∧ w.mapTurned w1 b ∧
      ∀ (w2 : World) (val : Value) (d : DataW Unit) (ps : List MemPlace), w2.heap[b]? = w1.heap[b]? → R val = some (d, ps) → ∃ w3, (Instr.entryStore t (.map (some b)) (goInt st) val).run P w2 = .ok () w3 ∧ w3.ownsMap P k R b (n + 1) (D.put kl d) ∧ w2.mapTurned w3 b := by
  have hown := h
  obtain ⟨es, clock, hb, F, hs, hD⟩ := h
  rcases K.find w hkey es.toList F.keys with ⟨h1, h2⟩ | ⟨j, e0, h1, h2, h3⟩
  · refine ⟨clock, setBlock w b (.map (es.push ⟨key, z, clock⟩) (clock + 1)), ?_, ⟨es, clock, _, _, hb, rfl⟩, fun w2 val d ps hw2 hv => ?_⟩
    · simp [Instr.mapEntry, run_underlying ht, MapKept.run_getObj_map hb, K.check w false hkey, h1, hz, MapKept.run_setObj_map _ hb, Result.andThen, setBlock]
    · rw [map_here hb] at hw2
      have hst : ∀ x ∈ es.toList, x.born < clock := F.stamped.1
      have hfind : (es.push ⟨key, z, clock⟩).findIdx? (fun e => ((e.born : Nat) : Int) == ((clock : Nat) : Int)) = some es.size := by
        rw [Array.findIdx?_push]
        have hnone : es.findIdx? (fun e => ((e.born : Nat) : Int) == ((clock : Nat) : Int)) = none := by
          rw [Array.findIdx?_eq_none_iff]
          intro x hx
          have := hst x (by simpa using hx)
          simp; omega
        rw [hnone]; simp
      have hmod : (es.push ⟨key, z, clock⟩).modify es.size (fun e => { e with val := val }) = es.push ⟨key, val, clock⟩ := by
        apply Array.ext
        · simp
        · intro i h1 h2
          rw [Array.getElem_modify]
          by_cases e : es.size = i
          · subst e; simp
          · rw [if_neg e]
            have hi : i < es.size := by simp at h2; omega
            rw [Array.getElem_push_lt hi, Array.getElem_push_lt hi]
      have hnew : (Instr.mapUpdate t (.map (some b)) key val).run P w = .ok () (setBlock w b (.map (es.push ⟨key, val, clock⟩) (clock + 1))) := by
        simp [Instr.mapUpdate, run_underlying ht, MapKept.run_getObj_map hb, K.check w false hkey, h1, MapKept.run_setObj_map _ hb, Result.andThen, setBlock]
      obtain ⟨w4, hr4, ho4, _⟩ := hown.store K ht hn hkey hv
      rw [hnew] at hr4
      injection hr4 with _ hr4
      subst hr4
      obtain ⟨es5, clock5, hb5, rest5⟩ := ho4
      rw [map_here hb] at hb5
      refine ⟨setBlock w2 b (.map (es.push ⟨key, val, clock⟩) (clock + 1)), ?_, ⟨es5, clock5, ?_, rest5⟩, ⟨_, _, _, _, hw2, rfl⟩⟩
      · simp [Instr.entryStore, MapKept.run_getObj_map hw2, asInt, asIntOf, goInt, hfind, hmod, MapKept.run_setObj_map _ hw2, Result.andThen, setBlock]
      · rw [map_here hw2]; exact hb5
  · exfalso
    rcases Maps.fit_look true K ht (hz w) hb F hkey with ⟨_, hk, _⟩ | ⟨_, y, _, _, _, _, hat, _⟩
    · exact hk e0 (List.mem_of_getElem? h2) h3
    · rw [hD, Maps.has_true_of_atKey hat] at hno; cases hno

end

section
variable {P : Program} (w : World) {ops : Array Oper} {o : Oper} {a : Act} {K : Act → World → Prop} {Q : Exit → Act → World → Prop} {E : Prop}

theorem step_mapEntry (hgd : o.guard = none) (m x : Operand) (t : TypeId) (hop : o.op = Op.mapEntry t m x)
    (k e : TypeId) (KK : Keyed P k) (ht : P.underlying t = some (.map k e)) (R : Value → Option (DataW Unit × List MemPlace)) (z : Value) (hz : ∀ u : World, (zeroValue e).run P u = .ok z u) (b n : Nat) (D : DataW Unit)
    (hm : a.eval m = .map (some b)) (hown : w.ownsMap P k R b n D) (hn : n < maxLen) (key : Value) (kl : Lit) (hx : a.eval x = key) (hkey : keyOf P k key = some kl) (hno : Maps.has D kl = false)
    (h : ∀ (st : Nat) (w1 : World), w.mapTurned w1 b → (∀ (w2 : World) (val : Value) (d : DataW Unit) (ps : List MemPlace), w2.heap[b]? = w1.heap[b]? → R val = some (d, ps) → ∃ w3, (Instr.entryStore t (.map (some b)) (goInt st) val).run P w2 = .ok () w3 ∧ w3.ownsMap P k R b (n + 1) (D.put kl d) ∧ w2.mapTurned w3 b) →
      K (a.put o.dst (.tuple #[z, goInt st])) w1) :
    if Region.wanted o (yielded ops a.tmps) = true then Oper.wp P o a w K Q else E := by
  have hw : Region.wanted o (yielded ops a.tmps) = true := by simp [Region.wanted, hgd]
  rw [if_pos hw]
  obtain ⟨st, w1, hr, h2, h3⟩ := map_entry hown KK ht hn hz hkey hno
  unfold Oper.wp execOp
  simp only [hop, hm, hx, hr, Sem.run_bind, Sem.run_pure, Result.andThen_ok]
  exact h st w1 h2 h3

theorem step_entryStore (hgd : o.guard = none) (m s v : Operand) (t : TypeId) (hop : o.op = Op.entryStore t m s v) (b st : Nat) (val : Value) (w3 : World)
    (hm : a.eval m = .map (some b)) (hs : a.eval s = goInt st) (hv : a.eval v = val) (hr : (Instr.entryStore t (.map (some b)) (goInt st) val).run P w = .ok () w3)
    (h : K (a.put o.dst undef) w3) :
    if Region.wanted o (yielded ops a.tmps) = true then Oper.wp P o a w K Q else E := by
  have hw : Region.wanted o (yielded ops a.tmps) = true := by simp [Region.wanted, hgd]
  rw [if_pos hw]
  unfold Oper.wp execOp
  simp only [hop, hm, hs, hv, hr, Sem.run_bind, Sem.run_pure, Result.andThen_ok]
  exact h

theorem step_delete (hgd : o.guard = none) (m x : Operand) (t k : TypeId) (hop : o.op = Op.call { callee := Callee.builtin Builtin.delete, args := #[m, x], argTypes := #[t, k] })
    (e : TypeId) (KK : Keyed P k) (ht : P.underlying t = some (.map k e)) (R : Value → Option (DataW Unit × List MemPlace)) (b n : Nat) (D : DataW Unit)
    (hm : a.eval m = .map (some b)) (hown : w.ownsMap P k R b n D) (key : Value) (kl : Lit) (hx : a.eval x = key) (hkey : keyOf P k key = some kl)
    (h : ∀ w', w'.ownsMap P k R b n (D.del kl) → w.mapTurned w' b → K (a.put o.dst (.tuple #[])) w') :
    if Region.wanted o (yielded ops a.tmps) = true then Oper.wp P o a w K Q else E := by
  have hw : Region.wanted o (yielded ops a.tmps) = true := by simp [Region.wanted, hgd]
  rw [if_pos hw]
  obtain ⟨w', hr, h2, h3⟩ := hown.drop KK ht hkey o.type
  unfold Oper.wp execOp
  simp only [hop, resolve, invoke, builtin, Sem.run_bind, Sem.run_pure, Result.andThen_ok, List.map_toArray, List.map_cons, List.map_nil, hm, hx, hr]
  exact h w' h2 h3
end

end Go.Proofs.Ytdfalnjdjkoofaa
