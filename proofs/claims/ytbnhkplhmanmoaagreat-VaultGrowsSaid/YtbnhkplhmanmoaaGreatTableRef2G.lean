/-
  The document's own in, plain, Owned, Quotas (stowageref16). Structs compared (==, !=), field by field; records compared. Tenants and volumes compared (==, !=). The document's own SameInts. The document's own Same (stowageref16), of the same tables.
-/
import Derived.Test.YtbnhkplhmanmoaaGreatDiskAskG
import Derived.Test.YtbnhkplhmanmoaaGreatDiskNumsG
import Derived.Test.YtbnhkplhmanmoaaGreatWordsG
import Derived.Test.YtbnhkplhmanmoaaGreatChecked
import Derived.Tactics
import Derived.Tactics2
import Derived.LoopTactic
import Derived.OpenShut
import Derived.WalkLawsBesides
import Derived.BigQuiet
namespace Go.Proofs.YtbnhkplhmanmoaaGreat
open Go.RowKit

set_option maxHeartbeats 800000 in
theorem refIn16_any (n a b : Int) (w : World) : Calls Tryz.prog 43 #[.int .i64 n, .int .i64 a, .int .i64 b] w fun e w' => e = .returned (.bool (decide (inR n a b))) ∧ w = w' := by
  by_cases h0 : a ≤ n
  · by_cases h1 : n ≤ b
    · rw [decide_eq_true (show inR n a b from ⟨h0, h1⟩)]
      have d0 : decide (a ≤ n) = true := decide_eq_true h0
      have d1 : decide (n ≤ b) = true := decide_eq_true h1
      go_enter Tryz.func43, Tryz.ntmps43
      go_wp2
      go_ret
      exact ⟨rfl, rfl⟩
    · rw [decide_eq_false (show ¬ inR n a b from fun h => by unfold inR at h; omega)]
      have d0 : decide (a ≤ n) = true := decide_eq_true h0
      have d1 : decide (n ≤ b) = false := decide_eq_false h1
      go_enter Tryz.func43, Tryz.ntmps43
      go_wp2
      go_ret
      exact ⟨rfl, rfl⟩
  · rw [decide_eq_false (show ¬ inR n a b from fun h => by unfold inR at h; omega)]
    have d0 : decide (a ≤ n) = false := decide_eq_false h0
    go_enter Tryz.func43, Tryz.ntmps43
    go_wp2
    go_ret
    exact ⟨rfl, rfl⟩

/-- May it be a tenant? -/
def plainQ (id q r b : Int) (s : ByteArray) : Prop := inR id 1 7 ∧ inR q 1 64 ∧ inR r 0 4294967296 ∧ inR b 1 64 ∧ s.size = 16
instance (id q r b : Int) (s : ByteArray) : Decidable (plainQ id q r b s) := by unfold plainQ; infer_instance

set_option maxHeartbeats 800000 in
set_option maxRecDepth 20000 in
theorem refPlain_any (id q r b : Int) (s : ByteArray) (w : World) : Calls Tryz.prog 44 #[.int .i64 id, .int .i64 q, .int .i64 r, .int .i64 b, .string s] w fun e w' => e = .returned (.bool (decide (plainQ id q r b s))) ∧ w = w' := by
  have H1 := Lib.hid (fun W => refIn16_any id 1 7 W)
  have H2 := Lib.hid (fun W => refIn16_any q 1 64 W)
  have H3 := Lib.hid (fun W => refIn16_any r 0 4294967296 W)
  have H4 := Lib.hid (fun W => refIn16_any b 1 64 W)
  have he : decide (plainQ id q r b s) = (decide (inR id 1 7) && decide (inR q 1 64) && decide (inR r 0 4294967296) && decide (inR b 1 64) && decide (s.size = 16)) := by
    rw [Bool.eq_iff_iff, decide_eq_true_iff]
    simp [plainQ, and_assoc]
  have HE := Lib.hid he
  clear he
  obtain ⟨P, hP⟩ : ∃ P, P = decide (plainQ id q r b s) := ⟨_, rfl⟩
  rw [← hP] at HE ⊢
  obtain ⟨p1, hp1⟩ : ∃ P, P = decide (inR id 1 7) := ⟨_, rfl⟩
  obtain ⟨p2, hp2⟩ : ∃ P, P = decide (inR q 1 64) := ⟨_, rfl⟩
  obtain ⟨p3, hp3⟩ : ∃ P, P = decide (inR r 0 4294967296) := ⟨_, rfl⟩
  obtain ⟨p4, hp4⟩ : ∃ P, P = decide (inR b 1 64) := ⟨_, rfl⟩
  rw [← hp1, ← hp2, ← hp3, ← hp4] at HE
  simp only [← hp1] at H1
  simp only [← hp2] at H2
  simp only [← hp3] at H3
  simp only [← hp4] at H4
  clear hP hp1 hp2 hp3 hp4
  have fin : ∀ (e1 e2 : Ending) , e1 = e2 → e1 = e2 := fun _ _ h => h
  by_cases hs : s.size = 16
  · have hs' : ((s.size : Int) == 16) = true := by simp [hs]
    have HS := Lib.hid hs
    clear hs
    cases p1 <;> cases p2 <;> cases p3 <;> cases p4 <;>
    · go_enter Tryz.func44, Tryz.ntmps44
      go_wp2_with (first
        | (go_at_call 43; with_reducible (refine Calls.mono (H1.out _) ?_); rintro e w' ⟨rfl, rfl⟩)
        | (go_at_call 43; with_reducible (refine Calls.mono (H2.out _) ?_); rintro e w' ⟨rfl, rfl⟩)
        | (go_at_call 43; with_reducible (refine Calls.mono (H3.out _) ?_); rintro e w' ⟨rfl, rfl⟩)
        | (go_at_call 43; with_reducible (refine Calls.mono (H4.out _) ?_); rintro e w' ⟨rfl, rfl⟩))
      go_ret
      exact ⟨by rw [HE.out, HS.out]; rfl, rfl⟩
  · have hs' : ((s.size : Int) == 16) = false := by simp; omega
    have HS : Hid (decide (s.size = 16) = false) := decide_eq_false hs
    clear hs
    cases p1 <;> cases p2 <;> cases p3 <;> cases p4 <;>
    · go_enter Tryz.func44, Tryz.ntmps44
      go_wp2_with (first
        | (go_at_call 43; with_reducible (refine Calls.mono (H1.out _) ?_); rintro e w' ⟨rfl, rfl⟩)
        | (go_at_call 43; with_reducible (refine Calls.mono (H2.out _) ?_); rintro e w' ⟨rfl, rfl⟩)
        | (go_at_call 43; with_reducible (refine Calls.mono (H3.out _) ?_); rintro e w' ⟨rfl, rfl⟩)
        | (go_at_call 43; with_reducible (refine Calls.mono (H4.out _) ?_); rintro e w' ⟨rfl, rfl⟩))
      go_ret
      exact ⟨by rw [HE.out, HS.out]; rfl, rfl⟩

theorem ownN_zero (id : Int) : ownN [] id = 0 := by unfold ownN; split <;> rfl
theorem ownN_take {os : List Int} {k : Nat} (hk : k < os.length) (id : Int) : ownN (os.take (k + 1)) id = ownN (os.take k) id + (if os.getD k 0 = id ∧ inR id 1 7 then 1 else 0) := by
  rw [List.take_succ_eq_append_getElem hk]
  unfold ownN
  by_cases h : 1 ≤ id ∧ id ≤ 7
  · rw [if_pos h, if_pos h, List.countP_append, List.countP_cons, List.countP_nil]
    have hg : os.getD k 0 = os[k] := by simp [List.getD, hk]
    rw [hg, Nat.zero_add]
    by_cases he : os[k] = id
    · rw [if_pos (show os[k] = id ∧ inR id 1 7 from ⟨he, h⟩), if_pos (decide_eq_true he)]
    · rw [if_neg (show ¬ (os[k] = id ∧ inR id 1 7) from fun hh => he hh.1), if_neg (by simpa using he)]
  · rw [if_neg h, if_neg h, if_neg (fun hh => h hh.2)]

set_option maxHeartbeats 1600000 in
set_option maxRecDepth 20000 in
/-- 'Owned'. -/
theorem refOwn_any (V : TabW) (t : Tab) (id : Int) (w : World) (h : TabAt w w.heap.size V t) (hm : t.os.length ≤ 9223372036854775807) :
    Calls Tryz.prog 45 #[.agg (tabV V t), .int .i64 id] w fun e w' => e = .returned (.int .i64 (ownN t.os id : Nat)) ∧ Below w.heap.size w w' := by
  obtain ⟨F0, F1, F2, hb0⟩ := box_facts w (.slice V.A1 t.ts.length V.c1) (.slice V.A2 t.vs.length V.c2) (.slice V.A3 t.os.length V.c3) 35
  have HT := Lib.hid (h.os.below hb0)
  have HIN := Lib.hid (fun W => refIn16_any id 1 7 W)
  have hle := h.l3
  obtain ⟨ts, vs, os⟩ := t
  obtain ⟨A1, c1, A2, c2, A3, c3⟩ := V
  simp only [tabV] at F0 F1 F2 hb0 HT hle hm ⊢
  obtain ⟨N1, hN1⟩ : ∃ N, N = ts.length := ⟨_, rfl⟩
  obtain ⟨N2, hN2⟩ : ∃ N, N = vs.length := ⟨_, rfl⟩
  obtain ⟨N, hN⟩ : ∃ N, N = os.length := ⟨_, rfl⟩
  have HN := Lib.hid hN
  have HST : Hid (∀ k, k < N → ownN (os.take (k + 1)) id = ownN (os.take k) id + (if os.getD k 0 = id ∧ inR id 1 7 then 1 else 0)) := fun k hk => ownN_take (hN ▸ hk) id
  have HEN : Hid (ownN (os.take N) id = ownN os id) := by rw [hN]; show ownN (os.take os.length) id = _; rw [List.take_length]
  have HLE : Hid (∀ k, ownN (os.take k) id ≤ k) := fun k => Nat.le_trans (ownN_le _ _) (by rw [List.length_take]; omega)
  obtain ⟨V, hV⟩ : ∃ V, V = decide (inR id 1 7) := ⟨_, rfl⟩
  have HV := Lib.hid hV
  simp only [← hV] at HIN
  rw [← hN1, ← hN2, ← hN] at F0 F1 F2 hb0 ⊢
  rw [← hN] at hm hle
  simp only [← hN1, ← hN2, ← hN] at HT
  obtain ⟨W0, hW0⟩ : ∃ W, W = w.alloc (.cells #[.slice A1 N1 c1, .slice A2 N2 c2, .slice A3 N c3] 35) := ⟨_, rfl⟩
  rw [← hW0] at F0 F1 F2 hb0 HT
  clear h hN hN1 hN2 hV
  go_enter Tryz.func45, Tryz.ntmps45
  go_wp2
  rw [← hW0]
  clear hW0
  go_loopw [5, 6] (fun n i wr => ∃ k c : Nat, k ≤ N ∧ i = .int .i64 k ∧ n = .int .i64 c ∧ Hid (c = ownN (os.take k) id) ∧ wr = W0) (fun _ i _ => N - (intOf i).toNat)
  case atStart => exact ⟨0, 0, Nat.zero_le _, rfl, rfl, (ownN_zero id).symm, rfl⟩
  case round =>
    obtain ⟨k, c, hk, rfl, rfl, hc, rfl⟩ := hrel
    have k0 : (0 : Int) ≤ (k : Int) := by omega
    have hck : c ≤ k := by rw [hc.out]; exact HLE.out k
    by_cases hlt : k < N
    · have k1 : (k : Int) < (N : Int) := by omega
      obtain ⟨b, off, rfl, _, q0⟩ := HT.out k (by have := HN.out; omega)
      have hst := HST.out k hlt
      obtain ⟨o, ho⟩ : ∃ o, o = os.getD k 0 := ⟨_, rfl⟩
      rw [← ho] at q0 hst
      clear ho
      by_cases he : o = id
      · have d : (o == id) = true := beq_iff_eq.2 he
        cases V
        · have HC : Hid (c = ownN (os.take (k + 1)) id) := by
            rw [hst, if_neg (fun h => by have := HV.out; rw [decide_eq_true h.2] at this; cases this)]; exact hc.out
          clear hst he
          go_wp2_with (go_at_call 43; with_reducible (refine Calls.mono (HIN.out _) ?_); rintro e w' ⟨rfl, rfl⟩)
          go_roundw
          case rel => exact ⟨k + 1, c, by omega, by go_num, rfl, HC, by first | rfl | trivial⟩
          case measure => first | (simp [intOf]; done) | (simp [intOf]; omega)
        · have HC : Hid (c + 1 = ownN (os.take (k + 1)) id) := by
            rw [hst, if_pos ⟨he, of_decide_eq_true HV.out.symm⟩]; exact congrArg (· + 1) hc.out
          clear hst he
          go_wp2_with (go_at_call 43; with_reducible (refine Calls.mono (HIN.out _) ?_); rintro e w' ⟨rfl, rfl⟩)
          go_roundw
          case rel => exact ⟨k + 1, c + 1, by omega, by go_num, by go_num, HC, by first | rfl | trivial⟩
          case measure => first | (simp [intOf]; done) | (simp [intOf]; omega)
      · have d : (o == id) = false := beq_eq_false_iff_ne.2 he
        have HC : Hid (c = ownN (os.take (k + 1)) id) := by
          rw [hst, if_neg (fun h => he h.1)]; exact hc.out
        clear hst he
        go_wp2
        go_roundw
        case rel => exact ⟨k + 1, c, by omega, by go_num, rfl, HC, by first | rfl | trivial⟩
        case measure => first | (simp [intOf]; done) | (simp [intOf]; omega)
    · have hkN : k = N := by omega
      have HE : Hid (c = ownN os id) := by rw [hc.out, hkN]; exact HEN.out
      have k1 : ¬ (k : Int) < (N : Int) := by omega
      clear hkN
      go_wp2
      go_ret
      exact ⟨by rw [← HE.out]; rfl, hb0⟩

theorem sumQ_take {ts : List Ten} {k : Nat} (hk : k < ts.length) : sumQ (ts.take (k + 1)) = sumQ (ts.take k) + ts[k].quota := by
  rw [List.take_succ_eq_append_getElem hk]
  unfold sumQ
  rw [List.map_append, List.sum_append_int]
  simp
theorem sumQ_small {ts : List Ten} (h : ∀ x ∈ ts, 1 ≤ x.quota ∧ x.quota ≤ 64) : ∀ k, 0 ≤ sumQ (ts.take k) ∧ sumQ (ts.take k) ≤ 64 * k := fun k => by
  induction k with
  | zero => simp [sumQ]
  | succ k ih =>
    by_cases hk : k < ts.length
    · have := h _ (List.getElem_mem hk)
      rw [sumQ_take hk]
      omega
    · rw [List.take_of_length_le (by omega)] at ih ⊢
      omega

set_option maxHeartbeats 1600000 in
set_option maxRecDepth 20000 in
/-- 'Quotas'. -/
theorem refQuotas_any (V : TabW) (t : Tab) (w : World) (h : TabAt w w.heap.size V t) (hm : t.ts.length ≤ 1000) (hq : ∀ x ∈ t.ts, 1 ≤ x.quota ∧ x.quota ≤ 64) :
    Calls Tryz.prog 47 #[.agg (tabV V t)] w fun e w' => e = .returned (.int .i64 (sumQ t.ts)) ∧ Below w.heap.size w w' := by
  obtain ⟨F0, F1, F2, hb0⟩ := box_facts w (.slice V.A1 t.ts.length V.c1) (.slice V.A2 t.vs.length V.c2) (.slice V.A3 t.os.length V.c3) 35
  have HT := Lib.hid (h.ts.below hb0)
  have hle := h.l1
  have HQ := Lib.hid (sumQ_small hq)
  have HQ1 : Hid (∀ k, (h : k < t.ts.length) → 1 ≤ t.ts[k].quota ∧ t.ts[k].quota ≤ 64) := fun k h => hq _ (List.getElem_mem h)
  have HST : Hid (∀ k, (h : k < t.ts.length) → sumQ (t.ts.take (k + 1)) = sumQ (t.ts.take k) + t.ts[k].quota) := fun k hk => sumQ_take hk
  have HEN : Hid (sumQ (t.ts.take t.ts.length) = sumQ t.ts) := by show sumQ (t.ts.take t.ts.length) = _; rw [List.take_length]
  obtain ⟨ts, vs, os⟩ := t
  obtain ⟨A1, c1, A2, c2, A3, c3⟩ := V
  simp only [tabV] at F0 F1 F2 hb0 HT hle hm HQ HQ1 HST HEN ⊢
  obtain ⟨N, hN⟩ : ∃ N, N = ts.length := ⟨_, rfl⟩
  obtain ⟨N2, hN2⟩ : ∃ N, N = vs.length := ⟨_, rfl⟩
  obtain ⟨N3, hN3⟩ : ∃ N, N = os.length := ⟨_, rfl⟩
  rw [← hN, ← hN2, ← hN3] at F0 F1 F2 hb0 ⊢
  rw [← hN] at hm hle HEN
  simp only [← hN, ← hN2, ← hN3] at HT
  have HN := Lib.hid hN
  obtain ⟨W0, hW0⟩ : ∃ W, W = w.alloc (.cells #[.slice A1 N c1, .slice A2 N2 c2, .slice A3 N3 c3] 35) := ⟨_, rfl⟩
  rw [← hW0] at F0 F1 F2 hb0 HT
  clear h hN hN2 hN3 hq
  go_enter Tryz.func47, Tryz.ntmps47
  go_wp2
  rw [← hW0]
  clear hW0
  go_loopw [3, 4] (fun n i wr => ∃ (k : Nat) (c : Int), k ≤ N ∧ i = .int .i64 k ∧ n = .int .i64 c ∧ Hid (c = sumQ (ts.take k)) ∧ wr = W0) (fun _ i _ => N - (intOf i).toNat)
  case atStart => exact ⟨0, 0, Nat.zero_le _, rfl, rfl, rfl, rfl⟩
  case round =>
    obtain ⟨k, c, hk, rfl, rfl, hc, rfl⟩ := hrel
    have k0 : (0 : Int) ≤ (k : Int) := by omega
    have hck : 0 ≤ c ∧ c ≤ 64 * k := by rw [hc.out]; exact HQ.out k
    obtain ⟨hc0, hc1⟩ := hck
    by_cases hlt : k < N
    · have k1 : (k : Int) < (N : Int) := by omega
      have hkx : k < ts.length := by have := HN.out; omega
      obtain ⟨b, off, rfl, _, _, q1, _⟩ := HT.out k hkx
      have hst := HST.out k hkx
      have hq1 := HQ1.out k hkx
      obtain ⟨q, hq⟩ : ∃ q, q = ts[k].quota := ⟨_, rfl⟩
      rw [← hq] at q1 hst hq1
      have HC : Hid (c + q = sumQ (ts.take (k + 1))) := by rw [hst]; exact congrArg (· + q) hc.out
      have v : IntKind.i64.wrap (c + q) = c + q := IntWalk.i64_in _ (by omega)
      clear hst hq
      go_wp2
      go_roundw
      case rel => exact ⟨k + 1, c + q, by omega, by go_num, by first | rfl | go_num, HC, by first | rfl | trivial⟩
      case measure => first | (simp [intOf]; done) | (simp [intOf]; omega)
    · have hkN : k = N := by omega
      have HE : Hid (c = sumQ ts) := by rw [hc.out, hkN]; exact HEN.out
      have k1 : ¬ (k : Int) < (N : Int) := by omega
      clear hkN
      go_wp2
      go_ret
      exact ⟨by rw [← HE.out]; rfl, hb0⟩

end Go.Proofs.YtbnhkplhmanmoaaGreat

namespace Go.Proofs.YtbnhkplhmanmoaaGreat
open Go.RowKit

/-- A whole row is loaded, where a guard lets it. -/
theorem wpList_load_when {P : Program} {ops : Array Oper} {rest : List Oper} {o : Oper} {a : Act} {w : World} {Q : Exit → Act → World → Prop} (hw : Region.wanted o (yielded ops a.tmps) = true) (ty : TypeId) (x : Operand) (ho : o.op = .load ty x)
    (g : Nat) (hx : a.eval x = .pointer (some ⟨g, 0, none⟩)) (t : TypeId) (cs : Array Value) (hg : w.heap[g]? = some (.cells cs t (0, 0))) {d : TypeDesc} (hu : P.underlying ty = some d) (hd : d.isRow = true) (hi : (P.info? ty).map (·.size) = some cs.size)
    (h : wpList P ops Q rest (a.put o.dst (.agg cs)) w) : wpList P ops Q (o :: rest) a w :=
  wpList_when hw fun K hK => wp_load_mid ty x ho g 0 hx cs.toList d (fun j v hj => by rw [Nat.zero_add, cell_of_row _ _ _ _ _ _ hg, ← hj]; simp) hu hd (by rw [hi]; simp) (by rw [Array.toArray_toList]; exact hK _ _ h)
theorem fieldsOf_of {P : Program} {t : TypeId} {fs : Array Field} (h : P.underlying t = some (.struct fs)) : P.fieldsOf t = fs := by unfold Program.fieldsOf; rw [h]
theorem str_eq (a b : ByteArray) : (a.toList == b.toList) = decide (a = b) := by
  rw [Bool.eq_iff_iff, decide_eq_true_eq, beq_iff_eq, ByteArray.toList_eq, ByteArray.toList_eq]
  constructor
  · intro h
    obtain ⟨⟨x⟩⟩ := a
    obtain ⟨⟨y⟩⟩ := b
    simp only at h
    rw [h]
  · rintro rfl; rfl
/-- One field is compared. -/
theorem eqF_step {P : Program} {w : World} {d : Nat} {xs ys : Array Value} {f : Field} {fs : List Field} {a b : Value} {r : Bool} {R : Result Bool} (hn : f.name ≠ "_") (ha : (part f.type xs f.offset).run P w = .ok a w) (hb : (part f.type ys f.offset).run P w = .ok b w)
    (he : (Op.equalIn d f.type a b).run P w = .ok r w) (h : r = true → (Op.eqFields d xs ys fs).run P w = R) (hf : r = false → R = .ok false w) : (Op.eqFields d xs ys (f :: fs)).run P w = R := by
  unfold Op.eqFields
  rw [if_pos hn]
  simp only [Sem.run_bind, ha, hb, he, Result.andThen_ok]
  cases r
  · rw [hf rfl]; simp
  · simp; exact h rfl
theorem eqF_end {P : Program} {w : World} {d : Nat} {xs ys : Array Value} : (Op.eqFields d xs ys []).run P w = .ok true w := rfl
theorem eqI {w : World} {d : Nat} (a b : Int) : (Op.equalIn (d + 1) 3 (.int .i64 a) (.int .i64 b)).run Tryz.prog w = .ok (decide (a = b)) w := by
  rw [run_equalIn_int w d 3 .i64 .i64 a b Tryz.underlying3]
  congr 1
theorem eqB {w : World} {d : Nat} (a b : Bool) : (Op.equalIn (d + 1) 4 (.bool a) (.bool b)).run Tryz.prog w = .ok (a == b) w := run_equalIn_bool' w d 4 a b Tryz.underlying4
theorem eqS {w : World} {d : Nat} (a b : ByteArray) : (Op.equalIn (d + 1) 9 (.string a) (.string b)).run Tryz.prog w = .ok (decide (a = b)) w := by
  rw [run_equalIn_string w d 9 a b Tryz.underlying9, str_eq]
set_option maxHeartbeats 400000 in
theorem eqRec_run (d : Nat) (x y : Rc) (w : World) : (Op.equalIn (d + 2) 56 (.agg (rcV x)) (.agg (rcV y))).run Tryz.prog w = .ok (decide (x = y)) w := by
  rw [run_equalIn_struct w (d + 1) 56 (rcV x) (rcV y) (by kernel_rfl) (by kernel_rfl), fieldsOf_of Tryz.underlying56]
  refine eqF_step (by decide) (by kernel_rfl) (by kernel_rfl) (eqI x.k y.k) (fun h0 => ?_) (fun h => by rw [decide_eq_false (fun e => by rw [e, decide_eq_true rfl] at h; cases h)])
  refine eqF_step (by decide) (by kernel_rfl) (by kernel_rfl) (eqI x.a y.a) (fun h1 => ?_) (fun h => by rw [decide_eq_false (fun e => by rw [e, decide_eq_true rfl] at h; cases h)])
  refine eqF_step (by decide) (by kernel_rfl) (by kernel_rfl) (eqI x.b y.b) (fun h2 => ?_) (fun h => by rw [decide_eq_false (fun e => by rw [e, decide_eq_true rfl] at h; cases h)])
  refine eqF_step (by decide) (by kernel_rfl) (by kernel_rfl) (eqI x.c y.c) (fun h3 => ?_) (fun h => by rw [decide_eq_false (fun e => by rw [e, decide_eq_true rfl] at h; cases h)])
  refine eqF_step (by decide) (by kernel_rfl) (by kernel_rfl) (eqI x.d y.d) (fun h4 => ?_) (fun h => by rw [decide_eq_false (fun e => by rw [e, decide_eq_true rfl] at h; cases h)])
  refine eqF_step (by decide) (by kernel_rfl) (by kernel_rfl) (eqS x.key y.key) (fun h5 => ?_) (fun h => by rw [decide_eq_false (fun e => by rw [e, decide_eq_true rfl] at h; cases h)])
  rw [decide_eq_true ((rc_ext x y).1 ⟨of_decide_eq_true h0, of_decide_eq_true h1, of_decide_eq_true h2, of_decide_eq_true h3, of_decide_eq_true h4, of_decide_eq_true h5⟩)]
  exact eqF_end
theorem eqRec_all (x y : Rc) (w : World) : (Op.equalIn 10000 56 (.agg (rcV x)) (.agg (rcV y))).run Tryz.prog w = .ok (decide (x = y)) w := eqRec_run 9998 x y w

end Go.Proofs.YtbnhkplhmanmoaaGreat

namespace Go.Proofs.YtbnhkplhmanmoaaGreat
open Go.RowKit

def tenV (x : Ten) : Array Value := #[.int .i64 x.id, .int .i64 x.quota, .int .i64 x.rate, .int .i64 x.burst, .string x.key, .bool x.dying]
def volV (x : Vol) : Array Value := #[.int .i64 x.id, .int .i64 x.ten, .int .i64 x.blocks, .int .i64 x.base]
theorem ten_ext (x y : Ten) : (x.id = y.id ∧ x.quota = y.quota ∧ x.rate = y.rate ∧ x.burst = y.burst ∧ x.key = y.key ∧ x.dying = y.dying) ↔ x = y := by
  constructor
  · obtain ⟨_, _, _, _, _, _⟩ := x
    obtain ⟨_, _, _, _, _, _⟩ := y
    rintro ⟨h1, h2, h3, h4, h5, h6⟩
    simp only at h1 h2 h3 h4 h5 h6
    subst h1 h2 h3 h4 h5 h6; rfl
  · rintro rfl; exact ⟨rfl, rfl, rfl, rfl, rfl, rfl⟩
instance : DecidableEq Ten := fun x y => decidable_of_iff _ (ten_ext x y)
theorem vol_ext (x y : Vol) : (x.id = y.id ∧ x.ten = y.ten ∧ x.blocks = y.blocks ∧ x.base = y.base) ↔ x = y := by
  constructor
  · obtain ⟨_, _, _, _⟩ := x
    obtain ⟨_, _, _, _⟩ := y
    rintro ⟨h1, h2, h3, h4⟩
    simp only at h1 h2 h3 h4
    subst h1 h2 h3 h4; rfl
  · rintro rfl; exact ⟨rfl, rfl, rfl, rfl⟩
instance : DecidableEq Vol := fun x y => decidable_of_iff _ (vol_ext x y)
theorem tab_ext (x y : Tab) : (x.ts = y.ts ∧ x.vs = y.vs ∧ x.os = y.os) ↔ x = y := by
  constructor
  · obtain ⟨_, _, _⟩ := x
    obtain ⟨_, _, _⟩ := y
    rintro ⟨h1, h2, h3⟩
    simp only at h1 h2 h3
    subst h1 h2 h3; rfl
  · rintro rfl; exact ⟨rfl, rfl, rfl⟩
instance : DecidableEq Tab := fun x y => decidable_of_iff _ (tab_ext x y)
set_option maxHeartbeats 400000 in
theorem eqTen_all (x y : Ten) (w : World) : (Op.equalIn 10000 52 (.agg (tenV x)) (.agg (tenV y))).run Tryz.prog w = .ok (decide (x = y)) w := by
  rw [run_equalIn_struct w 9999 52 (tenV x) (tenV y) (by kernel_rfl) (by kernel_rfl), fieldsOf_of Tryz.underlying52]
  refine eqF_step (by decide) (by kernel_rfl) (by kernel_rfl) (eqI x.id y.id) (fun h0 => ?_) (fun h => by rw [decide_eq_false (fun e => by rw [e, decide_eq_true rfl] at h; cases h)])
  refine eqF_step (by decide) (by kernel_rfl) (by kernel_rfl) (eqI x.quota y.quota) (fun h1 => ?_) (fun h => by rw [decide_eq_false (fun e => by rw [e, decide_eq_true rfl] at h; cases h)])
  refine eqF_step (by decide) (by kernel_rfl) (by kernel_rfl) (eqI x.rate y.rate) (fun h2 => ?_) (fun h => by rw [decide_eq_false (fun e => by rw [e, decide_eq_true rfl] at h; cases h)])
  refine eqF_step (by decide) (by kernel_rfl) (by kernel_rfl) (eqI x.burst y.burst) (fun h3 => ?_) (fun h => by rw [decide_eq_false (fun e => by rw [e, decide_eq_true rfl] at h; cases h)])
  refine eqF_step (by decide) (by kernel_rfl) (by kernel_rfl) (eqS x.key y.key) (fun h4 => ?_) (fun h => by rw [decide_eq_false (fun e => by rw [e, decide_eq_true rfl] at h; cases h)])
  refine eqF_step (by decide) (by kernel_rfl) (by kernel_rfl) (eqB x.dying y.dying) (fun h5 => ?_) (fun h => by rw [decide_eq_false (fun e => by rw [e, beq_self_eq_true] at h; cases h)])
  rw [decide_eq_true ((ten_ext x y).1 ⟨of_decide_eq_true h0, of_decide_eq_true h1, of_decide_eq_true h2, of_decide_eq_true h3, of_decide_eq_true h4, eq_of_beq h5⟩)]
  exact eqF_end
set_option maxHeartbeats 400000 in
theorem eqVol_all (x y : Vol) (w : World) : (Op.equalIn 10000 82 (.agg (volV x)) (.agg (volV y))).run Tryz.prog w = .ok (decide (x = y)) w := by
  rw [run_equalIn_struct w 9999 82 (volV x) (volV y) (by kernel_rfl) (by kernel_rfl), fieldsOf_of Tryz.underlying82]
  refine eqF_step (by decide) (by kernel_rfl) (by kernel_rfl) (eqI x.id y.id) (fun h0 => ?_) (fun h => by rw [decide_eq_false (fun e => by rw [e, decide_eq_true rfl] at h; cases h)])
  refine eqF_step (by decide) (by kernel_rfl) (by kernel_rfl) (eqI x.ten y.ten) (fun h1 => ?_) (fun h => by rw [decide_eq_false (fun e => by rw [e, decide_eq_true rfl] at h; cases h)])
  refine eqF_step (by decide) (by kernel_rfl) (by kernel_rfl) (eqI x.blocks y.blocks) (fun h2 => ?_) (fun h => by rw [decide_eq_false (fun e => by rw [e, decide_eq_true rfl] at h; cases h)])
  refine eqF_step (by decide) (by kernel_rfl) (by kernel_rfl) (eqI x.base y.base) (fun h3 => ?_) (fun h => by rw [decide_eq_false (fun e => by rw [e, decide_eq_true rfl] at h; cases h)])
  rw [decide_eq_true ((vol_ext x y).1 ⟨of_decide_eq_true h0, of_decide_eq_true h1, of_decide_eq_true h2, of_decide_eq_true h3⟩)]
  exact eqF_end

end Go.Proofs.YtbnhkplhmanmoaaGreat

namespace Go.Proofs.YtbnhkplhmanmoaaGreat
open Go.RowKit

theorem ints_none (w : World) (B : Nat) (A : Option Addr) : Ints w B .i64 A [] := fun i hi => absurd hi (Nat.not_lt_zero i)
set_option maxHeartbeats 800000 in
/-- 'SameInts', of the same. -/
theorem sameInts_any (A0 A1 : Option Addr) (c0 c1 : Nat) (l : List Int) (w : World) (h0 : Ints w w.heap.size .i64 A0 l) (h1 : Ints w w.heap.size .i64 A1 l) (hm : l.length ≤ 140737488355328) :
    Calls Tryz.prog 17 #[.slice A0 l.length c0, .slice A1 l.length c1] w fun e w' => e = .returned (.bool true) ∧ ∃ m, w' = w.drewN m := by
  obtain ⟨n, hn⟩ : ∃ n, n = l.length := ⟨_, rfl⟩
  have HC : Hid (∀ m i, i < n → ∃ b0 o0 b1 o1, A0 = some ⟨b0, o0, none⟩ ∧ A1 = some ⟨b1, o1, none⟩ ∧ (w.drewN m).cell? ⟨b0, o0 + i, none⟩ = some (.int .i64 (l.getD i 0)) ∧ (w.drewN m).cell? ⟨b1, o1 + i, none⟩ = some (.int .i64 (l.getD i 0))) := fun m i hi => by
    obtain ⟨b0, o0, e0, _, q0⟩ := h0 i (by omega)
    obtain ⟨b1, o1, e1, _, q1⟩ := h1 i (by omega)
    exact ⟨b0, o0, b1, o1, e0, e1, q0, q1⟩
  rw [← hn] at hm ⊢
  clear h0 h1 hn
  go_enter Tryz.func17, Tryz.ntmps17
  go_wp2
  go_loopw [5] (fun i wr => ∃ k m : Nat, k ≤ n ∧ i = .int .i64 k ∧ wr = w.drewN m) (fun i _ => n - (intOf i).toNat)
  case atStart => exact ⟨0, 0, Nat.zero_le _, rfl, rfl⟩
  case round =>
    obtain ⟨k, m, hk, rfl, hwm⟩ := hrel
    by_cases hlt : k < n
    · obtain ⟨b0, o0, b1, o1, rfl, rfl, q0, q1⟩ := HC.out m k hlt
      rw [← hwm] at q0 q1
      have HWM := Lib.hid hwm
      clear hwm
      obtain ⟨x, hx⟩ : ∃ x, x = l.getD k 0 := ⟨_, rfl⟩
      rw [← hx] at q0 q1
      have k1 : (k : Int) < (n : Int) := by omega
      have k0 : (0 : Int) ≤ (k : Int) := by omega
      have e1 : (x == x) = true := beq_self_eq_true x
      clear hx
      go_wp2
      go_quiet (fail)
      go_wp2
      go_roundw
      case rel => first | exact ⟨k + 1, m + nq, by omega, by go_num, by rw [HWM.out, World.drewN_drewN]⟩ | ((repeat apply Exists.intro); exact ⟨⟨k + 1, m + nq, by omega, by go_num, by rw [HWM.out, World.drewN_drewN]⟩, rfl⟩)
      case measure => simp [intOf]; omega
    · have hk8 : n = k := by omega
      subst hk8
      have HWM := Lib.hid hwm
      clear hwm
      go_wp2
      go_ret
      exact ⟨rfl, _, HWM.out⟩

end Go.Proofs.YtbnhkplhmanmoaaGreat

namespace Go.Proofs.YtbnhkplhmanmoaaGreat
open Go.RowKit

/-- Two tables laid in boxes of their own. -/
theorem box_two (w : World) (x y z x' y' z' : Value) (T : TypeId) : ∃ W, W = (w.alloc (.cells #[x, y, z] T)).alloc (.cells #[x', y', z'] T) ∧
    (∀ m, (W.drewN m).cell? ⟨w.heap.size, 0, none⟩ = some x ∧ (W.drewN m).cell? ⟨w.heap.size, 1, none⟩ = some y ∧ (W.drewN m).cell? ⟨w.heap.size, 2, none⟩ = some z ∧
      (W.drewN m).cell? ⟨w.heap.size + 1, 0, none⟩ = some x' ∧ (W.drewN m).cell? ⟨w.heap.size + 1, 1, none⟩ = some y' ∧ (W.drewN m).cell? ⟨w.heap.size + 1, 2, none⟩ = some z') ∧ Below w.heap.size w W ∧ ∀ m, Below w.heap.size w (W.drewN m) := by
  refine ⟨_, rfl, fun m => ?_, ?_, fun m => ?_⟩
  · have h := (heap_alloc_new w (.cells #[x, y, z] T))
    have h1 : ((w.alloc (.cells #[x, y, z] T)).alloc (.cells #[x', y', z'] T)).heap[w.heap.size]? = some (.cells #[x, y, z] T) := (Below.heap_alloc (w.alloc (.cells #[x, y, z] T)) (.cells #[x', y', z'] T) _ (by simp)).trans h
    have h2 := heap_alloc_new (w.alloc (.cells #[x, y, z] T)) (.cells #[x', y', z'] T)
    have e : (w.alloc (.cells #[x, y, z] T)).heap.size = w.heap.size + 1 := by simp
    rw [e] at h2
    have q1 : ∀ i v, (#[x, y, z] : Array Value)[i]? = some v → ((w.alloc (.cells #[x, y, z] T)).alloc (.cells #[x', y', z'] T)).cell? ⟨w.heap.size, i, none⟩ = some v := fun i v hv => by rw [cell_of_row _ _ _ _ _ _ h1, hv]
    have q2 : ∀ i v, (#[x', y', z'] : Array Value)[i]? = some v → ((w.alloc (.cells #[x, y, z] T)).alloc (.cells #[x', y', z'] T)).cell? ⟨w.heap.size + 1, i, none⟩ = some v := fun i v hv => by rw [cell_of_row _ _ _ _ _ _ h2, hv]
    exact ⟨q1 0 x rfl, q1 1 y rfl, q1 2 z rfl, q2 0 x' rfl, q2 1 y' rfl, q2 2 z' rfl⟩
  · exact ((Below.refl _ _).alloc (Nat.le_refl _) _).alloc (by simp) _
  · exact below_drewN (((Below.refl _ _).alloc (Nat.le_refl _) _).alloc (by simp) _) m

set_option maxHeartbeats 3200000 in
set_option maxRecDepth 20000 in
/-- 'Same', of the same. -/
theorem refSame16_any (V1 V2 : TabW) (t : Tab) (w : World) (h1 : TabAt w w.heap.size V1 t) (h2 : TabAt w w.heap.size V2 t) (hm1 : t.ts.length ≤ 140737488355328) (hm2 : t.vs.length ≤ 140737488355328) (hm3 : t.os.length ≤ 140737488355328) :
    Calls Tryz.prog 14 #[.agg (tabV V1 t), .agg (tabV V2 t)] w fun e w' => e = .returned (.bool true) ∧ Below w.heap.size w w' := by
  obtain ⟨W0, hW0, hf, hb0, hbm⟩ := box_two w (.slice V1.A1 t.ts.length V1.c1) (.slice V1.A2 t.vs.length V1.c2) (.slice V1.A3 t.os.length V1.c3) (.slice V2.A1 t.ts.length V2.c1) (.slice V2.A2 t.vs.length V2.c2) (.slice V2.A3 t.os.length V2.c3) 35
  have H1 := Lib.hid (fun m => h1.ts.below (hbm m))
  have G1 := Lib.hid (fun m => h2.ts.below (hbm m))
  have H2 := Lib.hid (fun m => h1.vs.below (hbm m))
  have G2 := Lib.hid (fun m => h2.vs.below (hbm m))
  have HS := Lib.hid (sameInts_any V1.A3 V2.A3 V1.c3 V2.c3 t.os W0 ((h1.os.below hb0).more hb0.size) ((h2.os.below hb0).more hb0.size) hm3)
  have HB := Lib.hid hb0
  have hle1 := h1.l1
  have hle2 := h2.l1
  have hle3 := h1.l2
  have hle4 := h2.l2
  have hle5 := h1.l3
  have hle6 := h2.l3
  obtain ⟨ts, vs, os⟩ := t
  obtain ⟨A1, c1, A2, c2, A3, c3⟩ := V1
  obtain ⟨B1, d1, B2, d2, B3, d3⟩ := V2
  simp only [tabV] at hf hW0 H1 G1 H2 G2 HS hle1 hle2 hle3 hle4 hle5 hle6 hm1 hm2 hm3 ⊢
  obtain ⟨N1, hN1⟩ : ∃ N, N = ts.length := ⟨_, rfl⟩
  obtain ⟨N2, hN2⟩ : ∃ N, N = vs.length := ⟨_, rfl⟩
  obtain ⟨N3, hN3⟩ : ∃ N, N = os.length := ⟨_, rfl⟩
  have HN1 := Lib.hid hN1
  have HN2 := Lib.hid hN2
  simp only [← hN1, ← hN2, ← hN3] at hf hW0 HS hle1 hle2 hle3 hle4 hle5 hle6 hm1 hm2 hm3 ⊢
  have HF := Lib.hid hf
  have HW := Lib.hid hW0
  obtain ⟨f0, f1, f2, g0, g1, g2⟩ := hf 0
  have e0 : W0.drewN 0 = W0 := rfl
  rw [e0, hW0] at f0 f1 f2 g0 g1 g2
  rw [hW0] at HS
  clear h1 h2 hN1 hN2 hN3 hf hb0 hbm e0
  go_enter Tryz.func14, Tryz.ntmps14
  go_wp2_with (go_at_call 17; with_reducible (refine Calls.mono HS.out ?_); rintro e w1 ⟨rfl, m1, hw1⟩)
  rw [← hW0] at hw1
  clear f0 f1 f2 g0 g1 g2 HS hW0
  go_loopw [5] (fun i wr => ∃ k m : Nat, k ≤ N1 ∧ i = .int .i64 k ∧ wr = W0.drewN m) (fun i _ => N1 - (intOf i).toNat)
  case atStart => exact ⟨0, m1, Nat.zero_le _, rfl, by rw [HW.out]⟩
  case round =>
    obtain ⟨k, m, hk, rfl, hwm⟩ := hrel
    have k0 : (0 : Int) ≤ (k : Int) := by omega
    by_cases hlt : k < N1
    · have k1 : (k : Int) < (N1 : Int) := by omega
      have hkx : k < ts.length := by have := HN1.out; omega
      obtain ⟨b1, o1, rfl, _, x0, x1, x2, x3, x4, x5⟩ := H1.out m k hkx
      obtain ⟨b2, o2, rfl, _, y0, y1, y2, y3, y4, y5⟩ := G1.out m k hkx
      obtain ⟨f0, f1, f2, g0, g1, g2⟩ := HF.out m
      obtain ⟨x, hx⟩ : ∃ x, x = ts[k] := ⟨_, rfl⟩
      rw [← hx] at x0 x1 x2 x3 x4 x5 y0 y1 y2 y3 y4 y5
      have heq : ∀ W, (Op.equalIn 10000 52 (.agg (tenV x)) (.agg (tenV x))).run Tryz.prog W = .ok true W := fun W => by rw [eqTen_all, decide_eq_true rfl]
      clear hx
      obtain ⟨p0, p1, p2, p3, p4, p5⟩ := x
      simp only [tenV] at heq
      simp only at x0 x1 x2 x3 x4 x5 y0 y1 y2 y3 y4 y5
      rw [← hwm] at x0 x1 x2 x3 x4 x5 y0 y1 y2 y3 y4 y5 f0 f1 f2 g0 g1 g2
      have HWM := Lib.hid hwm
      clear hwm
      go_wp2
      go_quiet (fail)
      go_wp2
      go_roundw
      case rel => exact ⟨k + 1, m + nq, by omega, by go_num, by rw [HWM.out, World.drewN_drewN]⟩
      case measure => first | (simp [intOf]; done) | (simp [intOf]; omega)
    · have k1 : ¬ (k : Int) < (N1 : Int) := by omega
      obtain ⟨f0, f1, f2, g0, g1, g2⟩ := HF.out m
      rw [← hwm] at f0 f1 f2 g0 g1 g2
      have HWM := Lib.hid hwm
      clear hwm
      go_wp2
      clear k0 hlt k1 hk
      go_loopw [6] (fun i wr => ∃ k m : Nat, k ≤ N2 ∧ i = .int .i64 k ∧ wr = W0.drewN m) (fun i _ => N2 - (intOf i).toNat)
      case atStart => exact ⟨0, m, Nat.zero_le _, rfl, HWM.out⟩
      case round =>
        obtain ⟨k, m, hk, rfl, hwm⟩ := hrel
        have k0 : (0 : Int) ≤ (k : Int) := by omega
        by_cases hlt : k < N2
        · have k1 : (k : Int) < (N2 : Int) := by omega
          have hkx : k < vs.length := by have := HN2.out; omega
          obtain ⟨b1, o1, rfl, _, x0, x1, x2, x3⟩ := H2.out m k hkx
          obtain ⟨b2, o2, rfl, _, y0, y1, y2, y3⟩ := G2.out m k hkx
          obtain ⟨f0, f1, f2, g0, g1, g2⟩ := HF.out m
          obtain ⟨x, hx⟩ : ∃ x, x = vs[k] := ⟨_, rfl⟩
          rw [← hx] at x0 x1 x2 x3 y0 y1 y2 y3
          have heq : ∀ W, (Op.equalIn 10000 82 (.agg (volV x)) (.agg (volV x))).run Tryz.prog W = .ok true W := fun W => by rw [eqVol_all, decide_eq_true rfl]
          clear hx
          obtain ⟨p0, p1, p2, p3⟩ := x
          simp only [volV] at heq
          simp only at x0 x1 x2 x3 y0 y1 y2 y3
          rw [← hwm] at x0 x1 x2 x3 y0 y1 y2 y3 f0 f1 f2 g0 g1 g2
          have HWM := Lib.hid hwm
          clear hwm
          go_wp2
          go_quiet (fail)
          go_wp2
          go_roundw
          case rel => exact ⟨k + 1, m + nq, by omega, by go_num, by rw [HWM.out, World.drewN_drewN]⟩
          case measure => first | (simp [intOf]; done) | (simp [intOf]; omega)
        · have k1 : ¬ (k : Int) < (N2 : Int) := by omega
          obtain ⟨f0, f1, f2, g0, g1, g2⟩ := HF.out m
          rw [← hwm] at f0 f1 f2 g0 g1 g2
          have HWM := Lib.hid hwm
          clear hwm
          go_wp2
          go_ret
          exact ⟨rfl, by rw [HWM.out]; exact below_drewN HB.out _⟩

end Go.Proofs.YtbnhkplhmanmoaaGreat
