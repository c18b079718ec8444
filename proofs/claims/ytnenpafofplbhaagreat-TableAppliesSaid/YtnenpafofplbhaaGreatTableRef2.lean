/-
  The document's own in, plain, Owned, Quotas (stowageref16).
-/
import Derived.Test.YtnenpafofplbhaaGreatTableRef
namespace Go.Proofs.YtnenpafofplbhaaGreat
open Go.RowKit

set_option maxHeartbeats 800000 in
theorem refIn16_any (n a b : Int) (w : World) : Calls Tryz.prog 34 #[.int .i64 n, .int .i64 a, .int .i64 b] w fun e w' => e = .returned (.bool (decide (inR n a b))) ∧ w = w' := by
  by_cases h0 : a ≤ n
  · by_cases h1 : n ≤ b
    · rw [decide_eq_true (show inR n a b from ⟨h0, h1⟩)]
      have d0 : decide (a ≤ n) = true := decide_eq_true h0
      have d1 : decide (n ≤ b) = true := decide_eq_true h1
      go_enter Tryz.func34, Tryz.ntmps34
      go_wp2
      go_ret
      exact ⟨rfl, rfl⟩
    · rw [decide_eq_false (show ¬ inR n a b from fun h => by unfold inR at h; omega)]
      have d0 : decide (a ≤ n) = true := decide_eq_true h0
      have d1 : decide (n ≤ b) = false := decide_eq_false h1
      go_enter Tryz.func34, Tryz.ntmps34
      go_wp2
      go_ret
      exact ⟨rfl, rfl⟩
  · rw [decide_eq_false (show ¬ inR n a b from fun h => by unfold inR at h; omega)]
    have d0 : decide (a ≤ n) = false := decide_eq_false h0
    go_enter Tryz.func34, Tryz.ntmps34
    go_wp2
    go_ret
    exact ⟨rfl, rfl⟩

/-- May it be a tenant? -/
def plainQ (id q r b : Int) (s : ByteArray) : Prop := inR id 1 7 ∧ inR q 1 64 ∧ inR r 0 4294967296 ∧ inR b 1 64 ∧ s.size = 16
instance (id q r b : Int) (s : ByteArray) : Decidable (plainQ id q r b s) := by unfold plainQ; infer_instance

set_option maxHeartbeats 800000 in
set_option maxRecDepth 20000 in
theorem refPlain_any (id q r b : Int) (s : ByteArray) (w : World) : Calls Tryz.prog 35 #[.int .i64 id, .int .i64 q, .int .i64 r, .int .i64 b, .string s] w fun e w' => e = .returned (.bool (decide (plainQ id q r b s))) ∧ w = w' := by
  have H1 := Lib.hid (fun W => refIn16_any id 1 7 W)
  have H2 := Lib.hid (fun W => refIn16_any q 1 64 W)
  have H3 := Lib.hid (fun W => refIn16_any r 0 4294967296 W)
  have H4 := Lib.hid (fun W => refIn16_any b 1 64 W)
  have he : decide (plainQ id q r b s) = (decide (inR id 1 7) && decide (inR q 1 64) && decide (inR r 0 4294967296) && decide (inR b 1 64) && decide (s.size = 16)) := by
    rw [Bool.eq_iff_iff, decide_eq_true_iff]
    simp [plainQ, and_assoc]
  have HE := Lib.hid he
  clear he
  obtain ⟨P, hP⟩ : ∃ P, P = decide (plainQ id q r b s) := ⟨_, rfl⟩
  rw [← hP] at HE ⊢
  obtain ⟨p1, hp1⟩ : ∃ P, P = decide (inR id 1 7) := ⟨_, rfl⟩
  obtain ⟨p2, hp2⟩ : ∃ P, P = decide (inR q 1 64) := ⟨_, rfl⟩
  obtain ⟨p3, hp3⟩ : ∃ P, P = decide (inR r 0 4294967296) := ⟨_, rfl⟩
  obtain ⟨p4, hp4⟩ : ∃ P, P = decide (inR b 1 64) := ⟨_, rfl⟩
  rw [← hp1, ← hp2, ← hp3, ← hp4] at HE
  simp only [← hp1] at H1
  simp only [← hp2] at H2
  simp only [← hp3] at H3
  simp only [← hp4] at H4
  clear hP hp1 hp2 hp3 hp4
  have fin : ∀ (e1 e2 : Ending) , e1 = e2 → e1 = e2 := fun _ _ h => h
  by_cases hs : s.size = 16
  · have hs' : ((s.size : Int) == 16) = true := by simp [hs]
    have HS := Lib.hid hs
    clear hs
    cases p1 <;> cases p2 <;> cases p3 <;> cases p4 <;>
    · go_enter Tryz.func35, Tryz.ntmps35
      go_wp2_with (first
        | (go_at_call 34; with_reducible (refine Calls.mono (H1.out _) ?_); rintro e w' ⟨rfl, rfl⟩)
        | (go_at_call 34; with_reducible (refine Calls.mono (H2.out _) ?_); rintro e w' ⟨rfl, rfl⟩)
        | (go_at_call 34; with_reducible (refine Calls.mono (H3.out _) ?_); rintro e w' ⟨rfl, rfl⟩)
        | (go_at_call 34; with_reducible (refine Calls.mono (H4.out _) ?_); rintro e w' ⟨rfl, rfl⟩))
      go_ret
      exact ⟨by rw [HE.out, HS.out]; rfl, rfl⟩
  · have hs' : ((s.size : Int) == 16) = false := by simp; omega
    have HS : Hid (decide (s.size = 16) = false) := decide_eq_false hs
    clear hs
    cases p1 <;> cases p2 <;> cases p3 <;> cases p4 <;>
    · go_enter Tryz.func35, Tryz.ntmps35
      go_wp2_with (first
        | (go_at_call 34; with_reducible (refine Calls.mono (H1.out _) ?_); rintro e w' ⟨rfl, rfl⟩)
        | (go_at_call 34; with_reducible (refine Calls.mono (H2.out _) ?_); rintro e w' ⟨rfl, rfl⟩)
        | (go_at_call 34; with_reducible (refine Calls.mono (H3.out _) ?_); rintro e w' ⟨rfl, rfl⟩)
        | (go_at_call 34; with_reducible (refine Calls.mono (H4.out _) ?_); rintro e w' ⟨rfl, rfl⟩))
      go_ret
      exact ⟨by rw [HE.out, HS.out]; rfl, rfl⟩

theorem ownN_zero (id : Int) : ownN [] id = 0 := by unfold ownN; split <;> rfl
theorem ownN_take {os : List Int} {k : Nat} (hk : k < os.length) (id : Int) : ownN (os.take (k + 1)) id = ownN (os.take k) id + (if os.getD k 0 = id ∧ inR id 1 7 then 1 else 0) := by
  rw [List.take_succ_eq_append_getElem hk]
  unfold ownN
  by_cases h : 1 ≤ id ∧ id ≤ 7
  · rw [if_pos h, if_pos h, List.countP_append, List.countP_cons, List.countP_nil]
    have hg : os.getD k 0 = os[k] := by simp [List.getD, hk]
    rw [hg, Nat.zero_add]
    by_cases he : os[k] = id
    · rw [if_pos (show os[k] = id ∧ inR id 1 7 from ⟨he, h⟩), if_pos (decide_eq_true he)]
    · rw [if_neg (show ¬ (os[k] = id ∧ inR id 1 7) from fun hh => he hh.1), if_neg (by simpa using he)]
  · rw [if_neg h, if_neg h, if_neg (fun hh => h hh.2)]

set_option maxHeartbeats 1600000 in
set_option maxRecDepth 20000 in
/-- 'Owned'. -/
theorem refOwn_any (V : TabW) (t : Tab) (id : Int) (w : World) (h : TabAt w w.heap.size V t) (hm : t.os.length ≤ 9223372036854775807) :
    Calls Tryz.prog 36 #[.agg (tabV V t), .int .i64 id] w fun e w' => e = .returned (.int .i64 (ownN t.os id : Nat)) ∧ Below w.heap.size w w' := by
  obtain ⟨F0, F1, F2, hb0⟩ := box_facts w (.slice V.A1 t.ts.length V.c1) (.slice V.A2 t.vs.length V.c2) (.slice V.A3 t.os.length V.c3) 26
  have HT := Lib.hid (h.os.below hb0)
  have HIN := Lib.hid (fun W => refIn16_any id 1 7 W)
  have hle := h.l3
  obtain ⟨ts, vs, os⟩ := t
  obtain ⟨A1, c1, A2, c2, A3, c3⟩ := V
  simp only [tabV] at F0 F1 F2 hb0 HT hle hm ⊢
  obtain ⟨N1, hN1⟩ : ∃ N, N = ts.length := ⟨_, rfl⟩
  obtain ⟨N2, hN2⟩ : ∃ N, N = vs.length := ⟨_, rfl⟩
  obtain ⟨N, hN⟩ : ∃ N, N = os.length := ⟨_, rfl⟩
  have HN := Lib.hid hN
  have HST : Hid (∀ k, k < N → ownN (os.take (k + 1)) id = ownN (os.take k) id + (if os.getD k 0 = id ∧ inR id 1 7 then 1 else 0)) := fun k hk => ownN_take (hN ▸ hk) id
  have HEN : Hid (ownN (os.take N) id = ownN os id) := by rw [hN]; show ownN (os.take os.length) id = _; rw [List.take_length]
  have HLE : Hid (∀ k, ownN (os.take k) id ≤ k) := fun k => Nat.le_trans (ownN_le _ _) (by rw [List.length_take]; omega)
  obtain ⟨V, hV⟩ : ∃ V, V = decide (inR id 1 7) := ⟨_, rfl⟩
  have HV := Lib.hid hV
  simp only [← hV] at HIN
  rw [← hN1, ← hN2, ← hN] at F0 F1 F2 hb0 ⊢
  rw [← hN] at hm hle
  simp only [← hN1, ← hN2, ← hN] at HT
  obtain ⟨W0, hW0⟩ : ∃ W, W = w.alloc (.cells #[.slice A1 N1 c1, .slice A2 N2 c2, .slice A3 N c3] 26) := ⟨_, rfl⟩
  rw [← hW0] at F0 F1 F2 hb0 HT
  clear h hN hN1 hN2 hV
  go_enter Tryz.func36, Tryz.ntmps36
  go_wp2
  rw [← hW0]
  clear hW0
  go_loopw [5, 6] (fun n i wr => ∃ k c : Nat, k ≤ N ∧ i = .int .i64 k ∧ n = .int .i64 c ∧ Hid (c = ownN (os.take k) id) ∧ wr = W0) (fun _ i _ => N - (intOf i).toNat)
  case atStart => exact ⟨0, 0, Nat.zero_le _, rfl, rfl, (ownN_zero id).symm, rfl⟩
  case round =>
    obtain ⟨k, c, hk, rfl, rfl, hc, rfl⟩ := hrel
    have k0 : (0 : Int) ≤ (k : Int) := by omega
    have hck : c ≤ k := by rw [hc.out]; exact HLE.out k
    by_cases hlt : k < N
    · have k1 : (k : Int) < (N : Int) := by omega
      obtain ⟨b, off, rfl, _, q0⟩ := HT.out k (by have := HN.out; omega)
      have hst := HST.out k hlt
      obtain ⟨o, ho⟩ : ∃ o, o = os.getD k 0 := ⟨_, rfl⟩
      rw [← ho] at q0 hst
      clear ho
      by_cases he : o = id
      · have d : (o == id) = true := beq_iff_eq.2 he
        cases V
        · have HC : Hid (c = ownN (os.take (k + 1)) id) := by
            rw [hst, if_neg (fun h => by have := HV.out; rw [decide_eq_true h.2] at this; cases this)]; exact hc.out
          clear hst he
          go_wp2_with (go_at_call 34; with_reducible (refine Calls.mono (HIN.out _) ?_); rintro e w' ⟨rfl, rfl⟩)
          go_roundw
          case rel => exact ⟨k + 1, c, by omega, by go_num, rfl, HC, by first | rfl | trivial⟩
          case measure => first | (simp [intOf]; done) | (simp [intOf]; omega)
        · have HC : Hid (c + 1 = ownN (os.take (k + 1)) id) := by
            rw [hst, if_pos ⟨he, of_decide_eq_true HV.out.symm⟩]; exact congrArg (· + 1) hc.out
          clear hst he
          go_wp2_with (go_at_call 34; with_reducible (refine Calls.mono (HIN.out _) ?_); rintro e w' ⟨rfl, rfl⟩)
          go_roundw
          case rel => exact ⟨k + 1, c + 1, by omega, by go_num, by go_num, HC, by first | rfl | trivial⟩
          case measure => first | (simp [intOf]; done) | (simp [intOf]; omega)
      · have d : (o == id) = false := beq_eq_false_iff_ne.2 he
        have HC : Hid (c = ownN (os.take (k + 1)) id) := by
          rw [hst, if_neg (fun h => he h.1)]; exact hc.out
        clear hst he
        go_wp2
        go_roundw
        case rel => exact ⟨k + 1, c, by omega, by go_num, rfl, HC, by first | rfl | trivial⟩
        case measure => first | (simp [intOf]; done) | (simp [intOf]; omega)
    · have hkN : k = N := by omega
      have HE : Hid (c = ownN os id) := by rw [hc.out, hkN]; exact HEN.out
      have k1 : ¬ (k : Int) < (N : Int) := by omega
      clear hkN
      go_wp2
      go_ret
      exact ⟨by rw [← HE.out]; rfl, hb0⟩

theorem sumQ_take {ts : List Ten} {k : Nat} (hk : k < ts.length) : sumQ (ts.take (k + 1)) = sumQ (ts.take k) + ts[k].quota := by
  rw [List.take_succ_eq_append_getElem hk]
  unfold sumQ
  rw [List.map_append, List.sum_append_int]
  simp
theorem sumQ_small {ts : List Ten} (h : ∀ x ∈ ts, 1 ≤ x.quota ∧ x.quota ≤ 64) : ∀ k, 0 ≤ sumQ (ts.take k) ∧ sumQ (ts.take k) ≤ 64 * k := fun k => by
  induction k with
  | zero => simp [sumQ]
  | succ k ih =>
    by_cases hk : k < ts.length
    · have := h _ (List.getElem_mem hk)
      rw [sumQ_take hk]
      omega
    · rw [List.take_of_length_le (by omega)] at ih ⊢
      omega

set_option maxHeartbeats 1600000 in
set_option maxRecDepth 20000 in
/-- 'Quotas'. -/
theorem refQuotas_any (V : TabW) (t : Tab) (w : World) (h : TabAt w w.heap.size V t) (hm : t.ts.length ≤ 1000) (hq : ∀ x ∈ t.ts, 1 ≤ x.quota ∧ x.quota ≤ 64) :
    Calls Tryz.prog 38 #[.agg (tabV V t)] w fun e w' => e = .returned (.int .i64 (sumQ t.ts)) ∧ Below w.heap.size w w' := by
  obtain ⟨F0, F1, F2, hb0⟩ := box_facts w (.slice V.A1 t.ts.length V.c1) (.slice V.A2 t.vs.length V.c2) (.slice V.A3 t.os.length V.c3) 26
  have HT := Lib.hid (h.ts.below hb0)
  have hle := h.l1
  have HQ := Lib.hid (sumQ_small hq)
  have HQ1 : Hid (∀ k, (h : k < t.ts.length) → 1 ≤ t.ts[k].quota ∧ t.ts[k].quota ≤ 64) := fun k h => hq _ (List.getElem_mem h)
  have HST : Hid (∀ k, (h : k < t.ts.length) → sumQ (t.ts.take (k + 1)) = sumQ (t.ts.take k) + t.ts[k].quota) := fun k hk => sumQ_take hk
  have HEN : Hid (sumQ (t.ts.take t.ts.length) = sumQ t.ts) := by show sumQ (t.ts.take t.ts.length) = _; rw [List.take_length]
  obtain ⟨ts, vs, os⟩ := t
  obtain ⟨A1, c1, A2, c2, A3, c3⟩ := V
  simp only [tabV] at F0 F1 F2 hb0 HT hle hm HQ HQ1 HST HEN ⊢
  obtain ⟨N, hN⟩ : ∃ N, N = ts.length := ⟨_, rfl⟩
  obtain ⟨N2, hN2⟩ : ∃ N, N = vs.length := ⟨_, rfl⟩
  obtain ⟨N3, hN3⟩ : ∃ N, N = os.length := ⟨_, rfl⟩
  rw [← hN, ← hN2, ← hN3] at F0 F1 F2 hb0 ⊢
  rw [← hN] at hm hle HEN
  simp only [← hN, ← hN2, ← hN3] at HT
  have HN := Lib.hid hN
  obtain ⟨W0, hW0⟩ : ∃ W, W = w.alloc (.cells #[.slice A1 N c1, .slice A2 N2 c2, .slice A3 N3 c3] 26) := ⟨_, rfl⟩
  rw [← hW0] at F0 F1 F2 hb0 HT
  clear h hN hN2 hN3 hq
  go_enter Tryz.func38, Tryz.ntmps38
  go_wp2
  rw [← hW0]
  clear hW0
  go_loopw [3, 4] (fun n i wr => ∃ (k : Nat) (c : Int), k ≤ N ∧ i = .int .i64 k ∧ n = .int .i64 c ∧ Hid (c = sumQ (ts.take k)) ∧ wr = W0) (fun _ i _ => N - (intOf i).toNat)
  case atStart => exact ⟨0, 0, Nat.zero_le _, rfl, rfl, rfl, rfl⟩
  case round =>
    obtain ⟨k, c, hk, rfl, rfl, hc, rfl⟩ := hrel
    have k0 : (0 : Int) ≤ (k : Int) := by omega
    have hck : 0 ≤ c ∧ c ≤ 64 * k := by rw [hc.out]; exact HQ.out k
    obtain ⟨hc0, hc1⟩ := hck
    by_cases hlt : k < N
    · have k1 : (k : Int) < (N : Int) := by omega
      have hkx : k < ts.length := by have := HN.out; omega
      obtain ⟨b, off, rfl, _, _, q1, _⟩ := HT.out k hkx
      have hst := HST.out k hkx
      have hq1 := HQ1.out k hkx
      obtain ⟨q, hq⟩ : ∃ q, q = ts[k].quota := ⟨_, rfl⟩
      rw [← hq] at q1 hst hq1
      have HC : Hid (c + q = sumQ (ts.take (k + 1))) := by rw [hst]; exact congrArg (· + q) hc.out
      have v : IntKind.i64.wrap (c + q) = c + q := IntWalk.i64_in _ (by omega)
      clear hst hq
      go_wp2
      go_roundw
      case rel => exact ⟨k + 1, c + q, by omega, by go_num, by first | rfl | go_num, HC, by first | rfl | trivial⟩
      case measure => first | (simp [intOf]; done) | (simp [intOf]; omega)
    · have hkN : k = N := by omega
      have HE : Hid (c = sumQ ts) := by rw [hc.out, hkN]; exact HEN.out
      have k1 : ¬ (k : Int) < (N : Int) := by omega
      clear hkN
      go_wp2
      go_ret
      exact ⟨by rw [← HE.out]; rfl, hb0⟩

end Go.Proofs.YtnenpafofplbhaaGreat
