/-
  The landed table: a draft's volume, hasVolume, quotas.
-/
import Derived.Test.YtnenpafofplbhaaGreatTableC9
namespace Go.Proofs.YtnenpafofplbhaaGreat
open Go.RowKit

set_option maxHeartbeats 1600000 in
/-- 'slices.IndexFunc' of volumes; the function may take memory. -/
theorem indexV_any (A : Option Addr) (c : Nat) (ts : List Vol) (P : Nat → Bool) (r : Int) (fn : FuncId) (cb : Array Value) (w : World) (hN : ts.length ≤ 9223372036854775807) (h : VolsAt w w.heap.size A ts) (hr : FirstAt P ts.length r)
    (he : ∀ args w, (callFunc fn args).run Tryz.prog w = .ok (.enter fn args) w) (hc : ∀ k (hk : k < ts.length) W, Below w.heap.size w W → Calls Tryz.prog fn (#[.agg (volV ts[k])] ++ cb) W fun e w' => e = .returned (.bool (P k)) ∧ Below W.heap.size W w') :
    Calls Tryz.prog 74 #[.slice A ts.length c, .func (.func fn) #[] cb] w fun e w' => e = .returned (.int .i64 r) ∧ Below w.heap.size w w' := by
  have HA : Hid (∀ W, Below w.heap.size w W → VolsAt W w.heap.size A ts) := fun W hb => h.below hb
  have HC := Lib.hid hc
  have HR := Lib.hid hr
  obtain ⟨N, hNN⟩ : ∃ N, N = ts.length := ⟨_, rfl⟩
  rw [← hNN] at HR hN ⊢
  have HN := Lib.hid hNN
  have eg := he
  clear h hc hNN hr
  go_enter Tryz.func74, Tryz.ntmps74
  go_wp2
  go_loopw [8] (fun i wr => ∃ k : Nat, k ≤ N ∧ i = .int .i64 k ∧ Hid (∀ j, j < k → P j = false) ∧ Hid (Below w.heap.size w wr)) (fun i _ => N - (intOf i).toNat)
  case atStart => exact ⟨0, Nat.zero_le _, rfl, fun j hj => absurd hj (Nat.not_lt_zero j), Below.refl _ _⟩
  case round =>
    obtain ⟨k, hk, rfl, hall, hB⟩ := hrel
    by_cases hlt : k < N
    · have hkx : k < ts.length := by have := HN.out; omega
      obtain ⟨b, o, rfl, _, q0, q1, q2, q3⟩ := HA.out wr hB.out k hkx
      have k1 : (k : Int) < (N : Int) := by omega
      have k0 : (0 : Int) ≤ (k : Int) := by omega
      have hck := HC.out k hkx wr hB.out
      have hall2 : Hid (P k = false → ∀ j, j < k + 1 → P j = false) := fun q j hj => by
        rcases Nat.lt_or_ge j k with g | g
        · exact hall.out j g
        · rw [show j = k by omega]; exact q
      have hy : Hid (P k = true → r = k) := fun q => HR.out.hit hlt q hall.out
      obtain ⟨p, hp⟩ : ∃ p, p = P k := ⟨_, rfl⟩
      rw [← hp] at hck hy hall2
      obtain ⟨x, hx⟩ : ∃ x, x = ts[k] := ⟨_, rfl⟩
      rw [← hx] at q0 q1 q2 q3 hck
      clear hx
      obtain ⟨p0, p1, p2, p3⟩ := x
      simp only [volV] at hck
      simp only at q0 q1 q2 q3
      have HCK := Lib.hid hck
      clear hall HA HC hp hck
      cases p
      · have H2 := Lib.hid (hall2.out rfl)
        clear hall2 hy
        go_wp2_with (go_at_fn fn; with_reducible (refine Calls.mono HCK.out ?_); rintro e w2 ⟨rfl, hb2⟩)
        have R := Lib.hid (chain hB.out hb2)
        clear hB hb2
        go_roundw
        case rel => first | exact ⟨k + 1, by omega, by go_num, H2.out, R⟩ | ((repeat apply Exists.intro); exact ⟨⟨k + 1, by omega, by go_num, H2.out, R⟩, rfl⟩)
        case measure => simp [intOf]; omega
      · have H2 := Lib.hid (hy.out rfl)
        clear hall2 hy
        go_wp2_with (go_at_fn fn; with_reducible (refine Calls.mono HCK.out ?_); rintro e w2 ⟨rfl, hb2⟩)
        have R := Lib.hid (chain hB.out hb2)
        clear hB hb2
        go_ret
        exact ⟨by rw [H2.out]; rfl, R.out⟩
    · have hk8 : k = N := by omega
      subst hk8
      have hn := Lib.hid (HR.out.miss hall.out)
      clear hall HA HC
      have k1 : ¬ (k : Int) < (k : Int) := by omega
      go_wp2
      go_ret
      exact ⟨by rw [hn.out]; rfl, hB.out⟩

set_option maxHeartbeats 800000 in
theorem vol1_any (x : Vol) (id : Int) (q : Nat) (w : World) (hq : w.cell? ⟨q, 0, none⟩ = some (.int .i64 id)) :
    Calls Tryz.prog 75 (#[.agg (volV x)] ++ #[.pointer (some ⟨q, 0, none⟩)]) w fun e w' => e = .returned (.bool (decide (x.id = id))) ∧ Below w.heap.size w w' := by
  show Calls Tryz.prog 75 #[.agg (volV x), .pointer (some ⟨q, 0, none⟩)] w _
  obtain ⟨p0, p1, p2, p3⟩ := x
  simp only [volV]
  have hb : Below w.heap.size w (w.alloc (.cells #[.int .i64 p0, .int .i64 p1, .int .i64 p2, .int .i64 p3] 51)) := (Below.refl _ _).alloc (Nat.le_refl _) _
  have hq2 : (w.alloc (.cells #[.int .i64 p0, .int .i64 p1, .int .i64 p2, .int .i64 p3] 51)).cell? ⟨q, 0, none⟩ = some (.int .i64 id) := (hb.cell (p := ⟨q, 0, none⟩) (World.block_lt_of_cell? w _ hq)).trans hq
  have e : (p0 == id) = decide (p0 = id) := by rw [Bool.eq_iff_iff]; simp
  go_enter Tryz.func75, Tryz.ntmps75
  go_wp2
  go_ret
  exact ⟨rfl, hb⟩

/-- A draft's volume is there. -/
theorem dvol_first {ts : List Vol} {id : Int} {k : Nat} (hk : k < ts.length) (he : ts[k].id = id) (hl : ∀ j, (h : j < ts.length) → j < k → ts[j].id ≠ id) : FirstAt (fun j => decide (∃ h : j < ts.length, ts[j].id = id)) ts.length k :=
  .inr ⟨k, hk, rfl, decide_eq_true ⟨hk, he⟩, fun j hj => decide_eq_false fun ⟨h, e⟩ => hl j h hj e⟩
theorem dvol_none {ts : List Vol} {id : Int} (hl : ∀ j, (h : j < ts.length) → ts[j].id ≠ id) : FirstAt (fun j => decide (∃ h : j < ts.length, ts[j].id = id)) ts.length (-1) :=
  .inl ⟨rfl, fun j _ => decide_eq_false fun ⟨h, e⟩ => hl j h e⟩
theorem dvol_call (A : Option Addr) (c : Nat) (ts : List Vol) (id r : Int) (w : World) (hN : ts.length ≤ 9223372036854775807) (h : VolsAt w w.heap.size A ts) (hr : FirstAt (fun j => decide (∃ h : j < ts.length, ts[j].id = id)) ts.length r) (q : Nat) (hq : w.cell? ⟨q, 0, none⟩ = some (.int .i64 id)) :
    Calls Tryz.prog 74 #[.slice A ts.length c, .func (.func 75) #[] #[.pointer (some ⟨q, 0, none⟩)]] w fun e w' => e = .returned (.int .i64 r) ∧ Below w.heap.size w w' := by
  refine indexV_any A c ts _ r 75 #[.pointer (some ⟨q, 0, none⟩)] w hN h hr (fun args w => by kernel_rfl) fun k hk W hb => ?_
  have h1 := vol1_any ts[k] id q W ((hb.cell (p := ⟨q, 0, none⟩) (World.block_lt_of_cell? w _ hq)).trans hq)
  have e : decide (∃ h : k < ts.length, ts[k].id = id) = decide (ts[k].id = id) := by
    rw [Bool.eq_iff_iff, decide_eq_true_iff, decide_eq_true_iff]
    exact ⟨fun ⟨_, e⟩ => e, fun e => ⟨hk, e⟩⟩
  rw [e]
  exact h1

set_option maxHeartbeats 1600000 in
/-- A draft's 'volume', of one that is there. -/
theorem dvol_yes (p : Nat) (b off c : Nat) (ts : List Vol) (id : Int) (k : Nat) (w : World) (hp : w.cell? ⟨p, 1, none⟩ = some (.slice (some ⟨b, off, none⟩) ts.length c)) (hN : ts.length ≤ 9223372036854775807) (h : VolsAt w w.heap.size (some ⟨b, off, none⟩) ts)
    (hk : k < ts.length) (he : ts[k].id = id) (hl : ∀ j, (h : j < ts.length) → j < k → ts[j].id ≠ id) :
    Calls Tryz.prog 53 #[.pointer (some ⟨p, 0, none⟩), .int .i64 id] w fun e w' => e = .returned (.pointer (some ⟨b, off + k * 4, none⟩)) ∧ Below w.heap.size w w' := by
  have hb0 : Below w.heap.size w (w.alloc (.cells #[.int .i64 id] 3)) := (Below.refl _ _).alloc (Nat.le_refl _) _
  have hpl := World.block_lt_of_cell? w _ hp
  have H1 := Lib.hid (dvol_call (some ⟨b, off, none⟩) c ts id k (w.alloc (.cells #[.int .i64 id] 3)) hN ((h.below hb0).more hb0.size) (dvol_first hk he hl) w.heap.size (by rw [cell_of_row _ _ _ _ _ _ (heap_alloc_new w (.cells #[.int .i64 id] 3))]; rfl))
  have HP : Hid (∀ X, Below (w.alloc (.cells #[.int .i64 id] 3)).heap.size (w.alloc (.cells #[.int .i64 id] 3)) X → X.cell? ⟨p, 1, none⟩ = some (.slice (some ⟨b, off, none⟩) ts.length c)) := fun X hb => ((chain hb0 hb).cell (p := ⟨p, 1, none⟩) hpl).trans hp
  have hp1 := HP.out _ (Below.refl _ _)
  obtain ⟨N, hNN⟩ : ∃ N, N = ts.length := ⟨_, rfl⟩
  rw [← hNN] at H1 HP hp1 hN hk
  have k1 : (k : Int) < (N : Int) := by omega
  have k0 : ¬ (k : Int) < 0 := by omega
  clear h hl he hp hNN
  go_enter Tryz.func53, Tryz.ntmps53
  go_wp2_with (go_at_call 74; with_reducible (refine Calls.mono H1.out ?_); rintro e w2 ⟨rfl, hb2⟩; have hp2 := HP.out _ hb2)
  go_ret
  exact ⟨rfl, chain hb0 hb2⟩
set_option maxHeartbeats 1600000 in
/-- A draft's 'volume', of one that is not. -/
theorem dvol_no (p : Nat) (A : Option Addr) (c : Nat) (ts : List Vol) (id : Int) (w : World) (hp : w.cell? ⟨p, 1, none⟩ = some (.slice A ts.length c)) (hN : ts.length ≤ 9223372036854775807) (h : VolsAt w w.heap.size A ts)
    (hl : ∀ j, (h : j < ts.length) → ts[j].id ≠ id) :
    Calls Tryz.prog 53 #[.pointer (some ⟨p, 0, none⟩), .int .i64 id] w fun e w' => e = .returned (.pointer none) ∧ Below w.heap.size w w' := by
  have hb0 : Below w.heap.size w (w.alloc (.cells #[.int .i64 id] 3)) := (Below.refl _ _).alloc (Nat.le_refl _) _
  have hpl := World.block_lt_of_cell? w _ hp
  have H1 := Lib.hid (dvol_call A c ts id (-1) (w.alloc (.cells #[.int .i64 id] 3)) hN ((h.below hb0).more hb0.size) (dvol_none hl) w.heap.size (by rw [cell_of_row _ _ _ _ _ _ (heap_alloc_new w (.cells #[.int .i64 id] 3))]; rfl))
  have hp1 : (w.alloc (.cells #[.int .i64 id] 3)).cell? ⟨p, 1, none⟩ = some (.slice A ts.length c) := (hb0.cell (p := ⟨p, 1, none⟩) hpl).trans hp
  obtain ⟨N, hNN⟩ : ∃ N, N = ts.length := ⟨_, rfl⟩
  rw [← hNN] at H1 hp1 hN
  clear h hl hp hNN
  go_enter Tryz.func53, Tryz.ntmps53
  go_wp2_with (go_at_call 74; with_reducible (refine Calls.mono H1.out ?_); rintro e w2 ⟨rfl, hb2⟩)
  go_ret
  exact ⟨rfl, chain hb0 hb2⟩


set_option maxHeartbeats 800000 in
/-- 'slices.ContainsFunc' of volumes. -/
theorem containsV_any (A : Option Addr) (c : Nat) (ts : List Vol) (P : Nat → Bool) (fn : FuncId) (cb : Array Value) (w : World) (hN : ts.length ≤ 9223372036854775807) (h : VolsAt w w.heap.size A ts)
    (he : ∀ args w, (callFunc fn args).run Tryz.prog w = .ok (.enter fn args) w) (hc : ∀ k (hk : k < ts.length) W, Below w.heap.size w W → Calls Tryz.prog fn (#[.agg (volV ts[k])] ++ cb) W fun e w' => e = .returned (.bool (P k)) ∧ Below W.heap.size W w') :
    Calls Tryz.prog 72 #[.slice A ts.length c, .func (.func fn) #[] cb] w fun e w' => e = .returned (.bool ((List.range ts.length).any P)) ∧ Below w.heap.size w w' := by
  obtain ⟨r, hr⟩ := first_at P ts.length
  have HI := Lib.hid (indexV_any A c ts P r fn cb w hN h hr he hc)
  rw [← hr.any]
  obtain ⟨N, hNN⟩ : ∃ N, N = ts.length := ⟨_, rfl⟩
  rw [← hNN] at HI ⊢
  clear h he hc hNN hr hN
  go_enter Tryz.func72, Tryz.ntmps72
  go_wp2_with (go_at_call 74; with_reducible (refine Calls.mono HI.out ?_); rintro e w2 ⟨rfl, hb2⟩)
  go_ret
  exact ⟨rfl, hb2⟩

set_option maxHeartbeats 800000 in
theorem hasv1_any (x : Vol) (id : Int) (q : Nat) (w : World) (hq : w.cell? ⟨q, 0, none⟩ = some (.int .i64 id)) :
    Calls Tryz.prog 73 (#[.agg (volV x)] ++ #[.pointer (some ⟨q, 0, none⟩)]) w fun e w' => e = .returned (.bool (decide (x.ten = id))) ∧ Below w.heap.size w w' := by
  show Calls Tryz.prog 73 #[.agg (volV x), .pointer (some ⟨q, 0, none⟩)] w _
  obtain ⟨p0, p1, p2, p3⟩ := x
  simp only [volV]
  have hb : Below w.heap.size w (w.alloc (.cells #[.int .i64 p0, .int .i64 p1, .int .i64 p2, .int .i64 p3] 51)) := (Below.refl _ _).alloc (Nat.le_refl _) _
  have hq2 : (w.alloc (.cells #[.int .i64 p0, .int .i64 p1, .int .i64 p2, .int .i64 p3] 51)).cell? ⟨q, 0, none⟩ = some (.int .i64 id) := (hb.cell (p := ⟨q, 0, none⟩) (World.block_lt_of_cell? w _ hq)).trans hq
  have e : (p1 == id) = decide (p1 = id) := by rw [Bool.eq_iff_iff]; simp
  go_enter Tryz.func73, Tryz.ntmps73
  go_wp2
  go_ret
  exact ⟨rfl, hb⟩


set_option maxHeartbeats 1600000 in
/-- 'hasVolume'. -/
theorem hasv_any (p : Nat) (A : Option Addr) (c : Nat) (vs : List Vol) (id : Int) (w : World) (hp : w.cell? ⟨p, 1, none⟩ = some (.slice A vs.length c)) (hN : vs.length ≤ 9223372036854775807) (h : VolsAt w w.heap.size A vs) :
    Calls Tryz.prog 50 #[.pointer (some ⟨p, 0, none⟩), .int .i64 id] w fun e w' => e = .returned (.bool (decide (hasV vs id))) ∧ Below w.heap.size w w' := by
  have hb0 : Below w.heap.size w (w.alloc (.cells #[.int .i64 id] 3)) := (Below.refl _ _).alloc (Nat.le_refl _) _
  have hpl := World.block_lt_of_cell? w _ hp
  have hq : (w.alloc (.cells #[.int .i64 id] 3)).cell? ⟨w.heap.size, 0, none⟩ = some (.int .i64 id) := by rw [cell_of_row _ _ _ _ _ _ (heap_alloc_new w (.cells #[.int .i64 id] 3))]; rfl
  have H1 := Lib.hid (containsV_any A c vs (fun k => decide (∃ h : k < vs.length, vs[k].ten = id)) 73 #[.pointer (some ⟨w.heap.size, 0, none⟩)] (w.alloc (.cells #[.int .i64 id] 3)) hN ((h.below hb0).more hb0.size) (fun args w => by kernel_rfl)
    (fun k hk W hb => by
      have h1 := hasv1_any vs[k] id w.heap.size W ((hb.cell (p := ⟨w.heap.size, 0, none⟩) (World.block_lt_of_cell? _ _ hq)).trans hq)
      have e : decide (∃ h : k < vs.length, vs[k].ten = id) = decide (vs[k].ten = id) := by
        rw [Bool.eq_iff_iff, decide_eq_true_iff, decide_eq_true_iff]
        exact ⟨fun ⟨_, e⟩ => e, fun e => ⟨hk, e⟩⟩
      rw [e]; exact h1))
  have e : (List.range vs.length).any (fun k => decide (∃ h : k < vs.length, vs[k].ten = id)) = decide (hasV vs id) := by
    rw [Bool.eq_iff_iff, decide_eq_true_iff, List.any_eq_true]
    constructor
    · rintro ⟨k, _, hk⟩
      obtain ⟨hk, e⟩ := of_decide_eq_true hk
      exact ⟨vs[k], List.getElem_mem hk, e⟩
    · rintro ⟨v, hv, e⟩
      obtain ⟨k, hk, rfl⟩ := List.getElem_of_mem hv
      exact ⟨k, List.mem_range.2 hk, decide_eq_true ⟨hk, e⟩⟩
  rw [e] at H1
  have hp1 : (w.alloc (.cells #[.int .i64 id] 3)).cell? ⟨p, 1, none⟩ = some (.slice A vs.length c) := (hb0.cell (p := ⟨p, 1, none⟩) hpl).trans hp
  obtain ⟨N, hNN⟩ : ∃ N, N = vs.length := ⟨_, rfl⟩
  obtain ⟨b, hb⟩ : ∃ b, b = decide (hasV vs id) := ⟨_, rfl⟩
  rw [← hNN] at H1 hp1
  rw [← hb] at H1 ⊢
  clear h hp hNN hN e hq hb
  go_enter Tryz.func50, Tryz.ntmps50
  go_wp2_with (go_at_call 72; with_reducible (refine Calls.mono H1.out ?_); rintro e w2 ⟨rfl, hb2⟩)
  go_ret
  exact ⟨rfl, chain hb0 hb2⟩

set_option maxHeartbeats 1600000 in
set_option maxRecDepth 20000 in
/-- 'quotas'. -/
theorem dquotas_any (p : Nat) (A : Option Addr) (c : Nat) (ts : List Ten) (w : World) (hp : w.cell? ⟨p, 0, none⟩ = some (.slice A ts.length c)) (h : TensAt w w.heap.size A ts) (h64 : ts.length ≤ 64) (hq : ∀ x ∈ ts, 1 ≤ x.quota ∧ x.quota ≤ 64) :
    Calls Tryz.prog 47 #[.pointer (some ⟨p, 0, none⟩)] w fun e w' => e = .returned (.int .i64 (sumQ ts)) ∧ Below w.heap.size w w' := by
  have HT : Hid (∀ X, Below w.heap.size w X → TensAt X w.heap.size A ts) := fun X hb => h.below hb
  have HQ := Lib.hid (sumQ_small hq)
  have HQ1 : Hid (∀ k, (h : k < ts.length) → 1 ≤ ts[k].quota ∧ ts[k].quota ≤ 64) := fun k h => hq _ (List.getElem_mem h)
  have HST : Hid (∀ k, (h : k < ts.length) → sumQ (ts.take (k + 1)) = sumQ (ts.take k) + ts[k].quota) := fun k hk => sumQ_take hk
  have HEN : Hid (sumQ (ts.take ts.length) = sumQ ts) := by show sumQ (ts.take ts.length) = _; rw [List.take_length]
  obtain ⟨N, hN⟩ : ∃ N, N = ts.length := ⟨_, rfl⟩
  have HN := Lib.hid hN
  rw [← hN] at hp HEN h64
  clear h hN hq
  go_enter Tryz.func47, Tryz.ntmps47
  go_wp2
  go_loopw [3, 12] (fun n i wr => ∃ (k : Nat) (c : Int), k ≤ N ∧ i = .int .i64 k ∧ n = .int .i64 c ∧ Hid (c = sumQ (ts.take k)) ∧ Hid (Below w.heap.size w wr)) (fun _ i _ => N - (intOf i).toNat)
  case atStart => exact ⟨0, 0, Nat.zero_le _, rfl, rfl, rfl, Below.refl _ _⟩
  case round =>
    obtain ⟨k, c, hk, rfl, rfl, hc, hB⟩ := hrel
    have k0 : (0 : Int) ≤ (k : Int) := by omega
    have hck : 0 ≤ c ∧ c ≤ 64 * k := by rw [hc.out]; exact HQ.out k
    obtain ⟨hc0, hc1⟩ := hck
    clear hp
    by_cases hlt : k < N
    · have k1 : (k : Int) < (N : Int) := by omega
      have hkx : k < ts.length := by have := HN.out; omega
      obtain ⟨b, off, rfl, _, q0, q1, q2, q3, q4, q5⟩ := HT.out wr hB.out k hkx
      have hst := HST.out k hkx
      have hq1 := HQ1.out k hkx
      obtain ⟨x, hx⟩ : ∃ x, x = ts[k] := ⟨_, rfl⟩
      rw [← hx] at q0 q1 q2 q3 q4 q5 hst hq1
      clear hx HT HQ HQ1 HST HEN
      obtain ⟨p0, p1, p2, p3, p4, p5⟩ := x
      simp only at q0 q1 q2 q3 q4 q5 hst hq1
      have HC : Hid (c + p1 = sumQ (ts.take (k + 1))) := by rw [hst]; exact congrArg (· + p1) hc.out
      have v : IntKind.i64.wrap (c + p1) = c + p1 := IntWalk.i64_in _ (by omega)
      have R : Hid (Below w.heap.size w (wr.alloc (.cells #[.int .i64 p0, .int .i64 p1, .int .i64 p2, .int .i64 p3, .string p4, .bool p5] 49))) := hB.out.alloc hB.out.size _
      clear hst hB
      go_wp2
      go_roundw
      case rel => exact ⟨k + 1, c + p1, by omega, by go_num, by first | rfl | go_num, HC, R⟩
      case measure => first | (simp [intOf]; done) | (simp [intOf]; omega)
    · have hkN : k = N := by omega
      have HE : Hid (c = sumQ ts) := by rw [hc.out, hkN]; exact HEN.out
      have k1 : ¬ (k : Int) < (N : Int) := by omega
      clear hkN
      go_wp2
      go_ret
      exact ⟨by rw [← HE.out]; rfl, hB.out⟩

end Go.Proofs.YtnenpafofplbhaaGreat
