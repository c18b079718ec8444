/-
  The landed table: formed of any change; slices.IndexFunc of tenants; a draft's tenant; there.
-/
import Derived.Test.YtnenpafofplbhaaGreatTableC2
import Derived.Test.YtnenpafofplbhaaGreatTableRef
import Derived.Shelf.RegionOpenPlain
namespace Go.Proofs.YtnenpafofplbhaaGreat
open Go.RowKit

set_option maxHeartbeats 1600000 in
theorem formed_no (rk ra rb rc rd : Int) (key : ByteArray) (w : World) (hk : ¬ inR rk 0 9) :
    Calls Tryz.prog 10 #[.agg #[.int .i64 rk, .int .i64 ra, .int .i64 rb, .int .i64 rc, .int .i64 rd, .string key]] w fun e w' => e = .returned (.bool false) ∧ Below w.heap.size w w' := by
  have H0 : Hid (∀ W, Calls Tryz.prog 23 #[.agg #[.int .i64 0, .int .i64 9], .int .i64 rk] W fun e w' => e = .returned (.bool false) ∧ Below W.heap.size W w') := fun W => by
    have h := has_any 0 9 rk W
    rwa [decide_eq_false hk] at h
  have hb0 : Below w.heap.size w (w.alloc (.cells #[.int .i64 rk, .int .i64 ra, .int .i64 rb, .int .i64 rc, .int .i64 rd, .string key] 40)) := (Below.refl _ _).alloc (Nat.le_refl _) _
  clear hk
  go_enter Tryz.func10, Tryz.ntmps10
  go_wp2_with (go_at_call 23; with_reducible (refine Calls.mono (H0.out _) ?_); rintro e w1 ⟨rfl, hb1⟩)
  go_ret
  exact ⟨rfl, chain hb0 hb1⟩
theorem frm_at0 : frmV 0 = #[.int .i64 0, .int .i64 0, .int .i64 0, .int .i64 0, .int .i64 0, .int .i64 0, .int .i64 0, .int .i64 0, .int .i64 0] := rfl
theorem frm_at1 : frmV 1 = #[.int .i64 1, .int .i64 7, .int .i64 1, .int .i64 64, .int .i64 0, .int .i64 4294967296, .int .i64 1, .int .i64 64, .int .i64 16] := rfl
theorem frm_at2 : frmV 2 = #[.int .i64 1, .int .i64 7, .int .i64 1, .int .i64 64, .int .i64 0, .int .i64 0, .int .i64 0, .int .i64 0, .int .i64 0] := rfl
theorem frm_at3 : frmV 3 = #[.int .i64 1, .int .i64 7, .int .i64 0, .int .i64 0, .int .i64 0, .int .i64 0, .int .i64 0, .int .i64 0, .int .i64 0] := rfl
theorem frm_at4 : frmV 4 = #[.int .i64 1, .int .i64 7, .int .i64 0, .int .i64 0, .int .i64 0, .int .i64 0, .int .i64 0, .int .i64 0, .int .i64 0] := rfl
theorem frm_at5 : frmV 5 = #[.int .i64 0, .int .i64 7, .int .i64 1, .int .i64 7, .int .i64 0, .int .i64 32, .int .i64 0, .int .i64 0, .int .i64 0] := rfl
theorem frm_at6 : frmV 6 = #[.int .i64 0, .int .i64 7, .int .i64 0, .int .i64 32, .int .i64 0, .int .i64 0, .int .i64 0, .int .i64 0, .int .i64 0] := rfl
theorem frm_at7 : frmV 7 = #[.int .i64 0, .int .i64 7, .int .i64 0, .int .i64 0, .int .i64 0, .int .i64 0, .int .i64 0, .int .i64 0, .int .i64 0] := rfl
theorem frm_at8 : frmV 8 = #[.int .i64 0, .int .i64 7, .int .i64 0, .int .i64 1099511627776, .int .i64 0, .int .i64 0, .int .i64 0, .int .i64 0, .int .i64 0] := rfl
theorem frm_at9 : frmV 9 = #[.int .i64 0, .int .i64 63, .int .i64 0, .int .i64 7, .int .i64 0, .int .i64 0, .int .i64 0, .int .i64 0, .int .i64 0] := rfl
theorem form_dec {A B C D E P : Prop} [Decidable A] [Decidable B] [Decidable C] [Decidable D] [Decidable E] [Decidable P] (h : (A ∧ B ∧ C ∧ D ∧ E) ↔ P) : (decide A && decide B && decide C && decide D && decide E) = decide P := by
  rw [Bool.eq_iff_iff]
  simp only [Bool.and_eq_true, decide_eq_true_eq]
  rw [← h]
  simp only [and_assoc]
/-- 'formed', of any change. -/
theorem formed_any (r : Rc) (w : World) : Calls Tryz.prog 10 #[.agg (rcV r)] w fun e w' => e = .returned (.bool (decide (formR r))) ∧ Below w.heap.size w w' := by
  obtain ⟨k, a, b, c, d, key⟩ := r
  by_cases hk : inR k 0 9
  · have hk' := hk
    unfold inR at hk'
    rcases (show k = 0 ∨ k = 1 ∨ k = 2 ∨ k = 3 ∨ k = 4 ∨ k = 5 ∨ k = 6 ∨ k = 7 ∨ k = 8 ∨ k = 9 by omega) with rfl | rfl | rfl | rfl | rfl | rfl | rfl | rfl | rfl | rfl
    · have h := formed_gen 0 a b c d key 0 0 0 0 0 0 0 0 0 w hk (fun W => by have h := formOf_any 0 W (by decide); rwa [frm_at0] at h)
      rw [form_dec (P := formR ⟨0, a, b, c, d, key⟩) (by
        unfold formR plainT inR
        generalize key.size = n
        simp
        try omega)] at h
      exact h
    · have h := formed_gen 1 a b c d key 1 7 1 64 0 4294967296 1 64 16 w hk (fun W => by have h := formOf_any 1 W (by decide); rwa [frm_at1] at h)
      rw [form_dec (P := formR ⟨1, a, b, c, d, key⟩) (by
        unfold formR plainT inR
        generalize key.size = n
        simp
        try omega)] at h
      exact h
    · have h := formed_gen 2 a b c d key 1 7 1 64 0 0 0 0 0 w hk (fun W => by have h := formOf_any 2 W (by decide); rwa [frm_at2] at h)
      rw [form_dec (P := formR ⟨2, a, b, c, d, key⟩) (by
        unfold formR plainT inR
        generalize key.size = n
        simp
        try omega)] at h
      exact h
    · have h := formed_gen 3 a b c d key 1 7 0 0 0 0 0 0 0 w hk (fun W => by have h := formOf_any 3 W (by decide); rwa [frm_at3] at h)
      rw [form_dec (P := formR ⟨3, a, b, c, d, key⟩) (by
        unfold formR plainT inR
        generalize key.size = n
        simp
        try omega)] at h
      exact h
    · have h := formed_gen 4 a b c d key 1 7 0 0 0 0 0 0 0 w hk (fun W => by have h := formOf_any 4 W (by decide); rwa [frm_at4] at h)
      rw [form_dec (P := formR ⟨4, a, b, c, d, key⟩) (by
        unfold formR plainT inR
        generalize key.size = n
        simp
        try omega)] at h
      exact h
    · have h := formed_gen 5 a b c d key 0 7 1 7 0 32 0 0 0 w hk (fun W => by have h := formOf_any 5 W (by decide); rwa [frm_at5] at h)
      rw [form_dec (P := formR ⟨5, a, b, c, d, key⟩) (by
        unfold formR plainT inR
        generalize key.size = n
        simp
        try omega)] at h
      exact h
    · have h := formed_gen 6 a b c d key 0 7 0 32 0 0 0 0 0 w hk (fun W => by have h := formOf_any 6 W (by decide); rwa [frm_at6] at h)
      rw [form_dec (P := formR ⟨6, a, b, c, d, key⟩) (by
        unfold formR plainT inR
        generalize key.size = n
        simp
        try omega)] at h
      exact h
    · have h := formed_gen 7 a b c d key 0 7 0 0 0 0 0 0 0 w hk (fun W => by have h := formOf_any 7 W (by decide); rwa [frm_at7] at h)
      rw [form_dec (P := formR ⟨7, a, b, c, d, key⟩) (by
        unfold formR plainT inR
        generalize key.size = n
        simp
        try omega)] at h
      exact h
    · have h := formed_gen 8 a b c d key 0 7 0 1099511627776 0 0 0 0 0 w hk (fun W => by have h := formOf_any 8 W (by decide); rwa [frm_at8] at h)
      rw [form_dec (P := formR ⟨8, a, b, c, d, key⟩) (by
        unfold formR plainT inR
        generalize key.size = n
        simp
        try omega)] at h
      exact h
    · have h := formed_gen 9 a b c d key 0 63 0 7 0 0 0 0 0 w hk (fun W => by have h := formOf_any 9 W (by decide); rwa [frm_at9] at h)
      rw [form_dec (P := formR ⟨9, a, b, c, d, key⟩) (by
        unfold formR plainT inR
        generalize key.size = n
        simp
        try omega)] at h
      exact h
  · have h := formed_no k a b c d key w hk
    rw [decide_eq_false (show ¬ formR ⟨k, a, b, c, d, key⟩ from fun hf => hk (by
      unfold formR plainT inR at hf
      unfold inR
      simp only at hf
      repeat' split at hf
      all_goals (first | omega | exact hf.elim)))]
    exact h

/-- The first place of which P holds; -1: none. -/
def FirstAt (P : Nat → Bool) (N : Nat) (r : Int) : Prop := (r = -1 ∧ ∀ j, j < N → P j = false) ∨ ∃ k : Nat, k < N ∧ r = k ∧ P k = true ∧ ∀ j, j < k → P j = false
theorem FirstAt.hit {P : Nat → Bool} {N k : Nat} {r : Int} (h : FirstAt P N r) (hk : k < N) (hp : P k = true) (hl : ∀ j, j < k → P j = false) : r = k := by
  rcases h with ⟨_, h⟩ | ⟨m, hm, rfl, hpm, hlm⟩
  · rw [h k hk] at hp; cases hp
  · rcases Nat.lt_trichotomy m k with q | q | q
    · rw [hl m q] at hpm; cases hpm
    · rw [q]
    · rw [hlm k q] at hp; cases hp
theorem FirstAt.miss {P : Nat → Bool} {N : Nat} {r : Int} (h : FirstAt P N r) (hl : ∀ j, j < N → P j = false) : r = -1 := by
  rcases h with ⟨h, _⟩ | ⟨m, hm, rfl, hpm, hlm⟩
  · exact h
  · rw [hl m hm] at hpm; cases hpm
theorem first_at (P : Nat → Bool) : ∀ N : Nat, ∃ r : Int, FirstAt P N r
  | 0 => ⟨-1, .inl ⟨rfl, fun j hj => absurd hj (Nat.not_lt_zero j)⟩⟩
  | N + 1 => by
    obtain ⟨r, h⟩ := first_at P N
    rcases h with ⟨rfl, h⟩ | ⟨k, hk, e, hp, hl⟩
    · by_cases hp : P N = true
      · exact ⟨N, .inr ⟨N, Nat.lt_succ_self N, rfl, hp, h⟩⟩
      · refine ⟨-1, .inl ⟨rfl, fun j hj => ?_⟩⟩
        rcases Nat.lt_or_ge j N with q | q
        · exact h j q
        · rw [show j = N by omega]; simpa using hp
    · exact ⟨r, .inr ⟨k, by omega, e, hp, hl⟩⟩
theorem FirstAt.any {P : Nat → Bool} {N : Nat} {r : Int} (h : FirstAt P N r) : decide (0 ≤ r) = (List.range N).any P := by
  rcases h with ⟨rfl, h⟩ | ⟨k, hk, rfl, hp, _⟩
  · have e : (List.range N).any P = false := by
      rw [List.any_eq_false]
      intro x hx
      rw [h x (List.mem_range.1 hx)]; decide
    rw [e]; decide
  · have e : (List.range N).any P = true := List.any_eq_true.2 ⟨k, List.mem_range.2 hk, hp⟩
    rw [e]; simp

set_option maxHeartbeats 1600000 in
/-- 'slices.IndexFunc' of tenants; the function may take memory. -/
theorem indexT_any (A : Option Addr) (c : Nat) (ts : List Ten) (P : Nat → Bool) (r : Int) (fn : FuncId) (cb : Array Value) (w : World) (hN : ts.length ≤ 9223372036854775807) (h : TensAt w w.heap.size A ts) (hr : FirstAt P ts.length r)
    (he : ∀ args w, (callFunc fn args).run Tryz.prog w = .ok (.enter fn args) w) (hc : ∀ k (hk : k < ts.length) W, Below w.heap.size w W → Calls Tryz.prog fn (#[.agg (tenV ts[k])] ++ cb) W fun e w' => e = .returned (.bool (P k)) ∧ Below W.heap.size W w') :
    Calls Tryz.prog 68 #[.slice A ts.length c, .func (.func fn) #[] cb] w fun e w' => e = .returned (.int .i64 r) ∧ Below w.heap.size w w' := by
  have HA : Hid (∀ W, Below w.heap.size w W → TensAt W w.heap.size A ts) := fun W hb => h.below hb
  have HC := Lib.hid hc
  have HR := Lib.hid hr
  obtain ⟨N, hNN⟩ : ∃ N, N = ts.length := ⟨_, rfl⟩
  rw [← hNN] at HR hN ⊢
  have HN := Lib.hid hNN
  have eg := he
  clear h hc hNN hr
  go_enter Tryz.func68, Tryz.ntmps68
  go_wp2
  go_loopw [8] (fun i wr => ∃ k : Nat, k ≤ N ∧ i = .int .i64 k ∧ Hid (∀ j, j < k → P j = false) ∧ Hid (Below w.heap.size w wr)) (fun i _ => N - (intOf i).toNat)
  case atStart => exact ⟨0, Nat.zero_le _, rfl, fun j hj => absurd hj (Nat.not_lt_zero j), Below.refl _ _⟩
  case round =>
    obtain ⟨k, hk, rfl, hall, hB⟩ := hrel
    by_cases hlt : k < N
    · have hkx : k < ts.length := by have := HN.out; omega
      obtain ⟨b, o, rfl, _, q0, q1, q2, q3, q4, q5⟩ := HA.out wr hB.out k hkx
      have k1 : (k : Int) < (N : Int) := by omega
      have k0 : (0 : Int) ≤ (k : Int) := by omega
      have hck := HC.out k hkx wr hB.out
      have hall2 : Hid (P k = false → ∀ j, j < k + 1 → P j = false) := fun q j hj => by
        rcases Nat.lt_or_ge j k with g | g
        · exact hall.out j g
        · rw [show j = k by omega]; exact q
      have hy : Hid (P k = true → r = k) := fun q => HR.out.hit hlt q hall.out
      obtain ⟨p, hp⟩ : ∃ p, p = P k := ⟨_, rfl⟩
      rw [← hp] at hck hy hall2
      obtain ⟨x, hx⟩ : ∃ x, x = ts[k] := ⟨_, rfl⟩
      rw [← hx] at q0 q1 q2 q3 q4 q5 hck
      clear hx
      obtain ⟨p0, p1, p2, p3, p4, p5⟩ := x
      simp only [tenV] at hck
      simp only at q0 q1 q2 q3 q4 q5
      have HCK := Lib.hid hck
      clear hall HA HC hp hck
      cases p
      · have H2 := Lib.hid (hall2.out rfl)
        clear hall2 hy
        go_wp2_with (go_at_fn fn; with_reducible (refine Calls.mono HCK.out ?_); rintro e w2 ⟨rfl, hb2⟩)
        have R := Lib.hid (chain hB.out hb2)
        clear hB hb2
        go_roundw
        case rel => first | exact ⟨k + 1, by omega, by go_num, H2.out, R⟩ | ((repeat apply Exists.intro); exact ⟨⟨k + 1, by omega, by go_num, H2.out, R⟩, rfl⟩)
        case measure => simp [intOf]; omega
      · have H2 := Lib.hid (hy.out rfl)
        clear hall2 hy
        go_wp2_with (go_at_fn fn; with_reducible (refine Calls.mono HCK.out ?_); rintro e w2 ⟨rfl, hb2⟩)
        have R := Lib.hid (chain hB.out hb2)
        clear hB hb2
        go_ret
        exact ⟨by rw [H2.out]; rfl, R.out⟩
    · have hk8 : k = N := by omega
      subst hk8
      have hn := Lib.hid (HR.out.miss hall.out)
      clear hall HA HC
      have k1 : ¬ (k : Int) < (k : Int) := by omega
      go_wp2
      go_ret
      exact ⟨by rw [hn.out]; rfl, hB.out⟩

set_option maxHeartbeats 800000 in
theorem ten1_any (x : Ten) (id : Int) (q : Nat) (w : World) (hq : w.cell? ⟨q, 0, none⟩ = some (.int .i64 id)) :
    Calls Tryz.prog 69 (#[.agg (tenV x)] ++ #[.pointer (some ⟨q, 0, none⟩)]) w fun e w' => e = .returned (.bool (decide (x.id = id))) ∧ Below w.heap.size w w' := by
  show Calls Tryz.prog 69 #[.agg (tenV x), .pointer (some ⟨q, 0, none⟩)] w _
  obtain ⟨p0, p1, p2, p3, p4, p5⟩ := x
  simp only [tenV]
  have hb : Below w.heap.size w (w.alloc (.cells #[.int .i64 p0, .int .i64 p1, .int .i64 p2, .int .i64 p3, .string p4, .bool p5] 49)) := (Below.refl _ _).alloc (Nat.le_refl _) _
  have hq2 : (w.alloc (.cells #[.int .i64 p0, .int .i64 p1, .int .i64 p2, .int .i64 p3, .string p4, .bool p5] 49)).cell? ⟨q, 0, none⟩ = some (.int .i64 id) := (hb.cell (p := ⟨q, 0, none⟩) (World.block_lt_of_cell? w _ hq)).trans hq
  have e : (p0 == id) = decide (p0 = id) := by rw [Bool.eq_iff_iff]; simp
  go_enter Tryz.func69, Tryz.ntmps69
  go_wp2
  go_ret
  exact ⟨rfl, hb⟩

/-- A draft's tenant is there. -/
theorem dten_first {ts : List Ten} {id : Int} {k : Nat} (hk : k < ts.length) (he : ts[k].id = id) (hl : ∀ j, (h : j < ts.length) → j < k → ts[j].id ≠ id) : FirstAt (fun j => decide (∃ h : j < ts.length, ts[j].id = id)) ts.length k :=
  .inr ⟨k, hk, rfl, decide_eq_true ⟨hk, he⟩, fun j hj => decide_eq_false fun ⟨h, e⟩ => hl j h hj e⟩
theorem dten_none {ts : List Ten} {id : Int} (hl : ∀ j, (h : j < ts.length) → ts[j].id ≠ id) : FirstAt (fun j => decide (∃ h : j < ts.length, ts[j].id = id)) ts.length (-1) :=
  .inl ⟨rfl, fun j _ => decide_eq_false fun ⟨h, e⟩ => hl j h e⟩
theorem dten_call (A : Option Addr) (c : Nat) (ts : List Ten) (id r : Int) (w : World) (hN : ts.length ≤ 9223372036854775807) (h : TensAt w w.heap.size A ts) (hr : FirstAt (fun j => decide (∃ h : j < ts.length, ts[j].id = id)) ts.length r) (q : Nat) (hq : w.cell? ⟨q, 0, none⟩ = some (.int .i64 id)) :
    Calls Tryz.prog 68 #[.slice A ts.length c, .func (.func 69) #[] #[.pointer (some ⟨q, 0, none⟩)]] w fun e w' => e = .returned (.int .i64 r) ∧ Below w.heap.size w w' := by
  refine indexT_any A c ts _ r 69 #[.pointer (some ⟨q, 0, none⟩)] w hN h hr (fun args w => by kernel_rfl) fun k hk W hb => ?_
  have h1 := ten1_any ts[k] id q W ((hb.cell (p := ⟨q, 0, none⟩) (World.block_lt_of_cell? w _ hq)).trans hq)
  have e : decide (∃ h : k < ts.length, ts[k].id = id) = decide (ts[k].id = id) := by
    rw [Bool.eq_iff_iff, decide_eq_true_iff, decide_eq_true_iff]
    exact ⟨fun ⟨_, e⟩ => e, fun e => ⟨hk, e⟩⟩
  rw [e]
  exact h1

set_option maxHeartbeats 1600000 in
/-- A draft's 'tenant', of one that is there. -/
theorem dten_yes (p : Nat) (b off c : Nat) (ts : List Ten) (id : Int) (k : Nat) (w : World) (hp : w.cell? ⟨p, 0, none⟩ = some (.slice (some ⟨b, off, none⟩) ts.length c)) (hN : ts.length ≤ 9223372036854775807) (h : TensAt w w.heap.size (some ⟨b, off, none⟩) ts)
    (hk : k < ts.length) (he : ts[k].id = id) (hl : ∀ j, (h : j < ts.length) → j < k → ts[j].id ≠ id) :
    Calls Tryz.prog 46 #[.pointer (some ⟨p, 0, none⟩), .int .i64 id] w fun e w' => e = .returned (.pointer (some ⟨b, off + k * 6, none⟩)) ∧ Below w.heap.size w w' := by
  have hb0 : Below w.heap.size w (w.alloc (.cells #[.int .i64 id] 3)) := (Below.refl _ _).alloc (Nat.le_refl _) _
  have hpl := World.block_lt_of_cell? w _ hp
  have H1 := Lib.hid (dten_call (some ⟨b, off, none⟩) c ts id k (w.alloc (.cells #[.int .i64 id] 3)) hN ((h.below hb0).more hb0.size) (dten_first hk he hl) w.heap.size (by rw [cell_of_row _ _ _ _ _ _ (heap_alloc_new w (.cells #[.int .i64 id] 3))]; rfl))
  have HP : Hid (∀ X, Below (w.alloc (.cells #[.int .i64 id] 3)).heap.size (w.alloc (.cells #[.int .i64 id] 3)) X → X.cell? ⟨p, 0, none⟩ = some (.slice (some ⟨b, off, none⟩) ts.length c)) := fun X hb => ((chain hb0 hb).cell (p := ⟨p, 0, none⟩) hpl).trans hp
  have hp1 := HP.out _ (Below.refl _ _)
  obtain ⟨N, hNN⟩ : ∃ N, N = ts.length := ⟨_, rfl⟩
  rw [← hNN] at H1 HP hp1 hN hk
  have k1 : (k : Int) < (N : Int) := by omega
  have k0 : ¬ (k : Int) < 0 := by omega
  clear h hl he hp hNN
  go_enter Tryz.func46, Tryz.ntmps46
  go_wp2_with (go_at_call 68; with_reducible (refine Calls.mono H1.out ?_); rintro e w2 ⟨rfl, hb2⟩; have hp2 := HP.out _ hb2)
  go_ret
  exact ⟨rfl, chain hb0 hb2⟩
set_option maxHeartbeats 1600000 in
/-- A draft's 'tenant', of one that is not. -/
theorem dten_no (p : Nat) (A : Option Addr) (c : Nat) (ts : List Ten) (id : Int) (w : World) (hp : w.cell? ⟨p, 0, none⟩ = some (.slice A ts.length c)) (hN : ts.length ≤ 9223372036854775807) (h : TensAt w w.heap.size A ts)
    (hl : ∀ j, (h : j < ts.length) → ts[j].id ≠ id) :
    Calls Tryz.prog 46 #[.pointer (some ⟨p, 0, none⟩), .int .i64 id] w fun e w' => e = .returned (.pointer none) ∧ Below w.heap.size w w' := by
  have hb0 : Below w.heap.size w (w.alloc (.cells #[.int .i64 id] 3)) := (Below.refl _ _).alloc (Nat.le_refl _) _
  have hpl := World.block_lt_of_cell? w _ hp
  have H1 := Lib.hid (dten_call A c ts id (-1) (w.alloc (.cells #[.int .i64 id] 3)) hN ((h.below hb0).more hb0.size) (dten_none hl) w.heap.size (by rw [cell_of_row _ _ _ _ _ _ (heap_alloc_new w (.cells #[.int .i64 id] 3))]; rfl))
  have hp1 : (w.alloc (.cells #[.int .i64 id] 3)).cell? ⟨p, 0, none⟩ = some (.slice A ts.length c) := (hb0.cell (p := ⟨p, 0, none⟩) hpl).trans hp
  obtain ⟨N, hNN⟩ : ∃ N, N = ts.length := ⟨_, rfl⟩
  rw [← hNN] at H1 hp1 hN
  clear h hl hp hNN
  go_enter Tryz.func46, Tryz.ntmps46
  go_wp2_with (go_at_call 68; with_reducible (refine Calls.mono H1.out ?_); rintro e w2 ⟨rfl, hb2⟩)
  go_ret
  exact ⟨rfl, chain hb0 hb2⟩

end Go.Proofs.YtnenpafofplbhaaGreat
