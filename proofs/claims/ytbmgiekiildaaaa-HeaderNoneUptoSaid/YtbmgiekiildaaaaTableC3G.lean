/-
  The landed table: formed of any change; slices.IndexFunc of tenants; a draft's tenant; there. The landed table: there, Owned. The simplest facts of the layer table.
-/
import Derived.Test.YtbmgiekiildaaaaHdLawsG
import Derived.Test.YtbmgiekiildaaaaTableNumsG
import Derived.Shelf.RegionOpenPlain
import Derived.Test.YtbmgiekiildaaaaTableRef2G
import Derived.Test.YtbmgiekiildaaaaTableBackNG
namespace Go.Proofs.Ytbmgiekiildaaaa
open Go.RowKit

set_option maxHeartbeats 1600000 in
theorem formed_no (rk ra rb rc rd : Int) (key : ByteArray) (w : World) (hk : ¬ inR rk 0 9) :
    Calls Try.prog 47 #[.agg #[.int .i64 rk, .int .i64 ra, .int .i64 rb, .int .i64 rc, .int .i64 rd, .string key]] w fun e w' => e = .returned (.bool false) ∧ Below w.heap.size w w' := by
  have H0 : Hid (∀ W, Calls Try.prog 42 #[.agg #[.int .i64 0, .int .i64 9], .int .i64 rk] W fun e w' => e = .returned (.bool false) ∧ Below W.heap.size W w') := fun W => by
    have h := has_any 0 9 rk W
    rwa [decide_eq_false hk] at h
  have hb0 : Below w.heap.size w (w.alloc (.cells #[.int .i64 rk, .int .i64 ra, .int .i64 rb, .int .i64 rc, .int .i64 rd, .string key] 86)) := (Below.refl _ _).alloc (Nat.le_refl _) _
  clear hk
  go_enter Try.func47, Try.ntmps47
  go_wp2_with (go_at_call 42; with_reducible (refine Calls.mono (H0.out _) ?_); rintro e w1 ⟨rfl, hb1⟩)
  go_ret
  exact ⟨rfl, chain hb0 hb1⟩
theorem frm_at0 : frmV 0 = #[.int .i64 0, .int .i64 0, .int .i64 0, .int .i64 0, .int .i64 0, .int .i64 0, .int .i64 0, .int .i64 0, .int .i64 0] := rfl
theorem frm_at1 : frmV 1 = #[.int .i64 1, .int .i64 7, .int .i64 1, .int .i64 64, .int .i64 0, .int .i64 4294967296, .int .i64 1, .int .i64 64, .int .i64 16] := rfl
theorem frm_at2 : frmV 2 = #[.int .i64 1, .int .i64 7, .int .i64 1, .int .i64 64, .int .i64 0, .int .i64 0, .int .i64 0, .int .i64 0, .int .i64 0] := rfl
theorem frm_at3 : frmV 3 = #[.int .i64 1, .int .i64 7, .int .i64 0, .int .i64 0, .int .i64 0, .int .i64 0, .int .i64 0, .int .i64 0, .int .i64 0] := rfl
theorem frm_at4 : frmV 4 = #[.int .i64 1, .int .i64 7, .int .i64 0, .int .i64 0, .int .i64 0, .int .i64 0, .int .i64 0, .int .i64 0, .int .i64 0] := rfl
theorem frm_at5 : frmV 5 = #[.int .i64 0, .int .i64 7, .int .i64 1, .int .i64 7, .int .i64 0, .int .i64 32, .int .i64 0, .int .i64 0, .int .i64 0] := rfl
theorem frm_at6 : frmV 6 = #[.int .i64 0, .int .i64 7, .int .i64 0, .int .i64 32, .int .i64 0, .int .i64 0, .int .i64 0, .int .i64 0, .int .i64 0] := rfl
theorem frm_at7 : frmV 7 = #[.int .i64 0, .int .i64 7, .int .i64 0, .int .i64 0, .int .i64 0, .int .i64 0, .int .i64 0, .int .i64 0, .int .i64 0] := rfl
theorem frm_at8 : frmV 8 = #[.int .i64 0, .int .i64 7, .int .i64 0, .int .i64 1099511627776, .int .i64 0, .int .i64 0, .int .i64 0, .int .i64 0, .int .i64 0] := rfl
theorem frm_at9 : frmV 9 = #[.int .i64 0, .int .i64 63, .int .i64 0, .int .i64 7, .int .i64 0, .int .i64 0, .int .i64 0, .int .i64 0, .int .i64 0] := rfl
theorem form_dec {A B C D E P : Prop} [Decidable A] [Decidable B] [Decidable C] [Decidable D] [Decidable E] [Decidable P] (h : (A ∧ B ∧ C ∧ D ∧ E) ↔ P) : (decide A && decide B && decide C && decide D && decide E) = decide P := by
  rw [Bool.eq_iff_iff]
  simp only [Bool.and_eq_true, decide_eq_true_eq]
  rw [← h]
  simp only [and_assoc]
/-- 'formed', of any change. -/
theorem formed_any (r : Rc) (w : World) : Calls Try.prog 47 #[.agg (rcV r)] w fun e w' => e = .returned (.bool (decide (formR r))) ∧ Below w.heap.size w w' := by
  obtain ⟨k, a, b, c, d, key⟩ := r
  by_cases hk : inR k 0 9
  · have hk' := hk
    unfold inR at hk'
    rcases (show k = 0 ∨ k = 1 ∨ k = 2 ∨ k = 3 ∨ k = 4 ∨ k = 5 ∨ k = 6 ∨ k = 7 ∨ k = 8 ∨ k = 9 by omega) with rfl | rfl | rfl | rfl | rfl | rfl | rfl | rfl | rfl | rfl
    · have h := formed_gen 0 a b c d key 0 0 0 0 0 0 0 0 0 w hk (fun W => by have h := formOf_any 0 W (by decide); rwa [frm_at0] at h)
      rw [form_dec (P := formR ⟨0, a, b, c, d, key⟩) (by
        unfold formR plainT inR
        generalize key.size = n
        simp
        try omega)] at h
      exact h
    · have h := formed_gen 1 a b c d key 1 7 1 64 0 4294967296 1 64 16 w hk (fun W => by have h := formOf_any 1 W (by decide); rwa [frm_at1] at h)
      rw [form_dec (P := formR ⟨1, a, b, c, d, key⟩) (by
        unfold formR plainT inR
        generalize key.size = n
        simp
        try omega)] at h
      exact h
    · have h := formed_gen 2 a b c d key 1 7 1 64 0 0 0 0 0 w hk (fun W => by have h := formOf_any 2 W (by decide); rwa [frm_at2] at h)
      rw [form_dec (P := formR ⟨2, a, b, c, d, key⟩) (by
        unfold formR plainT inR
        generalize key.size = n
        simp
        try omega)] at h
      exact h
    · have h := formed_gen 3 a b c d key 1 7 0 0 0 0 0 0 0 w hk (fun W => by have h := formOf_any 3 W (by decide); rwa [frm_at3] at h)
      rw [form_dec (P := formR ⟨3, a, b, c, d, key⟩) (by
        unfold formR plainT inR
        generalize key.size = n
        simp
        try omega)] at h
      exact h
    · have h := formed_gen 4 a b c d key 1 7 0 0 0 0 0 0 0 w hk (fun W => by have h := formOf_any 4 W (by decide); rwa [frm_at4] at h)
      rw [form_dec (P := formR ⟨4, a, b, c, d, key⟩) (by
        unfold formR plainT inR
        generalize key.size = n
        simp
        try omega)] at h
      exact h
    · have h := formed_gen 5 a b c d key 0 7 1 7 0 32 0 0 0 w hk (fun W => by have h := formOf_any 5 W (by decide); rwa [frm_at5] at h)
      rw [form_dec (P := formR ⟨5, a, b, c, d, key⟩) (by
        unfold formR plainT inR
        generalize key.size = n
        simp
        try omega)] at h
      exact h
    · have h := formed_gen 6 a b c d key 0 7 0 32 0 0 0 0 0 w hk (fun W => by have h := formOf_any 6 W (by decide); rwa [frm_at6] at h)
      rw [form_dec (P := formR ⟨6, a, b, c, d, key⟩) (by
        unfold formR plainT inR
        generalize key.size = n
        simp
        try omega)] at h
      exact h
    · have h := formed_gen 7 a b c d key 0 7 0 0 0 0 0 0 0 w hk (fun W => by have h := formOf_any 7 W (by decide); rwa [frm_at7] at h)
      rw [form_dec (P := formR ⟨7, a, b, c, d, key⟩) (by
        unfold formR plainT inR
        generalize key.size = n
        simp
        try omega)] at h
      exact h
    · have h := formed_gen 8 a b c d key 0 7 0 1099511627776 0 0 0 0 0 w hk (fun W => by have h := formOf_any 8 W (by decide); rwa [frm_at8] at h)
      rw [form_dec (P := formR ⟨8, a, b, c, d, key⟩) (by
        unfold formR plainT inR
        generalize key.size = n
        simp
        try omega)] at h
      exact h
    · have h := formed_gen 9 a b c d key 0 63 0 7 0 0 0 0 0 w hk (fun W => by have h := formOf_any 9 W (by decide); rwa [frm_at9] at h)
      rw [form_dec (P := formR ⟨9, a, b, c, d, key⟩) (by
        unfold formR plainT inR
        generalize key.size = n
        simp
        try omega)] at h
      exact h
  · have h := formed_no k a b c d key w hk
    rw [decide_eq_false (show ¬ formR ⟨k, a, b, c, d, key⟩ from fun hf => hk (by
      unfold formR plainT inR at hf
      unfold inR
      simp only at hf
      repeat' split at hf
      all_goals (first | omega | exact hf.elim)))]
    exact h

/-- The first place of which P holds; -1: none. -/
def FirstAt (P : Nat → Bool) (N : Nat) (r : Int) : Prop := (r = -1 ∧ ∀ j, j < N → P j = false) ∨ ∃ k : Nat, k < N ∧ r = k ∧ P k = true ∧ ∀ j, j < k → P j = false
theorem FirstAt.hit {P : Nat → Bool} {N k : Nat} {r : Int} (h : FirstAt P N r) (hk : k < N) (hp : P k = true) (hl : ∀ j, j < k → P j = false) : r = k := by
  rcases h with ⟨_, h⟩ | ⟨m, hm, rfl, hpm, hlm⟩
  · rw [h k hk] at hp; cases hp
  · rcases Nat.lt_trichotomy m k with q | q | q
    · rw [hl m q] at hpm; cases hpm
    · rw [q]
    · rw [hlm k q] at hp; cases hp
theorem FirstAt.miss {P : Nat → Bool} {N : Nat} {r : Int} (h : FirstAt P N r) (hl : ∀ j, j < N → P j = false) : r = -1 := by
  rcases h with ⟨h, _⟩ | ⟨m, hm, rfl, hpm, hlm⟩
  · exact h
  · rw [hl m hm] at hpm; cases hpm
theorem first_at (P : Nat → Bool) : ∀ N : Nat, ∃ r : Int, FirstAt P N r
  | 0 => ⟨-1, .inl ⟨rfl, fun j hj => absurd hj (Nat.not_lt_zero j)⟩⟩
  | N + 1 => by
    obtain ⟨r, h⟩ := first_at P N
    rcases h with ⟨rfl, h⟩ | ⟨k, hk, e, hp, hl⟩
    · by_cases hp : P N = true
      · exact ⟨N, .inr ⟨N, Nat.lt_succ_self N, rfl, hp, h⟩⟩
      · refine ⟨-1, .inl ⟨rfl, fun j hj => ?_⟩⟩
        rcases Nat.lt_or_ge j N with q | q
        · exact h j q
        · rw [show j = N by omega]; simpa using hp
    · exact ⟨r, .inr ⟨k, by omega, e, hp, hl⟩⟩
theorem FirstAt.any {P : Nat → Bool} {N : Nat} {r : Int} (h : FirstAt P N r) : decide (0 ≤ r) = (List.range N).any P := by
  rcases h with ⟨rfl, h⟩ | ⟨k, hk, rfl, hp, _⟩
  · have e : (List.range N).any P = false := by
      rw [List.any_eq_false]
      intro x hx
      rw [h x (List.mem_range.1 hx)]; decide
    rw [e]; decide
  · have e : (List.range N).any P = true := List.any_eq_true.2 ⟨k, List.mem_range.2 hk, hp⟩
    rw [e]; simp

set_option maxHeartbeats 1600000 in
/-- 'slices.IndexFunc' of tenants; the function may take memory. -/
theorem indexT_any (A : Option Addr) (c : Nat) (ts : List Ten) (P : Nat → Bool) (r : Int) (fn : FuncId) (cb : Array Value) (w : World) (hN : ts.length ≤ 9223372036854775807) (h : TensAt w w.heap.size A ts) (hr : FirstAt P ts.length r)
    (he : ∀ args w, (callFunc fn args).run Try.prog w = .ok (.enter fn args) w) (hc : ∀ k (hk : k < ts.length) W, Below w.heap.size w W → Calls Try.prog fn (#[.agg (tenV ts[k])] ++ cb) W fun e w' => e = .returned (.bool (P k)) ∧ Below W.heap.size W w') :
    Calls Try.prog 60 #[.slice A ts.length c, .func (.func fn) #[] cb] w fun e w' => e = .returned (.int .i64 r) ∧ Below w.heap.size w w' := by
  have HA : Hid (∀ W, Below w.heap.size w W → TensAt W w.heap.size A ts) := fun W hb => h.below hb
  have HC := Lib.hid hc
  have HR := Lib.hid hr
  obtain ⟨N, hNN⟩ : ∃ N, N = ts.length := ⟨_, rfl⟩
  rw [← hNN] at HR hN ⊢
  have HN := Lib.hid hNN
  have eg := he
  clear h hc hNN hr
  go_enter Try.func60, Try.ntmps60
  go_wp2
  go_loopw [8] (fun i wr => ∃ k : Nat, k ≤ N ∧ i = .int .i64 k ∧ Hid (∀ j, j < k → P j = false) ∧ Hid (Below w.heap.size w wr)) (fun i _ => N - (intOf i).toNat)
  case atStart => exact ⟨0, Nat.zero_le _, rfl, fun j hj => absurd hj (Nat.not_lt_zero j), Below.refl _ _⟩
  case round =>
    obtain ⟨k, hk, rfl, hall, hB⟩ := hrel
    by_cases hlt : k < N
    · have hkx : k < ts.length := by have := HN.out; omega
      obtain ⟨b, o, rfl, _, q0, q1, q2, q3, q4, q5⟩ := HA.out wr hB.out k hkx
      have k1 : (k : Int) < (N : Int) := by omega
      have k0 : (0 : Int) ≤ (k : Int) := by omega
      have hck := HC.out k hkx wr hB.out
      have hall2 : Hid (P k = false → ∀ j, j < k + 1 → P j = false) := fun q j hj => by
        rcases Nat.lt_or_ge j k with g | g
        · exact hall.out j g
        · rw [show j = k by omega]; exact q
      have hy : Hid (P k = true → r = k) := fun q => HR.out.hit hlt q hall.out
      obtain ⟨p, hp⟩ : ∃ p, p = P k := ⟨_, rfl⟩
      rw [← hp] at hck hy hall2
      obtain ⟨x, hx⟩ : ∃ x, x = ts[k] := ⟨_, rfl⟩
      rw [← hx] at q0 q1 q2 q3 q4 q5 hck
      clear hx
      obtain ⟨p0, p1, p2, p3, p4, p5⟩ := x
      simp only [tenV] at hck
      simp only at q0 q1 q2 q3 q4 q5
      have HCK := Lib.hid hck
      clear hall HA HC hp hck
      cases p
      · have H2 := Lib.hid (hall2.out rfl)
        clear hall2 hy
        go_wp2_with (go_at_fn fn; with_reducible (refine Calls.mono HCK.out ?_); rintro e w2 ⟨rfl, hb2⟩)
        have R := Lib.hid (chain hB.out hb2)
        clear hB hb2
        go_roundw
        case rel => first | exact ⟨k + 1, by omega, by go_num, H2.out, R⟩ | ((repeat apply Exists.intro); exact ⟨⟨k + 1, by omega, by go_num, H2.out, R⟩, rfl⟩)
        case measure => simp [intOf]; omega
      · have H2 := Lib.hid (hy.out rfl)
        clear hall2 hy
        go_wp2_with (go_at_fn fn; with_reducible (refine Calls.mono HCK.out ?_); rintro e w2 ⟨rfl, hb2⟩)
        have R := Lib.hid (chain hB.out hb2)
        clear hB hb2
        go_ret
        exact ⟨by rw [H2.out]; rfl, R.out⟩
    · have hk8 : k = N := by omega
      subst hk8
      have hn := Lib.hid (HR.out.miss hall.out)
      clear hall HA HC
      have k1 : ¬ (k : Int) < (k : Int) := by omega
      go_wp2
      go_ret
      exact ⟨by rw [hn.out]; rfl, hB.out⟩

set_option maxHeartbeats 800000 in
theorem ten1_any (x : Ten) (id : Int) (q : Nat) (w : World) (hq : w.cell? ⟨q, 0, none⟩ = some (.int .i64 id)) :
    Calls Try.prog 61 (#[.agg (tenV x)] ++ #[.pointer (some ⟨q, 0, none⟩)]) w fun e w' => e = .returned (.bool (decide (x.id = id))) ∧ Below w.heap.size w w' := by
  show Calls Try.prog 61 #[.agg (tenV x), .pointer (some ⟨q, 0, none⟩)] w _
  obtain ⟨p0, p1, p2, p3, p4, p5⟩ := x
  simp only [tenV]
  have hb : Below w.heap.size w (w.alloc (.cells #[.int .i64 p0, .int .i64 p1, .int .i64 p2, .int .i64 p3, .string p4, .bool p5] 83)) := (Below.refl _ _).alloc (Nat.le_refl _) _
  have hq2 : (w.alloc (.cells #[.int .i64 p0, .int .i64 p1, .int .i64 p2, .int .i64 p3, .string p4, .bool p5] 83)).cell? ⟨q, 0, none⟩ = some (.int .i64 id) := (hb.cell (p := ⟨q, 0, none⟩) (World.block_lt_of_cell? w _ hq)).trans hq
  have e : (p0 == id) = decide (p0 = id) := by rw [Bool.eq_iff_iff]; simp
  go_enter Try.func61, Try.ntmps61
  go_wp2
  go_ret
  exact ⟨rfl, hb⟩

/-- A draft's tenant is there. -/
theorem dten_first {ts : List Ten} {id : Int} {k : Nat} (hk : k < ts.length) (he : ts[k].id = id) (hl : ∀ j, (h : j < ts.length) → j < k → ts[j].id ≠ id) : FirstAt (fun j => decide (∃ h : j < ts.length, ts[j].id = id)) ts.length k :=
  .inr ⟨k, hk, rfl, decide_eq_true ⟨hk, he⟩, fun j hj => decide_eq_false fun ⟨h, e⟩ => hl j h hj e⟩
theorem dten_none {ts : List Ten} {id : Int} (hl : ∀ j, (h : j < ts.length) → ts[j].id ≠ id) : FirstAt (fun j => decide (∃ h : j < ts.length, ts[j].id = id)) ts.length (-1) :=
  .inl ⟨rfl, fun j _ => decide_eq_false fun ⟨h, e⟩ => hl j h e⟩
theorem dten_call (A : Option Addr) (c : Nat) (ts : List Ten) (id r : Int) (w : World) (hN : ts.length ≤ 9223372036854775807) (h : TensAt w w.heap.size A ts) (hr : FirstAt (fun j => decide (∃ h : j < ts.length, ts[j].id = id)) ts.length r) (q : Nat) (hq : w.cell? ⟨q, 0, none⟩ = some (.int .i64 id)) :
    Calls Try.prog 60 #[.slice A ts.length c, .func (.func 61) #[] #[.pointer (some ⟨q, 0, none⟩)]] w fun e w' => e = .returned (.int .i64 r) ∧ Below w.heap.size w w' := by
  refine indexT_any A c ts _ r 61 #[.pointer (some ⟨q, 0, none⟩)] w hN h hr (fun args w => by kernel_rfl) fun k hk W hb => ?_
  have h1 := ten1_any ts[k] id q W ((hb.cell (p := ⟨q, 0, none⟩) (World.block_lt_of_cell? w _ hq)).trans hq)
  have e : decide (∃ h : k < ts.length, ts[k].id = id) = decide (ts[k].id = id) := by
    rw [Bool.eq_iff_iff, decide_eq_true_iff, decide_eq_true_iff]
    exact ⟨fun ⟨_, e⟩ => e, fun e => ⟨hk, e⟩⟩
  rw [e]
  exact h1

set_option maxHeartbeats 1600000 in
/-- A draft's 'tenant', of one that is there. -/
theorem dten_yes (p : Nat) (b off c : Nat) (ts : List Ten) (id : Int) (k : Nat) (w : World) (hp : w.cell? ⟨p, 0, none⟩ = some (.slice (some ⟨b, off, none⟩) ts.length c)) (hN : ts.length ≤ 9223372036854775807) (h : TensAt w w.heap.size (some ⟨b, off, none⟩) ts)
    (hk : k < ts.length) (he : ts[k].id = id) (hl : ∀ j, (h : j < ts.length) → j < k → ts[j].id ≠ id) :
    Calls Try.prog 58 #[.pointer (some ⟨p, 0, none⟩), .int .i64 id] w fun e w' => e = .returned (.pointer (some ⟨b, off + k * 6, none⟩)) ∧ Below w.heap.size w w' := by
  have hb0 : Below w.heap.size w (w.alloc (.cells #[.int .i64 id] 3)) := (Below.refl _ _).alloc (Nat.le_refl _) _
  have hpl := World.block_lt_of_cell? w _ hp
  have H1 := Lib.hid (dten_call (some ⟨b, off, none⟩) c ts id k (w.alloc (.cells #[.int .i64 id] 3)) hN ((h.below hb0).more hb0.size) (dten_first hk he hl) w.heap.size (by rw [cell_of_row _ _ _ _ _ _ (heap_alloc_new w (.cells #[.int .i64 id] 3))]; rfl))
  have HP : Hid (∀ X, Below (w.alloc (.cells #[.int .i64 id] 3)).heap.size (w.alloc (.cells #[.int .i64 id] 3)) X → X.cell? ⟨p, 0, none⟩ = some (.slice (some ⟨b, off, none⟩) ts.length c)) := fun X hb => ((chain hb0 hb).cell (p := ⟨p, 0, none⟩) hpl).trans hp
  have hp1 := HP.out _ (Below.refl _ _)
  obtain ⟨N, hNN⟩ : ∃ N, N = ts.length := ⟨_, rfl⟩
  rw [← hNN] at H1 HP hp1 hN hk
  have k1 : (k : Int) < (N : Int) := by omega
  have k0 : ¬ (k : Int) < 0 := by omega
  clear h hl he hp hNN
  go_enter Try.func58, Try.ntmps58
  go_wp2_with (go_at_call 60; with_reducible (refine Calls.mono H1.out ?_); rintro e w2 ⟨rfl, hb2⟩; have hp2 := HP.out _ hb2)
  go_ret
  exact ⟨rfl, chain hb0 hb2⟩
set_option maxHeartbeats 1600000 in
/-- A draft's 'tenant', of one that is not. -/
theorem dten_no (p : Nat) (A : Option Addr) (c : Nat) (ts : List Ten) (id : Int) (w : World) (hp : w.cell? ⟨p, 0, none⟩ = some (.slice A ts.length c)) (hN : ts.length ≤ 9223372036854775807) (h : TensAt w w.heap.size A ts)
    (hl : ∀ j, (h : j < ts.length) → ts[j].id ≠ id) :
    Calls Try.prog 58 #[.pointer (some ⟨p, 0, none⟩), .int .i64 id] w fun e w' => e = .returned (.pointer none) ∧ Below w.heap.size w w' := by
  have hb0 : Below w.heap.size w (w.alloc (.cells #[.int .i64 id] 3)) := (Below.refl _ _).alloc (Nat.le_refl _) _
  have hpl := World.block_lt_of_cell? w _ hp
  have H1 := Lib.hid (dten_call A c ts id (-1) (w.alloc (.cells #[.int .i64 id] 3)) hN ((h.below hb0).more hb0.size) (dten_none hl) w.heap.size (by rw [cell_of_row _ _ _ _ _ _ (heap_alloc_new w (.cells #[.int .i64 id] 3))]; rfl))
  have hp1 : (w.alloc (.cells #[.int .i64 id] 3)).cell? ⟨p, 0, none⟩ = some (.slice A ts.length c) := (hb0.cell (p := ⟨p, 0, none⟩) hpl).trans hp
  obtain ⟨N, hNN⟩ : ∃ N, N = ts.length := ⟨_, rfl⟩
  rw [← hNN] at H1 hp1 hN
  clear h hl hp hNN
  go_enter Try.func58, Try.ntmps58
  go_wp2_with (go_at_call 60; with_reducible (refine Calls.mono H1.out ?_); rintro e w2 ⟨rfl, hb2⟩)
  go_ret
  exact ⟨rfl, chain hb0 hb2⟩

end Go.Proofs.Ytbmgiekiildaaaa

namespace Go.Proofs.Ytbmgiekiildaaaa
open Go.RowKit

theorem ten_cases (ts : List Ten) (id : Int) : (∃ k, ∃ h : k < ts.length, ts[k].id = id ∧ (∀ j, (h : j < ts.length) → j < k → ts[j].id ≠ id) ∧ tenAt ts id = some ts[k]) ∨ ((∀ j, (h : j < ts.length) → ts[j].id ≠ id) ∧ tenAt ts id = none) := by
  induction ts with
  | nil => exact .inr ⟨fun j h => absurd h (Nat.not_lt_zero j), rfl⟩
  | cons x ts ih =>
    by_cases he : x.id = id
    · refine .inl ⟨0, Nat.zero_lt_succ _, he, fun j _ hj => absurd hj (Nat.not_lt_zero j), ?_⟩
      unfold tenAt
      rw [List.find?_cons_of_pos (by simpa using he)]; rfl
    · have hc : tenAt (x :: ts) id = tenAt ts id := by
        unfold tenAt
        rw [List.find?_cons_of_neg (by simpa using he)]
      rcases ih with ⟨k, h, e, hl, ha⟩ | ⟨hl, ha⟩
      · refine .inl ⟨k + 1, by simpa using h, by simpa using e, fun j hj hjk => ?_, by rw [hc, ha]; simp⟩
        cases j with
        | zero => exact he
        | succ j => exact hl j (by simpa using hj) (by omega)
      · refine .inr ⟨fun j hj => ?_, by rw [hc, ha]⟩
        cases j with
        | zero => exact he
        | succ j => exact hl j (by simpa using hj)

set_option maxHeartbeats 1600000 in
/-- 'there'. -/
theorem there_any (V : TabW) (t : Tab) (id : Int) (w : World) (h : TabAt w w.heap.size V t) (hm : t.ts.length ≤ 9223372036854775807) :
    Calls Try.prog 51 #[.agg (tabV V t), .int .i64 id] w fun e w' => e = .returned (.bool (tenAt t.ts id).isSome) ∧ Below w.heap.size w w' := by
  have hb0 : Below w.heap.size w (w.alloc (.cells (tabV V t) 38)) := (Below.refl _ _).alloc (Nat.le_refl _) _
  have hb1 := hb0.alloc hb0.size (.cells (tabV V t) 97)
  have hs1 : (w.alloc (.cells (tabV V t) 38)).heap.size = w.heap.size + 1 := by simp
  have hn1 := heap_alloc_new (w.alloc (.cells (tabV V t) 38)) (.cells (tabV V t) 97)
  rw [hs1] at hn1
  have hc := cells3 (X := (w.alloc (.cells (tabV V t) 38)).alloc (.cells (tabV V t) 97)) (g := w.heap.size + 1) (T := 97) hn1
  have ht := (h.ts.below hb1).more hb1.size
  have H : ∃ v : Option Addr, (v.isSome = (tenAt t.ts id).isSome) ∧ Calls Try.prog 58 #[.pointer (some ⟨w.heap.size + 1, 0, none⟩), .int .i64 id] ((w.alloc (.cells (tabV V t) 38)).alloc (.cells (tabV V t) 97)) fun e w' => e = .returned (.pointer v) ∧ Below ((w.alloc (.cells (tabV V t) 38)).alloc (.cells (tabV V t) 97)).heap.size ((w.alloc (.cells (tabV V t) 38)).alloc (.cells (tabV V t) 97)) w' := by
    rcases ten_cases t.ts id with ⟨k, hk, he, hl, ha⟩ | ⟨hl, ha⟩
    · obtain ⟨b, off, hA, _⟩ := ht k hk
      rw [hA] at ht
      have hc0 := hc.1
      rw [hA] at hc0
      exact ⟨_, by rw [ha]; rfl, dten_yes (w.heap.size + 1) b off V.c1 t.ts id k _ hc0 hm ht hk he hl⟩
    · exact ⟨_, by rw [ha]; rfl, dten_no (w.heap.size + 1) V.A1 V.c1 t.ts id _ hc.1 hm ht hl⟩
  obtain ⟨v, hv, H⟩ := H
  rw [← hv]
  have HC := Lib.hid H
  unfold tabV at HC hb1 ⊢
  clear H hc hn1 ht hb0 hs1 h hv
  cases v with
  | none =>
    go_enter Try.func51, Try.ntmps51
    go_wp2_with (go_at_call 58; with_reducible (refine Calls.mono HC.out ?_); rintro e w2 ⟨rfl, hb2⟩)
    go_ret
    exact ⟨rfl, chain hb1 hb2⟩
  | some a =>
    go_enter Try.func51, Try.ntmps51
    go_wp2_with (go_at_call 58; with_reducible (refine Calls.mono HC.out ?_); rintro e w2 ⟨rfl, hb2⟩)
    go_ret
    exact ⟨rfl, chain hb1 hb2⟩

set_option maxHeartbeats 1600000 in
set_option maxRecDepth 20000 in
/-- 'Owned', of a number that may be a tenant's. -/
theorem owned_in (V : TabW) (t : Tab) (id : Int) (w : World) (h : TabAt w w.heap.size V t) (hm : t.os.length ≤ 9223372036854775807) (h1 : ¬ id < 1) (h2 : ¬ id > 7) :
    Calls Try.prog 54 #[.agg (tabV V t), .int .i64 id] w fun e w' => e = .returned (.int .i64 (ownN t.os id : Nat)) ∧ Below w.heap.size w w' := by
  obtain ⟨F0, F1, F2, hb0⟩ := box_facts w (.slice V.A1 t.ts.length V.c1) (.slice V.A2 t.vs.length V.c2) (.slice V.A3 t.os.length V.c3) 38
  have HT := Lib.hid (h.os.below hb0)
  have hle := h.l3
  obtain ⟨ts, vs, os⟩ := t
  obtain ⟨A1, c1, A2, c2, A3, c3⟩ := V
  simp only [tabV] at F0 F1 F2 hb0 HT hle hm ⊢
  obtain ⟨N1, hN1⟩ : ∃ N, N = ts.length := ⟨_, rfl⟩
  obtain ⟨N2, hN2⟩ : ∃ N, N = vs.length := ⟨_, rfl⟩
  obtain ⟨N, hN⟩ : ∃ N, N = os.length := ⟨_, rfl⟩
  have HN := Lib.hid hN
  have hin : inR id 1 7 := by unfold inR; omega
  have HST : Hid (∀ k, k < N → ownN (os.take (k + 1)) id = ownN (os.take k) id + (if os.getD k 0 = id then 1 else 0)) := fun k hk => by
    rw [ownN_take (hN ▸ hk) id]
    by_cases he : os.getD k 0 = id
    · rw [if_pos ⟨he, hin⟩, if_pos he]
    · rw [if_neg (fun q => he q.1), if_neg he]
  have HEN : Hid (ownN (os.take N) id = ownN os id) := by rw [hN]; show ownN (os.take os.length) id = _; rw [List.take_length]
  have HLE : Hid (∀ k, ownN (os.take k) id ≤ k) := fun k => Nat.le_trans (ownN_le _ _) (by rw [List.length_take]; omega)
  rw [← hN1, ← hN2, ← hN] at F0 F1 F2 hb0 ⊢
  rw [← hN] at hm hle
  simp only [← hN1, ← hN2, ← hN] at HT
  obtain ⟨W0, hW0⟩ : ∃ W, W = w.alloc (.cells #[.slice A1 N1 c1, .slice A2 N2 c2, .slice A3 N c3] 38) := ⟨_, rfl⟩
  rw [← hW0] at F0 F1 F2 hb0 HT
  clear h hN hN1 hN2 hin
  go_enter Try.func54, Try.ntmps54
  go_wp2
  rw [← hW0]
  clear hW0
  go_loopw [5, 17] (fun n i wr => ∃ k c : Nat, k ≤ N ∧ i = .int .i64 k ∧ n = .int .i64 c ∧ Hid (c = ownN (os.take k) id) ∧ wr = W0) (fun _ i _ => N - (intOf i).toNat)
  case atStart => exact ⟨0, 0, Nat.zero_le _, rfl, rfl, (ownN_zero id).symm, rfl⟩
  case round =>
    obtain ⟨k, c, hk, rfl, rfl, hc, rfl⟩ := hrel
    have k0 : (0 : Int) ≤ (k : Int) := by omega
    have hck : c ≤ k := by rw [hc.out]; exact HLE.out k
    by_cases hlt : k < N
    · have k1 : (k : Int) < (N : Int) := by omega
      obtain ⟨b, off, rfl, _, q0⟩ := HT.out k (by have := HN.out; omega)
      by_cases he : os.getD k 0 = id
      · have HC : Hid (c + 1 = ownN (os.take (k + 1)) id) := by unfold Hid; rw [HST.out k hlt, if_pos he, hc.out]
        have d : (os.getD k 0 == id) = true := beq_iff_eq.2 he
        obtain ⟨p, hp⟩ : ∃ p, p = os.getD k 0 := ⟨_, rfl⟩
        rw [← hp] at q0 d
        clear hp he
        go_wp2
        go_roundw
        case rel => exact ⟨k + 1, c + 1, by omega, by go_num, by go_num, HC, by first | rfl | trivial⟩
        case measure => first | (simp [intOf]; done) | (simp [intOf]; omega)
      · have HC : Hid (c = ownN (os.take (k + 1)) id) := by unfold Hid; rw [HST.out k hlt, if_neg he, hc.out]; rfl
        have d : (os.getD k 0 == id) = false := beq_eq_false_iff_ne.2 he
        obtain ⟨p, hp⟩ : ∃ p, p = os.getD k 0 := ⟨_, rfl⟩
        rw [← hp] at q0 d
        clear hp he
        go_wp2
        go_roundw
        case rel => exact ⟨k + 1, c, by omega, by go_num, by first | rfl | go_num, HC, by first | rfl | trivial⟩
        case measure => first | (simp [intOf]; done) | (simp [intOf]; omega)
    · have hkN : k = N := by omega
      have HE : Hid (c = ownN os id) := by rw [hc.out, hkN]; exact HEN.out
      have k1 : ¬ (k : Int) < (N : Int) := by omega
      clear hkN
      go_wp2
      go_ret
      exact ⟨by rw [← HE.out]; rfl, hb0⟩
set_option maxHeartbeats 1600000 in
/-- 'Owned'. -/
theorem owned_any (V : TabW) (t : Tab) (id : Int) (w : World) (h : TabAt w w.heap.size V t) (hm : t.os.length ≤ 9223372036854775807) :
    Calls Try.prog 54 #[.agg (tabV V t), .int .i64 id] w fun e w' => e = .returned (.int .i64 (ownN t.os id : Nat)) ∧ Below w.heap.size w w' := by
  by_cases h1 : id < 1
  · rw [show ownN t.os id = 0 from if_neg (by omega)]
    have hb0 : Below w.heap.size w (w.alloc (.cells (tabV V t) 38)) := (Below.refl _ _).alloc (Nat.le_refl _) _
    clear h hm
    go_enter Try.func54, Try.ntmps54
    go_wp2
    go_ret
    exact ⟨rfl, hb0⟩
  · by_cases h2 : id > 7
    · rw [show ownN t.os id = 0 from if_neg (by omega)]
      have hb0 : Below w.heap.size w (w.alloc (.cells (tabV V t) 38)) := (Below.refl _ _).alloc (Nat.le_refl _) _
      clear h hm
      go_enter Try.func54, Try.ntmps54
      go_wp2
      go_ret
      exact ⟨rfl, hb0⟩
    · exact owned_in V t id w h hm h1 h2

end Go.Proofs.Ytbmgiekiildaaaa

namespace Go.Proofs.Ytbmgiekiildaaaa
open Go.RowKit

/-- Two records laid in a row of their own. -/
theorem recs_new (W : World) (r s : Rc) (T : TypeId) : RecsAt (W.alloc (.cells ((rcV r).toList ++ (rcV s).toList).toArray T)) (W.alloc (.cells ((rcV r).toList ++ (rcV s).toList).toArray T)).heap.size (some ⟨W.heap.size, 0, none⟩) [r, s] := fun k hk => by
  have h := heap_alloc_new W (.cells ((rcV r).toList ++ (rcV s).toList).toArray T)
  have hk2 : k = 0 ∨ k = 1 := by simp at hk; omega
  rcases hk2 with rfl | rfl
  · exact ⟨W.heap.size, 0, rfl, by simp, by rw [cell_of_row _ _ _ _ _ _ h]; rfl, by rw [cell_of_row _ _ _ _ _ _ h]; rfl, by rw [cell_of_row _ _ _ _ _ _ h]; rfl, by rw [cell_of_row _ _ _ _ _ _ h]; rfl, by rw [cell_of_row _ _ _ _ _ _ h]; rfl, by rw [cell_of_row _ _ _ _ _ _ h]; rfl⟩
  · exact ⟨W.heap.size, 0, rfl, by simp, by rw [cell_of_row _ _ _ _ _ _ h]; rfl, by rw [cell_of_row _ _ _ _ _ _ h]; rfl, by rw [cell_of_row _ _ _ _ _ _ h]; rfl, by rw [cell_of_row _ _ _ _ _ _ h]; rfl, by rw [cell_of_row _ _ _ _ _ _ h]; rfl, by rw [cell_of_row _ _ _ _ _ _ h]; rfl⟩
/-- Strictly rising numbers between two bounds are not many. -/
theorem rising_len {α : Type} (k : α → Int) (hi : Int) : ∀ {l : List α} (lo : Int), (l.Pairwise fun a b => k a < k b) → (∀ x ∈ l, lo ≤ k x ∧ k x ≤ hi) → lo ≤ hi + 1 → (l.length : Int) ≤ hi + 1 - lo
  | [], lo, _, _, h => by simp; omega
  | x :: l, lo, hp, hb, h => by
    obtain ⟨h1, h2⟩ := List.pairwise_cons.1 hp
    have hx := hb x (by simp)
    have := rising_len k hi (l := l) (k x + 1) h2 (fun y hy => ⟨by have := h1 y hy; omega, (hb y (by simp [hy])).2⟩) (by omega)
    rw [List.length_cons]
    omega
theorem sound_few {t : Tab} (h : t.sound) : t.ts.length ≤ 7 ∧ t.vs.length ≤ 8 ∧ t.os.length ≤ 64 := by
  have h1 := rising_len Ten.id 7 1 h.up (fun x hx => (h.ten x hx).1.id) (by omega)
  have h2 := rising_len Vol.id 7 0 h.vup (fun x hx => (h.vol x hx).1) (by omega)
  have h3 := h.len
  omega
/-- A sound table's numbers are small. -/
theorem sound_ok {t : Tab} (h : t.sound) : t.ok := by
  obtain ⟨n1, n2, n3⟩ := sound_few h
  refine ⟨fun x hx => ?_, fun x hx => ?_, fun o ho => ?_, by omega, by omega, by omega⟩
  · obtain ⟨p1, p2, p3, p4, p5⟩ := (h.ten x hx).1
    exact ⟨⟨by omega, by omega⟩, ⟨by omega, by omega⟩, ⟨by omega, by omega⟩, ⟨by omega, by omega⟩, by omega⟩
  · obtain ⟨q1, q2, q3, q4⟩ := h.vol x hx
    obtain ⟨y, hy, hk⟩ := tenAt_isSome.1 q2
    have := (h.ten y hy).1.id
    exact ⟨⟨by omega, by omega⟩, ⟨by omega, by omega⟩, ⟨by omega, by omega⟩, ⟨by omega, by omega⟩⟩
  · rcases h.own o ho with rfl | h0
    · exact ⟨by decide, by decide⟩
    · obtain ⟨y, hy, hk⟩ := tenAt_isSome.1 h0
      have := (h.ten y hy).1.id
      exact ⟨by omega, by omega⟩
theorem zero_ok : Tab.zero.ok := ⟨by simp [Tab.zero], by simp [Tab.zero], by simp [Tab.zero], by simp [Tab.zero], by simp [Tab.zero], by simp [Tab.zero]⟩
theorem apply_sound {t : Tab} {l : List Rc} (h : (applyR t l).1 = 0) : t.sound ∧ (applyR t l).2.sound ∧ (applyR t l).2.os.length = t.os.length := by
  unfold applyR at h ⊢
  by_cases hs : t.sound
  · rw [if_pos hs] at h ⊢
    exact ⟨hs, sound_run hs h⟩
  · rw [if_neg hs] at h
    exact absurd h (by decide)
theorem apply_ok {t : Tab} {l : List Rc} : (applyR t l).2.ok := by
  by_cases h : (applyR t l).1 = 0
  · exact sound_ok (apply_sound h).2.1
  · rw [apply_zero h]; exact zero_ok
/-- One change: taken, given back, and taken twice, all told. -/
theorem apply_takes {t : Tab} {a b : Int} (ha : inR a 0 63) (hb : inR b 1 7) (h : (applyR t [ownRec a b]).1 = 0) :
    applyR (applyR t [ownRec a b]).2 [ownRec a 0] = (0, t) ∧ (applyR (applyR t [ownRec a b]).2 [ownRec a b]).1 = 5 ∧ ownN (applyR t [ownRec a b]).2.os b = ownN t.os b + 1 := by
  obtain ⟨hs, hs2, _⟩ := apply_sound h
  have hf : formR (ownRec a b) := own_form ha (by unfold inR at hb ⊢; omega)
  have hf0 : formR (ownRec a 0) := own_form ha (by unfold inR; omega)
  have e : ∀ {t : Tab} {r : Rc}, t.sound → formR r → applyR t [r] = if (oneR t r).1 = 0 then (0, (oneR t r).2) else ((oneR t r).1, Tab.zero) := fun {t r} hs hf => by
    rw [apply_one hs]
    unfold runR
    rw [if_pos hf]
    rfl
  rw [e hs hf] at h
  have ho : (oneR t (ownRec a b)).1 = 0 := by
    by_cases h0 : (oneR t (ownRec a b)).1 = 0
    · exact h0
    · rw [if_neg h0] at h; exact h
  obtain ⟨g1, g2, g3⟩ := given ha hb ho
  have e1 : applyR t [ownRec a b] = (0, (oneR t (ownRec a b)).2) := by rw [e hs hf, if_pos ho]
  rw [e1] at hs2 ⊢
  refine ⟨?_, ?_, g3⟩
  · rw [e hs2 hf0]
    show (if (oneR (oneR t (ownRec a b)).2 (ownRec a 0)).1 = 0 then _ else _) = _
    rw [g1, if_pos rfl]
  · rw [e hs2 hf]
    have hne : ¬ (oneR (oneR t (ownRec a b)).2 (ownRec a b)).1 = 0 := by rw [g2]; decide
    show (if (oneR (oneR t (ownRec a b)).2 (ownRec a b)).1 = 0 then ((0 : Int), (oneR (oneR t (ownRec a b)).2 (ownRec a b)).2) else ((oneR (oneR t (ownRec a b)).2 (ownRec a b)).1, Tab.zero)).1 = _
    rw [if_neg hne, g2]
theorem okA : recA.ok := ⟨⟨by decide, by decide⟩, ⟨by decide, by decide⟩, ⟨by decide, by decide⟩, ⟨by decide, by decide⟩, ⟨by decide, by decide⟩, by decide +kernel⟩
theorem okB : recB.ok := ⟨⟨by decide, by decide⟩, ⟨by decide, by decide⟩, ⟨by decide, by decide⟩, ⟨by decide, by decide⟩, ⟨by decide, by decide⟩, by decide +kernel⟩
theorem tabV_one (V : TabW) (t : Tab) : (tabV V t).all (·.oneCell') = true := by simp [tabV, Value.oneCell']
theorem Try.infoTable : (Try.prog.info? 38).map (·.size) = some 3 := by kernel_rfl

end Go.Proofs.Ytbmgiekiildaaaa
