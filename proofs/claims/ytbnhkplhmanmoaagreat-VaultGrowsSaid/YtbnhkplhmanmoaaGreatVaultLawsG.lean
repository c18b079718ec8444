/-
  A vault of one's own; the simplest facts of the layer vault. The law VaultArgs as a walk.
-/
import Derived.Test.YtbnhkplhmanmoaaGreatVaultC14G
import Derived.Test.YtbnhkplhmanmoaaGreatTableRef2G
namespace Go.Proofs.YtbnhkplhmanmoaaGreat
open Go.RowKit

/-- A vault of one's own, and its disk. -/
structure OwnV (Rep : World → Nat → (Nat → Prop) → Dk → Prop) (w W : World) (p q : Nat) (s : Dk) (d : Option Addr) (v : Vt) : Prop where
  below : Below w.heap.size w W
  vt : ∃ F V, VtAt Rep W p q F s d V v ∧ (∀ b, F b → w.heap.size ≤ b) ∧ w.heap.size ≤ q
/-- What a new disk and a vault of it are at first. -/
theorem alive_new {N n : Nat} (h1 : 384 ≤ N) (h2 : N ≤ 4096) (n1 : 1 ≤ n) (n2 : n ≤ 64) : Alive (newD N) n ⟨newR n, 1, 0, 192⟩ 0 :=
  open_alive (newD_ok (by omega) h2) rfl rfl (by simp [newD]; omega) n1 n2 (new_holds h1)
theorem rec_one (W : World) (r : Rc) (T : TypeId) : RecsAt (W.alloc (.cells (rcV r) T)) (W.alloc (.cells (rcV r) T)).heap.size (some ⟨W.heap.size, 0, none⟩) [r] := fun k hk => by
  have h := heap_alloc_new W (.cells (rcV r) T)
  have hk2 : k = 0 := by simpa using hk
  subst hk2
  refine ⟨W.heap.size, 0, rfl, by simp, ?_, ?_, ?_, ?_, ?_, ?_⟩ <;> (rw [cell_of_row _ _ _ _ _ _ h]; rfl)
section
variable {Rep : World → Nat → (Nat → Prop) → Dk → Prop} {w W X : World} {p q : Nat} {s : Dk} {d : Option Addr} {v : Vt}
theorem OwnV.later (L : Lows Rep) (h : OwnV Rep w W p q s d v) (hb : Below W.heap.size W X) : OwnV Rep w X p q s d v := by
  obtain ⟨F, V, h1, h2⟩ := h.vt
  exact ⟨chain h.below hb, F, V, h1.later L hb, h2⟩
theorem own_disk (L : Lows Rep) {N : Nat} (hb : Below w.heap.size w W) (h1 : 1 ≤ N) (h2 : N ≤ 4096) : Calls Tryz.prog 7 #[.int .i64 (N : Int)] W fun e w' => ∃ p, e = .returned (.tuple #[.pointer (some ⟨p, 0, none⟩), .int .i64 0]) ∧ OwnD Rep w w' p (newD N) :=
  own_newD (L.d w) hb h1 h2
theorem own_open (L : Lows Rep) {n : Nat} {t : Tab} {a : Nat} {g K : Int} (h : OwnD Rep w W p s) (ho : s.off = false) (hpe : s.pend = []) (hl : 384 ≤ s.last.length) (n1 : 1 ≤ n) (n2 : n ≤ 64) (hH : Holds s.last n t a g K) :
    Calls Tryz.prog 8 #[.pointer (some ⟨p, 0, none⟩), .int .i64 (n : Int)] W fun e w' => ∃ q, e = .returned (.tuple #[.pointer (some ⟨q, 0, none⟩), .int .i64 0]) ∧ OwnV Rep w w' p q s (some ⟨p, 0, none⟩) ⟨t, a, g, 192⟩ := by
  obtain ⟨F, hr, hF, hb⟩ := h
  exact (open_yes L p F s n t a g K W hr ho hpe hl n1 n2 hH).mono fun e w' ⟨q, V, q1, q2, q3, q4⟩ => ⟨q, q1, chain hb q4, F, V, q2, hF, Nat.le_trans hb.size q3⟩
theorem own_table (L : Lows Rep) (h : OwnV Rep w W p q s d v) (hs : v.t.sound) :
    Calls Tryz.prog 15 #[.pointer (some ⟨q, 0, none⟩)] W fun e w' => ∃ V' : TabW, e = .returned (.agg #[.slice V'.A1 v.t.ts.length V'.c1, .slice V'.A2 v.t.vs.length V'.c2, .slice V'.A3 v.t.os.length V'.c3]) ∧ TabAt w' w'.heap.size V' v.t ∧ TabFrom W.heap.size V' ∧ Below W.heap.size W w' := by
  obtain ⟨F, V, h1, _⟩ := h.vt
  exact table_any L h1 hs
theorem own_gen (h : OwnV Rep w W p q s d v) : Calls Tryz.prog 16 #[.pointer (some ⟨q, 0, none⟩)] W fun e w' => e = .returned (.int .i64 v.g) ∧ w' = W := by
  obtain ⟨F, V, h1, _⟩ := h.vt
  exact gen_any h1
theorem own_none (L : Lows Rep) (h : OwnV Rep w W p q s (some ⟨p, 0, none⟩) v) (hs : v.t.sound) (A : Option Addr) (c : Nat) :
    Calls Tryz.prog 10 #[.pointer (some ⟨q, 0, none⟩), .slice A 0 c] W fun e w' => e = .returned (.int .i64 0) ∧ Below W.heap.size W w' := by
  obtain ⟨F, V, h1, _⟩ := h.vt
  have e0 : applyR v.t [] = (0, v.t) := apply_one hs
  have := commit_not L h1 hs A c [] (RecsAt.nil _ _ _) (Nat.zero_le _) (fun r hr => absurd hr List.not_mem_nil) (by decide) (by rw [e0]; exact .inr ⟨rfl, rfl⟩)
  rw [e0] at this
  exact this
/-- Behind changes that are done. -/
theorem cm_own {F : Nat → Prop} {n : Nat} {K : Int} {T : Tab} (h : OwnV Rep w W p q s d v) {e : Ending} {w' : World} (hF : ∀ b, F b → w.heap.size ≤ b) (hq : w.heap.size ≤ q) (hc : CmAns Rep p q F s n v K T W e w') :
    ∃ s' v' d' E, e = .returned (.int .i64 E) ∧ OwnV Rep w w' p q s' d' v' ∧ (s.lim = none → s'.lim = none) ∧ ((E = 0 ∧ d' = some ⟨p, 0, none⟩ ∧ v'.t = T ∧ Alive s' n v' (K + 1) ∧ v.g ≤ v'.g) ∨ (E = 8 ∧ d' = none ∧ v' = v ∧ Down s' n v.t T (K + 1) ∧ s.lim ≠ none)) := by
  obtain ⟨F', s', E, V', v', d', q1, q2, q3, q4, q5, q6⟩ := hc
  refine ⟨s', v', d', E, q1, ⟨q4.below (fun k hk => hk.elim (hF k) fun e => e ▸ hq) h.below h.below.size, F', V', q2, fun b hb => (q3 b hb).elim (hF b) fun hb => Nat.le_trans h.below.size hb, hq⟩, q5, q6⟩
/-- One change, made for it, with power. -/
theorem own_one (L : Lows Rep) {n : Nat} {K : Int} {T : Tab} {r : Rc} (h : OwnV Rep w W p q s (some ⟨p, 0, none⟩) v) (hA : Alive s n v K) (hK : K ≤ 2147483600) (hl : s.lim = none) (ho : r.ok) (happ : applyR v.t [r] = (0, T)) :
    Calls Tryz.prog 10 #[.pointer (some ⟨q, 0, none⟩), .slice (some ⟨W.heap.size, 0, none⟩) 1 1] (W.alloc (.cells (rcV r) 56)) fun e w' => ∃ s' v', e = .returned (.int .i64 0) ∧ OwnV Rep w w' p q s' (some ⟨p, 0, none⟩) v' ∧ v'.t = T ∧ Alive s' n v' (K + 1) ∧ v.g ≤ v'.g ∧ s'.lim = none := by
  have hba : Below W.heap.size W (W.alloc (.cells (rcV r) 56)) := (Below.refl _ _).alloc (Nat.le_refl _) _
  have h2 := h.later L hba
  obtain ⟨F, V, h1, hF, hq⟩ := h.vt
  have hlt : ∀ b, F b → b < W.heap.size := fun b hb => L.lt h1.rep hb
  have hc := commit_some L n K T (h1.later L hba) hA hK (some ⟨W.heap.size, 0, none⟩) 1 [r] (rec_one W r _) (Nat.le_refl _) (fun x hx => by have : x = r := by simpa using hx
                                                                                                                                            rw [this]; exact ho) (by simp) (fun _ b o e hb => by
    injection e with e
    injection e with e _
    have := hlt b hb; omega) happ (List.cons_ne_nil _ _)
  refine hc.mono fun e w' hcm => ?_
  obtain ⟨s', v', d', E, q1, q2, q3, q4⟩ := cm_own h2 hF hq hcm
  rcases q4 with ⟨rfl, rfl, r1, r2, r3⟩ | ⟨_, _, _, _, r5⟩
  · exact ⟨s', v', q1, q2, r1, r2, r3, q3 hl⟩
  · exact absurd hl r5
end
/-- A tenant, and the table that has it alone. -/
def recT (id q : Int) : Rc := ⟨1, id, q, 0, 1, key1⟩
def tabT (id q : Int) (n : Nat) : Tab := ⟨[⟨id, q, 0, 1, key1, false⟩], [], List.replicate n 0⟩
theorem recT_ok {id q : Int} (h1 : inR id 1 7) (h2 : inR q 1 64) : (recT id q).ok := by
  unfold inR at h1 h2
  refine ⟨show I64n 1 from ⟨by decide, by decide⟩, ?_, ?_, show I64n 0 from ⟨by decide, by decide⟩, show I64n 1 from ⟨by decide, by decide⟩, show key1.size ≤ _ from by decide +kernel⟩
  · show -9223372036854775808 ≤ id ∧ id ≤ 9223372036854775807; omega
  · show -9223372036854775808 ≤ q ∧ q ≤ 9223372036854775807; omega
theorem applyT {id q : Int} {n : Nat} (h1 : inR id 1 7) (h2 : inR q 1 64) (n1 : 1 ≤ n) (n2 : n ≤ 64) (hq : q ≤ n) : applyR (newR n) [recT id q] = (0, tabT id q n) := by
  rw [apply_one (new_sound n1 n2), run_cons (t' := tabT id q n)]
  · rfl
  · unfold formR
    rw [if_pos (show (recT id q).k = 1 from rfl)]
    exact ⟨h1, h2, show inR 0 0 4294967296 from by decide, show inR 1 1 64 from by decide, show key1.size = 16 from by decide +kernel⟩
  · unfold oneR
    rw [if_pos (show (recT id q).k = 1 from rfl)]
    unfold one1
    rw [if_neg (by simp [tenAt, newR]), if_neg (by unfold sumQ newR recT; simp; omega)]
    rfl

theorem fieldT0 (A1 A2 A3 : Option Addr) (n1 c1 n2 c2 n3 c3 : Nat) (w : World) : (Instr.field 35 (.agg #[.slice A1 n1 c1, .slice A2 n2 c2, .slice A3 n3 c3]) 0).run Tryz.prog w = .ok (.slice A1 n1 c1) w := by kernel_rfl
theorem fieldT2 (A1 A2 A3 : Option Addr) (n1 c1 n2 c2 n3 c3 : Nat) (w : World) : (Instr.field 35 (.agg #[.slice A1 n1 c1, .slice A2 n2 c2, .slice A3 n3 c3]) 2).run Tryz.prog w = .ok (.slice A3 n3 c3) w := by kernel_rfl
section
variable {Rep : World → Nat → (Nat → Prop) → Dk → Prop} (L : Lows Rep)
include L
set_option maxHeartbeats 3200000 in
set_option maxRecDepth 20000 in
theorem vaultAwake (w : World) : Calls Tryz.prog 9 #[] w fun e w' => e = .returned (.bool true) ∧ Below w.heap.size w w' := by
  have H1 := Lib.hid (own_disk L (Below.refl w.heap.size w) (N := 384) (by decide) (by decide))
  have H2 : Hid (∀ p W, OwnD Rep w W p (newD 384) → Calls Tryz.prog 8 #[.pointer (some ⟨p, 0, none⟩), .int .i64 3] W fun e w' => ∃ q, e = .returned (.tuple #[.pointer (some ⟨q, 0, none⟩), .int .i64 0]) ∧ OwnV Rep w w' p q (newD 384) (some ⟨p, 0, none⟩) ⟨newR 3, 1, 0, 192⟩) := fun p W h =>
    own_open L (n := 3) h rfl rfl (by simp [newD]) (by decide) (by decide) (new_holds (Nat.le_refl _))
  have H3 : Hid (∀ p q W, OwnV Rep w W p q (newD 384) (some ⟨p, 0, none⟩) ⟨newR 3, 1, 0, 192⟩ → Calls Tryz.prog 10 #[.pointer (some ⟨q, 0, none⟩), .slice (some ⟨W.heap.size, 0, none⟩) 1 1] (W.alloc (.cells #[.int .i64 1, .int .i64 2, .int .i64 1, .int .i64 0, .int .i64 1, .string ⟨#[48, 49, 50, 51, 52, 53, 54, 55, 56, 57, 97, 98, 99, 100, 101, 102]⟩] 56)) fun e w' => e = .returned (.int .i64 0) ∧ ∃ s' v', OwnV Rep w w' p q s' (some ⟨p, 0, none⟩) v' ∧ v'.t = tabT 2 1 3 ∧ v'.t.sound) := fun p q W h =>
    (own_one L (r := recT 2 1) h (alive_new (Nat.le_refl _) (by decide) (by decide) (by decide)) (by decide) rfl (recT_ok ⟨by decide, by decide⟩ ⟨by decide, by decide⟩) (applyT (n := 3) ⟨by decide, by decide⟩ ⟨by decide, by decide⟩ (by decide) (by decide) (by decide))).mono fun e w' ⟨s', v', q1, q2, q3, q4, _, _⟩ => ⟨q1, s', v', q2, q3, q4.sound.1⟩
  have H4 : Hid (∀ p q s v W, OwnV Rep w W p q s (some ⟨p, 0, none⟩) v → v.t = tabT 2 1 3 → v.t.sound → Calls Tryz.prog 15 #[.pointer (some ⟨q, 0, none⟩)] W fun e w' => ∃ (V' : TabW) (b off : Nat), e = .returned (.agg #[.slice V'.A1 1 V'.c1, .slice V'.A2 0 V'.c2, .slice V'.A3 3 V'.c3]) ∧ V'.A1 = some ⟨b, off, none⟩ ∧ w'.cell? ⟨b, off, none⟩ = some (.int .i64 2) ∧ Below W.heap.size W w') := fun p q s v W h hv hs => by
    refine (own_table L h hs).mono fun e w' ⟨V', q1, q2, _, q4⟩ => ?_
    rw [hv] at q1 q2
    obtain ⟨b, off, e1, _, c0, _⟩ := q2.ts 0 (by decide)
    exact ⟨V', b, off, q1, e1, c0, q4⟩
  have HL : Hid (∀ p q s v W X, OwnV Rep w W p q s (some ⟨p, 0, none⟩) v → Below W.heap.size W X → OwnV Rep w X p q s (some ⟨p, 0, none⟩) v) := fun p q s v W X h hb => h.later L hb
  have hf0 := fieldT0
  clear L
  go_enter Tryz.func9, Tryz.ntmps9
  go_wp2_with (first
    | (go_at_call 7; with_reducible (refine Calls.mono H1.out ?_); rintro e w1 ⟨p, rfl, ho1⟩)
    | (go_at_call 8; with_reducible (refine Calls.mono (H2.out _ _ ho1) ?_); rintro e w2 ⟨q, rfl, ho2⟩; clear ho1)
    | (go_at_call 10; with_reducible (refine Calls.mono (H3.out _ _ _ ho2) ?_); rintro e w3 ⟨rfl, s3, v3, ho3, hv3, hs3⟩; clear ho2; have HV3 := Lib.hid hv3; have HS3 := Lib.hid hs3; clear hv3 hs3)
    | (go_at_call 15; with_reducible (refine Calls.mono (H4.out _ _ _ _ _ ho3 HV3.out HS3.out) ?_); rintro e w4 ⟨V4, b4, o4, rfl, _, _, hb4⟩; have ho4 := Lib.hid (HL.out _ _ _ _ _ _ ho3 hb4); clear ho3 hb4)
    | (go_at_call 15; with_reducible (refine Calls.mono (H4.out _ _ _ _ _ ho4.out HV3.out HS3.out) ?_); rintro e w5 ⟨V5, b5, o5, rfl, ha5, hc5, hb5⟩; have hx5 := Lib.hid (chain ho4.out.below hb5); clear hb5))
  go_ret
  exact ⟨rfl, hx5.out⟩
end

end Go.Proofs.YtbnhkplhmanmoaaGreat

namespace Go.Proofs.YtbnhkplhmanmoaaGreat
open Go.RowKit

theorem Tryz.infoI64v : (Tryz.prog.info? 3).map (fun i => (i.zero, i.size, i.bytes)) = some (some (.int .i64 0), 1, 8) := by kernel_rfl
section
variable {Rep : World → Nat → (Nat → Prop) → Dk → Prop} (L : Lows Rep)
include L
set_option maxHeartbeats 3200000 in
set_option maxRecDepth 20000 in
/-- What may not be. -/
theorem args_bad (pl n e0 : Int) (w : World) (H : Calls Tryz.prog 7 #[.int .i64 pl] w fun e w' => ∃ d : Option Addr, e = .returned (.tuple #[.pointer d, .int .i64 e0]) ∧ Calls Tryz.prog 8 #[.pointer d, .int .i64 n] w' fun e w'' => e = .returned (.tuple #[.pointer none, .int .i64 1]) ∧ Below w.heap.size w w'')
    (hb : e0 ≠ 0 ∨ n < 1 ∨ 64 < n ∨ pl < 384) : Calls Tryz.prog 4 #[.int .i64 pl, .int .i64 n] w fun e w' => e = .returned (.bool true) ∧ Below w.heap.size w w' := by
  have H := Lib.hid H
  have HA := Lib.hid (vaultAwake L)
  have HT := Lib.hid table_nil
  have HC := Lib.hid commit_nil
  have HG := Lib.hid gen_nil
  have HAL := Lib.hid (fun W : World => (Below.refl W.heap.size W).alloc (Nat.le_refl _) (.cells #[.slice none 0 0, .slice none 0 0, .slice none 0 0] 35))
  have HNW := Lib.hid (fun W : World => heap_alloc_new W (.cells #[.slice none 0 0, .slice none 0 0, .slice none 0 0] 35))
  clear L
  have hcs : (e0 != 0) = true ∨ ((e0 != 0) = false ∧ (n < 1 ∨ (¬ n < 1 ∧ (64 < n ∨ (¬ 64 < n ∧ pl < 384))))) := by
    by_cases h0 : e0 = 0
    · right
      refine ⟨by rw [h0]; rfl, ?_⟩
      rcases hb with q | q | q | q
      · exact absurd h0 q
      · exact .inl q
      · exact .inr ⟨by omega, .inl q⟩
      · by_cases h1 : n < 1
        · exact .inl h1
        · by_cases h2 : 64 < n
          · exact .inr ⟨h1, .inl h2⟩
          · exact .inr ⟨h1, .inr ⟨h2, q⟩⟩
    · exact .inl (bne_iff_ne.2 h0)
  clear hb
  rcases hcs with k0 | ⟨k0, k1 | ⟨k1, k2 | ⟨k2, k3⟩⟩⟩
  all_goals
    go_enter Tryz.func4, Tryz.ntmps4
    go_wp2_with (first
      | (go_at_call 7; with_reducible (refine Calls.mono H.out ?_); rintro e w1 ⟨d, rfl, hop⟩; have HOP := Lib.hid hop; clear hop)
      | (go_at_call 8; with_reducible (refine Calls.mono HOP.out ?_); rintro e w2 ⟨rfl, hb2⟩; have HB2 := Lib.hid hb2; clear hb2)
      | (go_at_call 15; with_reducible (refine Calls.mono (HT.out _) ?_); rintro e w3 ⟨rfl, hb3⟩
         have HB3 := Lib.hid (chain HB2.out (chain hb3 (HAL.out w3)))
         have HN3 := Lib.hid (HNW.out w3)
         clear hb3)
      | (go_at_call 10; with_reducible (refine Calls.mono (HC.out _ _ _ _) ?_); rintro e w4 ⟨rfl, hb4⟩
         have HB4 := Lib.hid (chain HB3.out hb4)
         obtain ⟨_, _, x2⟩ := cells3 ((hb4.block _ (Array.getElem?_eq_some_iff.1 HN3.out).1).trans HN3.out)
         clear hb4)
      | (go_at_call 16; with_reducible (refine Calls.mono (HG.out _) ?_); rintro e w5 ⟨rfl, rfl⟩)
      | (go_at_call 9; with_reducible (refine Calls.mono (HA.out _) ?_); rintro e w6 ⟨rfl, hb6⟩; have HB6 := Lib.hid (chain HB4.out hb6); clear hb6))
    go_ret
    exact ⟨rfl, HB6.out⟩
set_option maxHeartbeats 3200000 in
set_option maxRecDepth 20000 in
/-- What may be. -/
theorem args_good (N n : Nat) (w : World) (h1 : 384 ≤ N) (h2 : N ≤ 4096) (n1 : 1 ≤ n) (n2 : n ≤ 64) : Calls Tryz.prog 4 #[.int .i64 (N : Int), .int .i64 (n : Int)] w fun e w' => e = .returned (.bool true) ∧ Below w.heap.size w w' := by
  have H1 := Lib.hid (own_disk L (Below.refl w.heap.size w) (N := N) (by omega) h2)
  have H2 : Hid (∀ p W, OwnD Rep w W p (newD N) → Calls Tryz.prog 8 #[.pointer (some ⟨p, 0, none⟩), .int .i64 (n : Int)] W fun e w' => ∃ q, e = .returned (.tuple #[.pointer (some ⟨q, 0, none⟩), .int .i64 0]) ∧ OwnV Rep w w' p q (newD N) (some ⟨p, 0, none⟩) ⟨newR n, 1, 0, 192⟩) := fun p W h =>
    own_open L h rfl rfl (by simp [newD]; omega) n1 n2 (new_holds h1)
  have HA := Lib.hid (vaultAwake L)
  have HT := Lib.hid table_nil
  have HC := Lib.hid commit_nil
  have HG := Lib.hid gen_nil
  have HAL := Lib.hid (fun W : World => (Below.refl W.heap.size W).alloc (Nat.le_refl _) (.cells #[.slice none 0 0, .slice none 0 0, .slice none 0 0] 35))
  have HNW := Lib.hid (fun W : World => heap_alloc_new W (.cells #[.slice none 0 0, .slice none 0 0, .slice none 0 0] 35))
  have hns := new_sound n1 n2
  have hmk : ∀ W : World, (Instr.makeSlice 31 (.int .i64 (n : Int)) (.int .i64 (n : Int))).run Tryz.prog W = .ok (.slice (some ⟨W.heap.size, 0, none⟩) n n) (W.alloc (.cells (madeCells #[Value.int .i64 0] n) 3)) := fun W => run_make_row' (P := Tryz.prog) 31 3 (.int .i64 0) 8 Tryz.underlying31 Tryz.infoI64v rfl .i64 .i64 n (by omega) (by omega) W
  have hZl : (madeCells #[Value.int .i64 0] n).toList = (List.replicate n (0 : Int)).map (Value.int .i64) := by rw [toList_madeCells_one, List.map_replicate]
  obtain ⟨Z, hZ⟩ : ∃ Z, Z = madeCells #[Value.int .i64 0] n := ⟨_, rfl⟩
  rw [← hZ] at hmk hZl
  have HIN : Hid (∀ W : World, Ints (W.alloc (.cells Z 3)) (W.alloc (.cells Z 3)).heap.size .i64 (some ⟨W.heap.size, 0, none⟩) (List.replicate n 0)) := fun W => (Ints.new W 3 .i64 (List.replicate n 0) Z hZl).more (by simp)
  have HTB : Hid (∀ p q W X, OwnV Rep w W p q (newD N) (some ⟨p, 0, none⟩) ⟨newR n, 1, 0, 192⟩ → Below W.heap.size W X → Calls Tryz.prog 15 #[.pointer (some ⟨q, 0, none⟩)] X fun e w' => ∃ V' : TabW, e = .returned (.agg #[.slice V'.A1 0 V'.c1, .slice V'.A2 0 V'.c2, .slice V'.A3 n V'.c3]) ∧ Ints w' w'.heap.size .i64 V'.A3 (List.replicate n 0) ∧ Below X.heap.size X w') := fun p q W X h hb => by
    refine (own_table L (h.later L hb) hns).mono fun e w' ⟨V', q1, q2, _, q4⟩ => ⟨V', ?_, q2.os, q4⟩
    simp only [newR, List.length_nil, List.length_replicate] at q1
    exact q1
  have HSI : Hid (∀ (A0 A1 : Option Addr) (c0 c1 : Nat) (W : World), Ints W W.heap.size .i64 A0 (List.replicate n 0) → Ints W W.heap.size .i64 A1 (List.replicate n 0) → Calls Tryz.prog 17 #[.slice A0 n c0, .slice A1 n c1] W fun e w' => e = .returned (.bool true) ∧ Below W.heap.size W w') := fun A0 A1 c0 c1 W q1 q2 => by
    have := sameInts_any A0 A1 c0 c1 (List.replicate n 0) W q1 q2 (by rw [List.length_replicate]; omega)
    rw [List.length_replicate] at this
    exact this.mono fun e w' ⟨q1, m, q2⟩ => ⟨q1, by rw [q2]; exact below_drawn W m⟩
  have HGE : Hid (∀ p q W X, OwnV Rep w W p q (newD N) (some ⟨p, 0, none⟩) ⟨newR n, 1, 0, 192⟩ → Below W.heap.size W X → Calls Tryz.prog 16 #[.pointer (some ⟨q, 0, none⟩)] X fun e w' => e = .returned (.int .i64 0) ∧ w' = X) := fun p q W X h hb => own_gen (h.later L hb)
  have k1 : ¬ (n : Int) < 1 := by omega
  have k2 : ¬ 64 < (n : Int) := by omega
  have k3 : ¬ (N : Int) < 384 := by omega
  have hf2 := fieldT2
  clear L hZ hZl hns h1 h2 n1 n2
  go_enter Tryz.func4, Tryz.ntmps4
  go_wp2_with (first
    | (go_at_call 7; with_reducible (refine Calls.mono H1.out ?_); rintro e w1 ⟨p, rfl, ho1⟩)
    | (go_at_call 8; with_reducible (refine Calls.mono (H2.out _ _ ho1) ?_); rintro e w2 ⟨q, rfl, ho2⟩; have HO2 := Lib.hid ho2; clear ho1 ho2)
    | (go_at_call 15; with_reducible (refine Calls.mono (HT.out _) ?_); rintro e w3 ⟨rfl, hb3⟩
       have HB3 := Lib.hid (chain hb3 (HAL.out w3))
       have HN3 := Lib.hid (HNW.out w3)
       clear hb3)
    | (go_at_call 10; with_reducible (refine Calls.mono (HC.out _ _ _ _) ?_); rintro e w4 ⟨rfl, hb4⟩
       have HB4 := Lib.hid (chain HB3.out hb4)
       obtain ⟨_, _, x2⟩ := cells3 ((hb4.block _ (Array.getElem?_eq_some_iff.1 HN3.out).1).trans HN3.out)
       clear hb4)
    | (go_at_call 16; with_reducible (refine Calls.mono (HG.out _) ?_); rintro e w5 ⟨rfl, rfl⟩))
  have hbx : Below w2.heap.size w2 w5.drew := chain HB4.out ((Below.refl _ _).drew)
  go_region_held3 (fun X => Below w2.heap.size w2 X)
    (first | exact hbx | exact hbx.alloc hbx.size _)
    (first
      | (go_at_call 9; with_reducible (refine Calls.mono (HA.out _) ?_); rintro e w6 ⟨rfl, hb6⟩; have hbx : Below w2.heap.size w2 w6 := chain hbx hb6)
      | (go_at_call 15; with_reducible (refine Calls.mono (HTB.out _ _ _ _ HO2.out ?hb) ?_); (case hb => first | exact hbx | exact hbx.alloc hbx.size _); rintro e w7 ⟨V7, rfl, hin7, hb7⟩; have hbx : Below w2.heap.size w2 w7 := (by first | exact chain hbx hb7 | exact chain (hbx.alloc hbx.size _) hb7))
      | (go_at_call 17; with_reducible (refine Calls.mono (HSI.out _ _ _ _ _ ?i1 ?i2) ?_); (case i1 => first | exact hin7 | exact (hin7.below ((Below.refl _ _).alloc (Nat.le_refl _) _)).more (by simp)); (case i2 => first | exact HIN.out _ | exact ((HIN.out _).below hb7).more hb7.size); rintro e w8 ⟨rfl, hb8⟩; have hbx : Below w2.heap.size w2 w8 := (by first | exact chain hbx hb8 | exact chain (hbx.alloc hbx.size _) hb8))
      | (go_at_call 16; with_reducible (refine Calls.mono (HGE.out _ _ _ _ HO2.out hbx) ?_); rintro e w9 ⟨rfl, rfl⟩)
      | fail)
  all_goals (go_wp2; go_ret; exact ⟨rfl, chain HO2.out.below hbx⟩)

/-- VaultArgs. -/
theorem vaultArgs_go (pl n : Int) (w : World) (hp : I64n pl) (hn : I64n n) : Calls Tryz.prog 4 #[.int .i64 pl, .int .i64 n] w fun e w' => e = .returned (.bool true) ∧ Below w.heap.size w w' := by
  by_cases hN : 1 ≤ pl ∧ pl ≤ 4096
  · obtain ⟨N, rfl⟩ : ∃ N : Nat, pl = (N : Int) := ⟨pl.toNat, by omega⟩
    have H1 := own_disk L (Below.refl w.heap.size w) (N := N) (by omega) (by omega)
    by_cases hs : inR n 1 64
    · obtain ⟨m, rfl⟩ : ∃ m : Nat, n = (m : Int) := ⟨n.toNat, by unfold inR at hs; omega⟩
      unfold inR at hs
      by_cases hl : 384 ≤ N
      · exact args_good L N m w hl (by omega) (by omega) (by omega)
      · refine args_bad L _ _ 0 w (H1.mono fun e w' ⟨p, q1, q2⟩ => ⟨_, q1, ?_⟩) (.inr (.inr (.inr (by omega))))
        obtain ⟨F, hr, hF, hb⟩ := q2
        exact (open_areas L _ m w' (by omega) (by omega) fun W hW => areas_no L p F _ W (L.keep hr hW) (by simp [newD]; omega)).mono fun e w'' ⟨r1, r2⟩ => ⟨r1, chain hb r2⟩
    · refine args_bad L _ _ 0 w (H1.mono fun e w' ⟨p, q1, q2⟩ => ⟨_, q1, ?_⟩) (by unfold inR at hs; omega)
      obtain ⟨F, hr, hF, hb⟩ := q2
      exact (open_slots L _ n w' hn hs).mono fun e w'' ⟨r1, r2⟩ => ⟨r1, chain hb r2⟩
  · refine args_bad L _ _ 1 w (((L.d w).no pl w (Below.refl _ _) hp (by omega)).mono fun e w' ⟨q1, hb⟩ => ⟨none, q1, ?_⟩) (.inl (by decide))
    by_cases hs : inR n 1 64
    · obtain ⟨m, rfl⟩ : ∃ m : Nat, n = (m : Int) := ⟨n.toNat, by unfold inR at hs; omega⟩
      unfold inR at hs
      exact (open_areas L none m w' (by omega) (by omega) fun W _ => areas_nil L W).mono fun e w'' ⟨r1, r2⟩ => ⟨r1, chain hb r2⟩
    · exact (open_slots L _ n w' hn hs).mono fun e w'' ⟨r1, r2⟩ => ⟨r1, chain hb r2⟩
end

end Go.Proofs.YtbnhkplhmanmoaaGreat
