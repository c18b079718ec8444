/-
  A number turned right; one step of eight words, in memory. One step of eight words that lie in memory.
-/
import Derived.Test.YtanpfodmmeagaaaDoorHeadG
import Derived.Test.YtanpfodmmeagaaaDoorShaNumsG
import Derived.Deep.RegionLaw
import Derived.Deep.RegionWith
import Derived.Test.YtanpfodmmeagaaaDoorWordsG
import Derived.StillTailTactics
namespace Go.Proofs.YtanpfodmmeagaaaDoor
open Go.RowKit

theorem and31 : ∀ n : Nat, n < 32 → 1 ≤ n → bits .and .u64 (18446744073709551616 - (n : Int)) 31 = 32 - (n : Int) := by decide +kernel

/-- 'bits.RotateLeft32' by a count below zero. -/
theorem rotl_any (x n : Nat) (w : World) (hx : x < 2 ^ 32) (h1 : 1 ≤ n) (hn : n ≤ 31) :
    Calls Tryd.prog 89 #[.int .u32 (x : Int), .int .i64 (-(n : Int))] w fun e w' => e = .returned (.int .u32 (rotrN x n : Nat)) ∧ w' = w := by
  have ha := and31 n (by omega) h1
  have hw : IntKind.u64.wrap (-(n : Int)) = 18446744073709551616 - (n : Int) := by rw [IntKind.wrap_u64]; omega
  have e1 : bits .or .u32 ((x : Int) * 2 ^ (32 - n) % 4294967296) ((x : Int) / 2 ^ n) = ((rotrN x n : Nat) : Int) := by
    have a1 : ((x : Int) / 2 ^ n) = ((x / 2 ^ n : Nat) : Int) := by rw [Int.natCast_ediv, Int.natCast_pow]; rfl
    have a2 : ((x : Int) * 2 ^ (32 - n) % 4294967296) = ((x * 2 ^ (32 - n) % 4294967296 : Nat) : Int) := by
      rw [Int.natCast_emod, Int.natCast_mul, Int.natCast_pow]; rfl
    rw [a1, a2, u32_o _ _ (by omega) (div_lt hx), Nat.or_comm]; rfl
  have HE := Lib.hid e1
  clear e1
  have h2 : (n : Int) ≤ 31 := by omega
  have h3 : (0 : Int) ≤ 32 - (n : Int) := by omega
  have h4 : (1 : Int) ≤ (n : Int) := by omega
  have h5 : (32 : Int) - (32 - (n : Int)) = n := by omega
  have h6 : ((32 : Int) - (n : Int)).toNat = 32 - n := by omega
  go_enter Tryd.func89, Tryd.ntmps89
  go_wp2
  trace_state
  go_ret
  exact ⟨ret_int HE.out, rfl⟩

/-- 'right'. -/
theorem right_any (x n : Nat) (w : World) (hx : x < 2 ^ 32) (h1 : 1 ≤ n) (hn : n ≤ 31) :
    Calls Tryd.prog 87 #[.int .u32 (x : Int), .int .i64 (n : Int)] w fun e w' => e = .returned (.int .u32 (rotrN x n : Nat)) ∧ w = w' := by
  have H := Lib.hid (rotl_any x n w hx h1 hn)
  have h2 : (n : Int) ≤ 31 := by omega
  go_enter Tryd.func87, Tryd.ntmps87
  go_wp2_with (go_at_call 89; with_reducible (refine Calls.mono H.out ?_); rintro e w' ⟨rfl, rfl⟩)
  go_ret
  exact ⟨rfl, rfl⟩

end Go.Proofs.YtanpfodmmeagaaaDoor

namespace Go.Proofs.YtanpfodmmeagaaaDoor
open Go.RowKit

theorem Off.refl (F : Nat → Prop) (w : World) : Off F w w := ⟨rfl, rfl, rfl, Nat.le_refl _, fun _ _ _ => rfl⟩
theorem Off.trans {F : Nat → Prop} {a b c : World} (h1 : Off F a b) (h2 : Off F b c) : Off F a c :=
  ⟨h2.os.trans h1.os, h2.tape.trans h1.tape, h2.output.trans h1.output, Nat.le_trans h1.size h2.size, fun k hk hf => (h2.block k (Nat.lt_of_lt_of_le hk h1.size) hf).trans (h1.block k hk hf)⟩
theorem Off.of_below {F : Nat → Prop} {w w' : World} (h : Below w.heap.size w w') : Off F w w' := ⟨h.os, h.tape, h.output, h.size, fun k hk _ => h.block k hk⟩
theorem Off.drewN {F : Nat → Prop} {a w : World} (h : Off F a w) (n : Nat) : Off F a (w.drewN n) := ⟨h.os, h.tape, h.output, h.size, h.block⟩
theorem Off.drew {F : Nat → Prop} {a w : World} (h : Off F a w) : Off F a w.drew := ⟨h.os, h.tape, h.output, h.size, h.block⟩
theorem Off.set {g : Nat} {a w : World} (h : Off (· = g) a w) (o : Nat) (v : Value) : Off (· = g) a (w.setCell ⟨g, o, none⟩ v) :=
  h.trans ⟨rfl, rfl, rfl, by simp, fun k _ hf => heap_setCell_other w ⟨g, o, none⟩ k v hf⟩
theorem Off.row {g : Nat} {a w : World} (h : Off (· = g) a w) (cs : Array Value) : Off (· = g) a (w.setRow g cs) :=
  h.trans ⟨rfl, rfl, rfl, by simp [World.setRow], fun k _ hf => setRow_other w g k cs hf⟩

/-- 'copy' into a block whose cells are known: behind it the world goes by a letter. -/
theorem wpList_copy_off {P : Program} {w : World} {ops : Array Oper} {rest : List Oper} {o : Oper} {a : Act} {Q : Exit → Act → World → Prop} (hgd : o.guard = none) (d s : Operand) (dT sT : TypeId)
    (ho : o.op = .call { callee := .builtin .copy, args := #[d, s], argTypes := #[dT, sT] }) (elem : TypeId) (hu : P.underlying dT = some (.slice elem)) (hsz : (P.info? elem).map (·.size) = some 1)
    (g off dLen dCap : Nat) (ad : Addr) (sLen sCap : Nat) (hd : a.eval d = .slice (some ⟨g, off, none⟩) dLen dCap) (hs : a.eval s = .slice (some ad) sLen sCap)
    (cur : Array Value) (t : TypeId) (hg : w.heap[g]? = some (.cells cur t (0, 0))) (cs : List Value) (hn : cs.length = Nat.min sLen dLen)
    (hsrc : ∀ j v, cs[j]? = some v → w.cell? (ad.add j) = some v) (hfit : off + cs.length ≤ cur.size) (h1 : ∀ v ∈ cs, v.oneCell' = true)
    (h : ∀ w', Hid (w'.heap[g]? = some (.cells (cur.toList.take off ++ (cs ++ cur.toList.drop (off + cs.length))).toArray t (0, 0))) → Off (· = g) w w' → wpList P ops Q rest (a.put o.dst (goInt cs.length)) w') : wpList P ops Q (o :: rest) a w :=
  wpList_copy_own hgd d s dT sT ho elem hu hsz g off dLen dCap ad sLen sCap hd hs cur t hg cs hn hsrc hfit h1
    (h _ (setRow_heap w g _ _ t _ hg) ((Off.refl _ _).row _))

theorem quiet_same {P : Program} {f : FuncId} {args : Array Value} {w : World} {a n : Nat} {v : Value}
    (h : Calls P f args (w.drewN (a + n)) fun e w' => e = .returned v ∧ w.drewN (a + n) = w') : Calls P f args (w.drewN (a + n)) fun e w'' => e = .returned v ∧ ∃ m, w'' = w.drewN (a + m) :=
  h.mono fun _ _ ⟨he, hm⟩ => ⟨he, n, hm.symm⟩

/-- The round that a number makes of eight words. -/
def stepN (s : Eight) (m : Nat) : Eight :=
  ⟨add32 (add32 (add32 (add32 s.h (big1 s.e)) (chN s.e s.f s.g)) m) (t2N s), s.a, s.b, s.c, add32 s.d (add32 (add32 (add32 s.h (big1 s.e)) (chN s.e s.f s.g)) m), s.e, s.f, s.g⟩
theorem add32_assoc (a b c : Nat) : add32 a (add32 b c) = add32 (add32 a b) c := by unfold add32; omega
theorem add32_comm (a b : Nat) : add32 a b = add32 b a := by unfold add32; omega
theorem stepN_round (s : Eight) (k w : Nat) : stepN s (add32 w k) = roundN s k w := by
  unfold stepN roundN t1N
  rw [add32_comm w k, add32_assoc]

set_option maxHeartbeats 1600000 in
set_option maxRecDepth 100000 in
/-- 'step'. -/
theorem step_any (g : Nat) (s : Eight) (m : Nat) (w : World) (hs : s.ok) (hr : Row w g 120 s.list) :
    Calls Tryd.prog 84 #[.pointer (some ⟨g, 0, none⟩), .int .u32 (m : Int)] w fun e w' => e = .returned (.tuple #[]) ∧ Row w' g 120 (stepN s m).list ∧ Off (· = g) w w' := by
  obtain ⟨a, b, c, d, e, f, g', hh⟩ := s
  obtain ⟨la, lb, lc, ld, le, lf, lg, lh⟩ := hs
  dsimp only at la lb lc ld le lf lg lh
  have c0 := hr.cell (i := 0) (by show 0 < 8; decide)
  have c1 := hr.cell (i := 1) (by show 1 < 8; decide)
  have c2 := hr.cell (i := 2) (by show 2 < 8; decide)
  have c3 := hr.cell (i := 3) (by show 3 < 8; decide)
  have c4 := hr.cell (i := 4) (by show 4 < 8; decide)
  have c5 := hr.cell (i := 5) (by show 5 < 8; decide)
  have c6 := hr.cell (i := 6) (by show 6 < 8; decide)
  have c7 := hr.cell (i := 7) (by show 7 < 8; decide)
  simp only [Eight.list, List.getD_cons_zero, List.getD_cons_succ] at c0 c1 c2 c3 c4 c5 c6 c7
  have HROW := Lib.hid hr
  have R1 := fun W => right_any e 6 W le (by omega) (by omega)
  have R2 := fun W => right_any e 11 W le (by omega) (by omega)
  have R3 := fun W => right_any e 25 W le (by omega) (by omega)
  have R4 := fun W => right_any a 2 W la (by omega) (by omega)
  have R5 := fun W => right_any a 13 W la (by omega) (by omega)
  have R6 := fun W => right_any a 22 W la (by omega) (by omega)
  have f1 := u32_x (rotrN e 6) (rotrN e 11) (rotrN_lt le) (rotrN_lt le)
  have f2 := u32_x (rotrN e 6 ^^^ rotrN e 11) (rotrN e 25) (xor_lt (rotrN_lt le) (rotrN_lt le)) (rotrN_lt le)
  rw [show rotrN e 6 ^^^ rotrN e 11 ^^^ rotrN e 25 = big1 e from rfl] at f2
  have f3 := u32_a e f le lf
  have f4 := u32_n e le
  have f5 := u32_a (not32 e) g' (not32_lt le) lg
  have f6 := u32_x (e &&& f) (not32 e &&& g') (and_lt lf) (and_lt lg)
  rw [show (e &&& f) ^^^ (not32 e &&& g') = chN e f g' from rfl] at f6
  have f7 := u32_x (rotrN a 2) (rotrN a 13) (rotrN_lt la) (rotrN_lt la)
  have f8 := u32_x (rotrN a 2 ^^^ rotrN a 13) (rotrN a 22) (xor_lt (rotrN_lt la) (rotrN_lt la)) (rotrN_lt la)
  rw [show rotrN a 2 ^^^ rotrN a 13 ^^^ rotrN a 22 = big0 a from rfl] at f8
  have f9 := u32_a a b la lb
  have f10 := u32_a a c la lc
  have f11 := u32_a b c lb lc
  have f12 := u32_x (a &&& b) (a &&& c) (and_lt lb) (and_lt lc)
  have f13 := u32_x ((a &&& b) ^^^ (a &&& c)) (b &&& c) (xor_lt (and_lt lb) (and_lt lc)) (and_lt lc)
  rw [show (a &&& b) ^^^ (a &&& c) ^^^ (b &&& c) = majN a b c from rfl] at f13
  have hout : stepN ⟨a, b, c, d, e, f, g', hh⟩ m = ⟨add32 (add32 (add32 (add32 hh (big1 e)) (chN e f g')) m) (add32 (big0 a) (majN a b c)), a, b, c, add32 d (add32 (add32 (add32 hh (big1 e)) (chN e f g')) m), e, f, g'⟩ := rfl
  obtain ⟨x1, e_x1⟩ : ∃ n, n = rotrN e 6 := ⟨_, rfl⟩
  rw [← e_x1] at R1 f1 f2
  obtain ⟨x2, e_x2⟩ : ∃ n, n = rotrN e 11 := ⟨_, rfl⟩
  rw [← e_x2] at R2 f1 f2
  obtain ⟨x3, e_x3⟩ : ∃ n, n = rotrN e 25 := ⟨_, rfl⟩
  rw [← e_x3] at R3 f2
  obtain ⟨x4, e_x4⟩ : ∃ n, n = x1 ^^^ x2 := ⟨_, rfl⟩
  rw [← e_x4] at f1 f2
  obtain ⟨x5, e_x5⟩ : ∃ n, n = big1 e := ⟨_, rfl⟩
  rw [← e_x5] at f2 hout
  obtain ⟨y1, e_y1⟩ : ∃ n, n = e &&& f := ⟨_, rfl⟩
  rw [← e_y1] at f3 f6
  obtain ⟨y2, e_y2⟩ : ∃ n, n = not32 e := ⟨_, rfl⟩
  rw [← e_y2] at f4 f5 f6
  obtain ⟨y3, e_y3⟩ : ∃ n, n = y2 &&& g' := ⟨_, rfl⟩
  rw [← e_y3] at f5 f6
  obtain ⟨y4, e_y4⟩ : ∃ n, n = chN e f g' := ⟨_, rfl⟩
  rw [← e_y4] at f6 hout
  obtain ⟨x6, e_x6⟩ : ∃ n, n = rotrN a 2 := ⟨_, rfl⟩
  rw [← e_x6] at R4 f7 f8
  obtain ⟨x7, e_x7⟩ : ∃ n, n = rotrN a 13 := ⟨_, rfl⟩
  rw [← e_x7] at R5 f7 f8
  obtain ⟨x8, e_x8⟩ : ∃ n, n = rotrN a 22 := ⟨_, rfl⟩
  rw [← e_x8] at R6 f8
  obtain ⟨x9, e_x9⟩ : ∃ n, n = x6 ^^^ x7 := ⟨_, rfl⟩
  rw [← e_x9] at f7 f8
  obtain ⟨z0, e_z0⟩ : ∃ n, n = big0 a := ⟨_, rfl⟩
  rw [← e_z0] at f8 hout
  obtain ⟨z1, e_z1⟩ : ∃ n, n = a &&& b := ⟨_, rfl⟩
  rw [← e_z1] at f9 f12 f13
  obtain ⟨z2, e_z2⟩ : ∃ n, n = a &&& c := ⟨_, rfl⟩
  rw [← e_z2] at f10 f12 f13
  obtain ⟨z3, e_z3⟩ : ∃ n, n = b &&& c := ⟨_, rfl⟩
  rw [← e_z3] at f11 f13
  obtain ⟨z4, e_z4⟩ : ∃ n, n = z1 ^^^ z2 := ⟨_, rfl⟩
  rw [← e_z4] at f12 f13
  obtain ⟨z5, e_z5⟩ : ∃ n, n = majN a b c := ⟨_, rfl⟩
  rw [← e_z5] at f13 hout
  have HO := Lib.hid hout
  have HR1 := Lib.hid R1
  have HR2 := Lib.hid R2
  have HR3 := Lib.hid R3
  have HR4 := Lib.hid R4
  have HR5 := Lib.hid R5
  have HR6 := Lib.hid R6
  clear R1 R2 R3 R4 R5 R6 hout hr e_x1 e_x2 e_x3 e_x4 e_x5 e_y1 e_y2 e_y3 e_y4 e_x6 e_x7 e_x8 e_x9 e_z0 e_z1 e_z2 e_z3 e_z4 e_z5
  go_enter Tryd.func84, Tryd.ntmps84
  go_wp2
  go_quiet (fail)
  obtain ⟨m1, rfl⟩ : ∃ m, m = nq := ⟨nq, rfl⟩
  go_wp2
  go_quiet (fail)
  obtain ⟨m2, rfl⟩ : ∃ m, m = nq := ⟨nq, rfl⟩
  go_wp2
  go_quiet ((go_at_call 87; first | (with_reducible exact quiet_same (HR1.out _)) | (with_reducible exact quiet_same (HR2.out _)) | (with_reducible exact quiet_same (HR3.out _))))
  obtain ⟨m3, rfl⟩ : ∃ m, m = nq := ⟨nq, rfl⟩
  go_wp2_with (first
    | (go_at_call 87; with_reducible (refine Calls.mono (HR4.out _) ?_); rintro e w' ⟨rfl, rfl⟩)
    | (go_at_call 87; with_reducible (refine Calls.mono (HR5.out _) ?_); rintro e w' ⟨rfl, rfl⟩)
    | (go_at_call 87; with_reducible (refine Calls.mono (HR6.out _) ?_); rintro e w' ⟨rfl, rfl⟩))
  obtain ⟨W, hW⟩ : ∃ W, W = w.drewN (m1 + m2 + m3) := ⟨_, rfl⟩
  have rW : Row W g 120 [a, b, c, d, e, f, g', hh] := by rw [hW]; exact HROW.out
  have oW : Off (· = g) w W := by rw [hW]; exact (Off.refl _ _).drewN _
  rw [← hW]
  clear hW c0 c1 c2 c3 c4 c5 c6 c7 HROW HR1 HR2 HR3 HR4 HR5 HR6 f1 f2 f3 f4 f5 f6 f7 f8 f9 f10 f11 f12 f13
  have HRW := Lib.hid rW
  have HOW := Lib.hid oW
  clear rW oW
  go_still_tail 6, (by kernel_rfl)
  change wpList _ _ _ _ _ W.drew
  refine wpList_copy_off rfl _ _ 103 103 rfl 61 Tryd.underlying103 (by kernel_rfl) g 1 7 7 ⟨g, 0, none⟩ 7 8 rfl rfl (U [a, b, c, d, e, f, g', hh]) 120 HRW.out (([a, b, c, d, e, f, g'] : List Nat).map fun z : Nat => Value.int .u32 (z : Int)) rfl ?hsrc (by show 8 ≤ 8; decide) (by simp [Value.oneCell']) ?_
  case hsrc =>
    intro j v hv
    have hj : j < 7 := by
      rcases Nat.lt_or_ge j 7 with h | h
      · exact h
      · rw [List.getElem?_eq_none (by simpa using h)] at hv; cases hv
    rw [Addr.add_mid, World.cell?_drew, Nat.zero_add, HRW.out.cell (i := j) (by show j < 8; omega), ← hv]
    have : j = 0 ∨ j = 1 ∨ j = 2 ∨ j = 3 ∨ j = 4 ∨ j = 5 ∨ j = 6 := by omega
    rcases this with rfl | rfl | rfl | rfl | rfl | rfl | rfl <;> rfl
  intro W2 hW2 oW2
  have rW2 : Row W2 g 120 [a, a, b, c, d, e, f, g'] := hW2.out
  have k0 := rW2.cell (i := 0) (by show 0 < 8; decide)
  have z0' := rW2.free 0
  have HRW2 := Lib.hid rW2
  have HOW2 := Lib.hid oW2
  have e1 : ((hh : Int) + (x5 : Int) + (y4 : Int) + (m : Int)) % 4294967296 = ((add32 (add32 (add32 hh x5) y4) m : Nat) : Int) := by unfold add32; omega
  have e2 : ((z0 : Int) + (z5 : Int)) % 4294967296 = ((add32 z0 z5 : Nat) : Int) := by unfold add32; omega
  obtain ⟨T1, hT1⟩ : ∃ x, x = add32 (add32 (add32 hh x5) y4) m := ⟨_, rfl⟩
  obtain ⟨T2, hT2⟩ : ∃ x, x = add32 z0 z5 := ⟨_, rfl⟩
  rw [← hT1] at HO e1
  rw [← hT2] at HO e2
  simp only [e1, e2]
  clear rW2 hW2 oW2 e1 e2 hT1 hT2
  go_wp2
  obtain ⟨W3, hW3⟩ : ∃ W3, W3 = W2.setCell ⟨g, 0, none⟩ (Value.int .u32 (((T1 : Int) + (T2 : Int)) % 4294967296)) := ⟨_, rfl⟩
  have e3 : ((T1 : Int) + (T2 : Int)) % 4294967296 = ((add32 T1 T2 : Nat) : Int) := by unfold add32; omega
  have rW3 : Row W3 g 120 [add32 T1 T2, a, b, c, d, e, f, g'] := by
    rw [hW3, e3]; exact HRW2.out.set 0 (add32 T1 T2)
  have oW3 : Off (· = g) w W3 := by
    rw [hW3]; exact (HOW.out.drew.trans HOW2.out).set 0 _
  rw [← hW3]
  have k4 := rW3.cell (i := 4) (by show 4 < 8; decide)
  have z4' := rW3.free 4
  have HRW3 := Lib.hid rW3
  have HOW3 := Lib.hid oW3
  clear hW3 e3 k0 z0' rW3 oW3
  go_still_tail 8, (by kernel_rfl)
  change wpList _ _ _ _ _ W3.drew
  have k4' : W3.drew.cell? ⟨g, 4, none⟩ = some (.int .u32 (d : Int)) := k4
  have z5' : W3.drew.frozen? ⟨g, 4, none⟩ = false := z4'
  go_wp2
  refine bodyPost_end (results_none rfl _ _ _) rfl ?_
  have e4 : ((d : Int) + (T1 : Int)) % 4294967296 = ((add32 d T1 : Nat) : Int) := by unfold add32; omega
  refine ⟨rfl, ?_, (HOW3.out.set 4 _).drew⟩
  rw [HO.out, e4]
  exact Row.set (w := W3.drew) HRW3.out 4 (add32 d T1)

end Go.Proofs.YtanpfodmmeagaaaDoor
