/-
  The document's own block of a digest: what it answers; nothing that was there is changed.
-/
import Derived.Test.YtanpfodmmeagaaaDoorHeadG
import Derived.Deep.RegionLaw
import Derived.StillTailTactics
namespace Go.Proofs.YtanpfodmmeagaaaDoor
open Go.RowKit

/-- Four bytes make a number, in the walk's own spelling. -/
theorem be4_up (b : List Nat) (hb : ∀ x ∈ b, x < 256) (i : Nat) (x0 x1 x2 x3 : Nat) (h0 : x0 = b.getD i 0) (h1 : x1 = b.getD (i + 1) 0) (h2 : x2 = b.getD (i + 2) 0) (h3 : x3 = b.getD (i + 3) 0) :
    be4 b i = x0 * 16777216 + x1 * 65536 + x2 * 256 + x3 ∧ x0 ≤ 255 ∧ x1 ≤ 255 ∧ x2 ≤ 255 ∧ x3 ≤ 255 := by
  have g0 := getD_lt (by decide) hb i
  have g1 := getD_lt (by decide) hb (i + 1)
  have g2 := getD_lt (by decide) hb (i + 2)
  have g3 := getD_lt (by decide) hb (i + 3)
  subst h0 h1 h2 h3
  exact ⟨rfl, by omega, by omega, by omega, by omega⟩

/-- A slice of the call's own that is no nil. -/
def OwnAt (base e : Nat) (w : World) (v : Value) (t : Nat) (xs : List Value) : Prop := ∃ g cap, v = .slice (some ⟨g, 0, none⟩) t cap ∧ w.ownsRow base e 1 (.slice (some ⟨g, 0, none⟩) t cap) t xs
theorem quiet_add {P : Program} {f : FuncId} {args : Array Value} {w : World} {a n : Nat} {v : Value}
    (h : Calls P f args (w.drewN (a + n)) fun e w' => e = .returned v ∧ ∃ m, w' = (w.drewN (a + n)).drewN m) :
    Calls P f args (w.drewN (a + n)) fun e w'' => e = .returned v ∧ ∃ m, w'' = w.drewN (a + m) :=
  h.mono fun _ _ ⟨he, m, hm⟩ => ⟨he, n + m, by rw [hm, World.drewN_drewN, Nat.add_assoc]⟩

set_option maxHeartbeats 3200000 in
set_option maxRecDepth 100000 in
/-- 'block'. -/
theorem block_any (A0 A1 A2 : Option Addr) (c0 c1 c2 : Nat) (s : Eight) (b : List Nat) (w : World) (h0 : Ints w w.heap.size .u32 A0 (up s.list)) (h1 : Ints w w.heap.size .u32 A1 (up shaK)) (h2 : Ints w w.heap.size .u8 A2 (up b)) (hs : s.ok) (hb : ∀ x ∈ b, x < 256) (hl : b.length = 64) :
    Calls Tryd.prog 66 #[.slice A0 8 c0, .slice A1 64 c1, .slice A2 64 c2] w fun e w' => ∃ A c, e = .returned (.slice A 8 c) ∧ 8 ≤ c ∧ Ints w' w'.heap.size .u32 A (up (blockN s b).list) ∧ Below w.heap.size w w' := by
  obtain ⟨i0, hi, hz0, hz1, hz2⟩ := info_parts Tryd.infoU32
  have HL := Lib.hid hl
  have HB := Lib.hid hb
  clear hl hb
  go_enter Tryd.func66, Tryd.ntmps66
  go_wp2
  go_loopw [7, 8] (fun v i wr => ∃ t : Nat, t ≤ 16 ∧ i = .int .i64 t ∧ wr.ownsRow w.heap.size 61 1 v t ((up (wordsTo b t)).map (Value.int .u32)) ∧ Below w.heap.size w wr) (fun _ i _ => 16 - (intOf i).toNat)
  case atStart =>
    refine ⟨0, by omega, rfl, ?_, (Below.refl _ _).alloc (Nat.le_refl _) _⟩
    exact World.ownsRow_made w #[] 0 (Nat.le_refl _) (Nat.zero_le _) rfl
  case round =>
    obtain ⟨t, ht, rfl, hown, hbel⟩ := hrel
    by_cases hlt : t < 16
    · have hl64 : (up b).length = 64 := by rw [up_len]; exact HL.out
      obtain ⟨b2, o2, e2, hb2, _⟩ := h2.at_ (by omega)
      obtain rfl := e2
      have hh := h2.below hbel
      have k0 := hh.cell (i := 4 * t) (by omega)
      have k1 := hh.cell (i := 4 * t + 1) (by omega)
      have k2 := hh.cell (i := 4 * t + 2) (by omega)
      have k3 := hh.cell (i := 4 * t + 3) (by omega)
      rw [up_getD] at k0 k1 k2 k3
      have hw : wordsTo b (t + 1) = wordsTo b t ++ [be4 b (4 * t)] := by show wordsTo b t ++ [if t < 16 then _ else _] = _; rw [if_pos hlt]
      obtain ⟨x0, e0⟩ : ∃ x, x = b.getD (4 * t) 0 := ⟨_, rfl⟩
      obtain ⟨x1, e1⟩ : ∃ x, x = b.getD (4 * t + 1) 0 := ⟨_, rfl⟩
      obtain ⟨x2, e2⟩ : ∃ x, x = b.getD (4 * t + 2) 0 := ⟨_, rfl⟩
      obtain ⟨x3, e3⟩ : ∃ x, x = b.getD (4 * t + 3) 0 := ⟨_, rfl⟩
      obtain ⟨hbe, l0, l1, l2, l3⟩ := be4_up b HB.out (4 * t) x0 x1 x2 x3 e0 e1 e2 e3
      rw [← e0] at k0
      rw [← e1] at k1
      rw [← e2] at k2
      rw [← e3] at k3
      have HW := Lib.hid hw
      have HE := Lib.hid hbe
      obtain ⟨r, hr⟩ : ∃ r, r = be4 b (4 * t) := ⟨_, rfl⟩
      rw [← hr] at HW HE
      have hr' : r = x0 * 16777216 + x1 * 65536 + x2 * 256 + x3 := HE.out
      have p0 : IntKind.u32.wrap (x0 : Int) = (x0 : Int) := IntWalk.u32_in _ (by omega)
      have p1 : IntKind.u32.wrap (x1 : Int) = (x1 : Int) := IntWalk.u32_in _ (by omega)
      have p2 : IntKind.u32.wrap (x2 : Int) = (x2 : Int) := IntWalk.u32_in _ (by omega)
      have p3 : IntKind.u32.wrap (x3 : Int) = (x3 : Int) := IntWalk.u32_in _ (by omega)
      have q0 : IntKind.u32.wrap ((x0 : Int) * 16777216) = (x0 : Int) * 16777216 := IntWalk.u32_in _ (by omega)
      have q1 : IntKind.u32.wrap ((x1 : Int) * 65536) = (x1 : Int) * 65536 := IntWalk.u32_in _ (by omega)
      have q2 : IntKind.u32.wrap ((x2 : Int) * 256) = (x2 : Int) * 256 := IntWalk.u32_in _ (by omega)
      have q3 : IntKind.u32.wrap ((x0 : Int) * 16777216 + (x1 : Int) * 65536) = (x0 : Int) * 16777216 + (x1 : Int) * 65536 := IntWalk.u32_in _ (by omega)
      have q4 : IntKind.u32.wrap ((x0 : Int) * 16777216 + (x1 : Int) * 65536 + (x2 : Int) * 256) = (x0 : Int) * 16777216 + (x1 : Int) * 65536 + (x2 : Int) * 256 := IntWalk.u32_in _ (by omega)
      have q5 : IntKind.u32.wrap ((x0 : Int) * 16777216 + (x1 : Int) * 65536 + (x2 : Int) * 256 + (x3 : Int)) = (r : Int) := by rw [IntWalk.u32_in _ (by omega)]; omega
      have q6 : (x0 : Int) * 16777216 + (x1 : Int) * 65536 + (x2 : Int) * 256 + (x3 : Int) = (r : Int) := by omega
      have p4 : IntKind.u32.wrap (r : Int) = (r : Int) := IntWalk.u32_in _ (by omega)
      have n0 : (4 * (t : Int)).toNat = 4 * t := by omega
      have n1 : (4 * (t : Int) + 1).toNat = 4 * t + 1 := by omega
      have n2 : (4 * (t : Int) + 2).toNat = 4 * t + 2 := by omega
      have n3 : (4 * (t : Int) + 3).toNat = 4 * t + 3 := by omega
      have z0 : (0 : Int) ≤ 4 * (t : Int) := by omega
      have z1 : (0 : Int) ≤ 4 * (t : Int) + 1 := by omega
      have z2 : (0 : Int) ≤ 4 * (t : Int) + 2 := by omega
      have z3 : (0 : Int) ≤ 4 * (t : Int) + 3 := by omega
      have y0 : 4 * (t : Int) < 64 := by omega
      have y1 : 4 * (t : Int) + 1 < 64 := by omega
      have y2 : 4 * (t : Int) + 2 < 64 := by omega
      have y3 : 4 * (t : Int) + 3 < 64 := by omega
      have v1 : IntKind.i64.wrap (4 * (t : Int)) = 4 * (t : Int) := IntWalk.i64_in _ (by omega)
      have v2 : IntKind.i64.wrap (4 * (t : Int) + 1) = 4 * (t : Int) + 1 := IntWalk.i64_in _ (by omega)
      have v3 : IntKind.i64.wrap (4 * (t : Int) + 2) = 4 * (t : Int) + 2 := IntWalk.i64_in _ (by omega)
      have v4 : IntKind.i64.wrap (4 * (t : Int) + 3) = 4 * (t : Int) + 3 := IntWalk.i64_in _ (by omega)
      have hsz := hbel.size
      have hne := own_ne hown hb2
      have hll := wordsTo_len b t
      clear hw hbe hr hr' e0 e1 e2 e3 hh hl64 hll
      go_wp2
      go_region_held3 (fun w' => w'.cell? ⟨b2, o2 + 4 * t, none⟩ = some (.int .u8 x0) ∧ w'.cell? ⟨b2, o2 + (4 * t + 1), none⟩ = some (.int .u8 x1) ∧ w'.cell? ⟨b2, o2 + (4 * t + 2), none⟩ = some (.int .u8 x2) ∧ w'.cell? ⟨b2, o2 + (4 * t + 3), none⟩ = some (.int .u8 x3))
        (first
          | go_keep
          | (go_split_ands; refine ⟨?_, ?_, ?_, ?_⟩ <;> (rw [hgrow.cell_far _ (by simp; omega) hne]; assumption)))
        (first
          | (refine step_append_lies _ (by rfl) _ _ _ (by rfl) w.heap.size 61 i0 _ 1 4 Tryd.underlying103 hi hz0 hz1 hz2 rfl (by omega) _ t _ (by rfl) ((hown.alloc _).drew) ⟨wr.heap.size, 0, none⟩ 1 1 [.int .u32 (r : Int)] (by rfl) (by rfl) (cell_one_new wr (.int .u32 (r : Int)) 61) (by simp [Value.oneCell']) (by omega) (by unfold maxLen; omega) (by omega) (by simp; omega) (wr.heap.size + 1) (by simp) ?_; intro gg cap w1 hown1 hgrow hat hlt'))
      have R : w1.ownsRow w.heap.size 61 1 (.slice (some ⟨gg, 0, none⟩) (t + 1) cap) (t + 1) ((up (wordsTo b (t + 1))).map (Value.int .u32)) ∧ Below w.heap.size w w1 := by
        rw [HW.out, up_append, List.map_append]
        exact ⟨hown1, ((hbel.alloc hsz _).drew).grown hgrow (by simp; omega) fun q hq => (hown.lt q hq).1⟩
      clear hown1 hgrow hown hbel k0 k1 k2 k3
      go_wp2
      go_roundw
      case rel => first | exact ⟨t + 1, by omega, by go_num, R.1, R.2⟩ | ((repeat apply Exists.intro); exact ⟨⟨t + 1, by omega, by go_num, R.1, R.2⟩, rfl⟩)
      case measure => simp [intOf]; omega
    · have ht16 : t = 16 := by omega
      subst ht16
      obtain ⟨g16, c16, hv, _⟩ := hown.form (by omega)
      subst hv
      go_wp2
      go_loopw [7, 9] (fun v i wr => ∃ t : Nat, 16 ≤ t ∧ t ≤ 64 ∧ i = .int .i64 t ∧ OwnAt w.heap.size 61 wr v t ((up (wordsTo b t)).map (Value.int .u32)) ∧ Below w.heap.size w wr) (fun _ i _ => 64 - (intOf i).toNat)
      case atStart => exact ⟨16, by omega, by omega, rfl, ⟨g16, c16, rfl, hown⟩, hbel⟩
      case round =>
        clear hown hbel
        obtain ⟨t, ht0, ht1, rfl, ⟨g, cap, rfl, hown⟩, hbel⟩ := hrel
        by_cases hlt : t < 64
        · have hlen := wordsTo_len b t
          have hcell : ∀ j, j < t → wr.cell? ⟨g, j, none⟩ = some (.int .u32 (((wordsTo b t).getD j 0 : Nat) : Int)) := fun j hj => by
            rw [hown.cellAt j (by omega), List.getElem?_map, List.getElem?_eq_getElem (by rw [up_len]; omega), Option.map_some]
            have := up_getD (wordsTo b t) j
            rw [List.getD_eq_getElem?_getD, List.getElem?_eq_getElem (by rw [up_len]; omega), Option.getD_some] at this
            rw [this]
          have m15 := hcell (t - 15) (by omega)
          have m2 := hcell (t - 2) (by omega)
          have m7 := hcell (t - 7) (by omega)
          have m16 := hcell (t - 16) (by omega)
          have hlw := fun j => getD_lt (by decide) (wordsTo_lt HB.out t) j
          have hw : wordsTo b (t + 1) = wordsTo b t ++ [nextW (wordsTo b t) t] := by show wordsTo b t ++ [if t < 16 then _ else _] = _; rw [if_neg (by omega)]
          unfold nextW at hw
          obtain ⟨x15, e15⟩ : ∃ x, x = (wordsTo b t).getD (t - 15) 0 := ⟨_, rfl⟩
          obtain ⟨x2, e2⟩ : ∃ x, x = (wordsTo b t).getD (t - 2) 0 := ⟨_, rfl⟩
          obtain ⟨x7, e7⟩ : ∃ x, x = (wordsTo b t).getD (t - 7) 0 := ⟨_, rfl⟩
          obtain ⟨x16, e16⟩ : ∃ x, x = (wordsTo b t).getD (t - 16) 0 := ⟨_, rfl⟩
          have l15 := hlw (t - 15)
          have l2 := hlw (t - 2)
          have l7 := hlw (t - 7)
          have l16 := hlw (t - 16)
          rw [← e15] at m15 l15 hw
          rw [← e2] at m2 l2 hw
          rw [← e7] at m7 l7 hw
          rw [← e16] at m16 l16 hw
          have R1 := fun W => rotr_any x15 7 W l15 (by omega)
          have R2 := fun W => rotr_any x15 18 W l15 (by omega)
          have R3 := fun W => rotr_any x2 17 W l2 (by omega)
          have R4 := fun W => rotr_any x2 19 W l2 (by omega)
          have f1 := u32_x (rotrN x15 7) (rotrN x15 18) (rotrN_lt l15) (rotrN_lt l15)
          have f2 := u32_x (rotrN x15 7 ^^^ rotrN x15 18) (x15 / 8) (xor_lt (rotrN_lt l15) (rotrN_lt l15)) (div_lt l15)
          have f3 := u32_x (rotrN x2 17) (rotrN x2 19) (rotrN_lt l2) (rotrN_lt l2)
          have f4 := u32_x (rotrN x2 17 ^^^ rotrN x2 19) (x2 / 1024) (xor_lt (rotrN_lt l2) (rotrN_lt l2)) (div_lt l2)
          have f5 : ((x15 / 8 : Nat) : Int) = (x15 : Int) / 8 := by omega
          have f6 : ((x2 / 1024 : Nat) : Int) = (x2 : Int) / 1024 := by omega
          rw [show rotrN x15 7 ^^^ rotrN x15 18 ^^^ x15 / 8 = sch0 x15 from rfl, f5] at f2
          rw [show rotrN x2 17 ^^^ rotrN x2 19 ^^^ x2 / 1024 = sch1 x2 from rfl, f6] at f4
          have ls0 := sch0_lt l15
          have ls1 := sch1_lt l2
          obtain ⟨a1, ea1⟩ : ∃ a, a = rotrN x15 7 := ⟨_, rfl⟩
          obtain ⟨a2, ea2⟩ : ∃ a, a = rotrN x15 18 := ⟨_, rfl⟩
          obtain ⟨a3, ea3⟩ : ∃ a, a = rotrN x2 17 := ⟨_, rfl⟩
          obtain ⟨a4, ea4⟩ : ∃ a, a = rotrN x2 19 := ⟨_, rfl⟩
          obtain ⟨a5, ea5⟩ : ∃ a, a = a1 ^^^ a2 := ⟨_, rfl⟩
          obtain ⟨a6, ea6⟩ : ∃ a, a = a3 ^^^ a4 := ⟨_, rfl⟩
          obtain ⟨a7, ea7⟩ : ∃ a, a = sch0 x15 := ⟨_, rfl⟩
          obtain ⟨a8, ea8⟩ : ∃ a, a = sch1 x2 := ⟨_, rfl⟩
          rw [← ea1] at R1 f1 f2
          rw [← ea2] at R2 f1 f2
          rw [← ea3] at R3 f3 f4
          rw [← ea4] at R4 f3 f4
          rw [← ea5] at f1 f2
          rw [← ea6] at f3 f4
          rw [← ea7] at f2 hw ls0
          rw [← ea8] at f4 hw ls1
          have HR1 := Lib.hid R1
          have HR2 := Lib.hid R2
          have HR3 := Lib.hid R3
          have HR4 := Lib.hid R4
          have g1 := u32_s a8 x7
          have g2 := u32_s (add32 a8 x7) a7
          have g3 := u32_s (add32 (add32 a8 x7) a7) x16
          obtain ⟨d1, ed1⟩ : ∃ d, d = add32 a8 x7 := ⟨_, rfl⟩
          rw [← ed1] at g1 g2 g3 hw
          obtain ⟨d2, ed2⟩ : ∃ d, d = add32 d1 a7 := ⟨_, rfl⟩
          rw [← ed2] at g2 g3 hw
          obtain ⟨d3, ed3⟩ : ∃ d, d = add32 d2 x16 := ⟨_, rfl⟩
          rw [← ed3] at g3 hw
          have g4 := g1
          have g5 := g2
          have g6 := g3
          rw [IntKind.wrap_u32] at g4 g5 g6
          have HW := Lib.hid hw
          have n15 : ((t : Int) - 15).toNat = t - 15 := by omega
          have n2 : ((t : Int) - 2).toNat = t - 2 := by omega
          have n7 : ((t : Int) - 7).toNat = t - 7 := by omega
          have n16 : ((t : Int) - 16).toNat = t - 16 := by omega
          have z15 : (0 : Int) ≤ (t : Int) - 15 := by omega
          have z2 : (0 : Int) ≤ (t : Int) - 2 := by omega
          have z7 : (0 : Int) ≤ (t : Int) - 7 := by omega
          have z16 : (0 : Int) ≤ (t : Int) - 16 := by omega
          have ge15 : (15 : Int) ≤ (t : Int) := by omega
          have ge2 : (2 : Int) ≤ (t : Int) := by omega
          have ge7 : (7 : Int) ≤ (t : Int) := by omega
          have ge16 : (16 : Int) ≤ (t : Int) := by omega
          have y15 : (t : Int) - 15 < (t : Int) := by omega
          have y2 : (t : Int) - 2 < (t : Int) := by omega
          have y7 : (t : Int) - 7 < (t : Int) := by omega
          have y16 : (t : Int) - 16 < (t : Int) := by omega
          have v15 : IntKind.i64.wrap ((t : Int) - 15) = (t : Int) - 15 := IntWalk.i64_in _ (by omega)
          have v2 : IntKind.i64.wrap ((t : Int) - 2) = (t : Int) - 2 := IntWalk.i64_in _ (by omega)
          have v7 : IntKind.i64.wrap ((t : Int) - 7) = (t : Int) - 7 := IntWalk.i64_in _ (by omega)
          have v16 : IntKind.i64.wrap ((t : Int) - 16) = (t : Int) - 16 := IntWalk.i64_in _ (by omega)
          clear hlen hcell hlw hw e15 e2 e7 e16 R1 R2 R3 R4 f5 f6 ea1 ea2 ea3 ea4 ea5 ea6 ea7 ea8 ed1 ed2 ed3 l15 l2 l7 l16
          go_wp2
          go_quiet ((go_at_call 80; first | (with_reducible exact Calls.quiet_of (HR1.out _)) | (with_reducible exact Calls.quiet_of (HR2.out _)) | exact Calls.quiet_of (HR1.out _) | exact Calls.quiet_of (HR2.out _)))
          obtain ⟨m1, rfl⟩ : ∃ m, m = nq := ⟨nq, rfl⟩
          go_wp2
          go_quiet ((go_at_call 80; first | (with_reducible exact quiet_add (HR3.out _)) | (with_reducible exact quiet_add (HR4.out _)) | exact quiet_add (HR3.out _) | exact quiet_add (HR4.out _)))
          go_wp2
          obtain ⟨W, hW⟩ : ∃ W, W = (wr.drewN m1).drewN nq := ⟨_, rfl⟩
          have hownW : W.ownsRow w.heap.size 61 1 (.slice (some ⟨g, 0, none⟩) t cap) t ((up (wordsTo b t)).map (Value.int .u32)) := by rw [hW]; exact hown
          have hbelW : Below w.heap.size w W := by rw [hW]; exact below_drewN (below_drewN hbel m1) nq
          have hm7 : W.cell? ⟨g, t - 7, none⟩ = some (.int .u32 (x7 : Int)) := by rw [hW]; exact m7
          have hm16 : W.cell? ⟨g, t - 16, none⟩ = some (.int .u32 (x16 : Int)) := by rw [hW]; exact m16
          rw [← hW]
          clear hown hbel m15 m2 m7 m16 hW
          have hsz := hbelW.size
          have hgW := World.block_lt_of_cell? W _ hm7
          go_region_law (refine step_append_lies _ (by rfl) _ _ _ (by rfl) w.heap.size 61 i0 _ 1 4 Tryd.underlying103 hi hz0 hz1 hz2 rfl (by omega) _ t _ (by rfl) ((hownW.alloc _).drew) ⟨W.heap.size, 0, none⟩ 1 1 [.int .u32 (d3 : Int)] (by rfl) (by rfl) (cell_one_new W (.int .u32 (d3 : Int)) 61) (by simp [Value.oneCell']) (by omega) (by unfold maxLen; omega) (by omega) (by simp; omega) (W.heap.size + 1) (by simp) ?_; intro gg cap1 w1 hown1 hgrow hat hlt')
          all_goals
            have R : w1.ownsRow w.heap.size 61 1 (.slice (some ⟨gg, 0, none⟩) (t + 1) cap1) (t + 1) ((up (wordsTo b (t + 1))).map (Value.int .u32)) ∧ Below w.heap.size w w1 := by
              rw [HW.out, up_append, List.map_append]
              exact ⟨hown1, ((hbelW.alloc hsz _).drew).grown hgrow (by simp; omega) fun q hq => (hownW.lt q hq).1⟩
            clear hown1 hgrow hownW hbelW hm7 hm16
            go_wp2
            go_roundw
            case rel => first | exact ⟨t + 1, by omega, by omega, by omega, ⟨gg, cap1, rfl, R.1⟩⟩ | exact ⟨t + 1, by omega, by omega, by go_num, ⟨gg, cap1, rfl, R.1⟩, R.2⟩ | ((repeat apply Exists.intro); exact ⟨⟨t + 1, by omega, by omega, by go_num, ⟨gg, cap1, rfl, R.1⟩, R.2⟩, rfl⟩)
            case measure => simp [intOf]; omega
        · have ht64 : t = 64 := by omega
          subst ht64
          have hl8 : (up s.list).length = 8 := rfl
          obtain ⟨b0, o0, e0, hb0, hc0⟩ := (h0.below hbel).at_ (by omega)
          have s0 := hc0 0 (by omega)
          have s1 := hc0 1 (by omega)
          have s2 := hc0 2 (by omega)
          have s3 := hc0 3 (by omega)
          have s4 := hc0 4 (by omega)
          have s5 := hc0 5 (by omega)
          have s6 := hc0 6 (by omega)
          have s7 := hc0 7 (by omega)
          simp only [up_getD, Eight.list, List.getD_cons_zero, List.getD_cons_succ, Nat.add_zero] at s0 s1 s2 s3 s4 s5 s6 s7
          obtain rfl := e0
          clear hc0 hl8
          go_wp2
          go_quiet (fail)
          go_wp2
          have HO := Lib.hid hs
          have hownA := hown
          have hbelA := hbel
          go_loopw [12, 13, 14, 15, 16, 17, 18, 19, 20] (fun va vb vc vd ve vf vg vh i wr' => ∃ (t : Nat) (st : Eight), t ≤ 64 ∧ i = .int .i64 t ∧ Hid (st = roundsTo s shaK (wordsTo b 64) t) ∧ va = .int .u32 (st.a : Int) ∧ vb = .int .u32 (st.b : Int) ∧ vc = .int .u32 (st.c : Int) ∧ vd = .int .u32 (st.d : Int) ∧
              ve = .int .u32 (st.e : Int) ∧ vf = .int .u32 (st.f : Int) ∧ vg = .int .u32 (st.g : Int) ∧ vh = .int .u32 (st.h : Int) ∧ ∃ m, wr' = wr.drewN m) (fun _ _ _ _ _ _ _ _ i _ => 64 - (intOf i).toNat)
          case atStart => exact ⟨0, s, by omega, rfl, rfl, rfl, rfl, rfl, rfl, rfl, rfl, rfl, rfl, nq, rfl⟩
          case round =>
            obtain ⟨t, st, ht, rfl, hst, rfl, rfl, rfl, rfl, rfl, rfl, rfl, rfl, m, rfl⟩ := hrel
            have hok : st.ok := by rw [hst.out]; exact roundsTo_ok HO.out _ _ t
            obtain ⟨la, lb, lc, ld, le, lf, lg, lh⟩ := hok
            by_cases hlt : t < 64
            · obtain ⟨bk, ok, ek, hbk, hck⟩ := (h1.below hbelA).at_ (by rw [up_len]; decide)
              have mk := hck t (by rw [up_len]; exact hlt)
              rw [up_getD] at mk
              have mw : wr.cell? ⟨g, t, none⟩ = some (.int .u32 (((wordsTo b 64).getD t 0 : Nat) : Int)) := by
                rw [hownA.cellAt t (by omega), List.getElem?_map, List.getElem?_eq_getElem (by rw [up_len, wordsTo_len]; omega), Option.map_some]
                have := up_getD (wordsTo b 64) t
                rw [List.getD_eq_getElem?_getD, List.getElem?_eq_getElem (by rw [up_len, wordsTo_len]; omega), Option.getD_some] at this
                rw [this]
              have lk : shaK.getD t 0 < 2 ^ 32 := getD_lt (by decide) (by decide) t
              have lw : (wordsTo b 64).getD t 0 < 2 ^ 32 := getD_lt (by decide) (wordsTo_lt HB.out 64) t
              have hnext : roundN st (shaK.getD t 0) ((wordsTo b 64).getD t 0) = roundsTo s shaK (wordsTo b 64) (t + 1) := by rw [hst.out]; rfl
              unfold roundN t1N t2N at hnext
              obtain ⟨kt, e_kt⟩ : ∃ n, n = shaK.getD t 0 := ⟨_, rfl⟩
              obtain ⟨wt, e_wt⟩ : ∃ n, n = (wordsTo b 64).getD t 0 := ⟨_, rfl⟩
              rw [← e_kt] at mk lk hnext
              rw [← e_wt] at mw lw hnext
              obtain ⟨a, b', c, d, e, f, g', h⟩ := st
              dsimp only at la lb lc ld le lf lg lh hnext ⊢
              obtain rfl := ek
              have R1 := fun W => rotr_any e 6 W le (by omega)
              have R2 := fun W => rotr_any e 11 W le (by omega)
              have R3 := fun W => rotr_any e 25 W le (by omega)
              have R4 := fun W => rotr_any a 2 W la (by omega)
              have R5 := fun W => rotr_any a 13 W la (by omega)
              have R6 := fun W => rotr_any a 22 W la (by omega)
              have f1 := u32_x (rotrN e 6) (rotrN e 11) (rotrN_lt le) (rotrN_lt le)
              have f2 := u32_x (rotrN e 6 ^^^ rotrN e 11) (rotrN e 25) (xor_lt (rotrN_lt le) (rotrN_lt le)) (rotrN_lt le)
              rw [show rotrN e 6 ^^^ rotrN e 11 ^^^ rotrN e 25 = big1 e from rfl] at f2
              have f3 := u32_a e f le lf
              have f4 := u32_n e le
              have f5 := u32_a (not32 e) g' (not32_lt le) lg
              have f6 := u32_x (e &&& f) (not32 e &&& g') (and_lt lf) (and_lt lg)
              rw [show (e &&& f) ^^^ (not32 e &&& g') = chN e f g' from rfl] at f6
              have f7 := u32_x (rotrN a 2) (rotrN a 13) (rotrN_lt la) (rotrN_lt la)
              have f8 := u32_x (rotrN a 2 ^^^ rotrN a 13) (rotrN a 22) (xor_lt (rotrN_lt la) (rotrN_lt la)) (rotrN_lt la)
              rw [show rotrN a 2 ^^^ rotrN a 13 ^^^ rotrN a 22 = big0 a from rfl] at f8
              have f9 := u32_a a b' la lb
              have f10 := u32_a a c la lc
              have f11 := u32_a b' c lb lc
              have f12 := u32_x (a &&& b') (a &&& c) (and_lt lb) (and_lt lc)
              have f13 := u32_x ((a &&& b') ^^^ (a &&& c)) (b' &&& c) (xor_lt (and_lt lb) (and_lt lc)) (and_lt lc)
              rw [show (a &&& b') ^^^ (a &&& c) ^^^ (b' &&& c) = majN a b' c from rfl] at f13
              have g1 := u32_s h (big1 e)
              have g2 := u32_s (add32 h (big1 e)) (chN e f g')
              have g3 := u32_s (add32 (add32 h (big1 e)) (chN e f g')) kt
              have g4 := u32_s (add32 (add32 (add32 h (big1 e)) (chN e f g')) kt) wt
              have g5 := u32_s (big0 a) (majN a b' c)
              have g6 := u32_s d (add32 (add32 (add32 (add32 h (big1 e)) (chN e f g')) kt) wt)
              have g7 := u32_s (add32 (add32 (add32 (add32 h (big1 e)) (chN e f g')) kt) wt) (add32 (big0 a) (majN a b' c))
              obtain ⟨x1, e_x1⟩ : ∃ n, n = rotrN e 6 := ⟨_, rfl⟩
              rw [← e_x1] at R1 f1 f2
              obtain ⟨x2, e_x2⟩ : ∃ n, n = rotrN e 11 := ⟨_, rfl⟩
              rw [← e_x2] at R2 f1 f2
              obtain ⟨x3, e_x3⟩ : ∃ n, n = rotrN e 25 := ⟨_, rfl⟩
              rw [← e_x3] at R3 f2
              obtain ⟨x4, e_x4⟩ : ∃ n, n = x1 ^^^ x2 := ⟨_, rfl⟩
              rw [← e_x4] at f1 f2
              obtain ⟨x5, e_x5⟩ : ∃ n, n = big1 e := ⟨_, rfl⟩
              rw [← e_x5] at f2 g1 g2 g3 g4 g6 g7 hnext
              obtain ⟨y1, e_y1⟩ : ∃ n, n = e &&& f := ⟨_, rfl⟩
              rw [← e_y1] at f3 f6
              obtain ⟨y2, e_y2⟩ : ∃ n, n = not32 e := ⟨_, rfl⟩
              rw [← e_y2] at f4 f5 f6
              obtain ⟨y3, e_y3⟩ : ∃ n, n = y2 &&& g' := ⟨_, rfl⟩
              rw [← e_y3] at f5 f6
              obtain ⟨y4, e_y4⟩ : ∃ n, n = chN e f g' := ⟨_, rfl⟩
              rw [← e_y4] at f6 g2 g3 g4 g6 g7 hnext
              obtain ⟨x6, e_x6⟩ : ∃ n, n = rotrN a 2 := ⟨_, rfl⟩
              rw [← e_x6] at R4 f7 f8
              obtain ⟨x7, e_x7⟩ : ∃ n, n = rotrN a 13 := ⟨_, rfl⟩
              rw [← e_x7] at R5 f7 f8
              obtain ⟨x8, e_x8⟩ : ∃ n, n = rotrN a 22 := ⟨_, rfl⟩
              rw [← e_x8] at R6 f8
              obtain ⟨x9, e_x9⟩ : ∃ n, n = x6 ^^^ x7 := ⟨_, rfl⟩
              rw [← e_x9] at f7 f8
              obtain ⟨z0, e_z0⟩ : ∃ n, n = big0 a := ⟨_, rfl⟩
              rw [← e_z0] at f8 g5 g7 hnext
              obtain ⟨z1, e_z1⟩ : ∃ n, n = a &&& b' := ⟨_, rfl⟩
              rw [← e_z1] at f9 f12 f13
              obtain ⟨z2, e_z2⟩ : ∃ n, n = a &&& c := ⟨_, rfl⟩
              rw [← e_z2] at f10 f12 f13
              obtain ⟨z3, e_z3⟩ : ∃ n, n = b' &&& c := ⟨_, rfl⟩
              rw [← e_z3] at f11 f13
              obtain ⟨z4, e_z4⟩ : ∃ n, n = z1 ^^^ z2 := ⟨_, rfl⟩
              rw [← e_z4] at f12 f13
              obtain ⟨z5, e_z5⟩ : ∃ n, n = majN a b' c := ⟨_, rfl⟩
              rw [← e_z5] at f13 g5 g7 hnext
              obtain ⟨q1, e_q1⟩ : ∃ n, n = add32 h x5 := ⟨_, rfl⟩
              rw [← e_q1] at g1 g2 g3 g4 g6 g7 hnext
              obtain ⟨q2, e_q2⟩ : ∃ n, n = add32 q1 y4 := ⟨_, rfl⟩
              rw [← e_q2] at g2 g3 g4 g6 g7 hnext
              obtain ⟨q3, e_q3⟩ : ∃ n, n = add32 q2 kt := ⟨_, rfl⟩
              rw [← e_q3] at g3 g4 g6 g7 hnext
              obtain ⟨q4, e_q4⟩ : ∃ n, n = add32 q3 wt := ⟨_, rfl⟩
              rw [← e_q4] at g4 g6 g7 hnext
              obtain ⟨q5, e_q5⟩ : ∃ n, n = add32 z0 z5 := ⟨_, rfl⟩
              rw [← e_q5] at g5 g7 hnext
              obtain ⟨q6, e_q6⟩ : ∃ n, n = add32 d q4 := ⟨_, rfl⟩
              rw [← e_q6] at g6 hnext
              obtain ⟨q7, e_q7⟩ : ∃ n, n = add32 q4 q5 := ⟨_, rfl⟩
              rw [← e_q7] at g7 hnext
              have k1 := g1
              rw [IntKind.wrap_u32] at k1
              have k2 := g2
              rw [IntKind.wrap_u32] at k2
              have k3 := g3
              rw [IntKind.wrap_u32] at k3
              have k4 := g4
              rw [IntKind.wrap_u32] at k4
              have k5 := g5
              rw [IntKind.wrap_u32] at k5
              have k6 := g6
              rw [IntKind.wrap_u32] at k6
              have k7 := g7
              rw [IntKind.wrap_u32] at k7
              have HR1 := Lib.hid R1
              have HR2 := Lib.hid R2
              have HR3 := Lib.hid R3
              have HR4 := Lib.hid R4
              have HR5 := Lib.hid R5
              have HR6 := Lib.hid R6
              have HN := Lib.hid hnext
              have HQ7 : Hid (((q1 : Int) + (y4 : Int) + (kt : Int) + (wt : Int) + (q5 : Int)) % 4294967296 = (q7 : Int)) := by
                unfold Hid; rw [e_q7, e_q4, e_q3, e_q2]; unfold add32; omega
              have HQ6 : Hid (((d : Int) + ((q1 : Int) + (y4 : Int) + (kt : Int) + (wt : Int))) % 4294967296 = (q6 : Int)) := by
                unfold Hid; rw [e_q6, e_q4, e_q3, e_q2]; unfold add32; omega
              have t0 : (0 : Int) ≤ (t : Int) := by omega
              have t1 : (t : Int) < 64 := by omega
              clear R1 R2 R3 R4 R5 R6 hnext hown hbel hck e_x1 e_x2 e_x3 e_x4 e_x5 e_y1 e_y2 e_y3 e_y4 e_x6 e_x7 e_x8 e_x9 e_z0 e_z1 e_z2 e_z3 e_z4 e_z5 e_q1 e_q2 e_q3 e_q4 e_q5 e_q6 e_q7 e_kt e_wt la lb lc ld le lf lg lh lk lw s0 s1 s2 s3 s4 s5 s6 s7
              go_wp2
              go_quiet ((go_at_call 80; first | (with_reducible exact quiet_add (HR1.out _)) | (with_reducible exact quiet_add (HR2.out _)) | (with_reducible exact quiet_add (HR3.out _)) | exact quiet_add (HR1.out _) | exact quiet_add (HR2.out _) | exact quiet_add (HR3.out _)))
              go_wp2_with (first
                | (go_at_call 80; with_reducible (refine Calls.mono (HR4.out _) ?_); rintro e w' ⟨rfl, m4, rfl⟩)
                | (go_at_call 80; with_reducible (refine Calls.mono (HR5.out _) ?_); rintro e w' ⟨rfl, m5, rfl⟩)
                | (go_at_call 80; with_reducible (refine Calls.mono (HR6.out _) ?_); rintro e w' ⟨rfl, m6, rfl⟩)
                | (go_at_call 80; refine Calls.mono (HR4.out _) ?_; rintro e w' ⟨rfl, m4, rfl⟩)
                | (go_at_call 80; refine Calls.mono (HR5.out _) ?_; rintro e w' ⟨rfl, m5, rfl⟩)
                | (go_at_call 80; refine Calls.mono (HR6.out _) ?_; rintro e w' ⟨rfl, m6, rfl⟩))
              go_roundw
              case rel =>
                have v7 : Value.int IntKind.u32 (((q1 : Int) + (y4 : Int) + (kt : Int) + (wt : Int) + (q5 : Int)) % 4294967296) = .int .u32 (q7 : Int) := congrArg _ HQ7.out
                have v6 : Value.int IntKind.u32 (((d : Int) + ((q1 : Int) + (y4 : Int) + (kt : Int) + (wt : Int))) % 4294967296) = .int .u32 (q6 : Int) := congrArg _ HQ6.out
                exact ⟨_, _, _, _, _, _, _, _, .int .i64 ((t + 1 : Nat) : Int), ⟨t + 1, by omega, rfl, ⟨q7, a, b', c, q6, e, f, g'⟩, HN.out, rfl, rfl, rfl, rfl, rfl, rfl, rfl, rfl, _, rfl⟩, v7, rfl, rfl, rfl, v6, rfl, rfl, rfl, by go_num⟩
              case measure => simp [intOf]; omega
            · have ht64 : t = 64 := by omega
              subst ht64
              have hfin : s.plus st = blockN s b := by unfold blockN; rw [hst.out]
              obtain ⟨a, b', c, d, e, f, g', h⟩ := st
              obtain ⟨sa, sb, sc, sd, se, sf, sg, sh⟩ := s
              dsimp only [Eight.plus] at hfin s0 s1 s2 s3 s4 s5 s6 s7 ⊢
              have g0 := u32_s sa a
              have g1 := u32_s sb b'
              have g2 := u32_s sc c
              have g3 := u32_s sd d
              have g4 := u32_s se e
              have g5 := u32_s sf f
              have g6 := u32_s sg g'
              have g7 := u32_s sh h
              obtain ⟨r0, e_0⟩ : ∃ n, n = add32 sa a := ⟨_, rfl⟩
              obtain ⟨r1, e_1⟩ : ∃ n, n = add32 sb b' := ⟨_, rfl⟩
              obtain ⟨r2, e_2⟩ : ∃ n, n = add32 sc c := ⟨_, rfl⟩
              obtain ⟨r3, e_3⟩ : ∃ n, n = add32 sd d := ⟨_, rfl⟩
              obtain ⟨r4, e_4⟩ : ∃ n, n = add32 se e := ⟨_, rfl⟩
              obtain ⟨r5, e_5⟩ : ∃ n, n = add32 sf f := ⟨_, rfl⟩
              obtain ⟨r6, e_6⟩ : ∃ n, n = add32 sg g' := ⟨_, rfl⟩
              obtain ⟨r7, e_7⟩ : ∃ n, n = add32 sh h := ⟨_, rfl⟩
              rw [← e_0] at g0 hfin
              rw [← e_1] at g1 hfin
              rw [← e_2] at g2 hfin
              rw [← e_3] at g3 hfin
              rw [← e_4] at g4 hfin
              rw [← e_5] at g5 hfin
              rw [← e_6] at g6 hfin
              rw [← e_7] at g7 hfin
              have k0 := g0
              have k1 := g1
              have k2 := g2
              have k3 := g3
              have k4 := g4
              have k5 := g5
              have k6 := g6
              have k7 := g7
              rw [IntKind.wrap_u32] at k0 k1 k2 k3 k4 k5 k6 k7
              have HFin := Lib.hid hfin
              have HNew := Lib.hid (fun (W : World) => Ints.new W 61 .u32 (up [r0, r1, r2, r3, r4, r5, r6, r7]) #[.int .u32 (r0 : Int), .int .u32 (r1 : Int), .int .u32 (r2 : Int), .int .u32 (r3 : Int), .int .u32 (r4 : Int), .int .u32 (r5 : Int), .int .u32 (r6 : Int), .int .u32 (r7 : Int)] rfl)
              have hbelB := below_drewN hbelA m
              obtain ⟨W, hW⟩ : ∃ W, W = wr.drewN m := ⟨_, rfl⟩
              have S0 : W.cell? ⟨b0, o0, none⟩ = some (.int .u32 (sa : Int)) := by rw [hW]; exact s0
              have S1 : W.cell? ⟨b0, o0 + 1, none⟩ = some (.int .u32 (sb : Int)) := by rw [hW]; exact s1
              have S2 : W.cell? ⟨b0, o0 + 2, none⟩ = some (.int .u32 (sc : Int)) := by rw [hW]; exact s2
              have S3 : W.cell? ⟨b0, o0 + 3, none⟩ = some (.int .u32 (sd : Int)) := by rw [hW]; exact s3
              have S4 : W.cell? ⟨b0, o0 + 4, none⟩ = some (.int .u32 (se : Int)) := by rw [hW]; exact s4
              have S5 : W.cell? ⟨b0, o0 + 5, none⟩ = some (.int .u32 (sf : Int)) := by rw [hW]; exact s5
              have S6 : W.cell? ⟨b0, o0 + 6, none⟩ = some (.int .u32 (sg : Int)) := by rw [hW]; exact s6
              have S7 : W.cell? ⟨b0, o0 + 7, none⟩ = some (.int .u32 (sh : Int)) := by rw [hW]; exact s7
              rw [← hW] at hbelB ⊢
              clear hfin e_0 e_1 e_2 e_3 e_4 e_5 e_6 e_7 hown hbel hownA hbelA s0 s1 s2 s3 s4 s5 s6 s7 hW
              go_wp2
              go_still_tail 40, (by kernel_rfl)
              change wpList _ _ _ _ _ W.drew
              go_wp2
              go_ret
              refine ⟨_, _, rfl, Nat.le_refl _, ?_, (hbelB.alloc hbelB.size _).drew⟩
              rw [← HFin.out]
              exact ((HNew.out W).more (B' := (W.alloc _).heap.size) (Nat.le_of_eq (World.size_alloc _ _).symm)).drew

end Go.Proofs.YtanpfodmmeagaaaDoor
