/-
  Slices put one behind the other into a new one; what stands behind a text.
-/
import Derived.Test.YtocnbhefjhammaaDoorShaC6
import Derived.Test.YtocnbhefjhammaaDoorRows2
import Derived.Lib.AppendZeros
import Derived.Lib.AppendZerosOnto
namespace Go.Proofs.YtocnbhefjhammaaDoor
open Go.RowKit

/-- 'slices.Grow' of no slice. -/
theorem grow_any (n : Nat) (w : World) (h0 : 0 < n) (hn : n ≤ 140737488355328) :
    Calls Tryd.prog 41 #[.slice none 0 0, .int .i64 n] w fun e w' => ∃ g c, e = .returned (.slice (some ⟨g, 0, none⟩) 0 c) ∧ w'.ownsRow w.heap.size 5 1 (.slice (some ⟨g, 0, none⟩) 0 c) 0 [] ∧ Below w.heap.size w w' := by
  obtain ⟨i0, hi, hz0, hz1, hz2⟩ := info_parts Tryd.infoU8
  have hrz : ∀ ty, (Builtin.append_ #[22, 3] ty #[.slice none 0 0, .int .i64 (n : Int)]).run Tryd.prog w =
      .ok (.slice (some ⟨w.heap.size, 0, none⟩) n (grownCap w n 0 5)) (w.drew.alloc (.cells (Builtin.zeroCells (Value.int .u8 0).cells n ++ Builtin.zeroCells (Value.int .u8 0).cells (grownCap w n 0 5 - n)) 5)) := fun ty =>
    Lib.run_append_nil_zeros w 22 3 ty 5 i0 (.int .u8 0) .i64 .i64 Tryd.underlying22 Tryd.underlying3 hi hz0 n h0 (by rw [hz1]; decide) (by omega) (by rw [hz2]; omega)
  have h1 := grownCap_ge w n 0 5
  have h2 := grownCap_le_maxLen w n 0 5 (by unfold maxLen; omega)
  have HS : Hid ((Builtin.zeroCells (Value.int .u8 0).cells n ++ Builtin.zeroCells (Value.int .u8 0).cells (grownCap w n 0 5 - n)).size = grownCap w n 0 5) := by
    unfold Hid
    rw [Array.size_append, size_zeroCells, size_zeroCells]
    simp [Value.cells]; omega
  obtain ⟨G, hG⟩ : ∃ G, G = grownCap w n 0 5 := ⟨_, rfl⟩
  rw [← hG] at hrz h1 h2 HS
  obtain ⟨C, hC⟩ : ∃ C, C = Builtin.zeroCells (Value.int .u8 0).cells n ++ Builtin.zeroCells (Value.int .u8 0).cells (G - n) := ⟨_, rfl⟩
  rw [← hC] at hrz HS
  have HO : Hid ((w.drew.alloc (.cells C 5)).ownsRow w.heap.size 5 1 (.slice (some ⟨w.heap.size, 0, none⟩) 0 G) 0 []) :=
    ⟨rfl, Or.inr ⟨w.heap.size, G, C, rfl, Nat.le_refl _, heap_alloc_new w.drew _, Nat.zero_le _, h2, by rw [HS.out, Nat.mul_one], by simp⟩⟩
  have HB : Hid (Below w.heap.size w (w.drew.alloc (.cells C 5))) := ((Below.refl _ _).drew).alloc (Nat.le_refl _) _
  have hG2 : (G : Int) ≤ 9223372036854775807 := by unfold maxLen at h2; omega
  have hn0 : (0 : Int) < (n : Int) := by omega
  have hn1 : ¬ ((n : Int) < 0) := by omega
  clear hG hC HS h2 hz0 hz1 hz2 hi
  go_enter Tryd.func41, Tryd.ntmps41
  go_wp2_with (at_builtin; refine Lib.wpList_append_run _ rfl _ _ _ _ rfl _ _ rfl rfl _ _ (hrz _) ?_)
  go_ret
  exact ⟨_, _, rfl, HO.out, HB.out⟩

set_option maxHeartbeats 800000 in
/-- 'slices.Concat' of slices of bytes. -/
theorem concat_any (A : Option Addr) (c : Nat) (ps : List Part) (w : World) (hp : Parts w w.heap.size A ps) (h0 : 0 < (catTo ps ps.length).length) (hm : (catTo ps ps.length).length ≤ 1048576) (hps : ps.length ≤ 1048576) :
    Calls Tryd.prog 38 #[.slice A ps.length c] w fun e w' => ∃ A' c', e = .returned (.slice A' (catTo ps ps.length).length c') ∧ (catTo ps ps.length).length ≤ c' ∧ Ints w' w'.heap.size .u8 A' (up (catTo ps ps.length)) ∧ (A' = none → c' = 0) ∧ (∀ a, A' = some a → w.heap.size ≤ a.block) ∧ Below w.heap.size w w' := by
  obtain ⟨i0, hi, hz0, hz1, hz2⟩ := info_parts Tryd.infoU8
  have HP := Lib.hid hp
  have HG := Lib.hid (grow_any (catTo ps ps.length).length w h0 (by omega))
  have HLE : Hid (∀ k, (catTo ps k).length ≤ 1048576) := fun k => by
    have : (catTo ps k).length ≤ (catTo ps ps.length).length := by
      simp only [catTo, List.take_length, List.length_flatten]
      rw [show ps.map Part.b = (ps.take k).map Part.b ++ (ps.drop k).map Part.b from by rw [← List.map_append, List.take_append_drop], List.map_append, List.sum_append]
      exact Nat.le_add_right _ _
    omega
  clear hp
  go_enter Tryd.func38, Tryd.ntmps38
  go_wp2
  go_loop [3, 11] (fun s i => ∃ k : Nat, k ≤ ps.length ∧ i = .int .i64 k ∧ s = .int .i64 (catTo ps k).length) (fun _ i => ps.length - (intOf i).toNat)
  case atStart => exact ⟨0, Nat.zero_le _, rfl, rfl⟩
  case round =>
    obtain ⟨k, hk, rfl, rfl⟩ := hrel
    by_cases hlt : k < ps.length
    · obtain ⟨b0, off, e1, hblk, hcell, hpok⟩ := HP.out k hlt
      have hle := HLE.out (k + 1)
      have hcat := catTo_next ps k hlt
      have hsum : ((catTo ps (k + 1)).length : Int) = ((catTo ps k).length : Int) + (ps[k].b.length : Int) := by rw [hcat, List.length_append]; omega
      have HSU := Lib.hid hsum
      obtain ⟨PA, hPA⟩ : ∃ x, x = ps[k].A := ⟨_, rfl⟩
      obtain ⟨pc, hpc⟩ : ∃ x, x = ps[k].c := ⟨_, rfl⟩
      obtain ⟨pn, hpn⟩ : ∃ x, x = ps[k].b.length := ⟨_, rfl⟩
      rw [← hPA, ← hpc, ← hpn] at hcell
      rw [← hpn] at HSU
      obtain ⟨ck, hck⟩ : ∃ x, x = (catTo ps k).length := ⟨_, rfl⟩
      have hck1 : ck ≤ 1048576 := by rw [hck]; exact HLE.out k
      have hpn1 : pn ≤ 1048576 := by have := HSU.out; omega
      rw [← hck] at HSU ⊢
      have hkc : (k : Int) < (ps.length : Int) := by omega
      have hnn : ¬ (((ck : Int) + (pn : Int)) < 0) := by omega
      obtain rfl := e1
      clear hcat hsum hpok hPA hpc hpn hck hle
      go_wp2
      go_round
      case rel => exact ⟨k + 1, by omega, by go_num, by rw [HSU.out]⟩
      case measure => simp [intOf]; omega
    · have hkn : k = ps.length := by omega
      subst hkn
      go_wp2_with (go_at_call 41; with_reducible (refine Calls.mono HG.out ?_); rintro e w1 ⟨g1, c1, rfl, hown1, hb1⟩)
      have hown2 : w1.ownsRow w.heap.size 5 1 (.slice (some ⟨g1, 0, none⟩) 0 c1) (catTo ps 0).length ((up (catTo ps 0)).map (Value.int .u8)) := hown1
      clear hown1
      go_loopw [6, 27] (fun v i wr => ∃ k : Nat, k ≤ ps.length ∧ i = .int .i64 k ∧ wr.ownsRow w.heap.size 5 1 v (catTo ps k).length ((up (catTo ps k)).map (Value.int .u8)) ∧ Below w.heap.size w wr) (fun _ i _ => ps.length - (intOf i).toNat)
      case atStart => exact ⟨0, Nat.zero_le _, rfl, hown2, hb1⟩
      case round =>
        clear hown2 hb1
        obtain ⟨k, hk, rfl, hown, hbel⟩ := hrel
        by_cases hlt : k < ps.length
        · obtain ⟨b0, off, e1, hblk, hcell, hpok⟩ := HP.out k hlt
          have hcell' := (hbel.cell (p := ⟨b0, off + k, none⟩) hblk).trans hcell
          have hle := HLE.out (k + 1)
          have hle0 := HLE.out k
          have hcat := catTo_next ps k hlt
          have hint := hpok.ints.below hbel
          have hnil := hpok.nil
          have hsz := hbel.size
          rw [hcat, List.length_append] at hle
          have HCT := Lib.hid hcat
          obtain ⟨PA, hPA⟩ : ∃ x, x = ps[k].A := ⟨_, rfl⟩
          obtain ⟨pc, hpc⟩ : ∃ x, x = ps[k].c := ⟨_, rfl⟩
          obtain ⟨pb, hpb⟩ : ∃ x, x = ps[k].b := ⟨_, rfl⟩
          rw [← hPA, ← hpc, ← hpb] at hcell'
          rw [← hpb] at HCT hle
          rw [← hPA, ← hpb] at hint
          rw [← hPA, ← hpc] at hnil
          have HNIL := Lib.hid hnil
          have hkc : (k : Int) < (ps.length : Int) := by omega
          obtain rfl := e1
          clear hcat hpok hPA hpc hpb hcell hnil
          go_wp2_with (at_builtin; refine wpList_append_when _ rfl (.tmp 31) (.tmp 32) 22 rfl w.heap.size 5 i0 (.int .u8 0) 1 Tryd.underlying22 hi hz0 hz1 hz2 rfl .u8 _ (up (catTo ps k)) (up pb) w.heap.size pc pb.length PA (up_len pb) rfl rfl (by rw [up_len]; exact hown) hint HNIL.out ?d1 ?d2 hsz ?_)
          case d1 => rw [up_len, up_len]; unfold maxLen; omega
          case d2 => rw [up_len, up_len]; omega
          intro v3 w3 hown3 hg3 _
          have R : w3.ownsRow w.heap.size 5 1 v3 (catTo ps (k + 1)).length ((up (catTo ps (k + 1))).map (Value.int .u8)) ∧ Below w.heap.size w w3 := by
            refine ⟨?_, hbel.grown hg3 hsz fun q hq => (hown.lt q hq).1⟩
            rw [HCT.out, up_append, List.map_append, List.length_append, ← up_len (catTo ps k), ← up_len pb]; exact hown3
          clear hown3 hg3 hown hbel hcell' hint
          go_wp2
          go_roundw
          case rel => exact ⟨k + 1, by omega, by go_num, R.1, R.2⟩
          case measure => simp [intOf]; omega
        · have hkn : k = ps.length := by omega
          subst hkn
          obtain ⟨A3, c3, hv⟩ := own_slice hown
          subst hv
          go_wp2
          go_ret
          exact ⟨A3, c3, rfl, own_le hown, Ints.of_own (c := c3) (n := (catTo ps ps.length).length) (by rw [up_len]; exact hown), own_nil hown, (fun a ha => (hown.lt a.block (by rw [ha]; rfl)).1), hbel⟩

/-- What stands behind a text of so many bytes. -/
def endN (n : Nat) : List Nat := [128] ++ List.replicate (padZ n) 0 ++ lenBytes n
theorem bytes8 (n : Nat) : bytesOf ((8 * n : Nat) : Int) (8 : Int).toNat = up (lenBytes n) := by
  unfold bytesOf bytesTo lenBytes up
  rw [List.map_map]
  apply List.map_congr_left
  intro i hi
  simp only [Function.comp_apply]
  rw [Nat.mul_comm 8 n, show (8 : Int).toNat - 1 - i = 7 - i from rfl, Int.natCast_emod, Int.natCast_ediv, Int.natCast_pow]
  rfl
theorem put8 (n : Nat) (h : n < 2 ^ 60) : fieldsE [((8 * n : Nat) : Int)] [8] = 0 ∧ fieldsB [((8 * n : Nat) : Int)] [8] = up (lenBytes n) := by
  have h1 : szs [8] = true := by decide
  have hf : fitB ((8 * n : Nat) : Int) 8 = true := by
    unfold fitB
    have : (256 : Int) ^ (8 : Int).toNat = 18446744073709551616 := by decide
    rw [this, decide_eq_true_eq]; omega
  have e : fieldsE [((8 * n : Nat) : Int)] [8] = 0 := by
    unfold fieldsE
    rw [if_pos ⟨h1, rfl⟩, if_pos (by simp only [List.zip_cons_cons, List.zip_nil_right, List.all_cons, List.all_nil, Bool.and_true]; exact hf)]
  refine ⟨e, ?_⟩
  unfold fieldsB
  rw [if_pos e]
  simp only [List.zip_cons_cons, List.zip_nil_right, List.flatMap_cons, List.flatMap_nil, List.append_nil]
  exact bytes8 n
theorem lenBytes_len (n : Nat) : (lenBytes n).length = 8 := by simp [lenBytes]
theorem lenBytes_lt (n : Nat) : ∀ x ∈ lenBytes n, x < 256 := by
  intro x hx
  simp only [lenBytes, List.mem_map] at hx
  obtain ⟨i, _, rfl⟩ := hx
  omega

theorem made_own {w : World} {base e n : Nat} {v : Value} (h : w.ownsRow base e 1 v n (madeCells (Value.int .u8 0).cells (n * 1)).toList) : w.ownsRow base e 1 v n ((up (List.replicate n 0)).map (Value.int .u8)) := by
  have hm : (madeCells (Value.int .u8 0).cells (n * 1)).toList = (up (List.replicate n 0)).map (Value.int .u8) := by
    rw [Nat.mul_one, show (Value.int .u8 0).cells = #[Value.int .u8 0] from rfl, toList_madeCells_one]
    simp [up]
  rw [← hm]; exact h
theorem ending_concat (n c1 : Nat) (A1 : Option Addr) (w w1 w2 : World) (t2 : TypeId) (hb1 : Below w.heap.size w w1) (hi1 : Ints w1 w1.heap.size .u8 A1 (up (lenBytes n))) (hc1 : 8 ≤ c1)
    (hown2 : w2.ownsRow w.heap.size 5 1 (.slice (some ⟨w1.heap.size + 1, 0, none⟩) (padZ n) (padZ n)) (padZ n) ((up (List.replicate (padZ n) 0)).map (Value.int .u8)))
    (hb2 : Below (w1.heap.size + 1) (w1.alloc (.cells #[.int .u8 128] 5)) w2) :
    Calls Tryd.prog 38 #[.slice (some ⟨w2.heap.size, 0, none⟩) 3 3] (w2.alloc (.cells #[.slice (some ⟨w1.heap.size, 0, none⟩) 1 1, .slice (some ⟨w1.heap.size + 1, 0, none⟩) (padZ n) (padZ n), .slice A1 8 c1] t2))
      fun e w' => ∃ A c, e = .returned (.slice A (endN n).length c) ∧ (endN n).length ≤ c ∧ Ints w' w'.heap.size .u8 A (up (endN n)) ∧ (A = none → c = 0) ∧ (∀ a, A = some a → w.heap.size ≤ a.block) ∧ Below w.heap.size w w' := by
  have hs2 := hb2.size
  simp only [World.size_alloc] at hs2
  obtain ⟨ps, hps⟩ : ∃ ps : List Part, ps = [⟨some ⟨w1.heap.size, 0, none⟩, 1, [128]⟩, ⟨some ⟨w1.heap.size + 1, 0, none⟩, padZ n, List.replicate (padZ n) 0⟩, ⟨A1, c1, lenBytes n⟩] := ⟨_, rfl⟩
  have hl : ps.length = 3 := by rw [hps]; rfl
  have hcat : catTo ps 3 = endN n := by rw [hps]; simp [catTo, endN]
  have hel : (endN n).length = 9 + padZ n := by simp [endN, lenBytes_len]; omega
  have hz := padZ_le n
  have hbw : Below w.heap.size w w2 := (hb1.alloc hb1.size _).trans (hb2.mono (Nat.le_succ_of_le hb1.size))
  obtain ⟨D, hD⟩ : ∃ D : Array Value, D = #[.slice (some ⟨w1.heap.size, 0, none⟩) 1 1, .slice (some ⟨w1.heap.size + 1, 0, none⟩) (padZ n) (padZ n), .slice A1 8 c1] := ⟨_, rfl⟩
  rw [← hD]
  have hX := fun (k : IntKind) (A : Option Addr) (zs : List Int) (h : Ints w2 w2.heap.size k A zs) => (h.alloc (Nat.le_refl _) (.cells D t2)).more (show w2.heap.size ≤ (w2.alloc (.cells D t2)).heap.size by simp)
  have hcell : ∀ i, i < 3 → (w2.alloc (.cells D t2)).cell? ⟨w2.heap.size, 0 + i, none⟩ = D[i]? := fun i _ => by
    rw [Nat.zero_add]; exact cell_of_row _ _ i _ _ _ (heap_alloc_new w2 _)
  have p1 : (⟨some ⟨w1.heap.size, 0, none⟩, 1, [128]⟩ : Part).ok (w2.alloc (.cells D t2)) (w2.alloc (.cells D t2)).heap.size :=
    ⟨hX _ _ _ (((Ints.new w1 5 .u8 (up [128]) #[.int .u8 128] rfl).below hb2).more hs2), (fun h => by cases h), (by simp), Nat.le_refl _⟩
  have p2 : (⟨some ⟨w1.heap.size + 1, 0, none⟩, padZ n, List.replicate (padZ n) 0⟩ : Part).ok (w2.alloc (.cells D t2)) (w2.alloc (.cells D t2)).heap.size :=
    ⟨hX _ _ _ (Ints.of_own (n := padZ n) (c := padZ n) (by rw [up_len, List.length_replicate]; exact hown2)), (fun h => by cases h), (fun x hx => by have := (List.mem_replicate.1 hx).2; omega), (by simp)⟩
  have p3 : (⟨A1, c1, lenBytes n⟩ : Part).ok (w2.alloc (.cells D t2)) (w2.alloc (.cells D t2)).heap.size :=
    ⟨hX _ _ _ ((((hi1.alloc (Nat.le_refl _) _).more (Nat.le_succ _)).below hb2).more hs2), nil_of_ints hi1 (by rw [up_len, lenBytes_len]; decide), lenBytes_lt n, (by show (lenBytes n).length ≤ c1; rw [lenBytes_len]; exact hc1)⟩
  have hP : Parts (w2.alloc (.cells D t2)) (w2.alloc (.cells D t2)).heap.size (some ⟨w2.heap.size, 0, none⟩) ps := by
    intro i hi
    rw [hl] at hi
    have hi3 : i = 0 ∨ i = 1 ∨ i = 2 := by omega
    refine ⟨w2.heap.size, 0, rfl, by simp, ?_, ?_⟩
    · rw [hcell i hi, hD]
      subst hps
      rcases hi3 with rfl | rfl | rfl
      · rfl
      · simp
      · simp [lenBytes_len]
    · subst hps
      rcases hi3 with rfl | rfl | rfl
      · exact p1
      · exact p2
      · exact p3
  have H := concat_any (some ⟨w2.heap.size, 0, none⟩) 3 ps (w2.alloc (.cells D t2)) hP (by rw [hl, hcat, hel]; omega) (by rw [hl, hcat, hel]; omega) (by rw [hl]; decide)
  rw [hl, hcat] at H
  refine H.mono fun e w' ⟨A, c, h1, h2, h3, h4, h6, h5⟩ => ⟨A, c, h1, h2, h3, h4, fun a ha => Nat.le_trans hbw.size (Nat.le_trans (by simp) (h6 a ha)), ?_⟩
  exact (hbw.alloc hbw.size _).trans (h5.mono (by simp; exact Nat.le_succ_of_le hbw.size))

set_option maxHeartbeats 800000 in
/-- 'ending'. -/
theorem ending_any (n : Nat) (w : World) (hn : n ≤ 140737488355328) :
    Calls Tryd.prog 29 #[.int .u64 (n : Int)] w fun e w' => ∃ A c, e = .returned (.slice A (endN n).length c) ∧ (endN n).length ≤ c ∧ Ints w' w'.heap.size .u8 A (up (endN n)) ∧ (A = none → c = 0) ∧ (∀ a, A = some a → w.heap.size ≤ a.block) ∧ Below w.heap.size w w' := by
  obtain ⟨i0, hi, hz0, hz1, hz2⟩ := info_parts Tryd.infoU8
  have hp := put8 n (by omega)
  have HP : Hid (Calls Tryd.prog 20 #[.int .u64 ((8 : Int) * (n : Int)), .int .i64 8] w fun e w' => ∃ A c, e = .returned (.tuple #[.slice A 8 c, .int .i64 0]) ∧ 8 ≤ c ∧ Ints w' w'.heap.size .u8 A (up (lenBytes n)) ∧ Below w.heap.size w w') := by
    have := put_any ((8 * n : Nat) : Int) 8 w (by omega)
    rw [hp.1, hp.2] at this
    have e : (8 : Int) * (n : Int) = ((8 * n : Nat) : Int) := by omega
    unfold Hid
    rw [e]
    exact this.mono fun e w' ⟨A, c, h1, h2, h3, h4⟩ => ⟨A, c, by rw [h1, up_len, lenBytes_len], by rw [up_len, lenBytes_len] at h2; exact h2, h3, h4⟩
  obtain ⟨q, hq⟩ : ∃ q : Nat, (q : Int) = (55 - (n : Int)) % 18446744073709551616 := ⟨((55 - (n : Int)) % 18446744073709551616).toNat, by omega⟩
  have v1 : IntKind.u64.wrap (55 - (n : Int)) = (q : Int) := by rw [IntKind.wrap_u64]; omega
  have v2 : (q : Int) % 64 = (padZ n : Int) := by unfold padZ; omega
  have v3 : IntKind.u64.wrap ((8 : Int) * (n : Int)) = (8 : Int) * (n : Int) := by rw [IntKind.wrap_u64]; omega
  have hz : padZ n ≤ 63 := padZ_le n
  clear hq hp
  go_enter Tryd.func29, Tryd.ntmps29
  go_wp2_with (first
    | (go_at_call 20; with_reducible (refine Calls.mono HP.out ?_); rintro e w1 ⟨A1, c1, rfl, hc1, hi1, hb1⟩; have hs1 := hb1.size)
    | (at_make; refine wpList_make_full _ rfl _ _ 22 rfl w.heap.size 5 i0 (.int .u8 0) 1 Tryd.underlying22 hi hz0 hz1 .u64 .u64 (padZ n : Int) (padZ n : Int) (padZ n) rfl rfl rfl rfl (by rw [hz2]; omega) (by unfold maxLen; omega) (by simp; omega) ?_; intro w2 hown2 hg2; have hown3 : w2.ownsRow w.heap.size 5 1 (.slice (some ⟨w1.heap.size + 1, 0, none⟩) (padZ n) (padZ n)) (padZ n) ((up (List.replicate (padZ n) 0)).map (Value.int .u8)) := (by have h := made_own hown2; rw [World.size_alloc] at h; exact h); have HC := Lib.hid (fun t2 => ending_concat n c1 A1 w w1 w2 t2 hb1 hi1 hc1 hown3 ((Below.refl _ _).grown hg2 (by simp) fun q hq => by cases hq)); clear hown2 hown3 hg2)
    | (go_at_call 38; with_reducible (refine Calls.mono (HC.out _) ?_); rintro e w3 ⟨A3, c3, rfl, hc3, hi3, hn3, hw3, hb3⟩))
  go_ret
  exact ⟨A3, c3, rfl, hc3, hi3, hn3, hw3, hb3⟩


end Go.Proofs.YtocnbhefjhammaaDoor
