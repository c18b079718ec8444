/-
  Slices put one behind the other into a new one; what stands behind a text. A hash in memory; more bytes. 'Write' of a hash.
-/
import Derived.Test.YtanpfodmmeagaaaDoorShaDigestG
import Derived.Test.YtanpfodmmeagaaaDoorWordsG
import Derived.Lib.AppendZeros
import Derived.Lib.AppendZerosOnto
namespace Go.Proofs.YtanpfodmmeagaaaDoor
open Go.RowKit

/-- 'slices.Grow' of no slice. -/
theorem grow_any (n : Nat) (w : World) (h0 : 0 < n) (hn : n ≤ 140737488355328) :
    Calls Tryd.prog 88 #[.slice none 0 0, .int .i64 n] w fun e w' => ∃ g c, e = .returned (.slice (some ⟨g, 0, none⟩) 0 c) ∧ w'.ownsRow w.heap.size 5 1 (.slice (some ⟨g, 0, none⟩) 0 c) 0 [] ∧ Below w.heap.size w w' := by
  obtain ⟨i0, hi, hz0, hz1, hz2⟩ := info_parts Tryd.infoU8
  have hrz : ∀ ty, (Builtin.append_ #[24, 3] ty #[.slice none 0 0, .int .i64 (n : Int)]).run Tryd.prog w =
      .ok (.slice (some ⟨w.heap.size, 0, none⟩) n (grownCap w n 0 5)) (w.drew.alloc (.cells (Builtin.zeroCells (Value.int .u8 0).cells n ++ Builtin.zeroCells (Value.int .u8 0).cells (grownCap w n 0 5 - n)) 5)) := fun ty =>
    Lib.run_append_nil_zeros w 24 3 ty 5 i0 (.int .u8 0) .i64 .i64 Tryd.underlying24 Tryd.underlying3 hi hz0 n h0 (by rw [hz1]; decide) (by omega) (by rw [hz2]; omega)
  have h1 := grownCap_ge w n 0 5
  have h2 := grownCap_le_maxLen w n 0 5 (by unfold maxLen; omega)
  have HS : Hid ((Builtin.zeroCells (Value.int .u8 0).cells n ++ Builtin.zeroCells (Value.int .u8 0).cells (grownCap w n 0 5 - n)).size = grownCap w n 0 5) := by
    unfold Hid
    rw [Array.size_append, size_zeroCells, size_zeroCells]
    simp [Value.cells]; omega
  obtain ⟨G, hG⟩ : ∃ G, G = grownCap w n 0 5 := ⟨_, rfl⟩
  rw [← hG] at hrz h1 h2 HS
  obtain ⟨C, hC⟩ : ∃ C, C = Builtin.zeroCells (Value.int .u8 0).cells n ++ Builtin.zeroCells (Value.int .u8 0).cells (G - n) := ⟨_, rfl⟩
  rw [← hC] at hrz HS
  have HO : Hid ((w.drew.alloc (.cells C 5)).ownsRow w.heap.size 5 1 (.slice (some ⟨w.heap.size, 0, none⟩) 0 G) 0 []) :=
    ⟨rfl, Or.inr ⟨w.heap.size, G, C, rfl, Nat.le_refl _, heap_alloc_new w.drew _, Nat.zero_le _, h2, by rw [HS.out, Nat.mul_one], by simp⟩⟩
  have HB : Hid (Below w.heap.size w (w.drew.alloc (.cells C 5))) := ((Below.refl _ _).drew).alloc (Nat.le_refl _) _
  have hG2 : (G : Int) ≤ 9223372036854775807 := by unfold maxLen at h2; omega
  have hn0 : (0 : Int) < (n : Int) := by omega
  have hn1 : ¬ ((n : Int) < 0) := by omega
  clear hG hC HS h2 hz0 hz1 hz2 hi
  go_enter Tryd.func88, Tryd.ntmps88
  go_wp2_with (at_builtin; refine Lib.wpList_append_run _ rfl _ _ _ _ rfl _ _ rfl rfl _ _ (hrz _) ?_)
  go_ret
  exact ⟨_, _, rfl, HO.out, HB.out⟩

set_option maxHeartbeats 800000 in
/-- 'slices.Concat' of slices of bytes. -/
theorem concat_any (A : Option Addr) (c : Nat) (ps : List Part) (w : World) (hp : Parts w w.heap.size A ps) (h0 : 0 < (catTo ps ps.length).length) (hm : (catTo ps ps.length).length ≤ 1048576) (hps : ps.length ≤ 1048576) :
    Calls Tryd.prog 85 #[.slice A ps.length c] w fun e w' => ∃ A' c', e = .returned (.slice A' (catTo ps ps.length).length c') ∧ (catTo ps ps.length).length ≤ c' ∧ Ints w' w'.heap.size .u8 A' (up (catTo ps ps.length)) ∧ (A' = none → c' = 0) ∧ (∀ a, A' = some a → w.heap.size ≤ a.block) ∧ Below w.heap.size w w' := by
  obtain ⟨i0, hi, hz0, hz1, hz2⟩ := info_parts Tryd.infoU8
  have HP := Lib.hid hp
  have HG := Lib.hid (grow_any (catTo ps ps.length).length w h0 (by omega))
  have HLE : Hid (∀ k, (catTo ps k).length ≤ 1048576) := fun k => by
    have : (catTo ps k).length ≤ (catTo ps ps.length).length := by
      simp only [catTo, List.take_length, List.length_flatten]
      rw [show ps.map Part.b = (ps.take k).map Part.b ++ (ps.drop k).map Part.b from by rw [← List.map_append, List.take_append_drop], List.map_append, List.sum_append]
      exact Nat.le_add_right _ _
    omega
  clear hp
  go_enter Tryd.func85, Tryd.ntmps85
  go_wp2
  go_loop [3, 11] (fun s i => ∃ k : Nat, k ≤ ps.length ∧ i = .int .i64 k ∧ s = .int .i64 (catTo ps k).length) (fun _ i => ps.length - (intOf i).toNat)
  case atStart => exact ⟨0, Nat.zero_le _, rfl, rfl⟩
  case round =>
    obtain ⟨k, hk, rfl, rfl⟩ := hrel
    by_cases hlt : k < ps.length
    · obtain ⟨b0, off, e1, hblk, hcell, hpok⟩ := HP.out k hlt
      have hle := HLE.out (k + 1)
      have hcat := catTo_next ps k hlt
      have hsum : ((catTo ps (k + 1)).length : Int) = ((catTo ps k).length : Int) + (ps[k].b.length : Int) := by rw [hcat, List.length_append]; omega
      have HSU := Lib.hid hsum
      obtain ⟨PA, hPA⟩ : ∃ x, x = ps[k].A := ⟨_, rfl⟩
      obtain ⟨pc, hpc⟩ : ∃ x, x = ps[k].c := ⟨_, rfl⟩
      obtain ⟨pn, hpn⟩ : ∃ x, x = ps[k].b.length := ⟨_, rfl⟩
      rw [← hPA, ← hpc, ← hpn] at hcell
      rw [← hpn] at HSU
      obtain ⟨ck, hck⟩ : ∃ x, x = (catTo ps k).length := ⟨_, rfl⟩
      have hck1 : ck ≤ 1048576 := by rw [hck]; exact HLE.out k
      have hpn1 : pn ≤ 1048576 := by have := HSU.out; omega
      rw [← hck] at HSU ⊢
      have hkc : (k : Int) < (ps.length : Int) := by omega
      have hnn : ¬ (((ck : Int) + (pn : Int)) < 0) := by omega
      obtain rfl := e1
      clear hcat hsum hpok hPA hpc hpn hck hle
      go_wp2
      go_round
      case rel => exact ⟨k + 1, by omega, by go_num, by rw [HSU.out]⟩
      case measure => simp [intOf]; omega
    · have hkn : k = ps.length := by omega
      subst hkn
      go_wp2_with (go_at_call 88; with_reducible (refine Calls.mono HG.out ?_); rintro e w1 ⟨g1, c1, rfl, hown1, hb1⟩)
      have hown2 : w1.ownsRow w.heap.size 5 1 (.slice (some ⟨g1, 0, none⟩) 0 c1) (catTo ps 0).length ((up (catTo ps 0)).map (Value.int .u8)) := hown1
      clear hown1
      go_loopw [6, 27] (fun v i wr => ∃ k : Nat, k ≤ ps.length ∧ i = .int .i64 k ∧ wr.ownsRow w.heap.size 5 1 v (catTo ps k).length ((up (catTo ps k)).map (Value.int .u8)) ∧ Below w.heap.size w wr) (fun _ i _ => ps.length - (intOf i).toNat)
      case atStart => exact ⟨0, Nat.zero_le _, rfl, hown2, hb1⟩
      case round =>
        clear hown2 hb1
        obtain ⟨k, hk, rfl, hown, hbel⟩ := hrel
        by_cases hlt : k < ps.length
        · obtain ⟨b0, off, e1, hblk, hcell, hpok⟩ := HP.out k hlt
          have hcell' := (hbel.cell (p := ⟨b0, off + k, none⟩) hblk).trans hcell
          have hle := HLE.out (k + 1)
          have hle0 := HLE.out k
          have hcat := catTo_next ps k hlt
          have hint := hpok.ints.below hbel
          have hnil := hpok.nil
          have hsz := hbel.size
          rw [hcat, List.length_append] at hle
          have HCT := Lib.hid hcat
          obtain ⟨PA, hPA⟩ : ∃ x, x = ps[k].A := ⟨_, rfl⟩
          obtain ⟨pc, hpc⟩ : ∃ x, x = ps[k].c := ⟨_, rfl⟩
          obtain ⟨pb, hpb⟩ : ∃ x, x = ps[k].b := ⟨_, rfl⟩
          rw [← hPA, ← hpc, ← hpb] at hcell'
          rw [← hpb] at HCT hle
          rw [← hPA, ← hpb] at hint
          rw [← hPA, ← hpc] at hnil
          have HNIL := Lib.hid hnil
          have hkc : (k : Int) < (ps.length : Int) := by omega
          obtain rfl := e1
          clear hcat hpok hPA hpc hpb hcell hnil
          go_wp2_with (at_builtin; refine wpList_append_when _ rfl (.tmp 31) (.tmp 32) 24 rfl w.heap.size 5 i0 (.int .u8 0) 1 Tryd.underlying24 hi hz0 hz1 hz2 rfl .u8 _ (up (catTo ps k)) (up pb) w.heap.size pc pb.length PA (up_len pb) rfl rfl (by rw [up_len]; exact hown) hint HNIL.out ?d1 ?d2 hsz ?_)
          case d1 => rw [up_len, up_len]; unfold maxLen; omega
          case d2 => rw [up_len, up_len]; omega
          intro v3 w3 hown3 hg3 _
          have R : w3.ownsRow w.heap.size 5 1 v3 (catTo ps (k + 1)).length ((up (catTo ps (k + 1))).map (Value.int .u8)) ∧ Below w.heap.size w w3 := by
            refine ⟨?_, hbel.grown hg3 hsz fun q hq => (hown.lt q hq).1⟩
            rw [HCT.out, up_append, List.map_append, List.length_append, ← up_len (catTo ps k), ← up_len pb]; exact hown3
          clear hown3 hg3 hown hbel hcell' hint
          go_wp2
          go_roundw
          case rel => exact ⟨k + 1, by omega, by go_num, R.1, R.2⟩
          case measure => simp [intOf]; omega
        · have hkn : k = ps.length := by omega
          subst hkn
          obtain ⟨A3, c3, hv⟩ := own_slice hown
          subst hv
          go_wp2
          go_ret
          exact ⟨A3, c3, rfl, own_le hown, Ints.of_own (c := c3) (n := (catTo ps ps.length).length) (by rw [up_len]; exact hown), own_nil hown, (fun a ha => (hown.lt a.block (by rw [ha]; rfl)).1), hbel⟩

/-- What stands behind a text of so many bytes. -/
def endN (n : Nat) : List Nat := [128] ++ List.replicate (padZ n) 0 ++ lenBytes n
theorem bytes8 (n : Nat) : bytesOf ((8 * n : Nat) : Int) (8 : Int).toNat = up (lenBytes n) := by
  unfold bytesOf bytesTo lenBytes up
  rw [List.map_map]
  apply List.map_congr_left
  intro i hi
  simp only [Function.comp_apply]
  rw [Nat.mul_comm 8 n, show (8 : Int).toNat - 1 - i = 7 - i from rfl, Int.natCast_emod, Int.natCast_ediv, Int.natCast_pow]
  rfl
theorem put8 (n : Nat) (h : n < 2 ^ 60) : fieldsE [((8 * n : Nat) : Int)] [8] = 0 ∧ fieldsB [((8 * n : Nat) : Int)] [8] = up (lenBytes n) := by
  have h1 : szs [8] = true := by decide
  have hf : fitB ((8 * n : Nat) : Int) 8 = true := by
    unfold fitB
    have : (256 : Int) ^ (8 : Int).toNat = 18446744073709551616 := by decide
    rw [this, decide_eq_true_eq]; omega
  have e : fieldsE [((8 * n : Nat) : Int)] [8] = 0 := by
    unfold fieldsE
    rw [if_pos ⟨h1, rfl⟩, if_pos (by simp only [List.zip_cons_cons, List.zip_nil_right, List.all_cons, List.all_nil, Bool.and_true]; exact hf)]
  refine ⟨e, ?_⟩
  unfold fieldsB
  rw [if_pos e]
  simp only [List.zip_cons_cons, List.zip_nil_right, List.flatMap_cons, List.flatMap_nil, List.append_nil]
  exact bytes8 n
theorem lenBytes_len (n : Nat) : (lenBytes n).length = 8 := by simp [lenBytes]
theorem lenBytes_lt (n : Nat) : ∀ x ∈ lenBytes n, x < 256 := by
  intro x hx
  simp only [lenBytes, List.mem_map] at hx
  obtain ⟨i, _, rfl⟩ := hx
  omega

theorem made_own {w : World} {base e n : Nat} {v : Value} (h : w.ownsRow base e 1 v n (madeCells (Value.int .u8 0).cells (n * 1)).toList) : w.ownsRow base e 1 v n ((up (List.replicate n 0)).map (Value.int .u8)) := by
  have hm : (madeCells (Value.int .u8 0).cells (n * 1)).toList = (up (List.replicate n 0)).map (Value.int .u8) := by
    rw [Nat.mul_one, show (Value.int .u8 0).cells = #[Value.int .u8 0] from rfl, toList_madeCells_one]
    simp [up]
  rw [← hm]; exact h
theorem ending_concat (n c1 : Nat) (A1 : Option Addr) (w w1 w2 : World) (t2 : TypeId) (hb1 : Below w.heap.size w w1) (hi1 : Ints w1 w1.heap.size .u8 A1 (up (lenBytes n))) (hc1 : 8 ≤ c1)
    (hown2 : w2.ownsRow w.heap.size 5 1 (.slice (some ⟨w1.heap.size + 1, 0, none⟩) (padZ n) (padZ n)) (padZ n) ((up (List.replicate (padZ n) 0)).map (Value.int .u8)))
    (hb2 : Below (w1.heap.size + 1) (w1.alloc (.cells #[.int .u8 128] 5)) w2) :
    Calls Tryd.prog 85 #[.slice (some ⟨w2.heap.size, 0, none⟩) 3 3] (w2.alloc (.cells #[.slice (some ⟨w1.heap.size, 0, none⟩) 1 1, .slice (some ⟨w1.heap.size + 1, 0, none⟩) (padZ n) (padZ n), .slice A1 8 c1] t2))
      fun e w' => ∃ A c, e = .returned (.slice A (endN n).length c) ∧ (endN n).length ≤ c ∧ Ints w' w'.heap.size .u8 A (up (endN n)) ∧ (A = none → c = 0) ∧ (∀ a, A = some a → w.heap.size ≤ a.block) ∧ Below w.heap.size w w' := by
  have hs2 := hb2.size
  simp only [World.size_alloc] at hs2
  obtain ⟨ps, hps⟩ : ∃ ps : List Part, ps = [⟨some ⟨w1.heap.size, 0, none⟩, 1, [128]⟩, ⟨some ⟨w1.heap.size + 1, 0, none⟩, padZ n, List.replicate (padZ n) 0⟩, ⟨A1, c1, lenBytes n⟩] := ⟨_, rfl⟩
  have hl : ps.length = 3 := by rw [hps]; rfl
  have hcat : catTo ps 3 = endN n := by rw [hps]; simp [catTo, endN]
  have hel : (endN n).length = 9 + padZ n := by simp [endN, lenBytes_len]; omega
  have hz := padZ_le n
  have hbw : Below w.heap.size w w2 := (hb1.alloc hb1.size _).trans (hb2.mono (Nat.le_succ_of_le hb1.size))
  obtain ⟨D, hD⟩ : ∃ D : Array Value, D = #[.slice (some ⟨w1.heap.size, 0, none⟩) 1 1, .slice (some ⟨w1.heap.size + 1, 0, none⟩) (padZ n) (padZ n), .slice A1 8 c1] := ⟨_, rfl⟩
  rw [← hD]
  have hX := fun (k : IntKind) (A : Option Addr) (zs : List Int) (h : Ints w2 w2.heap.size k A zs) => (h.alloc (Nat.le_refl _) (.cells D t2)).more (show w2.heap.size ≤ (w2.alloc (.cells D t2)).heap.size by simp)
  have hcell : ∀ i, i < 3 → (w2.alloc (.cells D t2)).cell? ⟨w2.heap.size, 0 + i, none⟩ = D[i]? := fun i _ => by
    rw [Nat.zero_add]; exact cell_of_row _ _ i _ _ _ (heap_alloc_new w2 _)
  have p1 : (⟨some ⟨w1.heap.size, 0, none⟩, 1, [128]⟩ : Part).ok (w2.alloc (.cells D t2)) (w2.alloc (.cells D t2)).heap.size :=
    ⟨hX _ _ _ (((Ints.new w1 5 .u8 (up [128]) #[.int .u8 128] rfl).below hb2).more hs2), (fun h => by cases h), (by simp), Nat.le_refl _⟩
  have p2 : (⟨some ⟨w1.heap.size + 1, 0, none⟩, padZ n, List.replicate (padZ n) 0⟩ : Part).ok (w2.alloc (.cells D t2)) (w2.alloc (.cells D t2)).heap.size :=
    ⟨hX _ _ _ (Ints.of_own (n := padZ n) (c := padZ n) (by rw [up_len, List.length_replicate]; exact hown2)), (fun h => by cases h), (fun x hx => by have := (List.mem_replicate.1 hx).2; omega), (by simp)⟩
  have p3 : (⟨A1, c1, lenBytes n⟩ : Part).ok (w2.alloc (.cells D t2)) (w2.alloc (.cells D t2)).heap.size :=
    ⟨hX _ _ _ ((((hi1.alloc (Nat.le_refl _) _).more (Nat.le_succ _)).below hb2).more hs2), nil_of_ints hi1 (by rw [up_len, lenBytes_len]; decide), lenBytes_lt n, (by show (lenBytes n).length ≤ c1; rw [lenBytes_len]; exact hc1)⟩
  have hP : Parts (w2.alloc (.cells D t2)) (w2.alloc (.cells D t2)).heap.size (some ⟨w2.heap.size, 0, none⟩) ps := by
    intro i hi
    rw [hl] at hi
    have hi3 : i = 0 ∨ i = 1 ∨ i = 2 := by omega
    refine ⟨w2.heap.size, 0, rfl, by simp, ?_, ?_⟩
    · rw [hcell i hi, hD]
      subst hps
      rcases hi3 with rfl | rfl | rfl
      · rfl
      · simp
      · simp [lenBytes_len]
    · subst hps
      rcases hi3 with rfl | rfl | rfl
      · exact p1
      · exact p2
      · exact p3
  have H := concat_any (some ⟨w2.heap.size, 0, none⟩) 3 ps (w2.alloc (.cells D t2)) hP (by rw [hl, hcat, hel]; omega) (by rw [hl, hcat, hel]; omega) (by rw [hl]; decide)
  rw [hl, hcat] at H
  refine H.mono fun e w' ⟨A, c, h1, h2, h3, h4, h6, h5⟩ => ⟨A, c, h1, h2, h3, h4, fun a ha => Nat.le_trans hbw.size (Nat.le_trans (by simp) (h6 a ha)), ?_⟩
  exact (hbw.alloc hbw.size _).trans (h5.mono (by simp; exact Nat.le_succ_of_le hbw.size))

set_option maxHeartbeats 800000 in
/-- 'ending'. -/
theorem ending_any (n : Nat) (w : World) (hn : n ≤ 140737488355328) :
    Calls Tryd.prog 77 #[.int .u64 (n : Int)] w fun e w' => ∃ A c, e = .returned (.slice A (endN n).length c) ∧ (endN n).length ≤ c ∧ Ints w' w'.heap.size .u8 A (up (endN n)) ∧ (A = none → c = 0) ∧ (∀ a, A = some a → w.heap.size ≤ a.block) ∧ Below w.heap.size w w' := by
  obtain ⟨i0, hi, hz0, hz1, hz2⟩ := info_parts Tryd.infoU8
  have hp := put8 n (by omega)
  have HP : Hid (Calls Tryd.prog 30 #[.int .u64 ((8 : Int) * (n : Int)), .int .i64 8] w fun e w' => ∃ A c, e = .returned (.tuple #[.slice A 8 c, .int .i64 0]) ∧ 8 ≤ c ∧ Ints w' w'.heap.size .u8 A (up (lenBytes n)) ∧ Below w.heap.size w w') := by
    have := put_any ((8 * n : Nat) : Int) 8 w (by omega)
    rw [hp.1, hp.2] at this
    have e : (8 : Int) * (n : Int) = ((8 * n : Nat) : Int) := by omega
    unfold Hid
    rw [e]
    exact this.mono fun e w' ⟨A, c, h1, h2, h3, h4⟩ => ⟨A, c, by rw [h1, up_len, lenBytes_len], by rw [up_len, lenBytes_len] at h2; exact h2, h3, h4⟩
  obtain ⟨q, hq⟩ : ∃ q : Nat, (q : Int) = (55 - (n : Int)) % 18446744073709551616 := ⟨((55 - (n : Int)) % 18446744073709551616).toNat, by omega⟩
  have v1 : IntKind.u64.wrap (55 - (n : Int)) = (q : Int) := by rw [IntKind.wrap_u64]; omega
  have v2 : (q : Int) % 64 = (padZ n : Int) := by unfold padZ; omega
  have v3 : IntKind.u64.wrap ((8 : Int) * (n : Int)) = (8 : Int) * (n : Int) := by rw [IntKind.wrap_u64]; omega
  have hz : padZ n ≤ 63 := padZ_le n
  clear hq hp
  go_enter Tryd.func77, Tryd.ntmps77
  go_wp2_with (first
    | (go_at_call 30; with_reducible (refine Calls.mono HP.out ?_); rintro e w1 ⟨A1, c1, rfl, hc1, hi1, hb1⟩; have hs1 := hb1.size)
    | (at_make; refine wpList_make_full _ rfl _ _ 24 rfl w.heap.size 5 i0 (.int .u8 0) 1 Tryd.underlying24 hi hz0 hz1 .u64 .u64 (padZ n : Int) (padZ n : Int) (padZ n) rfl rfl rfl rfl (by rw [hz2]; omega) (by unfold maxLen; omega) (by simp; omega) ?_; intro w2 hown2 hg2; have hown3 : w2.ownsRow w.heap.size 5 1 (.slice (some ⟨w1.heap.size + 1, 0, none⟩) (padZ n) (padZ n)) (padZ n) ((up (List.replicate (padZ n) 0)).map (Value.int .u8)) := (by have h := made_own hown2; rw [World.size_alloc] at h; exact h); have HC := Lib.hid (fun t2 => ending_concat n c1 A1 w w1 w2 t2 hb1 hi1 hc1 hown3 ((Below.refl _ _).grown hg2 (by simp) fun q hq => by cases hq)); clear hown2 hown3 hg2)
    | (go_at_call 85; with_reducible (refine Calls.mono (HC.out _) ?_); rintro e w3 ⟨A3, c3, rfl, hc3, hi3, hn3, hw3, hb3⟩))
  go_ret
  exact ⟨A3, c3, rfl, hc3, hi3, hn3, hw3, hb3⟩


end Go.Proofs.YtanpfodmmeagaaaDoor

namespace Go.Proofs.YtanpfodmmeagaaaDoor
open Go.RowKit

theorem blocksTo_append (s : Eight) (a x : List Nat) (k : Nat) (h : 64 * k ≤ a.length) : blocksTo s (a ++ x) k = blocksTo s a k := by
  induction k with
  | zero => rfl
  | succ k ih =>
    have e : ((a ++ x).drop (64 * k)).take 64 = (a.drop (64 * k)).take 64 := by
      rw [List.drop_append_of_le_length (by omega), List.take_append_of_le_length (by rw [List.length_drop]; omega)]
    simp only [blocksTo, ih (by omega), e]
theorem sum_block (l b : List Nat) : eightOf (sumTo (addTo l (roundsTo (eightOf (sumTo l 8)) shaK (wordsTo b 64) 64) 8) 8) = blockN (eightOf (sumTo l 8)) b := by
  unfold blockN
  obtain ⟨r, hr⟩ : ∃ r, r = roundsTo (eightOf (sumTo l 8)) shaK (wordsTo b 64) 64 := ⟨_, rfl⟩
  rw [← hr]
  have h : ∀ i, i < 8 → (sumTo (addTo l r 8) 8).getD i 0 = add32 ((sumTo l 8).getD i 0) (r.list.getD i 0) := fun i hi => by
    rw [sumTo_at _ _ _ hi, if_pos hi, sumTo_at _ _ _ hi, if_pos hi, addTo_at _ _ _ _ hi, if_pos hi, add32_assoc]
  unfold Eight.plus
  simp only [eightOf, Eight.mk.injEq]
  exact ⟨h 0 (by decide), h 1 (by decide), h 2 (by decide), h 3 (by decide), h 4 (by decide), h 5 (by decide), h 6 (by decide), h 7 (by decide)⟩

/-- A hash's cells. -/
def HK (beg : List Nat) (n : Nat) : List Value := (beg.map fun z : Nat => Value.int .u8 (z : Int)) ++ [.int .u64 (n : Int)]
theorem HK_copy (l beg cs : List Nat) (n m : Nat) (hl : l.length = 8) (hm : m + cs.length ≤ beg.length) :
    ((l.map fun z : Nat => Value.int .u32 (z : Int)) ++ HK beg n).take (8 + m) ++ ((cs.map fun z : Nat => Value.int .u8 (z : Int)) ++ ((l.map fun z : Nat => Value.int .u32 (z : Int)) ++ HK beg n).drop (8 + m + cs.length)) =
      (l.map fun z : Nat => Value.int .u32 (z : Int)) ++ HK (beg.take m ++ cs ++ beg.drop (m + cs.length)) n := by
  obtain ⟨L, hL⟩ : ∃ L, L = l.map fun z : Nat => Value.int .u32 (z : Int) := ⟨_, rfl⟩
  have hLl : L.length = 8 := by rw [hL, List.length_map, hl]
  rw [← hL, ← hLl, List.take_length_add_append, Nat.add_assoc, List.drop_length_add_append]
  unfold HK
  rw [List.take_append_of_le_length (by rw [List.length_map]; omega), List.drop_append_of_le_length (by rw [List.length_map]; exact hm)]
  simp

/-- What a hash at the head of block g has taken. -/
def St (w : World) (g : Nat) (t : List Nat) : Prop :=
  ∃ l beg : List Nat, Head w g 124 l (HK beg t.length) ∧ beg.length = 64 ∧ (∀ x ∈ beg, x < 256) ∧ beg.take (t.length % 64) = t.drop (64 * (t.length / 64)) ∧ eightOf (sumTo l 8) = blocksTo shaH t (t.length / 64)
theorem St.keep {w w' : World} {g : Nat} {t : List Nat} (h : St w g t) (hb : w'.heap[g]? = w.heap[g]?) : St w' g t := by
  obtain ⟨l, beg, h1, h2⟩ := h
  exact ⟨l, beg, h1.keep hb, h2⟩
theorem St.lt {w : World} {g : Nat} {t : List Nat} (h : St w g t) : g < w.heap.size := by
  obtain ⟨l, beg, h1, _⟩ := h
  exact h1.lt
/-- A slice of bytes outside block g. -/
def Near (w : World) (g : Nat) (A : Option Addr) (b : List Nat) : Prop :=
  ∀ i, i < b.length → ∃ blk off, A = some ⟨blk, off, none⟩ ∧ blk ≠ g ∧ blk < w.heap.size ∧ w.cell? ⟨blk, off + i, none⟩ = some (.int .u8 (b.getD i 0 : Nat))
theorem Near.off {w w' : World} {g : Nat} {A : Option Addr} {b : List Nat} (h : Near w g A b) (ho : Off (· = g) w w') : Near w' g A b := fun i hi => by
  obtain ⟨blk, off, e, h1, h2, h3⟩ := h i hi
  exact ⟨blk, off, e, h1, Nat.lt_of_lt_of_le h2 ho.size, (World.cell?_of_block (ho.block _ h2 h1)).trans h3⟩
theorem Near.cut {w : World} {g : Nat} {A : Option Addr} {b : List Nat} (h : Near w g A b) {n c : Nat} (hn : n ≤ b.length) (hc : b.length ≤ c) : Near w g (if c = n then A else A.map (·.add n)) (b.drop n) := fun i hi => by
  have hi' : n + i < b.length := by rw [List.length_drop] at hi; omega
  obtain ⟨blk, off, rfl, h1, h2, h3⟩ := h (n + i) hi'
  rw [if_neg (by omega)]
  refine ⟨blk, off + n, by rw [Option.map_some, Addr.add_mid], h1, h2, ?_⟩
  rw [Nat.add_assoc, h3]
  simp [List.getD]

/-- More bytes that fill no block. -/
theorem took_less {t cs beg : List Nat} (hb : beg.length = 64) (h1 : beg.take (t.length % 64) = t.drop (64 * (t.length / 64))) (hm : t.length % 64 + cs.length < 64) :
    (t ++ cs).length / 64 = t.length / 64 ∧ (beg.take (t.length % 64) ++ cs ++ beg.drop (t.length % 64 + cs.length)).take ((t ++ cs).length % 64) = (t ++ cs).drop (64 * ((t ++ cs).length / 64)) := by
  have e1 : (t ++ cs).length / 64 = t.length / 64 := by rw [List.length_append]; omega
  have e2 : (t ++ cs).length % 64 = t.length % 64 + cs.length := by rw [List.length_append]; omega
  refine ⟨e1, ?_⟩
  rw [e1, e2, List.drop_append_of_le_length (by omega), ← h1]
  have hl : (beg.take (t.length % 64) ++ cs).length = t.length % 64 + cs.length := by rw [List.length_append, List.length_take]; omega
  rw [← hl, List.take_left]
/-- More bytes that fill one. -/
theorem took_full {t cs beg : List Nat} (hb : beg.length = 64) (h1 : beg.take (t.length % 64) = t.drop (64 * (t.length / 64))) (hm : t.length % 64 + cs.length = 64) :
    (t ++ cs).length / 64 = t.length / 64 + 1 ∧ (t ++ cs).length % 64 = 0 ∧ beg.take (t.length % 64) ++ cs ++ beg.drop (t.length % 64 + cs.length) = ((t ++ cs).drop (64 * (t.length / 64))).take 64 ∧ (t ++ cs).drop (64 * ((t ++ cs).length / 64)) = [] := by
  have e1 : (t ++ cs).length / 64 = t.length / 64 + 1 := by rw [List.length_append]; omega
  have e2 : (t ++ cs).length % 64 = 0 := by rw [List.length_append]; omega
  refine ⟨e1, e2, ?_, List.drop_eq_nil_of_le (by omega)⟩
  rw [hm, show beg.drop 64 = [] from List.drop_eq_nil_of_le (by omega), List.append_nil, List.drop_append_of_le_length (by omega), ← h1]
  exact (List.take_of_length_le (by rw [List.length_append, List.length_take]; omega)).symm

end Go.Proofs.YtanpfodmmeagaaaDoor

namespace Go.Proofs.YtanpfodmmeagaaaDoor
open Go.RowKit

theorem Head.at72 {w : World} {g : Nat} {t : TypeId} {l beg : List Nat} {n : Nat} (h : Head w g t l (HK beg n)) (hb : beg.length = 64) : w.cell? ⟨g, 72, none⟩ = some (.int .u64 (n : Int)) := by
  rw [cell_of_row w g 72 _ t _ h.row, List.getElem?_toArray, List.getElem?_append_right (by rw [List.length_map, h.len]; decide), List.length_map, h.len]
  unfold HK
  rw [List.getElem?_append_right (by rw [List.length_map, hb]; decide), List.length_map, hb]; rfl
theorem Head.begun {w : World} {g : Nat} {t : TypeId} {l beg : List Nat} {n : Nat} (h : Head w g t l (HK beg n)) (hb : beg.length = 64) : w.rangeAt g 8 (beg.map fun z : Nat => Value.int .u8 (z : Int)) := fun j v hv => by
  have hj : j < 64 := by
    rcases Nat.lt_or_ge j 64 with h | h
    · exact h
    · rw [List.getElem?_eq_none (by rw [List.length_map, hb]; exact h)] at hv; cases hv
  rw [cell_of_row w g (8 + j) _ t _ h.row, List.getElem?_toArray, List.getElem?_append_right (by rw [List.length_map, h.len]; omega), List.length_map, h.len, Nat.add_sub_cancel_left]
  unfold HK
  rw [List.getElem?_append_left (by rw [List.length_map, hb]; exact hj)]
  exact hv
theorem Head.taken {w : World} {g : Nat} {t : TypeId} {l beg : List Nat} {n : Nat} (h : Head w g t l (HK beg n)) (hb : beg.length = 64) (m : Nat) : Head (w.setCell ⟨g, 72, none⟩ (.int .u64 (m : Int))) g t l (HK beg m) := by
  refine ⟨h.len, ?_⟩
  rw [heap_setCell_same w g 72 _ t _ h.row]
  congr 2
  unfold HK
  rw [List.setIfInBounds_toArray, List.set_append_right _ _ (by rw [List.length_map, h.len]; decide), List.length_map, h.len, List.set_append_right _ _ (by rw [List.length_map, hb]; decide), List.length_map, hb]
  rfl
theorem st_less {w : World} {g : Nat} {l beg T cs : List Nat} (h : Head w g 124 l (HK (beg.take (T.length % 64) ++ cs ++ beg.drop (T.length % 64 + cs.length)) (T.length + cs.length))) (hl : (beg.take (T.length % 64) ++ cs ++ beg.drop (T.length % 64 + cs.length)).length = 64)
    (hb : ∀ x ∈ beg.take (T.length % 64) ++ cs ++ beg.drop (T.length % 64 + cs.length), x < 256) (hbl : beg.length = 64) (hbt : beg.take (T.length % 64) = T.drop (64 * (T.length / 64))) (hs : eightOf (sumTo l 8) = blocksTo shaH T (T.length / 64)) (hm : T.length % 64 + cs.length < 64) : St w g (T ++ cs) := by
  obtain ⟨e1, e2⟩ := took_less hbl hbt hm
  refine ⟨l, _, by rw [List.length_append]; exact h, hl, hb, e2, ?_⟩
  rw [e1, blocksTo_append _ _ _ _ (by omega)]
  exact hs
theorem st_full {w : World} {g : Nat} {l beg T cs : List Nat} (h : Head w g 124 (addTo l (roundsTo (eightOf (sumTo l 8)) shaK (wordsTo (beg.take (T.length % 64) ++ cs ++ beg.drop (T.length % 64 + cs.length)) 64) 64) 8) (HK (beg.take (T.length % 64) ++ cs ++ beg.drop (T.length % 64 + cs.length)) (T.length + cs.length)))
    (hl : (beg.take (T.length % 64) ++ cs ++ beg.drop (T.length % 64 + cs.length)).length = 64)
    (hb : ∀ x ∈ beg.take (T.length % 64) ++ cs ++ beg.drop (T.length % 64 + cs.length), x < 256) (hbl : beg.length = 64) (hbt : beg.take (T.length % 64) = T.drop (64 * (T.length / 64))) (hs : eightOf (sumTo l 8) = blocksTo shaH T (T.length / 64)) (hm : T.length % 64 + cs.length = 64) : St w g (T ++ cs) := by
  obtain ⟨e1, e2, e3, e4⟩ := took_full hbl hbt hm
  refine ⟨_, _, by rw [List.length_append]; exact h, hl, hb, by rw [e2, List.take_zero, e4], ?_⟩
  rw [sum_block, e1, hs, e3]
  simp only [blocksTo]
  rw [blocksTo_append _ _ _ _ (by omega)]
/-- In the reading part of a region that draws: a whole array is loaded. -/
theorem wpStill_load_mid {P : Program} {ops : Array Oper} {w : World} {Q : Act → Prop} {rest : List Oper} {o : Oper} {a : Act} (hw : Region.wanted o (yielded ops a.tmps) = true) (ty : TypeId) (x : Operand) (ho : o.op = .load ty x)
    (b off : Nat) (hx : a.eval x = .pointer (some ⟨b, off, none⟩)) (cs : List Value) (d : TypeDesc) (hc : w.rangeAt b off cs) (hu : P.underlying ty = some d) (hd : d.isRow = true) (hi : (P.info? ty).map (·.size) = some cs.length)
    (h : wpStill P ops w Q rest (a.put o.dst (.agg cs.toArray))) : wpStill P ops w Q (o :: rest) a := by
  refine wpStill_step fun K hK => ?_
  rw [if_pos hw]
  unfold Oper.still execOp
  simp only [ho, hx, Instr.loadAt, Instr.sureAddr, Sem.run_bind, Sem.run_pure, Result.andThen_ok, run_loadVar_mid w b off ty cs d hc hu hd hi]
  exact ⟨rfl, hK _ h⟩
def lenV' : Value → Nat
  | .slice _ n _ => n
  | _ => 0

set_option maxHeartbeats 1600000 in
set_option maxRecDepth 100000 in
/-- 'Write'. -/
theorem write_any (g : Nat) (t b : List Nat) (A : Option Addr) (c : Nat) (w : World) (hL : Laid w) (hg : 0 < g ∧ 1 < g) (hs : St w g t) (hr : Near w g A b) (hA : A = none → c = 0) (hb : ∀ x ∈ b, x < 256) (hc : b.length ≤ c) (hm : t.length + b.length ≤ 281474976710656) :
    Calls Tryd.prog 60 #[.pointer (some ⟨g, 0, none⟩), .slice A b.length c] w fun e w' => e = .returned (.tuple #[]) ∧ St w' g (t ++ b) ∧ Off (· = g) w w' := by
  have HLD := Lib.hid hL
  have HGG := Lib.hid hg
  have HB := Lib.hid hb
  have HR := Lib.hid hr
  have HS := Lib.hid hs
  clear hL hg hb hr hs
  go_enter Tryd.func60, Tryd.ntmps60
  go_wp2
  go_loopw [1] (fun v wr => ∃ (k : Nat) (A' : Option Addr) (c' : Nat), k ≤ b.length ∧ v = .slice A' (b.length - k) c' ∧ Near wr g A' (b.drop k) ∧ (A' = none → c' = 0) ∧ b.length - k ≤ c' ∧ St wr g (t ++ b.take k) ∧ Off (· = g) w wr) (fun v _ => lenV' v)
  case atStart => exact ⟨0, A, c, Nat.zero_le _, rfl, HR.out, hA, hc, by rw [List.take_zero, List.append_nil]; exact HS.out, Off.refl _ _⟩
  case round =>
    obtain ⟨k, A', c', hk, rfl, hnear, hnil, hcc, ⟨l, beg, hhd, hbl, hbb, hbt, hsum⟩, hoff⟩ := hrel
    by_cases hlt : k < b.length
    · obtain ⟨T, hT⟩ : ∃ T, T = t ++ b.take k := ⟨_, rfl⟩
      obtain ⟨D, hD⟩ : ∃ D, D = b.drop k := ⟨_, rfl⟩
      have hDl : D.length = b.length - k := by rw [hD, List.length_drop]
      have hTl : T.length ≤ 281474976710656 := by rw [hT, List.length_append, List.length_take]; omega
      rw [← hT] at hhd hbt hsum
      rw [← hD] at hnear
      rw [← hDl] at hcc ⊢
      have hD0 : 0 < D.length := by omega
      obtain ⟨blk, off, e1, hblk, _, _⟩ := hnear 0 hD0
      subst e1
      obtain ⟨m, hme⟩ : ∃ m, m = T.length % 64 := ⟨_, rfl⟩
      have hm64 : m < 64 := by omega
      obtain ⟨n, hne⟩ : ∃ n, n = Nat.min D.length (64 - m) := ⟨_, rfl⟩
      have hn1 : n ≤ D.length := by rw [hne]; exact Nat.min_le_left _ _
      have hn2 : n ≤ 64 - m := by rw [hne]; exact Nat.min_le_right _ _
      have hn3 : 0 < n := by rw [hne]; exact Nat.lt_min.2 ⟨hD0, by omega⟩
      obtain ⟨M, hM⟩ : ∃ M, M = T.length := ⟨_, rfl⟩
      have c72 := hhd.at72 hbl
      rw [← hM] at c72 hme hTl
      have hmi : (M : Int) % 64 = (m : Int) := by omega
      have hmt : (M : Int).tmod 64 = (m : Int) := by rw [Int.tmod_eq_emod_of_nonneg (by omega)]; exact hmi
      have z0 : (0 : Int) ≤ (m : Int) := by omega
      have y0 : (m : Int) ≤ 64 := by omega
      have hne64 : ¬ 64 = m := by omega
      obtain ⟨d, hd⟩ : ∃ d, d = D.length := ⟨_, rfl⟩
      rw [← hd] at hcc hD0 hn1 hne ⊢
      have hD0' : (0 : Int) < (d : Int) := by omega
      have HT := Lib.hid hT
      have HD := Lib.hid hD
      have HDL := Lib.hid hDl
      have Hd := Lib.hid hd
      have HM := Lib.hid hM
      have HME := Lib.hid hme
      have HNE := Lib.hid hne
      clear hT hD hDl hd hM hme hne
      go_wp2
      go_still_tail 10, (by kernel_rfl)
      change wpList _ _ _ _ _ wr.drew
      obtain ⟨V, hV⟩ : ∃ V, V = (D.take n).map fun z : Nat => Value.int .u8 (z : Int) := ⟨_, rfl⟩
      have hDn : (D.take n).length = n := by rw [List.length_take, ← Hd.out]; omega
      have hVl : V.length = n := by rw [hV, List.length_map, hDn]
      refine wpList_copy_off rfl _ _ 24 24 rfl 5 Tryd.underlying24 (by kernel_rfl) g (8 + m) (64 - m) (64 - m) ⟨blk, off, none⟩ d c' rfl rfl ((l.map fun z : Nat => Value.int .u32 (z : Int)) ++ HK beg T.length).toArray 124 hhd.row V (by rw [hVl]; exact HNE.out) ?hsrc ?hfit ?h1 ?_
      case hsrc =>
        intro j v hv
        have hj : j < n := by
          rcases Nat.lt_or_ge j n with h | h
          · exact h
          · rw [List.getElem?_eq_none (by rw [hVl]; exact h)] at hv; cases hv
        obtain ⟨blk', off', e', _, _, hc'⟩ := hnear j (by rw [← Hd.out]; omega)
        obtain ⟨rfl, rfl⟩ : blk = blk' ∧ off = off' := by simpa using e'
        have hjd : j < D.length := by rw [← Hd.out]; omega
        rw [Addr.add_mid, World.cell?_drew, hc', ← hv, hV, List.getElem?_map, List.getElem?_take, if_pos hj, List.getElem?_eq_getElem hjd]
        simp [List.getD_eq_getElem?_getD, List.getElem?_eq_getElem hjd]
      case hfit =>
        rw [hVl]
        simp [HK, hhd.len, hbl]; omega
      case h1 => intro v hv; rw [hV] at hv; obtain ⟨z, _, rfl⟩ := List.mem_map.1 hv; rfl
      intro W hW oW
      have hHW : Head W g 124 l (HK (beg.take m ++ D.take n ++ beg.drop (m + n)) M) := by
        refine ⟨hhd.len, ?_⟩
        have h := hW.out
        have e := HK_copy l beg (D.take n) T.length m hhd.len (by rw [hDn]; omega)
        rw [hDn, ← hV] at e
        rw [hVl, List.toList_toArray, e, ← HM.out] at h
        exact h
      have hB2l : (beg.take m ++ D.take n ++ beg.drop (m + n)).length = 64 := by rw [List.length_append, List.length_append, hDn, List.length_take, List.length_drop]; omega
      have hB2b : ∀ x ∈ beg.take m ++ D.take n ++ beg.drop (m + n), x < 256 := by
        intro x hx
        rcases List.mem_append.1 hx with hx | hx
        · rcases List.mem_append.1 hx with hx | hx
          · exact hbb x (List.mem_of_mem_take hx)
          · have h := List.mem_of_mem_take hx
            rw [HD.out] at h
            exact HB.out x (List.mem_of_mem_drop h)
        · exact hbb x (List.mem_of_mem_drop hx)
      have c72W := hHW.at72 hB2l
      have f72W := hHW.free 72
      have oWW : Off (· = g) w W := hoff.trans ((Off.refl _ _).drew.trans oW)
      have hnW : Near W g (if c' = n then some ⟨blk, off, none⟩ else (some (⟨blk, off, none⟩ : Addr)).map (·.add n)) (b.drop (k + n)) := by
        have h := (hnear.off ((Off.refl _ _).drew.trans oW)).cut (n := n) (c := c') (by rw [← Hd.out]; exact hn1) (by rw [← Hd.out]; exact hcc)
        rw [HD.out, List.drop_drop] at h
        exact h
      have hTn : T ++ D.take n = t ++ b.take (k + n) := by
        rw [HT.out, HD.out, List.append_assoc, List.take_add]
      have hTl2 : (T ++ D.take n).length = M + n := by rw [List.length_append, hDn, HM.out]
      have hdk : d - n = b.length - (k + n) := by rw [Hd.out, HDL.out]; omega
      obtain ⟨B2, hB2⟩ : ∃ B2, B2 = beg.take m ++ D.take n ++ beg.drop (m + n) := ⟨_, rfl⟩
      rw [← hB2] at hHW hB2l hB2b
      have HHW := Lib.hid hHW
      have HOW := Lib.hid oWW
      have HNW := Lib.hid hnW
      have HTN := Lib.hid hTn
      have HTL2 := Lib.hid hTl2
      have HDK := Lib.hid hdk
      have HB2 := Lib.hid hB2
      have HNIL : Hid ((if c' = n then some (⟨blk, off, none⟩ : Addr) else (some (⟨blk, off, none⟩ : Addr)).map (·.add n)) = none → c' - n = 0) := by
        intro h; split at h <;> cases h
      have n0 : (0 : Int) ≤ (n : Int) := by omega
      have nd : (n : Int) ≤ (d : Int) := by omega
      have nc : (n : Int) ≤ (c' : Int) := by omega
      have nw : IntKind.u64.wrap (n : Int) = (n : Int) := IntWalk.u64_in _ (by omega)
      have sw : IntKind.u64.wrap ((M : Int) + (n : Int)) = (M : Int) + (n : Int) := IntWalk.u64_in _ (by omega)
      have hMn : m = M % 64 := HME.out
      clear hW oW hHW oWW hnW hTn hTl2 hdk hB2 c72 hoff hnear hV
      have hgo : goInt (V.length : Int) = Value.int .i64 (n : Int) := by rw [hVl]; rfl
      rw [hgo]
      clear hgo hVl
      simp only [Act.put, List.setIfInBounds_toArray, List.set_cons_succ, List.set_cons_zero]
      by_cases hfull : m + n = 64
      · have htm : ((M : Int) + (n : Int)).tmod 64 = 0 := by rw [Int.tmod_eq_emod_of_nonneg (by omega)]; omega
        have hte : ((M : Int) + (n : Int)) % 64 = 0 := by omega
        have hkn : k + n ≤ b.length := by have := HDL.out; have := Hd.out; omega
        have hq3 : (if c' = n then some (⟨blk, off, none⟩ : Addr) else (some (⟨blk, off, none⟩ : Addr)).map (·.add n)) = some ⟨blk, off, none⟩ ∧ c' = n ∨ (if c' = n then some (⟨blk, off, none⟩ : Addr) else (some (⟨blk, off, none⟩ : Addr)).map (·.add n)) = some ⟨blk, off + n, none⟩ ∧ ¬ c' = n := by
          by_cases hq : c' = n
          · exact Or.inl ⟨if_pos hq, hq⟩
          · exact Or.inr ⟨by rw [if_neg hq, Option.map_some, Addr.add_mid], hq⟩
        have HQ3 := Lib.hid hq3
        obtain ⟨W3, hW3⟩ : ∃ W3, W3 = W.setCell ⟨g, 72, none⟩ (.int .u64 ((M : Int) + (n : Int))) := ⟨_, rfl⟩
        have hH3 : Head W3 g 124 l (HK B2 (M + n)) := by rw [hW3]; exact HHW.out.taken hB2l (M + n)
        have oW3 : Off (· = g) w W3 := by rw [hW3]; exact HOW.out.set 72 _
        have nW3 := HNW.out.off (w' := W3) (by rw [hW3]; exact (Off.refl _ _).set 72 _)
        have hLW := HLD.out.off oW3.drew (fun q hq => by rw [hq]; exact HGG.out)
        have hTK := take_any g 124 l B2 (HK B2 (M + n)) W3.drew hLW hB2b hB2l (hH3.keep rfl)
        have hST : ∀ W4, Head W4 g 124 (addTo l (roundsTo (eightOf (sumTo l 8)) shaK (wordsTo B2 64) 64) 8) (HK B2 (M + n)) → St W4 g (t ++ b.take (k + n)) := by
          intro W4 hh
          rw [← HTN.out]
          have e1 : T.length % 64 = m := by rw [HME.out, HM.out]
          rw [HB2.out] at hB2l hB2b hh
          refine st_full (beg := beg) (l := l) ?_ ?_ ?_ hbl hbt hsum ?_
          · rw [e1, hDn, ← HM.out]; exact hh
          · rw [e1, hDn]; exact hB2l
          · rw [e1, hDn]; exact hB2b
          · rw [e1, hDn]; omega
        have hld : W3.drew.rangeAt g 8 (B2.map fun z : Nat => Value.int .u8 (z : Int)) := hH3.begun hB2l
        have hinf : (Tryd.prog.info? 64).map (·.size) = some (B2.map fun z : Nat => Value.int .u8 (z : Int)).length := by rw [List.length_map, hB2l]; kernel_rfl
        have HLD2 := Lib.hid hld
        have HINF := Lib.hid hinf
        unfold BA at hTK
        have HTK := Lib.hid hTK
        have HST := Lib.hid hST
        have HW3 := Lib.hid hW3
        have O3 := Lib.hid oW3
        have N3 := Lib.hid nW3
        clear hTK hST hW3 oW3 nW3 hLW hH3 hsum hbt hhd hbl hbb hld hinf hMn hmi hmt hfull y0 z0 hne64
        by_cases hq : c' = n
        · go_wp2
          rw [← HW3.out]
          refine wp_region_still_tail 7 (by kernel_rfl) (by kernel_rfl) ?_
          simp only [List.take_succ_cons, List.take_zero, List.drop_succ_cons, List.drop_zero]
          iterate 6 still_step
          refine wpStill_load_mid (by rfl) 64 (.tmp 44) rfl g 8 rfl _ _ HLD2.out Tryd.underlying64 rfl HINF.out ?_
          refine wpStill_nil ?_
          change wpList _ _ _ _ _ W3.drew
          go_wp2_with (go_at_call 76; with_reducible (refine Calls.mono HTK.out ?_); rintro e W4 ⟨rfl, hH4, hO4⟩)
          have hNE := N3.out.off ((Off.refl _ _).drew.trans hO4)
          rw [if_pos hq] at hNE
          refine ⟨⟨k + n, _, _, hkn, by rw [HDK.out], hNE, (fun h => rfl), by have := HDK.out; omega, HST.out _ hH4, O3.out.trans ((Off.refl _ _).drew.trans hO4)⟩, ?_⟩
          show d - n < d
          omega
        · have hq2 : ¬ (c' : Int) = (n : Int) := by omega
          go_wp2
          rw [← HW3.out]
          refine wp_region_still_tail 7 (by kernel_rfl) (by kernel_rfl) ?_
          simp only [List.take_succ_cons, List.take_zero, List.drop_succ_cons, List.drop_zero]
          iterate 6 still_step
          refine wpStill_load_mid (by rfl) 64 (.tmp 44) rfl g 8 rfl _ _ HLD2.out Tryd.underlying64 rfl HINF.out ?_
          refine wpStill_nil ?_
          change wpList _ _ _ _ _ W3.drew
          go_wp2_with (go_at_call 76; with_reducible (refine Calls.mono HTK.out ?_); rintro e W4 ⟨rfl, hH4, hO4⟩)
          have hNE := N3.out.off ((Off.refl _ _).drew.trans hO4)
          rw [if_neg hq, Option.map_some, Addr.add_mid] at hNE
          refine ⟨⟨k + n, _, _, hkn, by rw [HDK.out], hNE, (fun h => by cases h), by have := HDK.out; omega, HST.out _ hH4, O3.out.trans ((Off.refl _ _).drew.trans hO4)⟩, ?_⟩
          show d - n < d
          omega
      · obtain ⟨q, hqe⟩ : ∃ q, q = m + n := ⟨_, rfl⟩
        have htm : ((M : Int) + (n : Int)).tmod 64 = (q : Int) := by rw [Int.tmod_eq_emod_of_nonneg (by omega)]; omega
        have hte : ((M : Int) + (n : Int)) % 64 = (q : Int) := by omega
        have htb : ((q : Int) == 0) = false := by simp; omega
        have htn : ¬ ((q : Int) = 0) := by omega
        have hq64 : (q : Int) ≤ 64 := by omega
        have hq0 : (0 : Int) ≤ (q : Int) := by omega
        have HQE := Lib.hid hqe
        clear hqe
        have hST : St (W.setCell ⟨g, 72, none⟩ (.int .u64 ((M : Int) + (n : Int)))) g (t ++ b.take (k + n)) := by
          rw [← HTN.out]
          have hh := HHW.out.taken hB2l (M + n)
          rw [HB2.out] at hB2l hB2b hh
          have e1 : T.length % 64 = m := by rw [HME.out, HM.out]
          refine st_less (beg := beg) (l := l) ?_ ?_ ?_ hbl hbt hsum ?_
          · rw [e1, hDn, ← HM.out]; exact hh
          · rw [e1, hDn]; exact hB2l
          · rw [e1, hDn]; exact hB2b
          · rw [e1, hDn]; omega
        have hOF : Off (· = g) w (W.setCell ⟨g, 72, none⟩ (.int .u64 ((M : Int) + (n : Int)))) := HOW.out.set 72 _
        have hNE : Near (W.setCell ⟨g, 72, none⟩ (.int .u64 ((M : Int) + (n : Int)))) g (if c' = n then some ⟨blk, off, none⟩ else (some (⟨blk, off, none⟩ : Addr)).map (·.add n)) (b.drop (k + n)) := HNW.out.off ((Off.refl _ _).set 72 _)
        have hkn : k + n ≤ b.length := by have := HDL.out; have := Hd.out; omega
        have R := Lib.hid (And.intro hST (And.intro hOF hNE))
        have hnil2 := HNIL.out
        clear hST hOF hNE hsum hbt hhd hbl hbb
        by_cases hq : c' = n
        · go_wp2
          obtain ⟨hST, hOF, hNE⟩ := R.out
          rw [if_pos hq] at hNE
          refine ⟨⟨k + n, _, _, hkn, by rw [HDK.out], hNE, (fun h => rfl), by have := HDK.out; omega, hST, hOF⟩, ?_⟩
          show d - n < d
          omega
        · have hq2 : ¬ (c' : Int) = (n : Int) := by omega
          go_wp2
          obtain ⟨hST, hOF, hNE⟩ := R.out
          rw [if_neg hq, Option.map_some, Addr.add_mid] at hNE
          refine ⟨⟨k + n, _, _, hkn, by rw [HDK.out], hNE, (fun h => by cases h), by have := HDK.out; omega, hST, hOF⟩, ?_⟩
          show d - n < d
          omega
    · have hkb : k = b.length := by omega
      subst hkb
      rw [List.take_length] at hsum hbt hhd
      have hfin : St wr g (t ++ b) := ⟨l, beg, hhd, hbl, hbb, hbt, hsum⟩
      have hz : ¬ ((0 : Int) < ((b.length - b.length : Nat) : Int)) := by omega
      clear hsum hbt hhd hbl hbb hlt
      go_wp2
      exact bodyPost_end (results_none rfl _ _ _) rfl ⟨rfl, hfin, hoff⟩

end Go.Proofs.YtanpfodmmeagaaaDoor
