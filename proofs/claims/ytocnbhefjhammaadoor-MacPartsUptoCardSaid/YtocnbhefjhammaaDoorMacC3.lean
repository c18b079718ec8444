/-
  The layer mac: the digest of a full key and parts.
-/
import Derived.Test.YtocnbhefjhammaaDoorMacC2
namespace Go.Proofs.YtocnbhefjhammaaDoor
open Go.RowKit

section
variable (w : World)
theorem two_below (o1 o2 : Obj) : Below w.heap.size w ((w.alloc o1).alloc o2) := ((Below.refl _ _).alloc (Nat.le_refl _) _).alloc (by simp) _
theorem two_second (o1 o2 : Obj) : ((w.alloc o1).alloc o2).heap[w.heap.size + 1]? = some o2 := heap_alloc_new' _ _ _ (by simp)
theorem two_ints (l : List Nat) (t : TypeId) (o2 : Obj) : Ints ((w.alloc (.cells (BA l) t)).alloc o2) (w.heap.size + 2) .u8 (some ⟨w.heap.size, 0, none⟩) (up l) :=
  (ints_of_BA (B := w.heap.size + 1) (g := w.heap.size) (t := t) (fr := (0, 0)) ((Below.heap_alloc (w.alloc (.cells (BA l) t)) o2 _ (by simp)).trans (heap_alloc_new _ _)) (Nat.lt_succ_self _)).more (Nat.le_succ _)
end

set_option maxHeartbeats 1600000 in
set_option maxRecDepth 100000 in
/-- 'digest'. -/
theorem digestKey_any {w0 : World} {R : World → (Nat → Prop) → Addr → List Nat → Prop} (HS : HashSpec w0 R) (K : List Nat) (A1 : Option Addr) (c1 : Nat) (ps : List Part) (w : World) (hw0 : Below w0.heap.size w0 w) (hK : K.length = 64) (hKb : ∀ b ∈ K, b < 256)
    (hp : Parts w w.heap.size A1 ps) (hn : ps.length ≤ 4096) (hl : (catTo ps ps.length).length ≤ 140737488354900) :
    Calls Tryd.prog 16 #[.agg (BA K), .slice A1 ps.length c1] w fun e w' => e = .returned (.agg (BA (digestN (K ++ catTo ps ps.length)))) ∧ Below w.heap.size w w' := by
  have hz := (zero_of_info (P := Tryd.prog) (t := 24) (v := .agg zero32) (n := 32) (by kernel_rfl)).1
  have hu := Tryd.underlying24
  have hdl : (BA (digestN (K ++ catTo ps ps.length))).size = 32 := by rw [BA_size, digest_len]
  have hid : (Tryd.prog.info? 24).map (·.size) = some (BA (digestN (K ++ catTo ps ps.length))).size := by rw [hdl]; kernel_rfl
  have hzd : zero32.size = (BA (digestN (K ++ catTo ps ps.length))).size := by rw [hdl]; rfl
  have hD1 := BA_one (digestN (K ++ catTo ps ps.length))
  obtain ⟨D, hD⟩ : ∃ D, D = BA (digestN (K ++ catTo ps ps.length)) := ⟨_, rfl⟩
  rw [← hD] at hid hzd hD1 ⊢
  have HD := Lib.hid hD
  have HB := Lib.hid (two_below w (.cells (BA K) 36) (.cells zero32 24))
  have HK0 := Lib.hid (two_ints w K 36 (.cells zero32 24))
  have HR0 := Lib.hid (two_second w (.cells (BA K) 36) (.cells zero32 24))
  have HN := Lib.hid (fun (W : World) (hb : Below w.heap.size w W) => HS.new W (hw0.trans (hb.mono hw0.size)))
  have HW := Lib.hid (fun (W : World) (F : Nat → Prop) (a : Addr) (t : List Nat) (A : Option Addr) (c B : Nat) (b : List Nat) (hb : Below w.heap.size w W) => HS.write W F a t A c B b (hw0.trans (hb.mono hw0.size)))
  have HSUM := Lib.hid (fun (W : World) (F : Nat → Prop) (a : Addr) (t : List Nat) (hb : Below w.heap.size w W) => HS.sum W F a t (hw0.trans (hb.mono hw0.size)))
  have HP := Lib.hid hp
  have HKB := Lib.hid hKb
  have HL := Lib.hid hl
  have HKL := Lib.hid hK
  have HWK : Hid (∀ (W : World) (F : Nat → Prop) (a : Addr), Below w.heap.size w W → R W F a [] → (∀ k, F k → w.heap.size + 2 ≤ k ∧ k < W.heap.size) → w.heap.size + 2 ≤ W.heap.size → Ints W (w.heap.size + 2) .u8 (some ⟨w.heap.size, 0, none⟩) (up K) →
      Calls Tryd.prog 23 #[.pointer (some a), .slice (some ⟨w.heap.size, 0, none⟩) 64 64] W fun e w' => e = .returned (.tuple #[]) ∧ ∃ F', R w' F' a K ∧ (∀ k, F' k → (F k ∨ W.heap.size ≤ k) ∧ k < w'.heap.size) ∧ Off F W w') := fun W F a hb hR hF hB hi => by
    have := HS.write W F a [] (some ⟨w.heap.size, 0, none⟩) 64 (w.heap.size + 2) K (hw0.trans (hb.mono hw0.size)) hR hF hB hi (fun h => by cases h) hKb (Nat.le_of_eq hK) (by rw [hK]; decide)
    rw [hK, List.nil_append] at this
    exact this
  have hcb : ∀ (k : Nat), ∀ b ∈ catTo ps k, b < 256 := fun k b hb => by
    simp only [catTo, List.mem_flatten, List.mem_map] at hb
    obtain ⟨l, ⟨p, hp1, rfl⟩, hb⟩ := hb
    obtain ⟨i, hi, rfl⟩ := List.getElem_of_mem (List.mem_of_mem_take hp1)
    obtain ⟨_, _, _, _, _, hok⟩ := hp i hi
    exact hok.byte b hb
  have HCB := Lib.hid hcb
  have hcl : ∀ k, (catTo ps k).length ≤ (catTo ps ps.length).length := fun k => by
    unfold catTo
    rw [List.take_length]
    simp only [List.length_flatten, List.map_map]
    rw [← List.take_append_drop k ps, List.map_append, List.sum_append]
    simp only [List.take_append_drop]
    exact Nat.le_add_right _ _
  have HCL := Lib.hid hcl
  clear hD hdl HS hp hKb hcb hcl hl hw0
  obtain ⟨Z, hZ⟩ : ∃ Z, Z = zero32 := ⟨_, rfl⟩
  rw [← hZ] at hz hzd HB HK0 HR0
  clear hZ
  go_enter Tryd.func16, Tryd.ntmps16
  go_wp2_with (first
    | (go_at_call 22; with_reducible (refine Calls.mono (HN.out _ HB.out) ?_); rintro e w1 ⟨a, F, rfl, hR, hF, hb1⟩; have hbw1 := HB.out.trans (hb1.mono HB.out.size); have hz1 := (hb1.block (w.heap.size + 1) (by simp)).trans HR0.out; have hi1 := HK0.out.below (hb1.mono (by simp)); have hs1 := hb1.size; simp only [World.size_alloc] at hs1 hF)
    | (go_at_call 23; with_reducible (refine Calls.mono (HWK.out w1 F a hbw1 hR hF hs1 hi1) ?_); rintro e w2 ⟨rfl, F2, hR2, hF2, hO2⟩))
  have hs2 : w.heap.size + 1 + 1 ≤ w2.heap.size := Nat.le_trans hs1 hO2.size
  have hbw2 := hO2.below hbw1 (by intro k hk; have := (hF k hk).1; omega)
  have hz2 := (hO2.block (w.heap.size + 1) (by omega) (by intro hk; have := (hF _ hk).1; omega)).trans hz1
  have hG2 : ∀ k, F2 k → w.heap.size + 1 + 1 ≤ k ∧ k < w2.heap.size := fun k hk => by
    have h := hF2 k hk
    refine ⟨?_, h.2⟩
    rcases h.1 with h1 | h1
    · exact (hF k h1).1
    · omega
  clear hO2 hF2 hF hR hb1 hbw1 hz1 hi1 hs1
  go_loopw [14] (fun i wr => ∃ (k : Nat) (G : Nat → Prop), k ≤ ps.length ∧ i = .int .i64 k ∧ R wr G a (K ++ catTo ps k) ∧ (∀ j, G j → w.heap.size + 1 + 1 ≤ j ∧ j < wr.heap.size) ∧ Below w.heap.size w wr ∧ wr.heap[w.heap.size + 1]? = some (.cells Z 24 (0, 0)) ∧ w.heap.size + 1 + 1 ≤ wr.heap.size) (fun i _ => ps.length - (intOf i).toNat)
  case atStart => exact ⟨0, F2, Nat.zero_le _, rfl, by simpa [catTo] using hR2, hG2, hbw2, hz2, by omega⟩
  case round =>
    clear hR2 hG2 hbw2 hz2 hs2
    obtain ⟨k, G, hk, rfl, hR3, hG3, hbel, hz3, hs3⟩ := hrel
    by_cases hlt : k < ps.length
    · obtain ⟨b0, off, e1, hblk, hcell, hpok⟩ := HP.out k hlt
      have hcell' := (hbel.cell (p := ⟨b0, off + k, none⟩) hblk).trans hcell
      have hcat := catTo_next ps k hlt
      have hle := HCL.out (k + 1)
      rw [hcat, List.length_append] at hle
      have HWP := Lib.hid (HW.out wr G a (K ++ catTo ps k) ps[k].A ps[k].c w.heap.size ps[k].b hbel hR3 (fun j hj => ⟨by have := (hG3 j hj).1; omega, (hG3 j hj).2⟩) hbel.size (hpok.ints.below hbel) hpok.nil hpok.byte hpok.le (by rw [List.length_append, HKL.out]; have := HL.out; omega))
      rw [List.append_assoc, ← hcat] at HWP
      obtain ⟨PA, hPA⟩ : ∃ x, x = ps[k].A := ⟨_, rfl⟩
      obtain ⟨pc, hpc⟩ : ∃ x, x = ps[k].c := ⟨_, rfl⟩
      obtain ⟨pn, hpn⟩ : ∃ x, x = ps[k].b.length := ⟨_, rfl⟩
      rw [← hPA, ← hpc, ← hpn] at hcell' HWP
      have hkc : (k : Int) < (ps.length : Int) := by omega
      obtain rfl := e1
      have RK := Lib.hid (And.intro hG3 (And.intro hbel (And.intro hz3 hs3)))
      clear hcat hpok hPA hpc hpn hcell hle hR3 hG3 hbel hz3 hs3
      go_wp2_with (go_at_call 23; with_reducible (refine Calls.mono HWP.out ?_); rintro e w4 ⟨rfl, F4, hR4, hF4, hO4⟩)
      obtain ⟨hG3, hbel, hz3, hs3⟩ := RK.out
      have R2 : R w4 F4 a (K ++ catTo ps (k + 1)) ∧ (∀ j, F4 j → w.heap.size + 1 + 1 ≤ j ∧ j < w4.heap.size) ∧ Below w.heap.size w w4 ∧ w4.heap[w.heap.size + 1]? = some (.cells Z 24 (0, 0)) ∧ w.heap.size + 1 + 1 ≤ w4.heap.size := by
        refine ⟨hR4, fun j hj => ⟨?_, (hF4 j hj).2⟩, hO4.below hbel (by intro j hj; have := (hG3 j hj).1; omega), (hO4.block _ (by omega) (by intro hj; have := (hG3 _ hj).1; omega)).trans hz3, Nat.le_trans hs3 hO4.size⟩
        rcases (hF4 j hj).1 with h | h
        · exact (hG3 j h).1
        · omega
      clear hR4 hF4 hO4 hG3 hbel hz3 hs3 RK hcell' HWP
      go_roundw
      case rel => exact ⟨k + 1, F4, by omega, by go_num, R2⟩
      case measure => simp [intOf]; omega
    · have hkn : k = ps.length := by omega
      subst hkn
      have HSP := Lib.hid (HSUM.out wr G a (K ++ catTo ps ps.length) hbel hR3 (fun j hj => (hG3 j hj).2) (fun x hx => by
        rcases List.mem_append.1 hx with hx | hx
        · exact HKB.out x hx
        · exact HCB.out _ x hx) (by rw [List.length_append, HKL.out]; have := HL.out; omega))
      rw [← HD.out] at HSP
      go_wp2_with (first
        | (go_at_call 24; refine Calls.mono HSP.out ?_; rintro e w4 ⟨rfl, F4, hR4, hF4, hO4⟩; have hz4 := (hO4.block (w.heap.size + 1) (by omega) (by intro hj; have := (hG3 _ hj).1; omega)).trans hz3; have hb4 := hO4.below hbel (by intro j hj; have := (hG3 j hj).1; omega))
        | (with_reducible (refine wpList_store_row rfl 24 _ _ rfl (w.heap.size + 1) _ rfl rfl 24 _ hz4 hid hzd hD1 ?_)))
      refine bodyPost_ret (v := .agg D) ?_ rfl ⟨rfl, below_setRow hb4 (by omega) _⟩
      exact results_cell_row rfl _ _ (w.heap.size + 1) 24 _ (0, 0) _ rfl (setRow_heap _ _ _ _ _ _ hz4) hu rfl hid

end Go.Proofs.YtocnbhefjhammaaDoor
