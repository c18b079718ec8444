/-
  What is asked of the layer weigh, as properties of its calls; the law's own 'awake', WeighUnits and WeighShares from these.
-/
import Derived.Test.YtcbimgdgodeppaaWeighRefA
import Derived.Deep.RegionWith
namespace Go.Proofs.Ytcbimgdgodeppaa
open Go.RowKit

structure WeighSpec (w0 : World) : Prop where
  units : ∀ (A : Option Addr) (c : Nat) (bs : List Nat) (w : World), Below w0.heap.size w0 w → Flts w w.heap.size A bs → (∀ b ∈ bs, b < 18446744073709551616) → bs.length ≤ c → bs.length ≤ 100000 →
    Calls Try.prog 13 #[.slice A bs.length c] w fun e w' => ∃ A' c', e = .returned (.slice A' bs.length c') ∧ bs.length ≤ c' ∧ Ints w' w'.heap.size .i64 A' (up (unitsN bs)) ∧ Below w.heap.size w w'
  share : ∀ (total : Int) (A : Option Addr) (c : Nat) (bs : List Nat) (w : World), Below w0.heap.size w0 w → -9223372036854775808 ≤ total ∧ total ≤ 9223372036854775807 → Flts w w.heap.size A bs → (∀ b ∈ bs, b < 18446744073709551616) → bs.length ≤ c → bs.length ≤ 100000 →
    Calls Try.prog 15 #[.int .i64 total, .slice A bs.length c] w fun e w' => ∃ A' c', e = .returned (.tuple #[.slice A' (shareR total bs).2.length c', .int .i64 (shareR total bs).1]) ∧ (shareR total bs).2.length ≤ c' ∧ Ints w' w'.heap.size .i64 A' (shareR total bs).2 ∧ Below w.heap.size w w'

def oneB : Nat := 4607182418800017408
theorem wake_share : shareR 10 [oneB, oneB, oneB] = (0, [4, 3, 3]) := by decide +kernel
theorem flts_new (w : World) (bs : List Nat) (t : TypeId) : Flts (w.alloc (.cells (bs.map (Value.float .f64)).toArray t)) (w.alloc (.cells (bs.map (Value.float .f64)).toArray t)).heap.size (some ⟨w.heap.size, 0, none⟩) bs := fun i hi => by
  refine ⟨w.heap.size, 0, rfl, by simp, ?_⟩
  rw [Nat.zero_add, cell_of_row _ _ i _ _ _ (heap_alloc_new w _)]
  simp [List.getD_eq_getElem?_getD, hi]

set_option maxHeartbeats 800000 in
set_option maxRecDepth 20000 in
theorem weighAwake {w0 : World} (HS : WeighSpec w0) (w : World) (hw : Below w0.heap.size w0 w) : Calls Try.prog 11 #[] w fun e w' => e = .returned (.bool true) ∧ Below w.heap.size w w' := by
  have H1 : Hid (Calls Try.prog 15 #[.int .i64 10, .slice (some ⟨w.heap.size, 0, none⟩) 3 3] (w.alloc (.cells #[.float .f64 4607182418800017408, .float .f64 4607182418800017408, .float .f64 4607182418800017408] 35)) fun e w' =>
      ∃ b o c', e = .returned (.tuple #[.slice (some ⟨b, o, none⟩) 3 c', .int .i64 0]) ∧ w'.cell? ⟨b, o, none⟩ = some (.int .i64 4) ∧ w'.cell? ⟨b, o + 1, none⟩ = some (.int .i64 3) ∧ w'.cell? ⟨b, o + 2, none⟩ = some (.int .i64 3) ∧ Below w.heap.size w w') := by
    have h := HS.share 10 (some ⟨w.heap.size, 0, none⟩) 3 [oneB, oneB, oneB] (w.alloc (.cells #[.float .f64 4607182418800017408, .float .f64 4607182418800017408, .float .f64 4607182418800017408] 35)) (hw.alloc hw.size _) ⟨by decide, by decide⟩ (flts_new w [oneB, oneB, oneB] _) (by decide) (Nat.le_refl _) (by decide)
    rw [wake_share] at h
    refine h.mono fun e w' ⟨A', c', q1, _, q3, q4⟩ => ?_
    obtain ⟨b, o, rfl, _, hc⟩ := q3.at_ (by decide)
    exact ⟨b, o, c', q1, hc 0 (by decide), hc 1 (by decide), hc 2 (by decide), ((Below.refl _ _).alloc (Nat.le_refl _) _).trans (q4.mono (by simp))⟩
  clear HS hw
  go_enter Try.func11, Try.ntmps11
  go_wp2_with (go_at_call 15; with_reducible (refine Calls.mono H1.out ?_); rintro e w1 ⟨b, o, c', rfl, q0, q1, q2, hb⟩)
  go_ret
  exact ⟨rfl, hb⟩

theorem take_lt {bs : List Nat} (h : ∀ b ∈ bs, b < 18446744073709551616) (k : Nat) : ∀ b ∈ bs.take k, b < 18446744073709551616 := fun b hb => h b (List.mem_of_mem_take hb)
theorem take_len (bs : List Nat) : (bs.take 200).length ≤ 200 := by rw [List.length_take]; omega

set_option maxHeartbeats 800000 in
set_option maxRecDepth 20000 in
/-- WeighUnits. -/
theorem weighUnits_go (A : Option Addr) (c : Nat) (bs : List Nat) (w : World) (HS : WeighSpec w) (h : Ints w w.heap.size .u64 A (up bs)) (hlt : ∀ b ∈ bs, b < 18446744073709551616) :
    Calls Try.prog 3 #[.slice A bs.length c] w fun e w' => e = .returned (.bool true) ∧ Below w.heap.size w w' := by
  have HA := Lib.hid (weighAwake HS)
  have HF := Lib.hid (floats_any A c bs w h)
  have htl := take_lt hlt 200
  have hl2 := take_len bs
  have HU := Lib.hid (fun (W : World) (A' : Option Addr) (c' : Nat) (hw : Below w.heap.size w W) (hf : Flts W W.heap.size A' (bs.take 200)) (hc : (bs.take 200).length ≤ c') => HS.units A' c' (bs.take 200) W hw hf htl hc (by omega))
  have HR := Lib.hid (fun (W : World) (A' : Option Addr) (c' : Nat) (hf : Flts W W.heap.size A' (bs.take 200)) => refUnits_any A' c' (bs.take 200) W hf htl (by omega))
  have hul : (up (unitsN (bs.take 200))).length = (bs.take 200).length := by rw [up_len, unitsN_len]
  have HSI := Lib.hid (fun (W : World) (A0 A1 : Option Addr) (c0 c1 : Nat) (h0 : Ints W W.heap.size .i64 A0 (up (unitsN (bs.take 200)))) (h1 : Ints W W.heap.size .i64 A1 (up (unitsN (bs.take 200)))) => sameInts_any A0 A1 c0 c1 _ W h0 h1 (by omega))
  rw [hul] at HSI
  obtain ⟨n, hn⟩ : ∃ n, n = (bs.take 200).length := ⟨_, rfl⟩
  simp only [← hn] at HF HU HR HSI
  clear hn hul HS h hlt htl hl2
  go_enter Try.func3, Try.ntmps3
  go_wp2_with (first
    | (go_at_call 10; with_reducible (refine Calls.mono HF.out ?_); rintro e w1 ⟨A1, c1, rfl, hc1, hf1, hbx⟩)
    | (go_at_call 11; with_reducible (refine Calls.mono (HA.out _ hbx) ?_); rintro e w2 ⟨rfl, hb2⟩; have hf2 := (hf1.below hb2).more hb2.size; replace hbx := chain hbx hb2)
    | (go_at_call 13; with_reducible (refine Calls.mono (HU.out _ _ _ hbx hf2 hc1) ?_); rintro e w3 ⟨A3, c3, rfl, hc3, hi3, hb3⟩; have hf3 := (hf2.below hb3).more hb3.size; replace hbx := chain hbx hb3)
    | (go_at_call 14; with_reducible (refine Calls.mono (HR.out _ _ _ hf3) ?_); rintro e w4 ⟨A4, c4, rfl, hc4, hi4, hb4⟩; have hi3b := (hi3.below hb4).more hb4.size; replace hbx := chain hbx hb4)
    | (go_at_call 12; with_reducible (refine Calls.mono (HSI.out _ _ _ _ _ hi3b hi4) ?_); rintro e w5 ⟨rfl, m, rfl⟩))
  go_ret
  exact ⟨rfl, below_drewN hbx m⟩

set_option maxHeartbeats 800000 in
set_option maxRecDepth 20000 in
/-- WeighShares. -/
theorem weighShares_go (total : Int) (A : Option Addr) (c : Nat) (bs : List Nat) (w : World) (HS : WeighSpec w) (ht : -9223372036854775808 ≤ total ∧ total ≤ 9223372036854775807) (h : Ints w w.heap.size .u64 A (up bs)) (hlt : ∀ b ∈ bs, b < 18446744073709551616) :
    Calls Try.prog 4 #[.int .i64 total, .slice A bs.length c] w fun e w' => e = .returned (.bool true) ∧ Below w.heap.size w w' := by
  have HA := Lib.hid (weighAwake HS)
  have HF := Lib.hid (floats_any A c bs w h)
  have htl := take_lt hlt 200
  have hl2 := take_len bs
  have hsl : (shareR total (bs.take 200)).2.length ≤ 200 := by
    unfold shareR
    split
    · decide
    · split
      · decide
      · show (shareN total (unitsN (bs.take 200))).length ≤ 200
        rw [shareN_len, unitsN_len]; exact hl2
  have HU := Lib.hid (fun (W : World) (A' : Option Addr) (c' : Nat) (hw : Below w.heap.size w W) (hf : Flts W W.heap.size A' (bs.take 200)) (hc : (bs.take 200).length ≤ c') => HS.share total A' c' (bs.take 200) W hw ht hf htl hc (by omega))
  have HR := Lib.hid (fun (W : World) (A' : Option Addr) (c' : Nat) (hf : Flts W W.heap.size A' (bs.take 200)) => refShare_any total A' c' (bs.take 200) W hf htl)
  have HSI := Lib.hid (fun (W : World) (A0 A1 : Option Addr) (c0 c1 : Nat) (h0 : Ints W W.heap.size .i64 A0 (shareR total (bs.take 200)).2) (h1 : Ints W W.heap.size .i64 A1 (shareR total (bs.take 200)).2) => sameInts_any A0 A1 c0 c1 _ W h0 h1 (by omega))
  obtain ⟨n, hn⟩ : ∃ n, n = (bs.take 200).length := ⟨_, rfl⟩
  obtain ⟨E, hE⟩ : ∃ E, E = (shareR total (bs.take 200)).1 := ⟨_, rfl⟩
  obtain ⟨L, hL⟩ : ∃ E, E = (shareR total (bs.take 200)).2 := ⟨_, rfl⟩
  simp only [← hn, ← hE, ← hL] at HF HU HR HSI
  clear hn hE hL hsl HS h hlt htl hl2 ht
  go_enter Try.func4, Try.ntmps4
  go_wp2_with (first
    | (go_at_call 10; with_reducible (refine Calls.mono HF.out ?_); rintro e w1 ⟨A1, c1, rfl, hc1, hf1, hbx⟩)
    | (go_at_call 11; with_reducible (refine Calls.mono (HA.out _ hbx) ?_); rintro e w2 ⟨rfl, hb2⟩; have hi3c := (hi3b.below hb2).more hb2.size; have hi4b := (hi4.below hb2).more hb2.size; replace hbx := chain hbx hb2)
    | (go_at_call 15; with_reducible (refine Calls.mono (HU.out _ _ _ hbx hf1 hc1) ?_); rintro e w3 ⟨A3, c3, rfl, hc3, hi3, hb3⟩; have hf3 := (hf1.below hb3).more hb3.size; replace hbx := chain hbx hb3)
    | (go_at_call 16; with_reducible (refine Calls.mono (HR.out _ _ _ hf3) ?_); rintro e w4 ⟨A4, c4, rfl, hi4, hb4⟩; have hi3b := (hi3.below hb4).more hb4.size; replace hbx := chain hbx hb4)
    | (go_at_call 12; with_reducible (refine Calls.mono (HSI.out _ _ _ _ _ hi3c hi4b) ?_); rintro e w5 ⟨rfl, m, rfl⟩))
  go_ret
  exact ⟨rfl, below_drewN hbx m⟩

end Go.Proofs.Ytcbimgdgodeppaa
