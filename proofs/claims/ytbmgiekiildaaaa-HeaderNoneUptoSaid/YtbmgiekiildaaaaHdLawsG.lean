/-
  The laws of the layer header that ask of Encode and Decode; the law's own 'awake'. (After those of the layer line.) The landed table: formed.
-/
import Derived.Test.YtbmgiekiildaaaaHdR4G
import Derived.Test.YtbmgiekiildaaaaTableBackNG
import Derived.Test.YtbmgiekiildaaaaTableRef2G
namespace Go.Proofs.Ytbmgiekiildaaaa
open Go.RowKit

set_option maxHeartbeats 400000 in
theorem eqHead_run (d : Nat) (x y : Rc) (w : World) : (Op.equalIn (d + 2) 23 (.agg (rcV x)) (.agg (rcV y))).run Try.prog w = .ok (decide (x = y)) w := by
  rw [run_equalIn_struct w (d + 1) 23 (rcV x) (rcV y) (by kernel_rfl) (by kernel_rfl), fieldsOf_of Try.underlying23]
  refine eqF_step (by decide) (by kernel_rfl) (by kernel_rfl) (eqI x.k y.k) (fun h0 => ?_) (fun h => by rw [decide_eq_false (fun e => by rw [e, decide_eq_true rfl] at h; cases h)])
  refine eqF_step (by decide) (by kernel_rfl) (by kernel_rfl) (eqI x.a y.a) (fun h1 => ?_) (fun h => by rw [decide_eq_false (fun e => by rw [e, decide_eq_true rfl] at h; cases h)])
  refine eqF_step (by decide) (by kernel_rfl) (by kernel_rfl) (eqI x.b y.b) (fun h2 => ?_) (fun h => by rw [decide_eq_false (fun e => by rw [e, decide_eq_true rfl] at h; cases h)])
  refine eqF_step (by decide) (by kernel_rfl) (by kernel_rfl) (eqI x.c y.c) (fun h3 => ?_) (fun h => by rw [decide_eq_false (fun e => by rw [e, decide_eq_true rfl] at h; cases h)])
  refine eqF_step (by decide) (by kernel_rfl) (by kernel_rfl) (eqI x.d y.d) (fun h4 => ?_) (fun h => by rw [decide_eq_false (fun e => by rw [e, decide_eq_true rfl] at h; cases h)])
  refine eqF_step (by decide) (by kernel_rfl) (by kernel_rfl) (eqS x.key y.key) (fun h5 => ?_) (fun h => by rw [decide_eq_false (fun e => by rw [e, decide_eq_true rfl] at h; cases h)])
  rw [decide_eq_true ((rc_ext x y).1 ⟨of_decide_eq_true h0, of_decide_eq_true h1, of_decide_eq_true h2, of_decide_eq_true h3, of_decide_eq_true h4, of_decide_eq_true h5⟩)]
  exact eqF_end
theorem eqHead_all (x y : Rc) (w : World) : (Op.equalIn 10000 23 (.agg (rcV x)) (.agg (rcV y))).run Try.prog w = .ok (decide (x = y)) w := eqHead_run 9998 x y w

/-- What is asked of Encode and Decode. -/
structure HdSpec (w0 : World) : Prop where
  enc : ∀ (l : Rc) (w : World), Below w0.heap.size w0 w → True → hErr l = 0 →
    Calls Try.prog 9 #[.agg (rcV l)] w fun e w' => ∃ A c, e = .returned (.tuple #[.slice A 64 c, .int .i64 0]) ∧ 64 ≤ c ∧ True ∧ Ints w' w'.heap.size .u8 A (hSec l) ∧ Below w.heap.size w w'
  encNo : ∀ (l : Rc) (w : World), Below w0.heap.size w0 w → True → hErr l ≠ 0 →
    Calls Try.prog 9 #[.agg (rcV l)] w fun e w' => ∃ A c, e = .returned (.tuple #[.slice A 0 c, .int .i64 (hErr l)]) ∧ Below w.heap.size w w'
  dec : ∀ (A : Option Addr) (c : Nat) (b : List Int) (w : World), Below w0.heap.size w0 w → Ints w w.heap.size .u8 A b → (∀ z ∈ b, 0 ≤ z ∧ z ≤ 255) → b.length ≤ c → b.length ≤ 9223372036854775807 →
    Calls Try.prog 12 #[.slice A b.length c] w fun e w' => e = .returned (.tuple #[.agg (rcV (hDec b).2), .int .i64 (hDec b).1]) ∧ Below w.heap.size w w'
theorem hd_spec (w0 : World) : HdSpec w0 :=
  ⟨fun l w _ _ hE => (hencode_yes l w hE).mono fun _ _ ⟨A, c, q1, q2, q3, q4⟩ => ⟨A, c, q1, q2, trivial, q3, q4⟩, fun l w _ _ hE => hencode_no l w hE, fun A c b w _ h hz hc _ => hdecode_any A c b w h hz hc⟩
def hEnc (l : Rc) : Int × List Int := (hErr l, if hErr l = 0 then hSec l else [])
theorem hSecLen {l : Rc} (h : hErr l = 0) : (hSec l).length = 64 := hSec_len (hErr_zero.1 h).2
theorem hSec_bound {l : Rc} (h : hErr l = 0) : (hSec l).length ≤ 9223372036854775807 := by rw [hSecLen h]; decide
theorem henc_ok {l : Rc} (_ : hErr l = 0) : True := trivial
theorem htext_of {w : World} {B n : Nat} {A : Option Addr} {zs : List Int} (h : Ints w B .u8 A zs) (hn : zs.length = n) (c : Nat) : (convert 24 9 (.slice A n c)).run Try.prog w = .ok (.string (strOfNums zs)) w :=
  h.textAs Try.underlying24 Try.underlying5 Try.underlying9 hn rfl c
theorem hrefEnc_any (l : Rc) (w : World) :
    Calls Try.prog 10 #[.agg (rcV l)] w fun e w' => ∃ A c, e = .returned (.tuple #[.slice A (hEnc l).2.length c, .int .i64 (hErr l)]) ∧ (hEnc l).2.length ≤ c ∧ Ints w' w'.heap.size .u8 A (hEnc l).2 ∧ Below w.heap.size w w' := by
  by_cases h : hErr l = 0
  · have h2 : (hEnc l).2 = hSec l := by unfold hEnc; rw [if_pos h]
    rw [h2, hSecLen h, h]
    exact hrefEnc_yes l w h
  · have h2 : (hEnc l).2 = [] := by unfold hEnc; rw [if_neg h]
    rw [h2]
    exact (hrefEnc_bad l w h).mono fun _ _ ⟨q1, q4⟩ => ⟨none, 0, q1, Nat.zero_le _, Ints.nil _ _ _ _, q4⟩
/-- What line.Encode answers, whatever the line. -/
theorem HdSpec.encAny {w0 : World} (HS : HdSpec w0) (l : Rc) (w : World) (hw : Below w0.heap.size w0 w) (ho : True) :
    Calls Try.prog 9 #[.agg (rcV l)] w fun e w' => ∃ A c, e = .returned (.tuple #[.slice A (hEnc l).2.length c, .int .i64 (hErr l)]) ∧ Ints w' w'.heap.size .u8 A (hEnc l).2 ∧ Below w.heap.size w w' := by
  by_cases h : hErr l = 0
  · have h2 : (hEnc l).2 = hSec l := by unfold hEnc; rw [if_pos h]
    rw [h2, hSecLen h, h]
    exact (HS.enc l w hw ho h).mono fun e w' ⟨A, c, q1, _, _, q3, q4⟩ => ⟨A, c, q1, q3, q4⟩
  · have h2 : (hEnc l).2 = [] := by unfold hEnc; rw [if_neg h]
    rw [h2]
    exact (HS.encNo l w hw ho h).mono fun e w' ⟨A, c, q1, q4⟩ => ⟨A, c, q1, Ints.nil _ _ _ _, q4⟩

def hd1 : Rc := ⟨1, 2, 3, 4, 5, key1⟩
theorem hd1_E : hErr hd1 = 0 := by decide +kernel
theorem hd1_ok : True := trivial

set_option maxHeartbeats 1600000 in
set_option maxRecDepth 20000 in
theorem hdAwake {w0 : World} (HS : HdSpec w0) (w : World) (hw : Below w0.heap.size w0 w) : Calls Try.prog 11 #[] w fun e w' => e = .returned (.bool true) ∧ Below w.heap.size w w' := by
  have H1 := Lib.hid (fun W (hb : Below w.heap.size w W) => HS.enc hd1 W (hw.trans (hb.mono hw.size)) hd1_ok hd1_E)
  have H2 : Hid (∀ (W : World) (A : Option Addr) (c : Nat), Below w.heap.size w W → Ints W W.heap.size .u8 A (hSec hd1) → 64 ≤ c → Calls Try.prog 12 #[.slice A 64 c] W fun e w' => e = .returned (.tuple #[.agg (rcV hd1), .int .i64 0]) ∧ Below W.heap.size W w') := fun W A c hb hi hc => by
    have h := HS.dec A c (hSec hd1) W (hw.trans (hb.mono hw.size)) hi (hSec_mem _) (by rw [hSecLen hd1_E]; exact hc) (hSec_bound hd1_E)
    rw [hDec_sec hd1_E, hSecLen hd1_E] at h
    exact h
  have H3 : Hid (∀ (W : World), Below w.heap.size w W → Calls Try.prog 12 #[.slice (some ⟨W.heap.size, 0, none⟩) 64 64] (W.alloc (.cells (UB zero64) 5)) fun e w' => e = .returned (.tuple #[.agg (rcV hZero), .int .i64 4]) ∧ Below W.heap.size W w') := fun W hb => by
    have hba : Below W.heap.size W (W.alloc (.cells (UB zero64) 5)) := (Below.refl _ _).alloc (Nat.le_refl _) _
    have h := HS.dec (some ⟨W.heap.size, 0, none⟩) 64 zero64 _ (hw.trans ((hb.trans (hba.mono hb.size)).mono hw.size)) (BtRow.new W 5 zero64).ints (fun z hz => by have := List.eq_of_mem_replicate hz; omega) (Nat.le_refl _) (by decide)
    rw [show hDec zero64 = (4, hZero) from if_pos rfl] at h
    exact h.mono fun e w' ⟨q1, q2⟩ => ⟨q1, hba.trans (q2.mono hba.size)⟩
  have hmk : ∀ w : World, (Instr.makeSlice 24 (.int .i64 64) (.int .i64 64)).run Try.prog w = .ok (.slice (some ⟨w.heap.size, 0, none⟩) 64 64) (w.alloc (.cells (UB zero64) 5)) := makeBytes 64 (by decide)
  obtain ⟨O, hO⟩ : ∃ O, O = UB zero64 := ⟨_, rfl⟩
  rw [← hO] at hmk
  simp only [← hO] at H3
  have hone0 := rcV_ones hZero
  have hold0 : Hid (6 = (rcV hZero).size) := rfl
  obtain ⟨Z, hZ⟩ : ∃ Z, Z = rcV hZero := ⟨_, rfl⟩
  simp only [← hZ] at H3 hone0 hold0
  have hinf0 : (Try.prog.info? 23).map (·.size) = some Z.size := by rw [hZ]; exact Try.infoHead
  have HEQ : Hid (∀ W, (Op.equalIn 10000 23 (.agg (rcV hd1)) (.agg (rcV hd1))).run Try.prog W = .ok true W) := fun W => by rw [eqHead_all, decide_eq_true rfl]
  have hinf : (Try.prog.info? 23).map (·.size) = some (rcV hd1).size := Try.infoHead
  have hone := rcV_ones hd1
  have hold : Hid (6 = (rcV hd1).size) := rfl
  have HNEW := Lib.hid (fun W : World => heap_alloc_new W (.cells #[.int .i64 0, .int .i64 0, .int .i64 0, .int .i64 0, .int .i64 0, .string ⟨#[]⟩] 23))
  have HAL := Lib.hid (fun W : World => (Below.refl W.heap.size W).alloc (Nat.le_refl _) (.cells #[.int .i64 0, .int .i64 0, .int .i64 0, .int .i64 0, .int .i64 0, .string ⟨#[]⟩] 23))
  have heq := fun W => HEQ.out W
  clear HS hw hO hZ
  go_enter Try.func11, Try.ntmps11
  go_wp2_with (first
    | (have hguard := hx4; clear hguard; go_at_call 12; with_reducible (refine Calls.mono (H3.out _ hx4) ?_); rintro e w5 ⟨rfl, hb5⟩; have hx5 := hx4.trans (hb5.mono hx4.size))
    | (have hguard := hx5; clear hguard; refine wpList_store_fresh rfl 23 _ _ rfl w5.heap.size Z rfl rfl 23 _ (HNEW.out w5) hinf0 hold0.out hone0 (HAL.out w5) (Nat.le_refl _) ?_; intro W6 hW6 hbW6 hkW hsW
       have hx6 := hx5.trans (hbW6.mono hx5.size)
       have HW5 := Lib.hid ((hbW6.block _ (Nat.lt_of_lt_of_le HR4.out.1 hb5.size)).trans ((hb5.block _ HR4.out.1).trans HR4.out.2.2.1))
       have HW6 := Lib.hid ((hbW6.block _ (Nat.lt_of_lt_of_le HR4.out.2.1 hb5.size)).trans ((hb5.block _ HR4.out.2.1).trans HR4.out.2.2.2))
       clear hkW hsW hW6)
    | (have hguard := HNEW; clear hguard; refine wpList_store_fresh rfl 23 _ _ rfl w.heap.size (rcV hd1) rfl rfl 23 _ (HNEW.out w) hinf hold.out hone (HAL.out w) (Nat.le_refl _) ?_; intro W1 hW1 hbW1 hkW hsW; have HW1 := Lib.hid hW1; have HQ := Lib.hid (Array.getElem?_eq_some_iff.1 hW1).1; clear hkW hsW hW1)
    | (refine wpList_load_row rfl 23 _ rfl w.heap.size rfl 23 _ (0, 0) _ HW1.out Try.underlying23 rfl hinf ?_)
    | (go_at_call 9; with_reducible (refine Calls.mono (H1.out _ hbW1) ?_); rintro e w2 ⟨A2, c2, rfl, hc2, hc2', hg2, hb2⟩; have hi2 := hg2; have hx2 := hbW1.trans (hb2.mono hbW1.size); have HW2 := Lib.hid ((hb2.block _ HQ.out).trans HW1.out); clear hg2)
    | (go_at_call 12; with_reducible (refine Calls.mono (H2.out _ _ _ hx2 hi2 hc2) ?_); rintro e w3 ⟨rfl, hb3⟩; have hx3 := hx2.trans (hb3.mono hx2.size); have hi3 := (hi2.below hb3).more hb3.size)
    | (have hguard := hx3; clear hguard; refine wpList_store_fresh rfl 23 _ _ rfl w3.heap.size (rcV hd1) rfl rfl 23 _ (HNEW.out w3) hinf hold.out hone (HAL.out w3) (Nat.le_refl _) ?_; intro W4 hW4 hbW4 hkW hsW
       have hx4 := hx3.trans (hbW4.mono hx3.size)
       have hi4 := (hi3.below hbW4).more hbW4.size
       have HR4 : Hid (w.heap.size < W4.heap.size ∧ w3.heap.size < W4.heap.size ∧ W4.heap[w.heap.size]? = some (.cells (rcV hd1) 23 (0, 0)) ∧ W4.heap[w3.heap.size]? = some (.cells (rcV hd1) 23 (0, 0))) := by
         have h1 := HQ.out
         have h2 := hb2.size
         have h3 := hb3.size
         have h4 := (Array.getElem?_eq_some_iff.1 hW4).1
         exact ⟨by omega, h4, (hbW4.block _ (by omega)).trans ((hb3.block _ (by omega)).trans HW2.out), hW4⟩
       clear hkW hsW hW4)
    | (refine wpList_load_when rfl 23 _ rfl w3.heap.size rfl 23 _ HW6.out Try.underlying23 rfl hinf ?_)
    | (refine wpList_load_when rfl 23 _ rfl w.heap.size rfl 23 _ HW5.out Try.underlying23 rfl hinf ?_))
  go_ret
  exact ⟨rfl, hx6⟩



end Go.Proofs.Ytbmgiekiildaaaa

namespace Go.Proofs.Ytbmgiekiildaaaa
open Go.RowKit

set_option maxHeartbeats 3200000 in
set_option maxRecDepth 20000 in
/-- 'formed', of a kind that is one. -/
theorem formed_gen (rk ra rb rc rd : Int) (key : ByteArray) (a0 a1 b0 b1 c0 c1 d0 d1 ky : Int) (w : World) (hk : inR rk 0 9)
    (hf : ∀ W, Calls Try.prog 57 #[.int .i64 rk] W fun e w' => e = .returned (.agg #[.int .i64 a0, .int .i64 a1, .int .i64 b0, .int .i64 b1, .int .i64 c0, .int .i64 c1, .int .i64 d0, .int .i64 d1, .int .i64 ky]) ∧ Below W.heap.size W w') :
    Calls Try.prog 47 #[.agg #[.int .i64 rk, .int .i64 ra, .int .i64 rb, .int .i64 rc, .int .i64 rd, .string key]] w fun e w' => e = .returned (.bool (decide (inR ra a0 a1) && decide (inR rb b0 b1) && decide (inR rc c0 c1) && decide (inR rd d0 d1) && decide ((key.size : Int) = ky))) ∧ Below w.heap.size w w' := by
  have H0 : Hid (∀ W, Calls Try.prog 42 #[.agg #[.int .i64 0, .int .i64 9], .int .i64 rk] W fun e w' => e = .returned (.bool true) ∧ Below W.heap.size W w') := fun W => by
    have h := has_any 0 9 rk W
    rwa [decide_eq_true hk] at h
  have HF := Lib.hid hf
  have H1 := Lib.hid (fun W => has_any a0 a1 ra W)
  have H2 := Lib.hid (fun W => has_any b0 b1 rb W)
  have H3 := Lib.hid (fun W => has_any c0 c1 rc W)
  have H4 := Lib.hid (fun W => has_any d0 d1 rd W)
  have h5 : ((key.size : Int) == ky) = decide ((key.size : Int) = ky) := by
    rw [Bool.eq_iff_iff]; simp
  obtain ⟨p1, hp1⟩ : ∃ P, P = decide (inR ra a0 a1) := ⟨_, rfl⟩
  obtain ⟨p2, hp2⟩ : ∃ P, P = decide (inR rb b0 b1) := ⟨_, rfl⟩
  obtain ⟨p3, hp3⟩ : ∃ P, P = decide (inR rc c0 c1) := ⟨_, rfl⟩
  obtain ⟨p4, hp4⟩ : ∃ P, P = decide (inR rd d0 d1) := ⟨_, rfl⟩
  obtain ⟨p5, hp5⟩ : ∃ P, P = decide ((key.size : Int) = ky) := ⟨_, rfl⟩
  rw [← hp5] at h5
  simp only [← hp1, ← hp2, ← hp3, ← hp4, ← hp5] at H1 H2 H3 H4 ⊢
  have HW0 := Lib.hid (heap_alloc_new w (.cells #[.int .i64 rk, .int .i64 ra, .int .i64 rb, .int .i64 rc, .int .i64 rd, .string key] 86))
  have hb0 : Below w.heap.size w (w.alloc (.cells #[.int .i64 rk, .int .i64 ra, .int .i64 rb, .int .i64 rc, .int .i64 rd, .string key] 86)) := (Below.refl _ _).alloc (Nat.le_refl _) _
  obtain ⟨W0, hW0⟩ : ∃ W, W = w.alloc (.cells #[.int .i64 rk, .int .i64 ra, .int .i64 rb, .int .i64 rc, .int .i64 rd, .string key] 86) := ⟨_, rfl⟩
  rw [← hW0] at HW0 hb0
  have HR : Hid (∀ X, Below W0.heap.size W0 X → X.cell? ⟨w.heap.size, 0, none⟩ = some (.int .i64 rk) ∧ X.cell? ⟨w.heap.size, 1, none⟩ = some (.int .i64 ra) ∧ X.cell? ⟨w.heap.size, 2, none⟩ = some (.int .i64 rb) ∧ X.cell? ⟨w.heap.size, 3, none⟩ = some (.int .i64 rc) ∧ X.cell? ⟨w.heap.size, 4, none⟩ = some (.int .i64 rd) ∧ X.cell? ⟨w.heap.size, 5, none⟩ = some (.string key)) := fun X hb => cells6 ((hb.block _ (Array.getElem?_eq_some_iff.1 HW0.out).1).trans HW0.out)
  have HC : Hid (∀ W X : World, Below (W.alloc (.cells #[.int .i64 a0, .int .i64 a1, .int .i64 b0, .int .i64 b1, .int .i64 c0, .int .i64 c1, .int .i64 d0, .int .i64 d1, .int .i64 ky] 94)).heap.size (W.alloc (.cells #[.int .i64 a0, .int .i64 a1, .int .i64 b0, .int .i64 b1, .int .i64 c0, .int .i64 c1, .int .i64 d0, .int .i64 d1, .int .i64 ky] 94)) X →
      X.cell? ⟨W.heap.size, 0, none⟩ = some (.int .i64 a0) ∧ X.cell? ⟨W.heap.size, 1, none⟩ = some (.int .i64 a1) ∧ X.cell? ⟨W.heap.size, 2, none⟩ = some (.int .i64 b0) ∧ X.cell? ⟨W.heap.size, 3, none⟩ = some (.int .i64 b1) ∧ X.cell? ⟨W.heap.size, 4, none⟩ = some (.int .i64 c0) ∧ X.cell? ⟨W.heap.size, 5, none⟩ = some (.int .i64 c1) ∧ X.cell? ⟨W.heap.size, 6, none⟩ = some (.int .i64 d0) ∧ X.cell? ⟨W.heap.size, 7, none⟩ = some (.int .i64 d1) ∧ X.cell? ⟨W.heap.size, 8, none⟩ = some (.int .i64 ky)) := fun W X hb => cells9 ((hb.block _ (by simp)).trans (heap_alloc_new W _))
  obtain ⟨r0, r1, r2, r3, r4, r5⟩ := HR.out W0 (Below.refl _ _)
  have hb0' := Lib.hid hb0
  clear hk hf hp1 hp2 hp3 hp4 hp5 HW0 hb0
  cases p1
  · skip
    go_enter Try.func47, Try.ntmps47
    go_wp2_with fail
    rw [← hW0]
    clear hW0
    go_wp2_with (first
      | (go_at_call 42; with_reducible (refine Calls.mono (H0.out _) ?_); rintro e w1 ⟨rfl, hb1⟩
         obtain ⟨r0, r1, r2, r3, r4, r5⟩ := HR.out _ hb1)
      | (go_at_call 57; with_reducible (refine Calls.mono (HF.out _) ?_); rintro e w2 ⟨rfl, hb2⟩
         have hx2 := chain hb1 hb2
         have hx3 := hx2.alloc hx2.size (.cells #[.int .i64 a0, .int .i64 a1, .int .i64 b0, .int .i64 b1, .int .i64 c0, .int .i64 c1, .int .i64 d0, .int .i64 d1, .int .i64 ky] 94)
         have hbx := Below.refl (w2.alloc (.cells #[.int .i64 a0, .int .i64 a1, .int .i64 b0, .int .i64 b1, .int .i64 c0, .int .i64 c1, .int .i64 d0, .int .i64 d1, .int .i64 ky] 94)).heap.size (w2.alloc (.cells #[.int .i64 a0, .int .i64 a1, .int .i64 b0, .int .i64 b1, .int .i64 c0, .int .i64 c1, .int .i64 d0, .int .i64 d1, .int .i64 ky] 94))
         obtain ⟨r0, r1, r2, r3, r4, r5⟩ := HR.out _ hx3)
      | (have hguard := hx3; clear hguard; go_at_call 42; with_reducible (refine Calls.mono (H1.out _) ?_); rintro e w3 ⟨rfl, hb3⟩
         have hbx := chain hbx hb3
         obtain ⟨r0, r1, r2, r3, r4, r5⟩ := HR.out _ (chain hx3 hbx)
         obtain ⟨q0, q1, q2, q3, q4, q5, q6, q7, q8⟩ := HC.out _ _ hbx)
      | (have hguard := hx3; clear hguard; go_at_call 42; with_reducible (refine Calls.mono (H2.out _) ?_); rintro e w3 ⟨rfl, hb3⟩
         have hbx := chain hbx hb3
         obtain ⟨r0, r1, r2, r3, r4, r5⟩ := HR.out _ (chain hx3 hbx)
         obtain ⟨q0, q1, q2, q3, q4, q5, q6, q7, q8⟩ := HC.out _ _ hbx)
      | (have hguard := hx3; clear hguard; go_at_call 42; with_reducible (refine Calls.mono (H3.out _) ?_); rintro e w3 ⟨rfl, hb3⟩
         have hbx := chain hbx hb3
         obtain ⟨r0, r1, r2, r3, r4, r5⟩ := HR.out _ (chain hx3 hbx)
         obtain ⟨q0, q1, q2, q3, q4, q5, q6, q7, q8⟩ := HC.out _ _ hbx)
      | (have hguard := hx3; clear hguard; go_at_call 42; with_reducible (refine Calls.mono (H4.out _) ?_); rintro e w3 ⟨rfl, hb3⟩
         have hbx := chain hbx hb3
         obtain ⟨r0, r1, r2, r3, r4, r5⟩ := HR.out _ (chain hx3 hbx)
         obtain ⟨q0, q1, q2, q3, q4, q5, q6, q7, q8⟩ := HC.out _ _ hbx))
    go_ret
    exact ⟨rfl, chain hb0'.out (chain hx3 hbx)⟩
  ·
    cases p2
    · skip
      go_enter Try.func47, Try.ntmps47
      go_wp2_with fail
      rw [← hW0]
      clear hW0
      go_wp2_with (first
        | (go_at_call 42; with_reducible (refine Calls.mono (H0.out _) ?_); rintro e w1 ⟨rfl, hb1⟩
           obtain ⟨r0, r1, r2, r3, r4, r5⟩ := HR.out _ hb1)
        | (go_at_call 57; with_reducible (refine Calls.mono (HF.out _) ?_); rintro e w2 ⟨rfl, hb2⟩
           have hx2 := chain hb1 hb2
           have hx3 := hx2.alloc hx2.size (.cells #[.int .i64 a0, .int .i64 a1, .int .i64 b0, .int .i64 b1, .int .i64 c0, .int .i64 c1, .int .i64 d0, .int .i64 d1, .int .i64 ky] 94)
           have hbx := Below.refl (w2.alloc (.cells #[.int .i64 a0, .int .i64 a1, .int .i64 b0, .int .i64 b1, .int .i64 c0, .int .i64 c1, .int .i64 d0, .int .i64 d1, .int .i64 ky] 94)).heap.size (w2.alloc (.cells #[.int .i64 a0, .int .i64 a1, .int .i64 b0, .int .i64 b1, .int .i64 c0, .int .i64 c1, .int .i64 d0, .int .i64 d1, .int .i64 ky] 94))
           obtain ⟨r0, r1, r2, r3, r4, r5⟩ := HR.out _ hx3)
        | (have hguard := hx3; clear hguard; go_at_call 42; with_reducible (refine Calls.mono (H1.out _) ?_); rintro e w3 ⟨rfl, hb3⟩
           have hbx := chain hbx hb3
           obtain ⟨r0, r1, r2, r3, r4, r5⟩ := HR.out _ (chain hx3 hbx)
           obtain ⟨q0, q1, q2, q3, q4, q5, q6, q7, q8⟩ := HC.out _ _ hbx)
        | (have hguard := hx3; clear hguard; go_at_call 42; with_reducible (refine Calls.mono (H2.out _) ?_); rintro e w3 ⟨rfl, hb3⟩
           have hbx := chain hbx hb3
           obtain ⟨r0, r1, r2, r3, r4, r5⟩ := HR.out _ (chain hx3 hbx)
           obtain ⟨q0, q1, q2, q3, q4, q5, q6, q7, q8⟩ := HC.out _ _ hbx)
        | (have hguard := hx3; clear hguard; go_at_call 42; with_reducible (refine Calls.mono (H3.out _) ?_); rintro e w3 ⟨rfl, hb3⟩
           have hbx := chain hbx hb3
           obtain ⟨r0, r1, r2, r3, r4, r5⟩ := HR.out _ (chain hx3 hbx)
           obtain ⟨q0, q1, q2, q3, q4, q5, q6, q7, q8⟩ := HC.out _ _ hbx)
        | (have hguard := hx3; clear hguard; go_at_call 42; with_reducible (refine Calls.mono (H4.out _) ?_); rintro e w3 ⟨rfl, hb3⟩
           have hbx := chain hbx hb3
           obtain ⟨r0, r1, r2, r3, r4, r5⟩ := HR.out _ (chain hx3 hbx)
           obtain ⟨q0, q1, q2, q3, q4, q5, q6, q7, q8⟩ := HC.out _ _ hbx))
      go_ret
      exact ⟨rfl, chain hb0'.out (chain hx3 hbx)⟩
    ·
      cases p3
      · skip
        go_enter Try.func47, Try.ntmps47
        go_wp2_with fail
        rw [← hW0]
        clear hW0
        go_wp2_with (first
          | (go_at_call 42; with_reducible (refine Calls.mono (H0.out _) ?_); rintro e w1 ⟨rfl, hb1⟩
             obtain ⟨r0, r1, r2, r3, r4, r5⟩ := HR.out _ hb1)
          | (go_at_call 57; with_reducible (refine Calls.mono (HF.out _) ?_); rintro e w2 ⟨rfl, hb2⟩
             have hx2 := chain hb1 hb2
             have hx3 := hx2.alloc hx2.size (.cells #[.int .i64 a0, .int .i64 a1, .int .i64 b0, .int .i64 b1, .int .i64 c0, .int .i64 c1, .int .i64 d0, .int .i64 d1, .int .i64 ky] 94)
             have hbx := Below.refl (w2.alloc (.cells #[.int .i64 a0, .int .i64 a1, .int .i64 b0, .int .i64 b1, .int .i64 c0, .int .i64 c1, .int .i64 d0, .int .i64 d1, .int .i64 ky] 94)).heap.size (w2.alloc (.cells #[.int .i64 a0, .int .i64 a1, .int .i64 b0, .int .i64 b1, .int .i64 c0, .int .i64 c1, .int .i64 d0, .int .i64 d1, .int .i64 ky] 94))
             obtain ⟨r0, r1, r2, r3, r4, r5⟩ := HR.out _ hx3)
          | (have hguard := hx3; clear hguard; go_at_call 42; with_reducible (refine Calls.mono (H1.out _) ?_); rintro e w3 ⟨rfl, hb3⟩
             have hbx := chain hbx hb3
             obtain ⟨r0, r1, r2, r3, r4, r5⟩ := HR.out _ (chain hx3 hbx)
             obtain ⟨q0, q1, q2, q3, q4, q5, q6, q7, q8⟩ := HC.out _ _ hbx)
          | (have hguard := hx3; clear hguard; go_at_call 42; with_reducible (refine Calls.mono (H2.out _) ?_); rintro e w3 ⟨rfl, hb3⟩
             have hbx := chain hbx hb3
             obtain ⟨r0, r1, r2, r3, r4, r5⟩ := HR.out _ (chain hx3 hbx)
             obtain ⟨q0, q1, q2, q3, q4, q5, q6, q7, q8⟩ := HC.out _ _ hbx)
          | (have hguard := hx3; clear hguard; go_at_call 42; with_reducible (refine Calls.mono (H3.out _) ?_); rintro e w3 ⟨rfl, hb3⟩
             have hbx := chain hbx hb3
             obtain ⟨r0, r1, r2, r3, r4, r5⟩ := HR.out _ (chain hx3 hbx)
             obtain ⟨q0, q1, q2, q3, q4, q5, q6, q7, q8⟩ := HC.out _ _ hbx)
          | (have hguard := hx3; clear hguard; go_at_call 42; with_reducible (refine Calls.mono (H4.out _) ?_); rintro e w3 ⟨rfl, hb3⟩
             have hbx := chain hbx hb3
             obtain ⟨r0, r1, r2, r3, r4, r5⟩ := HR.out _ (chain hx3 hbx)
             obtain ⟨q0, q1, q2, q3, q4, q5, q6, q7, q8⟩ := HC.out _ _ hbx))
        go_ret
        exact ⟨rfl, chain hb0'.out (chain hx3 hbx)⟩
      ·
        cases p4
        · skip
          go_enter Try.func47, Try.ntmps47
          go_wp2_with fail
          rw [← hW0]
          clear hW0
          go_wp2_with (first
            | (go_at_call 42; with_reducible (refine Calls.mono (H0.out _) ?_); rintro e w1 ⟨rfl, hb1⟩
               obtain ⟨r0, r1, r2, r3, r4, r5⟩ := HR.out _ hb1)
            | (go_at_call 57; with_reducible (refine Calls.mono (HF.out _) ?_); rintro e w2 ⟨rfl, hb2⟩
               have hx2 := chain hb1 hb2
               have hx3 := hx2.alloc hx2.size (.cells #[.int .i64 a0, .int .i64 a1, .int .i64 b0, .int .i64 b1, .int .i64 c0, .int .i64 c1, .int .i64 d0, .int .i64 d1, .int .i64 ky] 94)
               have hbx := Below.refl (w2.alloc (.cells #[.int .i64 a0, .int .i64 a1, .int .i64 b0, .int .i64 b1, .int .i64 c0, .int .i64 c1, .int .i64 d0, .int .i64 d1, .int .i64 ky] 94)).heap.size (w2.alloc (.cells #[.int .i64 a0, .int .i64 a1, .int .i64 b0, .int .i64 b1, .int .i64 c0, .int .i64 c1, .int .i64 d0, .int .i64 d1, .int .i64 ky] 94))
               obtain ⟨r0, r1, r2, r3, r4, r5⟩ := HR.out _ hx3)
            | (have hguard := hx3; clear hguard; go_at_call 42; with_reducible (refine Calls.mono (H1.out _) ?_); rintro e w3 ⟨rfl, hb3⟩
               have hbx := chain hbx hb3
               obtain ⟨r0, r1, r2, r3, r4, r5⟩ := HR.out _ (chain hx3 hbx)
               obtain ⟨q0, q1, q2, q3, q4, q5, q6, q7, q8⟩ := HC.out _ _ hbx)
            | (have hguard := hx3; clear hguard; go_at_call 42; with_reducible (refine Calls.mono (H2.out _) ?_); rintro e w3 ⟨rfl, hb3⟩
               have hbx := chain hbx hb3
               obtain ⟨r0, r1, r2, r3, r4, r5⟩ := HR.out _ (chain hx3 hbx)
               obtain ⟨q0, q1, q2, q3, q4, q5, q6, q7, q8⟩ := HC.out _ _ hbx)
            | (have hguard := hx3; clear hguard; go_at_call 42; with_reducible (refine Calls.mono (H3.out _) ?_); rintro e w3 ⟨rfl, hb3⟩
               have hbx := chain hbx hb3
               obtain ⟨r0, r1, r2, r3, r4, r5⟩ := HR.out _ (chain hx3 hbx)
               obtain ⟨q0, q1, q2, q3, q4, q5, q6, q7, q8⟩ := HC.out _ _ hbx)
            | (have hguard := hx3; clear hguard; go_at_call 42; with_reducible (refine Calls.mono (H4.out _) ?_); rintro e w3 ⟨rfl, hb3⟩
               have hbx := chain hbx hb3
               obtain ⟨r0, r1, r2, r3, r4, r5⟩ := HR.out _ (chain hx3 hbx)
               obtain ⟨q0, q1, q2, q3, q4, q5, q6, q7, q8⟩ := HC.out _ _ hbx))
          go_ret
          exact ⟨rfl, chain hb0'.out (chain hx3 hbx)⟩
        ·
          cases p5
          · skip
            go_enter Try.func47, Try.ntmps47
            go_wp2_with fail
            rw [← hW0]
            clear hW0
            go_wp2_with (first
              | (go_at_call 42; with_reducible (refine Calls.mono (H0.out _) ?_); rintro e w1 ⟨rfl, hb1⟩
                 obtain ⟨r0, r1, r2, r3, r4, r5⟩ := HR.out _ hb1)
              | (go_at_call 57; with_reducible (refine Calls.mono (HF.out _) ?_); rintro e w2 ⟨rfl, hb2⟩
                 have hx2 := chain hb1 hb2
                 have hx3 := hx2.alloc hx2.size (.cells #[.int .i64 a0, .int .i64 a1, .int .i64 b0, .int .i64 b1, .int .i64 c0, .int .i64 c1, .int .i64 d0, .int .i64 d1, .int .i64 ky] 94)
                 have hbx := Below.refl (w2.alloc (.cells #[.int .i64 a0, .int .i64 a1, .int .i64 b0, .int .i64 b1, .int .i64 c0, .int .i64 c1, .int .i64 d0, .int .i64 d1, .int .i64 ky] 94)).heap.size (w2.alloc (.cells #[.int .i64 a0, .int .i64 a1, .int .i64 b0, .int .i64 b1, .int .i64 c0, .int .i64 c1, .int .i64 d0, .int .i64 d1, .int .i64 ky] 94))
                 obtain ⟨r0, r1, r2, r3, r4, r5⟩ := HR.out _ hx3)
              | (have hguard := hx3; clear hguard; go_at_call 42; with_reducible (refine Calls.mono (H1.out _) ?_); rintro e w3 ⟨rfl, hb3⟩
                 have hbx := chain hbx hb3
                 obtain ⟨r0, r1, r2, r3, r4, r5⟩ := HR.out _ (chain hx3 hbx)
                 obtain ⟨q0, q1, q2, q3, q4, q5, q6, q7, q8⟩ := HC.out _ _ hbx)
              | (have hguard := hx3; clear hguard; go_at_call 42; with_reducible (refine Calls.mono (H2.out _) ?_); rintro e w3 ⟨rfl, hb3⟩
                 have hbx := chain hbx hb3
                 obtain ⟨r0, r1, r2, r3, r4, r5⟩ := HR.out _ (chain hx3 hbx)
                 obtain ⟨q0, q1, q2, q3, q4, q5, q6, q7, q8⟩ := HC.out _ _ hbx)
              | (have hguard := hx3; clear hguard; go_at_call 42; with_reducible (refine Calls.mono (H3.out _) ?_); rintro e w3 ⟨rfl, hb3⟩
                 have hbx := chain hbx hb3
                 obtain ⟨r0, r1, r2, r3, r4, r5⟩ := HR.out _ (chain hx3 hbx)
                 obtain ⟨q0, q1, q2, q3, q4, q5, q6, q7, q8⟩ := HC.out _ _ hbx)
              | (have hguard := hx3; clear hguard; go_at_call 42; with_reducible (refine Calls.mono (H4.out _) ?_); rintro e w3 ⟨rfl, hb3⟩
                 have hbx := chain hbx hb3
                 obtain ⟨r0, r1, r2, r3, r4, r5⟩ := HR.out _ (chain hx3 hbx)
                 obtain ⟨q0, q1, q2, q3, q4, q5, q6, q7, q8⟩ := HC.out _ _ hbx))
            go_ret
            exact ⟨rfl, chain hb0'.out (chain hx3 hbx)⟩
          ·
            go_enter Try.func47, Try.ntmps47
            go_wp2_with fail
            rw [← hW0]
            clear hW0
            go_wp2_with (first
              | (go_at_call 42; with_reducible (refine Calls.mono (H0.out _) ?_); rintro e w1 ⟨rfl, hb1⟩
                 obtain ⟨r0, r1, r2, r3, r4, r5⟩ := HR.out _ hb1)
              | (go_at_call 57; with_reducible (refine Calls.mono (HF.out _) ?_); rintro e w2 ⟨rfl, hb2⟩
                 have hx2 := chain hb1 hb2
                 have hx3 := hx2.alloc hx2.size (.cells #[.int .i64 a0, .int .i64 a1, .int .i64 b0, .int .i64 b1, .int .i64 c0, .int .i64 c1, .int .i64 d0, .int .i64 d1, .int .i64 ky] 94)
                 have hbx := Below.refl (w2.alloc (.cells #[.int .i64 a0, .int .i64 a1, .int .i64 b0, .int .i64 b1, .int .i64 c0, .int .i64 c1, .int .i64 d0, .int .i64 d1, .int .i64 ky] 94)).heap.size (w2.alloc (.cells #[.int .i64 a0, .int .i64 a1, .int .i64 b0, .int .i64 b1, .int .i64 c0, .int .i64 c1, .int .i64 d0, .int .i64 d1, .int .i64 ky] 94))
                 obtain ⟨r0, r1, r2, r3, r4, r5⟩ := HR.out _ hx3)
              | (have hguard := hx3; clear hguard; go_at_call 42; with_reducible (refine Calls.mono (H1.out _) ?_); rintro e w3 ⟨rfl, hb3⟩
                 have hbx := chain hbx hb3
                 obtain ⟨r0, r1, r2, r3, r4, r5⟩ := HR.out _ (chain hx3 hbx)
                 obtain ⟨q0, q1, q2, q3, q4, q5, q6, q7, q8⟩ := HC.out _ _ hbx)
              | (have hguard := hx3; clear hguard; go_at_call 42; with_reducible (refine Calls.mono (H2.out _) ?_); rintro e w3 ⟨rfl, hb3⟩
                 have hbx := chain hbx hb3
                 obtain ⟨r0, r1, r2, r3, r4, r5⟩ := HR.out _ (chain hx3 hbx)
                 obtain ⟨q0, q1, q2, q3, q4, q5, q6, q7, q8⟩ := HC.out _ _ hbx)
              | (have hguard := hx3; clear hguard; go_at_call 42; with_reducible (refine Calls.mono (H3.out _) ?_); rintro e w3 ⟨rfl, hb3⟩
                 have hbx := chain hbx hb3
                 obtain ⟨r0, r1, r2, r3, r4, r5⟩ := HR.out _ (chain hx3 hbx)
                 obtain ⟨q0, q1, q2, q3, q4, q5, q6, q7, q8⟩ := HC.out _ _ hbx)
              | (have hguard := hx3; clear hguard; go_at_call 42; with_reducible (refine Calls.mono (H4.out _) ?_); rintro e w3 ⟨rfl, hb3⟩
                 have hbx := chain hbx hb3
                 obtain ⟨r0, r1, r2, r3, r4, r5⟩ := HR.out _ (chain hx3 hbx)
                 obtain ⟨q0, q1, q2, q3, q4, q5, q6, q7, q8⟩ := HC.out _ _ hbx))
            go_ret
            exact ⟨rfl, chain hb0'.out (chain hx3 hbx)⟩

end Go.Proofs.Ytbmgiekiildaaaa
