/-
  HeaderCounts. Written by wip/gen/head_counts.py.
-/
import Derived.Test.YtbmgiekiildaaaaHdLaw4G
import Derived.Test.YtbmgiekiildaaaaHdGoodRG
import Derived.Deep.RegionHeld3
namespace Go.Proofs.Ytbmgiekiildaaaa
open Go.RowKit

theorem recs_cell6 {w : World} {B b off : Nat} {rs : List Rc} (h : RecsAt w B (some ⟨b, off, none⟩) rs) {k : Nat} (hk : k < rs.length) : w.cell? ⟨b, off + k * 6, none⟩ = some (.int .i64 (rs.getD k hZero).k) ∧ w.cell? ⟨b, off + k * 6 + 1, none⟩ = some (.int .i64 (rs.getD k hZero).a) ∧ w.cell? ⟨b, off + k * 6 + 2, none⟩ = some (.int .i64 (rs.getD k hZero).b) ∧
    w.cell? ⟨b, off + k * 6 + 3, none⟩ = some (.int .i64 (rs.getD k hZero).c) ∧ w.cell? ⟨b, off + k * 6 + 4, none⟩ = some (.int .i64 (rs.getD k hZero).d) ∧ w.cell? ⟨b, off + k * 6 + 5, none⟩ = some (.string (rs.getD k hZero).key) := by
  obtain ⟨b', off', e, _, h2⟩ := recs_cells h hk
  cases e
  exact h2
theorem ints_cell1 {w : World} {B b off : Nat} {rs : List Int} (h : Ints w B .i64 (some ⟨b, off, none⟩) rs) {k : Nat} (hk : k < rs.length) : w.cell? ⟨b, off + k, none⟩ = some (.int .i64 (rs.getD k 0)) := by
  obtain ⟨b', off', e, _, h2⟩ := h k hk
  cases e
  exact h2

set_option maxHeartbeats 6400000 in
set_option maxRecDepth 20000 in
/-- HeaderCounts, where Newest refuses. -/
theorem headerCounts_no (V : TabW) (t : Tab) (A : Option Addr) (c n : Nat) (w : World) (h : TabAt w w.heap.size V t) (ho : t.ok) (hbad : ¬ t.sound ∨ n ≠ t.os.length) :
    Calls Try.prog 6 #[.agg (tabV V t), .slice A n c] w fun e w' => e = .returned (.bool true) ∧ Below w.heap.size w w' := by
  have HA := Lib.hid (fun W => hdAwake (hd_spec W) W (Below.refl _ _))
  obtain ⟨_, hrow, hb0⟩ := htab_box w V t 38
  have hinf : (Try.prog.info? 38).map (·.size) = some (tabV V t).size := Try.infoTabH
  have HNO : Hid (∀ U, Below w.heap.size w U → Calls Try.prog 14 #[.agg (tabV V t), .slice A n c] U fun e w' => e = .returned (.tuple #[.slice none 0 0, .slice none 0 0, .int .i64 2]) ∧ Below U.heap.size U w') := fun U hb => hNewest_no V t A c n U ((h.below hb).more hb.size) ho hbad
  obtain ⟨X, hX⟩ : ∃ X, X = w.alloc (.cells (tabV V t) 38) := ⟨_, rfl⟩
  rw [← hX] at hrow hb0
  have HX := Lib.hid (And.intro hrow hb0)
  have HXX := Lib.hid hX
  obtain ⟨P, hP⟩ : ∃ P, P = tabV V t := ⟨_, rfl⟩
  simp only [← hP] at HX hinf HNO HXX
  rw [← hP]
  clear h ho hbad hrow hb0 hX hP
  go_enter Try.func6, Try.ntmps6
  go_wp2_with (first
    | (rw [← HXX.out]; refine wpList_load_row rfl 38 _ rfl w.heap.size rfl 38 _ (0, 0) _ HX.out.1 Try.underlying38 rfl hinf ?_)
    | (go_at_call 14; with_reducible (refine Calls.mono (HNO.out X HX.out.2) ?_); rintro e w1 ⟨rfl, hb1⟩; have hx1 := Lib.hid (HX.out.2.trans (hb1.mono HX.out.2.size)); clear hb1)
    | (have hguard := hx1; clear hguard; go_at_call 11; with_reducible (refine Calls.mono (HA.out _) ?_); rintro e w2 ⟨rfl, hb2⟩; have hx2 := Lib.hid (hx1.out.trans (hb2.mono hx1.out.size)); clear hx1 hb2)
    | (go_at_call 11; with_reducible (refine Calls.mono (HA.out _) ?_); rintro e w3 ⟨rfl, hb3⟩; have hx3 := Lib.hid (hx2.out.trans (hb3.mono hx2.out.size))))
  go_ret
  exact ⟨rfl, hx3.out⟩

set_option maxHeartbeats 6400000 in
set_option maxRecDepth 20000 in
/-- HeaderCounts, of a sound table and as many heads as slots. -/
theorem headerCounts_ok (V : TabW) (t : Tab) (A : Option Addr) (c : Nat) (hs : List Rc) (w : World) (h : TabAt w w.heap.size V t) (ho : t.ok) (hh : RecsAt w w.heap.size A hs) (hd : ∀ x ∈ hs, I64n x.d) (hsd : t.sound) (hl : hs.length = t.os.length) :
    Calls Try.prog 6 #[.agg (tabV V t), .slice A hs.length c] w fun e w' => e = .returned (.bool true) ∧ Below w.heap.size w w' := by
  have HA := Lib.hid (fun W => hdAwake (hd_spec W) W (Below.refl _ _))
  obtain ⟨_, hrow, hb0⟩ := htab_box w V t 38
  have hinf : (Try.prog.info? 38).map (·.size) = some (tabV V t).size := Try.infoTabH
  have HOK : Hid (∀ U, Below w.heap.size w U → Calls Try.prog 14 #[.agg (tabV V t), .slice A hs.length c] U fun e w' => NewAns t hs U e w') := fun U hb => hNewest_ok V t A c hs U ((h.below hb).more hb.size) ho ((hh.below hb).more hb.size) hd hsd hl
  have HVS : Hid (∀ W, Below w.heap.size w W → VolsAt W W.heap.size V.A2 t.vs ∧ RecsAt W W.heap.size A hs) := fun W hb => ⟨(h.vs.below hb).more hb.size, (hh.below hb).more hb.size⟩
  have HNH : Hid (hs.length ≤ 64) := by unfold Hid; rw [hl]; exact hsd.len.2
  have HV8 := Lib.hid (vols_few hsd)
  have HSD := Lib.hid hsd
  have HVOL : Hid (∀ U, Below w.heap.size w U → ∀ id, Calls Try.prog 15 #[.agg (tabV V t), .int .i64 id] U fun e w' => e = .returned (.int .i64 (volI t.vs id)) ∧ Below U.heap.size U w') := fun U hb id => refVol_any V t id U ((h.below hb).more hb.size) (by have := ho.nv; omega)
  have HGD : Hid (∀ U, Below w.heap.size w U → ∀ (y : Rc) (s : Nat), s < hs.length → Calls Try.prog 16 #[.agg (tabV V t), .agg (rcV y), .int .i64 (s : Int)] U fun e w' => e = .returned (.bool (rGood t y s)) ∧ Below U.heap.size U w') := fun U hb y s hsl => rGood_any V t y s U ((h.below hb).more hb.size) (by rw [← hl]; exact hsl) ho
  have HRX : Hid (∀ W : World, W.heap[w.heap.size]? = some (.cells (tabV V t) 38 (0, 0)) → W.cell? ⟨w.heap.size, 0, none⟩ = some (.slice V.A1 t.ts.length V.c1) ∧ W.cell? ⟨w.heap.size, 1, none⟩ = some (.slice V.A2 t.vs.length V.c2) ∧ W.cell? ⟨w.heap.size, 2, none⟩ = some (.slice V.A3 t.os.length V.c3)) := fun W q => ⟨by rw [cell_of_row _ _ _ _ _ _ q]; rfl, by rw [cell_of_row _ _ _ _ _ _ q]; rfl, by rw [cell_of_row _ _ _ _ _ _ q]; rfl⟩
  have HPT : Hid (tabV V t = #[.slice V.A1 t.ts.length V.c1, .slice V.A2 t.vs.length V.c2, .slice V.A3 t.os.length V.c3]) := rfl
  obtain ⟨X, hX⟩ : ∃ X, X = w.alloc (.cells (tabV V t) 38) := ⟨_, rfl⟩
  rw [← hX] at hrow hb0
  have HX := Lib.hid (And.intro hrow hb0)
  have HXX := Lib.hid hX
  obtain ⟨P, hP⟩ : ∃ P, P = tabV V t := ⟨_, rfl⟩
  simp only [← hP] at HX hinf HOK HXX HRX HVOL HGD HPT
  rw [← hP]
  obtain ⟨NH, hNH⟩ : ∃ N, N = hs.length := ⟨_, rfl⟩
  have HNE := Lib.hid hNH
  simp only [← hNH] at HOK HNH HGD ⊢
  obtain ⟨NV, hNV⟩ : ∃ N, N = t.vs.length := ⟨_, rfl⟩
  have HNV := Lib.hid hNV
  simp only [← hNV] at HRX HPT
  obtain ⟨NT, hNT⟩ : ∃ N, N = t.ts.length := ⟨_, rfl⟩
  obtain ⟨NO, hNO⟩ : ∃ N, N = t.os.length := ⟨_, rfl⟩
  simp only [← hNT, ← hNO] at HRX HPT
  clear h ho hh hd hsd hl hrow hb0 hX hP hNH hNV hNT hNO
  go_enter Try.func6, Try.ntmps6
  go_wp2_with (first
    | (rw [← HXX.out]; refine wpList_load_row rfl 38 _ rfl w.heap.size rfl 38 _ (0, 0) _ HX.out.1 Try.underlying38 rfl hinf ?_)
    | (go_at_call 14; with_reducible (refine Calls.mono (HOK.out X HX.out.2) ?_); intro e w1 hN; obtain ⟨A4, c4, A5, c5, ls, rfl, hc4, hc5, hls, hlast, hr4, hi5, hb1⟩ := NewAns.out hN
       rw [← HNV.out] at hls hr4 ⊢
       have hw1 := Lib.hid (And.intro hr4 (And.intro hi5 hb1))
       have HLS := Lib.hid (And.intro hls hlast)
       clear hN hc4 hc5 hls hlast hr4 hi5 hb1)
    | (go_at_call 11; with_reducible (refine Calls.mono (HA.out _) ?_); rintro e w2 ⟨rfl, hb2⟩; have hw2 := Lib.hid hb2; clear hb2))
  have HCI : Hid (∀ x ∈ cntTo t hs ls NV, ∃ j s, CntIs t hs ls x j s) := fun x hx => cnt_is HSD.out (by rw [← HNV.out]; exact hx)
  have HAP : Hid (∀ i j, j < i → i < (cntTo t hs ls NV).length → ((cntTo t hs ls NV).getD j hZero).a = ((cntTo t hs ls NV).getD i hZero).a → ((cntTo t hs ls NV).getD j hZero).b ≠ ((cntTo t hs ls NV).getD i hZero).b) := fun i j hj hi ha => cnt_apart HSD.out (by rw [HNV.out]) hj hi ha
  have HNCB0 : Hid ((cntTo t hs ls NV).length ≤ 140737488355328) := by have := cntTo_len t hs ls (fun v hv => (HSD.out.vol v hv).2.2.1.2) NV; have := HV8.out; have := HNV.out; unfold Hid; omega
  obtain ⟨C, hC⟩ : ∃ C, C = cntTo t hs ls NV := ⟨_, rfl⟩
  rw [← hC] at HCI HAP HNCB0 hw1 ⊢
  -- what lies there, from here on
  have HALL : Hid (∀ W, Below w2.heap.size w2 W → W.heap[w.heap.size]? = some (.cells P 38 (0, 0)) ∧ (W.cell? ⟨w.heap.size, 0, none⟩ = some (.slice V.A1 NT V.c1) ∧ W.cell? ⟨w.heap.size, 1, none⟩ = some (.slice V.A2 NV V.c2) ∧ W.cell? ⟨w.heap.size, 2, none⟩ = some (.slice V.A3 NO V.c3)) ∧ RecsAt W W.heap.size A hs ∧ RecsAt W W.heap.size A4 C ∧ Ints W W.heap.size .i64 A5 ls ∧ Below w.heap.size w W) := fun W hb => by
    have hbx : Below X.heap.size X W := hw1.out.2.2.trans ((hw2.out.mono hw1.out.2.2.size).trans (hb.mono (Nat.le_trans hw1.out.2.2.size hw2.out.size)))
    have hb1 : Below w1.heap.size w1 W := hw2.out.trans (hb.mono hw2.out.size)
    have hbw : Below w.heap.size w W := HX.out.2.trans (hbx.mono HX.out.2.size)
    obtain ⟨_, q2⟩ := HVS.out W hbw
    have hrr := (hbx.block _ (Array.getElem?_eq_some_iff.1 HX.out.1).1).trans HX.out.1
    exact ⟨hrr, HRX.out W hrr, q2, (hw1.out.1.below hb1).more hb1.size, (hw1.out.2.1.below hb1).more hb1.size, hbw⟩
  obtain ⟨NC, hNC⟩ : ∃ N, N = C.length := ⟨_, rfl⟩
  have HNC := Lib.hid hNC
  rw [← hNC] at HAP HNCB0 ⊢
  rw [HPT.out] at HALL HVOL HGD
  have hinf3 : (Try.prog.info? 38).map (·.size) = some (#[.slice V.A1 NT V.c1, .slice V.A2 NV V.c2, .slice V.A3 NO V.c3] : Array Value).size := Try.infoTabH
  clear hC hNC hw1 hw2 HX HRX HVS HOK HXX hinf HPT
  go_loopw [8] (fun i wr => ∃ k : Nat, k ≤ NC ∧ i = .int .i64 k ∧ Hid (Below w2.heap.size w2 wr)) (fun i _ => NC - (intOf i).toNat)
  case atStart => exact ⟨0, Nat.zero_le _, rfl, Below.refl _ _⟩
  case round =>
    obtain ⟨m, hm, rfl, hS⟩ := hrel
    have hm64 : m ≤ 140737488355328 := by have := HNCB0.out; omega
    by_cases hlt : m < NC
    · have k0 : (0 : Int) ≤ (m : Int) := by omega
      have k1 : (m : Int) < (NC : Int) := by omega
      obtain ⟨_, _, r3, r4, r5, _⟩ := HALL.out wr hS.out
      obtain ⟨j, s, HC⟩ := HCI.out (C.getD m hZero) (by rw [List.getD_eq_getElem?_getD, List.getElem?_eq_getElem (by have := HNC.out; omega)]; exact List.getElem_mem _)
      obtain ⟨b4, o4, rfl, _, hmid⟩ := recs_mid r4 (k := m) (by have := HNC.out; omega)
      obtain ⟨bA, oA, rfl, _, _⟩ := recs_cells r3 HC.slot
      obtain ⟨b5, o5, rfl, _, _⟩ := r5 j (by rw [HLS.out.1, HNV.out]; exact HC.lt)
      clear r3 r4 r5
      have HAP1 : Hid (∀ n, n < m → (C.getD n hZero).a = (C.getD m hZero).a → (C.getD n hZero).b ≠ (C.getD m hZero).b) := fun n hn ha => HAP.out m n hn hlt ha
      obtain ⟨x, hx⟩ : ∃ x, x = C.getD m hZero := ⟨_, rfl⟩
      rw [← hx] at HC hmid HAP1
      obtain ⟨g1, g2, g3, g4, g5, g6, g7, g8⟩ := HC
      obtain ⟨L, hL⟩ : ∃ L, L = ls.getD j 0 := ⟨_, rfl⟩
      rw [← hL] at g7 g8
      obtain ⟨xk, xa, xb, xc, xd, xs⟩ := x
      obtain rfl : xc = (s : Int) := g4
      have hxv : (hdC ⟨xk, xa, xb, (s : Int), xd, xs⟩).toArray = #[.int .i64 xk, .int .i64 xa, .int .i64 xb, .int .i64 (s : Int), .int .i64 xd, .string xs] := rfl
      have c2' : volI t.vs xa = (j : Int) := g2
      have s0 : (0 : Int) ≤ (s : Int) := by omega
      have s1 : (s : Int) < (NH : Int) := by have := HNE.out; omega
      have j0 : (0 : Int) ≤ (j : Int) := by omega
      have j1 : (j : Int) < (NV : Int) := by have := HNV.out; omega
      have jn : j < NV := by omega
      have d0 : ¬ L < xd := by have : xd ≤ L := g7; omega
      have HMO : Hid (∀ i, i < NH → rGood t (hs.getD i hZero) i = true → (hs.getD i hZero).a = xa → (hs.getD i hZero).b = xb → (hs.getD i hZero).d ≤ L → ¬ xd < (hs.getD i hZero).d) := fun i hi => g8 i (by have := HNE.out; omega)
      have HSW : Hid (∀ W, Below w2.heap.size w2 W → W.heap[w.heap.size]? = some (.cells #[.slice V.A1 NT V.c1, .slice V.A2 NV V.c2, .slice V.A3 NO V.c3] 38 (0, 0)) ∧ (W.cell? ⟨w.heap.size, 0, none⟩ = some (.slice V.A1 NT V.c1) ∧ W.cell? ⟨w.heap.size, 1, none⟩ = some (.slice V.A2 NV V.c2) ∧ W.cell? ⟨w.heap.size, 2, none⟩ = some (.slice V.A3 NO V.c3)) ∧ (∀ k, k < NH → W.cell? ⟨bA, oA + k * 6, none⟩ = some (.int .i64 (hs.getD k hZero).k) ∧ W.cell? ⟨bA, oA + k * 6 + 1, none⟩ = some (.int .i64 (hs.getD k hZero).a) ∧ W.cell? ⟨bA, oA + k * 6 + 2, none⟩ = some (.int .i64 (hs.getD k hZero).b) ∧ W.cell? ⟨bA, oA + k * 6 + 3, none⟩ = some (.int .i64 (hs.getD k hZero).c) ∧ W.cell? ⟨bA, oA + k * 6 + 4, none⟩ = some (.int .i64 (hs.getD k hZero).d) ∧ W.cell? ⟨bA, oA + k * 6 + 5, none⟩ = some (.string (hs.getD k hZero).key)) ∧ (∀ k, k < NC → W.cell? ⟨b4, o4 + k * 6 + 1, none⟩ = some (.int .i64 (C.getD k hZero).a) ∧ W.cell? ⟨b4, o4 + k * 6 + 2, none⟩ = some (.int .i64 (C.getD k hZero).b)) ∧ W.cell? ⟨b5, o5 + j, none⟩ = some (.int .i64 L) ∧ Below w.heap.size w W) := fun W hb => by
        obtain ⟨q1, q2, q3, q4, q5, q6⟩ := HALL.out W hb
        refine ⟨q1, q2, fun k hk => recs_cell6 q3 (by have := HNE.out; omega), fun k hk => ?_, ?_, q6⟩
        · obtain ⟨_, u1, u2, _⟩ := recs_cell6 q4 (k := k) (by have := HNC.out; omega)
          exact ⟨u1, u2⟩
        · rw [hL]; exact ints_cell1 q5 (by rw [HLS.out.1]; exact jn)
      have HSE : Hid (hs.getD s hZero = ⟨xk, xa, xb, (s : Int), xd, xs⟩) := g5
      have HGS : Hid (rGood t ⟨xk, xa, xb, (s : Int), xd, xs⟩ s = true) := g6
      have HB30 : Below w2.heap.size w2 (wr.alloc (.cells #[.int .i64 xk, .int .i64 xa, .int .i64 xb, .int .i64 (s : Int), .int .i64 xd, .string xs] 23)) := hS.out.alloc hS.out.size _
      have HBX0 : ∀ W, Below (wr.alloc (.cells #[.int .i64 xk, .int .i64 xa, .int .i64 xb, .int .i64 (s : Int), .int .i64 xd, .string xs] 23)).heap.size (wr.alloc (.cells #[.int .i64 xk, .int .i64 xa, .int .i64 xb, .int .i64 (s : Int), .int .i64 xd, .string xs] 23)) W → W.heap[wr.heap.size]? = some (.cells (rcV ⟨xk, xa, xb, (s : Int), xd, xs⟩) 23 (0, 0)) := fun W hb => (hb.block wr.heap.size (by simp)).trans (heap_alloc_new wr (.cells #[.int .i64 xk, .int .i64 xa, .int .i64 xb, .int .i64 (s : Int), .int .i64 xd, .string xs] 23))
      have sN : s < NH := by have := HNE.out; omega
      clear hx hL g1 g2 g3 g5 g6 g7 g8 hS
      go_wp2_with (first
        | (refine wpList_load_mid rfl 23 _ rfl b4 (o4 + m * 6) rfl (hdC ⟨xk, xa, xb, (s : Int), xd, xs⟩) _ hmid Try.underlying23 rfl Try.infoHead ?_; rw [hxv])
        | (have hguard := HBX0; clear hguard
           obtain ⟨w3, hw3⟩ : ∃ w3, w3 = wr.alloc (.cells #[.int .i64 xk, .int .i64 xa, .int .i64 xb, .int .i64 (s : Int), .int .i64 xd, .string xs] 23) := ⟨_, rfl⟩
           rw [← hw3] at HBX0 HB30 ⊢
           obtain ⟨p, hp⟩ : ∃ p, p = wr.heap.size := ⟨_, rfl⟩
           rw [← hp] at HBX0 ⊢
           have HB3 := Lib.hid HB30
           have HW3 : Hid (∀ W, Below w3.heap.size w3 W → W.heap[w.heap.size]? = some (.cells #[.slice V.A1 NT V.c1, .slice V.A2 NV V.c2, .slice V.A3 NO V.c3] 38 (0, 0)) ∧ (W.cell? ⟨w.heap.size, 0, none⟩ = some (.slice V.A1 NT V.c1) ∧ W.cell? ⟨w.heap.size, 1, none⟩ = some (.slice V.A2 NV V.c2) ∧ W.cell? ⟨w.heap.size, 2, none⟩ = some (.slice V.A3 NO V.c3)) ∧ (W.cell? ⟨p, 0, none⟩ = some (.int .i64 xk) ∧ W.cell? ⟨p, 1, none⟩ = some (.int .i64 xa) ∧ W.cell? ⟨p, 2, none⟩ = some (.int .i64 xb) ∧ W.cell? ⟨p, 3, none⟩ = some (.int .i64 (s : Int)) ∧ W.cell? ⟨p, 4, none⟩ = some (.int .i64 xd) ∧ W.cell? ⟨p, 5, none⟩ = some (.string xs)) ∧ (∀ k, k < NH → W.cell? ⟨bA, oA + k * 6, none⟩ = some (.int .i64 (hs.getD k hZero).k) ∧ W.cell? ⟨bA, oA + k * 6 + 1, none⟩ = some (.int .i64 (hs.getD k hZero).a) ∧ W.cell? ⟨bA, oA + k * 6 + 2, none⟩ = some (.int .i64 (hs.getD k hZero).b) ∧ W.cell? ⟨bA, oA + k * 6 + 3, none⟩ = some (.int .i64 (hs.getD k hZero).c) ∧ W.cell? ⟨bA, oA + k * 6 + 4, none⟩ = some (.int .i64 (hs.getD k hZero).d) ∧ W.cell? ⟨bA, oA + k * 6 + 5, none⟩ = some (.string (hs.getD k hZero).key)) ∧ (∀ k, k < NC → W.cell? ⟨b4, o4 + k * 6 + 1, none⟩ = some (.int .i64 (C.getD k hZero).a) ∧ W.cell? ⟨b4, o4 + k * 6 + 2, none⟩ = some (.int .i64 (C.getD k hZero).b)) ∧ W.cell? ⟨b5, o5 + j, none⟩ = some (.int .i64 L) ∧ Below w.heap.size w W) := fun W hb => by
             obtain ⟨q1, q2, q3, q4, q5, q6⟩ := HSW.out W (HB3.out.trans (hb.mono HB3.out.size))
             exact ⟨q1, q2, cells6 (HBX0 W hb), q3, q4, q5, q6⟩
           clear hw3 hp hmid hxv HBX0 HB30 HSW
           have HV0 : Hid (Calls Try.prog 15 #[.agg #[.slice V.A1 NT V.c1, .slice V.A2 NV V.c2, .slice V.A3 NO V.c3], .int .i64 xa] w3 fun e w' => e = .returned (.int .i64 (j : Int)) ∧ Below w3.heap.size w3 w') := by
             have q := HVOL.out w3 (HW3.out w3 (Below.refl _ _)).2.2.2.2.2.2 xa
             rwa [c2'] at q
           have HG0 : Hid (∀ U, Below w3.heap.size w3 U → ∀ (y : Rc) (s : Nat), s < NH → Calls Try.prog 16 #[.agg #[.slice V.A1 NT V.c1, .slice V.A2 NV V.c2, .slice V.A3 NO V.c3], .agg (rcV y), .int .i64 (s : Int)] U fun e w' => e = .returned (.bool (rGood t y s)) ∧ Below U.heap.size U w') := fun U hb y s hsl => HGD.out U (HW3.out U hb).2.2.2.2.2.2 y s hsl
           have HR3 := Lib.hid (HW3.out w3 (Below.refl _ _)).1
           obtain ⟨_, _, ⟨_, y1, _⟩, _⟩ := HW3.out w3 (Below.refl _ _)
           clear c2'
           refine wpList_load_row rfl 38 _ rfl w.heap.size rfl 38 _ (0, 0) _ HR3.out Try.underlying38 rfl hinf3 ?_)
        | (go_at_call 15; with_reducible (refine Calls.mono HV0.out ?_); rintro e w4 ⟨rfl, hb4⟩))
      have HS4 : Hid (∀ W, Below w4.heap.size w4 W → (W.cell? ⟨w.heap.size, 0, none⟩ = some (.slice V.A1 NT V.c1) ∧ W.cell? ⟨w.heap.size, 1, none⟩ = some (.slice V.A2 NV V.c2) ∧ W.cell? ⟨w.heap.size, 2, none⟩ = some (.slice V.A3 NO V.c3)) ∧ (W.cell? ⟨p, 0, none⟩ = some (.int .i64 xk) ∧ W.cell? ⟨p, 1, none⟩ = some (.int .i64 xa) ∧ W.cell? ⟨p, 2, none⟩ = some (.int .i64 xb) ∧ W.cell? ⟨p, 3, none⟩ = some (.int .i64 (s : Int)) ∧ W.cell? ⟨p, 4, none⟩ = some (.int .i64 xd) ∧ W.cell? ⟨p, 5, none⟩ = some (.string xs)) ∧ (W.cell? ⟨bA, oA + s * 6, none⟩ = some (.int .i64 xk) ∧ W.cell? ⟨bA, oA + s * 6 + 1, none⟩ = some (.int .i64 xa) ∧ W.cell? ⟨bA, oA + s * 6 + 2, none⟩ = some (.int .i64 xb) ∧ W.cell? ⟨bA, oA + s * 6 + 3, none⟩ = some (.int .i64 (s : Int)) ∧ W.cell? ⟨bA, oA + s * 6 + 4, none⟩ = some (.int .i64 xd) ∧ W.cell? ⟨bA, oA + s * 6 + 5, none⟩ = some (.string xs)) ∧ W.cell? ⟨b5, o5 + j, none⟩ = some (.int .i64 L)) := fun W hb => by
        obtain ⟨_, q2, q3, q4, _, q6, _⟩ := HW3.out W (hb4.trans (hb.mono hb4.size))
        have q7 := q4 s sN
        rw [HSE.out] at q7
        exact ⟨q2, q3, q7, q6⟩
      have hx0 := hb4
      have HGC : Hid (∀ U, Below w3.heap.size w3 U → Calls Try.prog 16 #[.agg #[.slice V.A1 NT V.c1, .slice V.A2 NV V.c2, .slice V.A3 NO V.c3], .agg #[.int .i64 xk, .int .i64 xa, .int .i64 xb, .int .i64 (s : Int), .int .i64 xd, .string xs], .int .i64 (s : Int)] U fun e w' => e = .returned (.bool true) ∧ Below U.heap.size U w') := fun U hb => by
        have q := HG0.out U hb ⟨xk, xa, xb, (s : Int), xd, xs⟩ s sN
        rwa [HGS.out] at q
      have heq : ∀ W, (Op.equalIn 10000 23 (.agg #[.int .i64 xk, .int .i64 xa, .int .i64 xb, .int .i64 (s : Int), .int .i64 xd, .string xs]) (.agg #[.int .i64 xk, .int .i64 xa, .int .i64 xb, .int .i64 (s : Int), .int .i64 xd, .string xs])).run Try.prog W = .ok true W := fun W => (eqHead_all ⟨xk, xa, xb, (s : Int), xd, xs⟩ ⟨xk, xa, xb, (s : Int), xd, xs⟩ W).trans (by rw [decide_eq_true rfl])
      have hbr := Below.refl w4.heap.size w4
      have n1 : ¬ (s : Int) < 0 := by omega
      have n2 : ¬ (NH : Int) ≤ (s : Int) := by omega
      have n3 : ¬ (j : Int) < 0 := by omega
      clear HVOL HGD hb4 y1 HALL HCI HAP
      go_region_held3 (fun W => (W.cell? ⟨w.heap.size, 0, none⟩ = some (.slice V.A1 NT V.c1) ∧ W.cell? ⟨w.heap.size, 1, none⟩ = some (.slice V.A2 NV V.c2) ∧ W.cell? ⟨w.heap.size, 2, none⟩ = some (.slice V.A3 NO V.c3)) ∧ (W.cell? ⟨p, 0, none⟩ = some (.int .i64 xk) ∧ W.cell? ⟨p, 1, none⟩ = some (.int .i64 xa) ∧ W.cell? ⟨p, 2, none⟩ = some (.int .i64 xb) ∧ W.cell? ⟨p, 3, none⟩ = some (.int .i64 (s : Int)) ∧ W.cell? ⟨p, 4, none⟩ = some (.int .i64 xd) ∧ W.cell? ⟨p, 5, none⟩ = some (.string xs)) ∧ (W.cell? ⟨bA, oA + s * 6, none⟩ = some (.int .i64 xk) ∧ W.cell? ⟨bA, oA + s * 6 + 1, none⟩ = some (.int .i64 xa) ∧ W.cell? ⟨bA, oA + s * 6 + 2, none⟩ = some (.int .i64 xb) ∧ W.cell? ⟨bA, oA + s * 6 + 3, none⟩ = some (.int .i64 (s : Int)) ∧ W.cell? ⟨bA, oA + s * 6 + 4, none⟩ = some (.int .i64 xd) ∧ W.cell? ⟨bA, oA + s * 6 + 5, none⟩ = some (.string xs)) ∧ W.cell? ⟨b5, o5 + j, none⟩ = some (.int .i64 L))
        (first | exact HS4.out _ hbr | exact HS4.out _ hbr.drew | exact HS4.out _ hx5)
        (first
          | (go_at_call 16; with_reducible (refine Calls.mono (HGC.out _ (by first | exact hx0.drew | exact hx0)) ?_); rintro e w5 ⟨rfl, hb5⟩; have hx5 := hbr.drew.trans (hb5.mono hbr.drew.size))
          | fail)
      have HB5 : Hid (Below w3.heap.size w3 w5) := hx0.trans (hx5.mono hx0.size)
      clear hx0 hx5 hbr HS4 HGC heq n1 n2 n3 hb5
      go_wp2
      go_loopw [11] (fun jv wr => ∃ n : Nat, n ≤ m ∧ jv = .int .i64 n ∧ Hid (Below w3.heap.size w3 wr)) (fun jv _ => m - (intOf jv).toNat)
      case atStart => exact ⟨0, Nat.zero_le _, rfl, HB5.out⟩
      case round =>
        obtain ⟨n, hn, rfl, hS⟩ := hrel
        clear HB5
        have hn64 : n ≤ 140737488355328 := by omega
        by_cases hnt : n < m
        · have n0 : (0 : Int) ≤ (n : Int) := by omega
          have n1 : (n : Int) < (m : Int) := by omega
          have n2 : (n : Int) < (NC : Int) := by omega
          obtain ⟨_, _, ⟨_, y1, y2, _⟩, _, qc, _, _⟩ := HW3.out wr hS.out
          obtain ⟨v1, v2⟩ := qc n (by omega)
          have ap : (C.getD n hZero).a = xa → (C.getD n hZero).b ≠ xb := HAP1.out n hnt
          obtain ⟨ya, hya⟩ : ∃ x, x = (C.getD n hZero).a := ⟨_, rfl⟩
          obtain ⟨yb, hyb⟩ : ∃ x, x = (C.getD n hZero).b := ⟨_, rfl⟩
          rw [← hya] at v1 ap
          rw [← hyb] at v2 ap
          have HD : Hid (∀ n, Below w3.heap.size w3 (wr.drewN n)) := fun n => below_drewN hS.out n
          clear hS qc hya hyb
          by_cases e : ya = xa
          · have e1 : (ya == xa) = true := by rw [beq_iff_eq]; exact e
            have e2 : (yb == xb) = false := by rw [beq_eq_false_iff_ne]; exact ap e
            clear e ap
            go_wp2
            go_quiet (fail)
            go_wp2
            go_roundw
            case rel => first | exact ⟨n + 1, by omega, by go_num, HD.out _⟩ | ((repeat apply Exists.intro); exact ⟨⟨n + 1, by omega, by go_num, HD.out _⟩, rfl⟩)
            case measure => first | (simp [intOf]; done) | (simp [intOf]; omega)
          · have e1 : (ya == xa) = false := by rw [beq_eq_false_iff_ne]; exact e
            clear e ap
            go_wp2
            go_quiet (fail)
            go_wp2
            go_roundw
            case rel => first | exact ⟨n + 1, by omega, by go_num, HD.out _⟩ | ((repeat apply Exists.intro); exact ⟨⟨n + 1, by omega, by go_num, HD.out _⟩, rfl⟩)
            case measure => first | (simp [intOf]; done) | (simp [intOf]; omega)
        · have n1 : ¬ (n : Int) < (m : Int) := by omega
          have HBQ := hS
          clear hS hn hnt hn64
          go_wp2
          go_loopw [12] (fun kv wr => ∃ k : Nat, k ≤ NH ∧ kv = .int .i64 k ∧ Hid (Below w3.heap.size w3 wr)) (fun kv _ => NH - (intOf kv).toNat)
          case atStart => exact ⟨0, Nat.zero_le _, rfl, HBQ.out⟩
          case round =>
            obtain ⟨k, hk, rfl, hS⟩ := hrel
            clear HBQ n1
            have hk64 : k ≤ 64 := by have := HNH.out; omega
            by_cases hkt : k < NH
            · have n0 : (0 : Int) ≤ (k : Int) := by omega
              have n1 : (k : Int) < (NH : Int) := by omega
              have HB7 := hS
              have HG1 := fun U hb => HG0.out U hb (hs.getD k hZero) k hkt
              have HM1 := HMO.out k hkt
              have HSA : ∀ W, Below wr.heap.size wr W → (W.cell? ⟨w.heap.size, 0, none⟩ = some (.slice V.A1 NT V.c1) ∧ W.cell? ⟨w.heap.size, 1, none⟩ = some (.slice V.A2 NV V.c2) ∧ W.cell? ⟨w.heap.size, 2, none⟩ = some (.slice V.A3 NO V.c3)) ∧ (W.cell? ⟨bA, oA + k * 6, none⟩ = some (.int .i64 (hs.getD k hZero).k) ∧ W.cell? ⟨bA, oA + k * 6 + 1, none⟩ = some (.int .i64 (hs.getD k hZero).a) ∧ W.cell? ⟨bA, oA + k * 6 + 2, none⟩ = some (.int .i64 (hs.getD k hZero).b) ∧ W.cell? ⟨bA, oA + k * 6 + 3, none⟩ = some (.int .i64 (hs.getD k hZero).c) ∧ W.cell? ⟨bA, oA + k * 6 + 4, none⟩ = some (.int .i64 (hs.getD k hZero).d) ∧ W.cell? ⟨bA, oA + k * 6 + 5, none⟩ = some (.string (hs.getD k hZero).key)) ∧ (W.cell? ⟨p, 1, none⟩ = some (.int .i64 xa) ∧ W.cell? ⟨p, 2, none⟩ = some (.int .i64 xb) ∧ W.cell? ⟨p, 4, none⟩ = some (.int .i64 xd)) ∧ W.cell? ⟨b5, o5 + j, none⟩ = some (.int .i64 L) := fun W hb => by
                obtain ⟨_, q2, ⟨_, u1, u2, _, u4, _⟩, q4, _, q6, _⟩ := HW3.out W (HB7.out.trans (hb.mono HB7.out.size))
                exact ⟨q2, q4 k hkt, ⟨u1, u2, u4⟩, q6⟩
              obtain ⟨y, hy⟩ : ∃ y, y = hs.getD k hZero := ⟨_, rfl⟩
              simp only [← hy] at HG1 HM1 HSA
              obtain ⟨g, hg⟩ : ∃ g, g = rGood t y k := ⟨_, rfl⟩
              simp only [← hg] at HG1 HM1
              obtain ⟨yk, ya, yb, yc, yd, ys⟩ := y
              have HGK : Hid (∀ U, Below wr.heap.size wr U → Calls Try.prog 16 #[.agg #[.slice V.A1 NT V.c1, .slice V.A2 NV V.c2, .slice V.A3 NO V.c3], .agg #[.int .i64 yk, .int .i64 ya, .int .i64 yb, .int .i64 yc, .int .i64 yd, .string ys], .int .i64 (k : Int)] U fun e w' => e = .returned (.bool g) ∧ Below U.heap.size U w') := fun U hb => HG1 U (HB7.out.trans (hb.mono HB7.out.size))
              have HSK := Lib.hid HSA
              have HM2 : g = true → ya = xa → yb = xb → yd ≤ L → ¬ xd < yd := fun a b c d => Int.not_lt.2 (HM1 a b c d)
              clear hS hy hg HG1 HM1 HSA
              cases g
              · clear HM2
                have t0 := fun u : Lat wr => (HSK.out u.W u.b).1.1
                have t1 := fun u : Lat wr => (HSK.out u.W u.b).1.2.1
                have t2 := fun u : Lat wr => (HSK.out u.W u.b).1.2.2
                have v0 := fun u : Lat wr => (HSK.out u.W u.b).2.1.1
                have v1 := fun u : Lat wr => (HSK.out u.W u.b).2.1.2.1
                have v2 := fun u : Lat wr => (HSK.out u.W u.b).2.1.2.2.1
                have v3 := fun u : Lat wr => (HSK.out u.W u.b).2.1.2.2.2.1
                have v4 := fun u : Lat wr => (HSK.out u.W u.b).2.1.2.2.2.2.1
                have v5 := fun u : Lat wr => (HSK.out u.W u.b).2.1.2.2.2.2.2
                have u1 := fun u : Lat wr => (HSK.out u.W u.b).2.2.1.1
                have u2 := fun u : Lat wr => (HSK.out u.W u.b).2.2.1.2.1
                have u4 := fun u : Lat wr => (HSK.out u.W u.b).2.2.1.2.2
                have ul := fun u : Lat wr => (HSK.out u.W u.b).2.2.2
                go_wp2
                refine lat_region (Below.refl wr.heap.size wr) (by kernel_rfl) (by kernel_rfl) ?_
                repeat (go_big_quiet_step (first | (go_at_call 16; exact lat_call _ (HGK.out _ (Lat.b _)))))
                refine wpQuiet_nil ?_
                intro _ hw'
                obtain ⟨u6, hw6⟩ := hw'
                subst hw6
                have R : Hid (Below w3.heap.size w3 u6.W) := HB7.out.trans (u6.b.mono HB7.out.size)
                clear t0 t1 t2 v0 v1 v2 v3 v4 v5 u1 u2 u4 ul HSK HGK
                go_wp2
                go_roundw
                case rel => first | exact ⟨k + 1, by omega, by go_num, R⟩ | ((repeat apply Exists.intro); exact ⟨⟨k + 1, by omega, by go_num, R⟩, rfl⟩)
                case measure => first | (simp [intOf]; done) | (simp [intOf]; omega)
              · by_cases e : ya = xa
                · have e1 : (ya == xa) = true := by rw [beq_iff_eq]; exact e
                  by_cases f : yb = xb
                  · have f1 : (yb == xb) = true := by rw [beq_iff_eq]; exact f
                    by_cases h1 : yd ≤ L
                    · have h2 : ¬ xd < yd := HM2 rfl e f h1
                      clear HM2 e f
                      have t0 := fun u : Lat wr => (HSK.out u.W u.b).1.1
                      have t1 := fun u : Lat wr => (HSK.out u.W u.b).1.2.1
                      have t2 := fun u : Lat wr => (HSK.out u.W u.b).1.2.2
                      have v0 := fun u : Lat wr => (HSK.out u.W u.b).2.1.1
                      have v1 := fun u : Lat wr => (HSK.out u.W u.b).2.1.2.1
                      have v2 := fun u : Lat wr => (HSK.out u.W u.b).2.1.2.2.1
                      have v3 := fun u : Lat wr => (HSK.out u.W u.b).2.1.2.2.2.1
                      have v4 := fun u : Lat wr => (HSK.out u.W u.b).2.1.2.2.2.2.1
                      have v5 := fun u : Lat wr => (HSK.out u.W u.b).2.1.2.2.2.2.2
                      have u1 := fun u : Lat wr => (HSK.out u.W u.b).2.2.1.1
                      have u2 := fun u : Lat wr => (HSK.out u.W u.b).2.2.1.2.1
                      have u4 := fun u : Lat wr => (HSK.out u.W u.b).2.2.1.2.2
                      have ul := fun u : Lat wr => (HSK.out u.W u.b).2.2.2
                      go_wp2
                      refine lat_region (Below.refl wr.heap.size wr) (by kernel_rfl) (by kernel_rfl) ?_
                      repeat (go_big_quiet_step (first | (go_at_call 16; exact lat_call _ (HGK.out _ (Lat.b _)))))
                      refine wpQuiet_nil ?_
                      intro _ hw'
                      obtain ⟨u6, hw6⟩ := hw'
                      subst hw6
                      have R : Hid (Below w3.heap.size w3 u6.W) := HB7.out.trans (u6.b.mono HB7.out.size)
                      clear t0 t1 t2 v0 v1 v2 v3 v4 v5 u1 u2 u4 ul HSK HGK
                      go_wp2
                      go_roundw
                      case rel => first | exact ⟨k + 1, by omega, by go_num, R⟩ | ((repeat apply Exists.intro); exact ⟨⟨k + 1, by omega, by go_num, R⟩, rfl⟩)
                      case measure => first | (simp [intOf]; done) | (simp [intOf]; omega)
                    · have h3 : decide (yd ≤ L) = false := decide_eq_false h1
                      have h4 : L < yd := Int.not_le.1 h1
                      clear HM2 e f
                      have t0 := fun u : Lat wr => (HSK.out u.W u.b).1.1
                      have t1 := fun u : Lat wr => (HSK.out u.W u.b).1.2.1
                      have t2 := fun u : Lat wr => (HSK.out u.W u.b).1.2.2
                      have v0 := fun u : Lat wr => (HSK.out u.W u.b).2.1.1
                      have v1 := fun u : Lat wr => (HSK.out u.W u.b).2.1.2.1
                      have v2 := fun u : Lat wr => (HSK.out u.W u.b).2.1.2.2.1
                      have v3 := fun u : Lat wr => (HSK.out u.W u.b).2.1.2.2.2.1
                      have v4 := fun u : Lat wr => (HSK.out u.W u.b).2.1.2.2.2.2.1
                      have v5 := fun u : Lat wr => (HSK.out u.W u.b).2.1.2.2.2.2.2
                      have u1 := fun u : Lat wr => (HSK.out u.W u.b).2.2.1.1
                      have u2 := fun u : Lat wr => (HSK.out u.W u.b).2.2.1.2.1
                      have u4 := fun u : Lat wr => (HSK.out u.W u.b).2.2.1.2.2
                      have ul := fun u : Lat wr => (HSK.out u.W u.b).2.2.2
                      go_wp2
                      refine lat_region (Below.refl wr.heap.size wr) (by kernel_rfl) (by kernel_rfl) ?_
                      repeat (go_big_quiet_step (first | (go_at_call 16; exact lat_call _ (HGK.out _ (Lat.b _)))))
                      refine wpQuiet_nil ?_
                      intro _ hw'
                      obtain ⟨u6, hw6⟩ := hw'
                      subst hw6
                      have R : Hid (Below w3.heap.size w3 u6.W) := HB7.out.trans (u6.b.mono HB7.out.size)
                      clear t0 t1 t2 v0 v1 v2 v3 v4 v5 u1 u2 u4 ul HSK HGK
                      go_wp2
                      go_roundw
                      case rel => first | exact ⟨k + 1, by omega, by go_num, R⟩ | ((repeat apply Exists.intro); exact ⟨⟨k + 1, by omega, by go_num, R⟩, rfl⟩)
                      case measure => first | (simp [intOf]; done) | (simp [intOf]; omega)
                  · have f1 : (yb == xb) = false := by rw [beq_eq_false_iff_ne]; exact f
                    clear HM2 e f
                    have t0 := fun u : Lat wr => (HSK.out u.W u.b).1.1
                    have t1 := fun u : Lat wr => (HSK.out u.W u.b).1.2.1
                    have t2 := fun u : Lat wr => (HSK.out u.W u.b).1.2.2
                    have v0 := fun u : Lat wr => (HSK.out u.W u.b).2.1.1
                    have v1 := fun u : Lat wr => (HSK.out u.W u.b).2.1.2.1
                    have v2 := fun u : Lat wr => (HSK.out u.W u.b).2.1.2.2.1
                    have v3 := fun u : Lat wr => (HSK.out u.W u.b).2.1.2.2.2.1
                    have v4 := fun u : Lat wr => (HSK.out u.W u.b).2.1.2.2.2.2.1
                    have v5 := fun u : Lat wr => (HSK.out u.W u.b).2.1.2.2.2.2.2
                    have u1 := fun u : Lat wr => (HSK.out u.W u.b).2.2.1.1
                    have u2 := fun u : Lat wr => (HSK.out u.W u.b).2.2.1.2.1
                    have u4 := fun u : Lat wr => (HSK.out u.W u.b).2.2.1.2.2
                    have ul := fun u : Lat wr => (HSK.out u.W u.b).2.2.2
                    go_wp2
                    refine lat_region (Below.refl wr.heap.size wr) (by kernel_rfl) (by kernel_rfl) ?_
                    repeat (go_big_quiet_step (first | (go_at_call 16; exact lat_call _ (HGK.out _ (Lat.b _)))))
                    refine wpQuiet_nil ?_
                    intro _ hw'
                    obtain ⟨u6, hw6⟩ := hw'
                    subst hw6
                    have R : Hid (Below w3.heap.size w3 u6.W) := HB7.out.trans (u6.b.mono HB7.out.size)
                    clear t0 t1 t2 v0 v1 v2 v3 v4 v5 u1 u2 u4 ul HSK HGK
                    go_wp2
                    go_roundw
                    case rel => first | exact ⟨k + 1, by omega, by go_num, R⟩ | ((repeat apply Exists.intro); exact ⟨⟨k + 1, by omega, by go_num, R⟩, rfl⟩)
                    case measure => first | (simp [intOf]; done) | (simp [intOf]; omega)
                · have e1 : (ya == xa) = false := by rw [beq_eq_false_iff_ne]; exact e
                  clear HM2 e
                  have t0 := fun u : Lat wr => (HSK.out u.W u.b).1.1
                  have t1 := fun u : Lat wr => (HSK.out u.W u.b).1.2.1
                  have t2 := fun u : Lat wr => (HSK.out u.W u.b).1.2.2
                  have v0 := fun u : Lat wr => (HSK.out u.W u.b).2.1.1
                  have v1 := fun u : Lat wr => (HSK.out u.W u.b).2.1.2.1
                  have v2 := fun u : Lat wr => (HSK.out u.W u.b).2.1.2.2.1
                  have v3 := fun u : Lat wr => (HSK.out u.W u.b).2.1.2.2.2.1
                  have v4 := fun u : Lat wr => (HSK.out u.W u.b).2.1.2.2.2.2.1
                  have v5 := fun u : Lat wr => (HSK.out u.W u.b).2.1.2.2.2.2.2
                  have u1 := fun u : Lat wr => (HSK.out u.W u.b).2.2.1.1
                  have u2 := fun u : Lat wr => (HSK.out u.W u.b).2.2.1.2.1
                  have u4 := fun u : Lat wr => (HSK.out u.W u.b).2.2.1.2.2
                  have ul := fun u : Lat wr => (HSK.out u.W u.b).2.2.2
                  go_wp2
                  refine lat_region (Below.refl wr.heap.size wr) (by kernel_rfl) (by kernel_rfl) ?_
                  repeat (go_big_quiet_step (first | (go_at_call 16; exact lat_call _ (HGK.out _ (Lat.b _)))))
                  refine wpQuiet_nil ?_
                  intro _ hw'
                  obtain ⟨u6, hw6⟩ := hw'
                  subst hw6
                  have R : Hid (Below w3.heap.size w3 u6.W) := HB7.out.trans (u6.b.mono HB7.out.size)
                  clear t0 t1 t2 v0 v1 v2 v3 v4 v5 u1 u2 u4 ul HSK HGK
                  go_wp2
                  go_roundw
                  case rel => first | exact ⟨k + 1, by omega, by go_num, R⟩ | ((repeat apply Exists.intro); exact ⟨⟨k + 1, by omega, by go_num, R⟩, rfl⟩)
                  case measure => first | (simp [intOf]; done) | (simp [intOf]; omega)
            · have n1 : ¬ (k : Int) < (NH : Int) := by omega
              have R : Hid (Below w2.heap.size w2 wr) := HB3.out.trans (hS.out.mono HB3.out.size)
              clear hS
              go_wp2
              go_roundw
              case rel => first | exact ⟨m + 1, by omega, by go_num, R⟩ | ((repeat apply Exists.intro); exact ⟨⟨m + 1, by omega, by go_num, R⟩, rfl⟩)
              case measure => first | (simp [intOf]; done) | (simp [intOf]; omega)
    · have k1 : ¬ (m : Int) < (NC : Int) := by omega
      obtain ⟨_, ⟨_, z1, _⟩, _, _, _, hR⟩ := HALL.out wr hS.out
      have R := Lib.hid hR
      have hlsN : Hid (ls.length = NV) := HLS.out.1
      clear hS hR
      go_wp2
      go_ret
      exact ⟨rfl, R.out⟩

end Go.Proofs.Ytbmgiekiildaaaa
