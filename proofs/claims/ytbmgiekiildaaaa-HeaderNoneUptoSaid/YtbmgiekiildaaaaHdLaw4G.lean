/-
  HeaderGaps. Plain: heads that count are of unlike blocks, are good, and are the newest ones. No program is spoken of here.
-/
import Derived.Test.YtbmgiekiildaaaaHdCAG
import Derived.Test.YtbmgiekiildaaaaHdNoneG
import Derived.Deep.QuietTactic
import Derived.Test.YtbmgiekiildaaaaTableNumsG
namespace Go.Proofs.Ytbmgiekiildaaaa
open Go.RowKit

theorem NewAns.out {t : Tab} {hs : List Rc} {w : World} {e : Ending} {w' : World} (h : NewAns t hs w e w') :
  ∃ A4 c4 A5 c5 ls, e = .returned (.tuple #[.slice A4 (cntTo t hs ls t.vs.length).length c4, .slice A5 t.vs.length c5, .int .i64 0]) ∧ (cntTo t hs ls t.vs.length).length ≤ c4 ∧ t.vs.length ≤ c5 ∧ ls.length = t.vs.length ∧ LastOK t hs ls ∧ RecsAt w' w'.heap.size A4 (cntTo t hs ls t.vs.length) ∧ Ints w' w'.heap.size .i64 A5 ls ∧ Below w.heap.size w w' := h
/-- A head of a row, cell by cell. -/
theorem recs_cells {w : World} {B : Nat} {A : Option Addr} {rs : List Rc} (h : RecsAt w B A rs) {k : Nat} (hk : k < rs.length) : ∃ b off, A = some ⟨b, off, none⟩ ∧ b < B ∧ w.cell? ⟨b, off + k * 6, none⟩ = some (.int .i64 (rs.getD k hZero).k) ∧ w.cell? ⟨b, off + k * 6 + 1, none⟩ = some (.int .i64 (rs.getD k hZero).a) ∧ w.cell? ⟨b, off + k * 6 + 2, none⟩ = some (.int .i64 (rs.getD k hZero).b) ∧
    w.cell? ⟨b, off + k * 6 + 3, none⟩ = some (.int .i64 (rs.getD k hZero).c) ∧ w.cell? ⟨b, off + k * 6 + 4, none⟩ = some (.int .i64 (rs.getD k hZero).d) ∧ w.cell? ⟨b, off + k * 6 + 5, none⟩ = some (.string (rs.getD k hZero).key) := by
  obtain ⟨b, off, e, hl, hm⟩ := recs_mid h hk
  exact ⟨b, off, e, hl, hm 0 _ rfl, hm 1 _ rfl, hm 2 _ rfl, hm 3 _ rfl, hm 4 _ rfl, hm 5 _ rfl⟩

set_option maxHeartbeats 6400000 in
set_option maxRecDepth 20000 in
/-- HeaderGaps, where Newest refuses. -/
theorem headerGaps_no (V : TabW) (t : Tab) (A : Option Addr) (c n : Nat) (w : World) (h : TabAt w w.heap.size V t) (ho : t.ok) (hbad : ¬ t.sound ∨ n ≠ t.os.length) :
    Calls Try.prog 8 #[.agg (tabV V t), .slice A n c] w fun e w' => e = .returned (.bool true) ∧ Below w.heap.size w w' := by
  have HA := Lib.hid (fun W => hdAwake (hd_spec W) W (Below.refl _ _))
  obtain ⟨_, hrow, hb0⟩ := htab_box w V t 38
  have hinf : (Try.prog.info? 38).map (·.size) = some (tabV V t).size := Try.infoTabH
  have HNO : Hid (∀ U, Below w.heap.size w U → Calls Try.prog 14 #[.agg (tabV V t), .slice A n c] U fun e w' => e = .returned (.tuple #[.slice none 0 0, .slice none 0 0, .int .i64 2]) ∧ Below U.heap.size U w') := fun U hb => hNewest_no V t A c n U ((h.below hb).more hb.size) ho hbad
  obtain ⟨X, hX⟩ : ∃ X, X = w.alloc (.cells (tabV V t) 38) := ⟨_, rfl⟩
  rw [← hX] at hrow hb0
  have HX := Lib.hid (And.intro hrow hb0)
  have HXX := Lib.hid hX
  obtain ⟨P, hP⟩ : ∃ P, P = tabV V t := ⟨_, rfl⟩
  simp only [← hP] at HX hinf HNO HXX
  rw [← hP]
  clear h ho hbad hrow hb0 hX hP
  go_enter Try.func8, Try.ntmps8
  go_wp2_with (first
    | (rw [← HXX.out]; refine wpList_load_row rfl 38 _ rfl w.heap.size rfl 38 _ (0, 0) _ HX.out.1 Try.underlying38 rfl hinf ?_)
    | (go_at_call 14; with_reducible (refine Calls.mono (HNO.out X HX.out.2) ?_); rintro e w1 ⟨rfl, hb1⟩; have hx1 := Lib.hid (HX.out.2.trans (hb1.mono HX.out.2.size)); clear hb1)
    | (have hguard := hx1; clear hguard; go_at_call 11; with_reducible (refine Calls.mono (HA.out _) ?_); rintro e w2 ⟨rfl, hb2⟩; have hx2 := Lib.hid (hx1.out.trans (hb2.mono hx1.out.size)); clear hx1 hb2)
    | (go_at_call 11; with_reducible (refine Calls.mono (HA.out _) ?_); rintro e w3 ⟨rfl, hb3⟩; have hx3 := Lib.hid (hx2.out.trans (hb3.mono hx2.out.size))))
  go_ret
  exact ⟨rfl, hx3.out⟩

set_option maxHeartbeats 6400000 in
set_option maxRecDepth 20000 in
/-- HeaderGaps, of a sound table and as many heads as slots. -/
theorem headerGaps_ok (V : TabW) (t : Tab) (A : Option Addr) (c : Nat) (hs : List Rc) (w : World) (h : TabAt w w.heap.size V t) (ho : t.ok) (hh : RecsAt w w.heap.size A hs) (hd : ∀ x ∈ hs, I64n x.d) (hsd : t.sound) (hl : hs.length = t.os.length) :
    Calls Try.prog 8 #[.agg (tabV V t), .slice A hs.length c] w fun e w' => e = .returned (.bool true) ∧ Below w.heap.size w w' := by
  have HA := Lib.hid (fun W => hdAwake (hd_spec W) W (Below.refl _ _))
  obtain ⟨_, hrow, hb0⟩ := htab_box w V t 38
  have hinf : (Try.prog.info? 38).map (·.size) = some (tabV V t).size := Try.infoTabH
  have HOK : Hid (∀ U, Below w.heap.size w U → Calls Try.prog 14 #[.agg (tabV V t), .slice A hs.length c] U fun e w' => NewAns t hs U e w') := fun U hb => hNewest_ok V t A c hs U ((h.below hb).more hb.size) ho ((hh.below hb).more hb.size) hd hsd hl
  have HVS : Hid (∀ W, Below w.heap.size w W → VolsAt W W.heap.size V.A2 t.vs ∧ RecsAt W W.heap.size A hs) := fun W hb => ⟨(h.vs.below hb).more hb.size, (hh.below hb).more hb.size⟩
  have HNH : Hid (hs.length ≤ 64) := by unfold Hid; rw [hl]; exact hsd.len.2
  have HV8 := Lib.hid (vols_few hsd)
  have HSD := Lib.hid hsd
  have HVB : Hid (∀ k, k < t.vs.length → 0 ≤ (volK t k).base ∧ (volK t k).base ≤ 1099511627776) := fun k hk => by
    rw [volK_at hk]; exact (hsd.vol _ (List.getElem_mem hk)).2.2.2
  have HROW : Hid (∀ W : World, W.heap[w.heap.size]? = some (.cells (tabV V t) 38 (0, 0)) → W.cell? ⟨w.heap.size, 1, none⟩ = some (.slice V.A2 t.vs.length V.c2)) := fun W q => by rw [cell_of_row _ _ _ _ _ _ q]; rfl
  obtain ⟨X, hX⟩ : ∃ X, X = w.alloc (.cells (tabV V t) 38) := ⟨_, rfl⟩
  rw [← hX] at hrow hb0
  have HX := Lib.hid (And.intro hrow hb0)
  have HXX := Lib.hid hX
  obtain ⟨P, hP⟩ : ∃ P, P = tabV V t := ⟨_, rfl⟩
  simp only [← hP] at HX hinf HOK HXX HROW
  rw [← hP]
  obtain ⟨NH, hNH⟩ : ∃ N, N = hs.length := ⟨_, rfl⟩
  have HNE := Lib.hid hNH
  simp only [← hNH] at HOK HNH ⊢
  obtain ⟨NV, hNV⟩ : ∃ N, N = t.vs.length := ⟨_, rfl⟩
  have HNV := Lib.hid hNV
  simp only [← hNV] at HROW
  clear h ho hh hd hsd hl hrow hb0 hX hP hNH hNV
  go_enter Try.func8, Try.ntmps8
  go_wp2_with (first
    | (rw [← HXX.out]; refine wpList_load_row rfl 38 _ rfl w.heap.size rfl 38 _ (0, 0) _ HX.out.1 Try.underlying38 rfl hinf ?_)
    | (go_at_call 14; with_reducible (refine Calls.mono (HOK.out X HX.out.2) ?_); intro e w1 hN; obtain ⟨A4, c4, A5, c5, ls, rfl, hc4, hc5, hls, hlast, hr4, hi5, hb1⟩ := NewAns.out hN
       rw [← HNV.out] at hls hr4 ⊢
       have hw1 := Lib.hid (And.intro hr4 (And.intro hi5 hb1))
       have HLS := Lib.hid (And.intro hls hlast)
       clear hN hc4 hc5 hls hlast hr4 hi5 hb1)
    | (go_at_call 11; with_reducible (refine Calls.mono (HA.out _) ?_); rintro e w2 ⟨rfl, hb2⟩; have hw2 := Lib.hid hb2; clear hb2))
  have HCM : Hid (∀ x ∈ cntTo t hs ls NV, ∀ k, k < NV → x.a = (volK t k).id → x.d ≤ ls.getD k 0) := fun x hx k hk ha => gap_far HSD.out (by rw [← HNV.out]; exact hk) (by rw [← HNV.out]; exact hx) ha
  obtain ⟨C, hC⟩ : ∃ C, C = cntTo t hs ls NV := ⟨_, rfl⟩
  rw [← hC] at HCM hw1 ⊢
  -- what lies there, from here on
  have HALL : Hid (∀ W, Below w2.heap.size w2 W → W.cell? ⟨w.heap.size, 1, none⟩ = some (.slice V.A2 NV V.c2) ∧ VolsAt W W.heap.size V.A2 t.vs ∧ RecsAt W W.heap.size A hs ∧ RecsAt W W.heap.size A4 C ∧ Ints W W.heap.size .i64 A5 ls ∧ Below w.heap.size w W) := fun W hb => by
    have hbx : Below X.heap.size X W := hw1.out.2.2.trans ((hw2.out.mono hw1.out.2.2.size).trans (hb.mono (Nat.le_trans hw1.out.2.2.size hw2.out.size)))
    have hb1 : Below w1.heap.size w1 W := hw2.out.trans (hb.mono hw2.out.size)
    have hbw : Below w.heap.size w W := HX.out.2.trans (hbx.mono HX.out.2.size)
    obtain ⟨q1, q2⟩ := HVS.out W hbw
    exact ⟨HROW.out W ((hbx.block _ (Array.getElem?_eq_some_iff.1 HX.out.1).1).trans HX.out.1), q1, q2, (hw1.out.1.below hb1).more hb1.size, (hw1.out.2.1.below hb1).more hb1.size, hbw⟩
  obtain ⟨NC, hNC⟩ : ∃ N, N = C.length := ⟨_, rfl⟩
  have HNC := Lib.hid hNC
  have HNCB : Hid (NC ≤ 140737488355328) := by have := cntTo_len t hs ls (fun v hv => (HSD.out.vol v hv).2.2.1.2) NV; have := HV8.out; have := HNV.out; unfold Hid; rw [hNC, hC]; omega
  rw [← hNC]
  clear hC hNC hw1 hw2 HX HROW HVS HOK HXX hinf
  go_loopw [8] (fun i wr => ∃ k : Nat, k ≤ NV ∧ i = .int .i64 k ∧ Hid (Below w2.heap.size w2 wr)) (fun i _ => NV - (intOf i).toNat)
  case atStart => exact ⟨0, Nat.zero_le _, rfl, Below.refl _ _⟩
  case round =>
    obtain ⟨k, hk, rfl, hS⟩ := hrel
    have hk8 : k ≤ 8 := by have := HV8.out; have := HNV.out; omega
    by_cases hlt : k < NV
    · have k0 : (0 : Int) ≤ (k : Int) := by omega
      have k1 : (k : Int) < (NV : Int) := by omega
      obtain ⟨f1, r2, _, _, _, _⟩ := HALL.out wr hS.out
      obtain ⟨b, off, hA2, _, hmid⟩ := vols_mid r2 (k := k) (by have := HNV.out; omega)
      have HVA0 := HVB.out k (by have := HNV.out; omega)
      have HLE0 := (HLS.out.2 k (by have := HLS.out.1; omega)).le
      have HGM0 : ∀ n, (volK t k).base < n → n ≤ ls.getD k 0 → metTo hs (volK t k).id n hs.length = true := fun n h1 h2 => gap_met HLS.out.2 (by have := HLS.out.1; omega) h1 h2
      obtain ⟨v, hv⟩ : ∃ v, v = volK t k := ⟨_, rfl⟩
      rw [show t.vs.getD k ⟨0, 0, 0, 0⟩ = v from hv.symm] at hmid HLE0
      rw [← hv] at HVA0 HGM0
      have hxv : (hvC v).toArray = volV v := Array.toArray_toList
      have HVI0 : v.id = (volK t k).id := by rw [hv]
      obtain ⟨L, hL⟩ : ∃ L, L = ls.getD k 0 := ⟨_, rfl⟩
      rw [← hL] at HLE0 HGM0
      have HLL := Lib.hid hL
      have HBOX0 : ∀ W, Below (wr.alloc (.cells (volV v) 46)).heap.size (wr.alloc (.cells (volV v) 46)) W → W.cell? ⟨wr.heap.size, 0, none⟩ = some (.int .i64 v.id) ∧ W.cell? ⟨wr.heap.size, 3, none⟩ = some (.int .i64 v.base) := fun W hb => by
        have q := (hb.block wr.heap.size (by simp)).trans (heap_alloc_new wr (.cells (volV v) 46))
        exact ⟨by rw [cell_of_row _ _ _ _ _ _ q]; rfl, by rw [cell_of_row _ _ _ _ _ _ q]; rfl⟩
      have HB30 : Below w2.heap.size w2 (wr.alloc (.cells (volV v) 46)) := hS.out.alloc hS.out.size _
      obtain ⟨vi, vt, vb, va⟩ := v
      simp only [volV] at HBOX0 HB30 hxv HVA0 HVI0 HGM0 HLE0
      have HVA := Lib.hid HVA0
      have HVI := Lib.hid HVI0
      have HGM := Lib.hid HGM0
      rw [hA2] at f1
      clear hv hL r2 hA2 HGM0 HVI0 hS
      go_wp2_with (first
        | (refine wpList_load_mid rfl 46 _ rfl b (off + k * 4) rfl (hvC ⟨vi, vt, vb, va⟩) _ hmid Try.underlying46 rfl Try.infoVolH ?_; rw [hxv])
        | fail)
      obtain ⟨w3, hw3⟩ : ∃ w3, w3 = wr.alloc (.cells #[.int .i64 vi, .int .i64 vt, .int .i64 vb, .int .i64 va] 46) := ⟨_, rfl⟩
      rw [← hw3] at HBOX0 HB30 ⊢
      obtain ⟨p, hp⟩ : ∃ p, p = wr.heap.size := ⟨_, rfl⟩
      rw [← hp] at HBOX0 ⊢
      have HBOX := Lib.hid HBOX0
      have HB3 := Lib.hid HB30
      have HW3 : Hid (∀ W, Below w3.heap.size w3 W → W.cell? ⟨w.heap.size, 1, none⟩ = some (.slice V.A2 NV V.c2) ∧ VolsAt W W.heap.size V.A2 t.vs ∧ RecsAt W W.heap.size A hs ∧ RecsAt W W.heap.size A4 C ∧ Ints W W.heap.size .i64 A5 ls ∧ Below w.heap.size w W) := fun W hb => HALL.out W (HB3.out.trans (hb.mono HB3.out.size))
      obtain ⟨z0, z1⟩ := HBOX.out w3 (Below.refl _ _)
      obtain ⟨_, _, _, _, r5, _⟩ := HW3.out w3 (Below.refl _ _)
      obtain ⟨b5, o5, hA5, _, q5⟩ := r5 k (by have := HLS.out.1; omega)
      rw [← HLL.out] at q5
      have e0 : ¬ L < va := by omega
      have hwa : wrap64 (va + 1) = va + 1 := by unfold wrap64; omega
      have HD3 : Hid (∀ n, Below w3.heap.size w3 (w3.drewN n)) := fun n => below_drewN (Below.refl _ _) n
      have HA5 := Lib.hid hA5
      rw [hA5]
      clear hw3 hp hmid hxv HBOX0 HB30 f1 r5 hA5 HLE0
      go_quiet (fail)
      go_wp2
      rw [← HA5.out]
      clear z0 z1 q5 e0
      go_loopw [10] (fun nv wr => ∃ n : Int, nv = .int .i64 n ∧ va < n ∧ n ≤ va + 100 ∧ Hid (Below w3.heap.size w3 wr)) (fun nv _ => (va + 101 - intOf nv).toNat)
      case atStart => exact ⟨va + 1, by first | rfl | rw [hwa], by omega, by omega, HD3.out _⟩
      case round =>
        obtain ⟨n, rfl, hn1, hn2, hS⟩ := hrel
        clear HD3 hwa
        obtain ⟨z0, z1⟩ := HBOX.out wr hS.out
        obtain ⟨_, _, _, _, r5, _⟩ := HW3.out wr hS.out
        obtain ⟨b6, o6, hA6, _, q6⟩ := r5 k (by have := HLS.out.1; omega)
        rw [← HLL.out] at q6
        have HG := hS
        have HA6 := Lib.hid hA6
        have hw100 : wrap64 (va + 100) = va + 100 := by unfold wrap64; have := HVA.out; omega
        rw [hA6]
        clear r5 hA6 hS
        by_cases hx1 : n ≤ L
        · by_cases hx2 : n < va + 100
          · go_wp2
            rw [← HA6.out]
            clear z0 z1 q6
            go_loopw [11, 12] (fun f kv wr => ∃ m : Nat, m ≤ NH ∧ kv = .int .i64 m ∧ f = .bool (metTo hs vi n m) ∧ Hid (Below w3.heap.size w3 wr)) (fun _ kv _ => NH - (intOf kv).toNat)
            case atStart => exact ⟨0, Nat.zero_le _, rfl, rfl, HG.out⟩
            case round =>
              obtain ⟨m, hm, rfl, rfl, hS⟩ := hrel
              clear HG
              have hn64 : m ≤ 64 := by have := HNH.out; omega
              by_cases hmt : m < NH
              · have m0 : (0 : Int) ≤ (m : Int) := by omega
                have m1 : (m : Int) < (NH : Int) := by omega
                obtain ⟨z0, z1⟩ := HBOX.out wr hS.out
                obtain ⟨_, _, r3, _, _, _⟩ := HW3.out wr hS.out
                obtain ⟨b4, o4, rfl, _, _, y1, _, _, y4, _⟩ := recs_cells r3 (k := m) (by have := HNE.out; omega)
                have HMT : Hid (metTo hs vi n (m + 1) = (metTo hs vi n m || (decide ((hs.getD m hZero).a = vi) && decide ((hs.getD m hZero).d = n)))) := rfl
                obtain ⟨B, hB⟩ : ∃ B, B = metTo hs vi n m := ⟨_, rfl⟩
                rw [← hB] at HMT ⊢
                obtain ⟨xa, hxa⟩ : ∃ x, x = (hs.getD m hZero).a := ⟨_, rfl⟩
                obtain ⟨xd, hxd⟩ : ∃ x, x = (hs.getD m hZero).d := ⟨_, rfl⟩
                rw [← hxa] at y1 HMT
                rw [← hxd] at y4 HMT
                have HD : Hid (∀ n, Below w3.heap.size w3 (wr.drewN n)) := fun n => below_drewN hS.out n
                clear hS r3 hxa hxd hB
                cases B
                · by_cases e : xa = vi
                  · have e1 : (xa == vi) = true := by rw [beq_iff_eq]; exact e
                    by_cases e2 : xd = n
                    · have e3 : (xd == n) = true := by rw [beq_iff_eq]; exact e2
                      have HM : Hid (metTo hs vi n (m + 1) = true) := by rw [HMT.out, decide_eq_true e, decide_eq_true e2]; rfl
                      clear e e2
                      go_wp2
                      go_quiet (fail)
                      go_wp2
                      go_roundw
                      case rel => first | exact ⟨m + 1, by omega, by go_num, by rw [HM.out], HD.out _⟩ | ((repeat apply Exists.intro); exact ⟨⟨m + 1, by omega, by go_num, by rw [HM.out], HD.out _⟩, rfl⟩)
                      case measure => first | (simp [intOf]; done) | (simp [intOf]; omega)
                    · have e3 : (xd == n) = false := by rw [beq_eq_false_iff_ne]; exact e2
                      have HM : Hid (metTo hs vi n (m + 1) = false) := by rw [HMT.out, decide_eq_true e, decide_eq_false e2]; rfl
                      clear e e2
                      go_wp2
                      go_quiet (fail)
                      go_wp2
                      go_roundw
                      case rel => first | exact ⟨m + 1, by omega, by go_num, by rw [HM.out], HD.out _⟩ | ((repeat apply Exists.intro); exact ⟨⟨m + 1, by omega, by go_num, by rw [HM.out], HD.out _⟩, rfl⟩)
                      case measure => first | (simp [intOf]; done) | (simp [intOf]; omega)
                  · have e1 : (xa == vi) = false := by rw [beq_eq_false_iff_ne]; exact e
                    have HM : Hid (metTo hs vi n (m + 1) = false) := by rw [HMT.out, decide_eq_false e]; rfl
                    clear e
                    go_wp2
                    go_quiet (fail)
                    go_wp2
                    go_roundw
                    case rel => first | exact ⟨m + 1, by omega, by go_num, by rw [HM.out], HD.out _⟩ | ((repeat apply Exists.intro); exact ⟨⟨m + 1, by omega, by go_num, by rw [HM.out], HD.out _⟩, rfl⟩)
                    case measure => first | (simp [intOf]; done) | (simp [intOf]; omega)
                · have HM : Hid (metTo hs vi n (m + 1) = true) := by rw [HMT.out]; rfl
                  go_wp2
                  go_quiet (fail)
                  go_wp2
                  go_roundw
                  case rel => first | exact ⟨m + 1, by omega, by go_num, by rw [HM.out], HD.out _⟩ | ((repeat apply Exists.intro); exact ⟨⟨m + 1, by omega, by go_num, by rw [HM.out], HD.out _⟩, rfl⟩)
                  case measure => first | (simp [intOf]; done) | (simp [intOf]; omega)
              · have hmN : m = NH := by omega
                have m1 : ¬ (m : Int) < (NH : Int) := by omega
                have HF : Hid (metTo hs vi n m = true) := by rw [hmN, HNE.out]; exact HGM.out n hn1 hx1
                rw [HF.out]
                have HS4 := hS
                have hw1 : wrap64 (n + 1) = n + 1 := by unfold wrap64; have := HVA.out; omega
                clear hS hmN
                go_wp2
                rw [HA6.out]
                go_roundw
                case rel => first | exact ⟨_, _, ⟨n + 1, rfl, by omega, by omega⟩, rfl, rfl, rfl, rfl⟩ | exact ⟨n + 1, by first | rfl | rw [hw1], by omega, by omega, HS4⟩ | ((repeat apply Exists.intro); exact ⟨⟨n + 1, (by first | rfl | rw [hw1]), by omega, by omega, HS4⟩, rfl⟩)
                case measure => first | (simp only [intOf]; rw [hw1]; omega) | (simp only [intOf]; omega) | (simp [intOf]; omega)
          · go_wp2
            rw [← HA6.out]
            clear z0 z1 q6 hx1 hx2
            go_loopw [13] (fun kv wr => ∃ m : Nat, m ≤ NC ∧ kv = .int .i64 m ∧ Hid (Below w3.heap.size w3 wr)) (fun kv _ => NC - (intOf kv).toNat)
            case atStart => exact ⟨0, Nat.zero_le _, rfl, HG.out⟩
            case round =>
              obtain ⟨m, hm, rfl, hS⟩ := hrel
              clear HG
              have hn64 : m ≤ 140737488355328 := by have := HNCB.out; omega
              by_cases hmt : m < NC
              · have m0 : (0 : Int) ≤ (m : Int) := by omega
                have m1 : (m : Int) < (NC : Int) := by omega
                obtain ⟨z0, z1⟩ := HBOX.out wr hS.out
                obtain ⟨_, _, _, r4, r5, _⟩ := HW3.out wr hS.out
                obtain ⟨b4, o4, rfl, _, _, y1, _, _, y4, _⟩ := recs_cells r4 (k := m) (by have := HNC.out; omega)
                obtain ⟨b5, o5, rfl, _, q5⟩ := r5 k (by have := HLS.out.1; omega)
                rw [← HLL.out] at q5
                have hcm := HCM.out (C.getD m hZero) (by rw [List.getD_eq_getElem?_getD, List.getElem?_eq_getElem (by have := HNC.out; omega)]; exact List.getElem_mem _) k hlt
                rw [← HVI.out, ← HLL.out] at hcm
                obtain ⟨xa, hxa⟩ : ∃ x, x = (C.getD m hZero).a := ⟨_, rfl⟩
                obtain ⟨xd, hxd⟩ : ∃ x, x = (C.getD m hZero).d := ⟨_, rfl⟩
                rw [← hxa] at y1 hcm
                rw [← hxd] at y4 hcm
                have HD : Hid (∀ n, Below w3.heap.size w3 (wr.drewN n)) := fun n => below_drewN hS.out n
                have k0 : (0 : Int) ≤ (k : Int) := by omega
                have k1 : (k : Int) < (NV : Int) := by omega
                have HCX := Lib.hid hcm
                clear hS r4 r5 hxa hxd hcm
                by_cases e : xa = vi
                · have e1 : (xa == vi) = true := by rw [beq_iff_eq]; exact e
                  have e2 : ¬ L < xd := by have := HCX.out e; omega
                  clear e
                  go_wp2
                  go_quiet (fail)
                  go_wp2
                  go_roundw
                  case rel => first | exact ⟨m + 1, by omega, by go_num, HD.out _⟩ | ((repeat apply Exists.intro); exact ⟨⟨m + 1, by omega, by go_num, HD.out _⟩, rfl⟩)
                  case measure => first | (simp [intOf]; done) | (simp [intOf]; omega)
                · have e1 : (xa == vi) = false := by rw [beq_eq_false_iff_ne]; exact e
                  clear e
                  go_wp2
                  go_quiet (fail)
                  go_wp2
                  go_roundw
                  case rel => first | exact ⟨m + 1, by omega, by go_num, HD.out _⟩ | ((repeat apply Exists.intro); exact ⟨⟨m + 1, by omega, by go_num, HD.out _⟩, rfl⟩)
                  case measure => first | (simp [intOf]; done) | (simp [intOf]; omega)
              · have m1 : ¬ (m : Int) < (NC : Int) := by omega
                have R : Hid (Below w2.heap.size w2 wr) := HB3.out.trans (hS.out.mono HB3.out.size)
                clear hS
                go_wp2
                go_roundw
                case rel => first | exact ⟨k + 1, by omega, by go_num, R⟩ | ((repeat apply Exists.intro); exact ⟨⟨k + 1, by omega, by go_num, R⟩, rfl⟩)
                case measure => first | (simp [intOf]; done) | (simp [intOf]; omega)
        · go_wp2
          rw [← HA6.out]
          clear z0 z1 q6 hx1
          go_loopw [13] (fun kv wr => ∃ m : Nat, m ≤ NC ∧ kv = .int .i64 m ∧ Hid (Below w3.heap.size w3 wr)) (fun kv _ => NC - (intOf kv).toNat)
          case atStart => exact ⟨0, Nat.zero_le _, rfl, HG.out⟩
          case round =>
            obtain ⟨m, hm, rfl, hS⟩ := hrel
            clear HG
            have hn64 : m ≤ 140737488355328 := by have := HNCB.out; omega
            by_cases hmt : m < NC
            · have m0 : (0 : Int) ≤ (m : Int) := by omega
              have m1 : (m : Int) < (NC : Int) := by omega
              obtain ⟨z0, z1⟩ := HBOX.out wr hS.out
              obtain ⟨_, _, _, r4, r5, _⟩ := HW3.out wr hS.out
              obtain ⟨b4, o4, rfl, _, _, y1, _, _, y4, _⟩ := recs_cells r4 (k := m) (by have := HNC.out; omega)
              obtain ⟨b5, o5, rfl, _, q5⟩ := r5 k (by have := HLS.out.1; omega)
              rw [← HLL.out] at q5
              have hcm := HCM.out (C.getD m hZero) (by rw [List.getD_eq_getElem?_getD, List.getElem?_eq_getElem (by have := HNC.out; omega)]; exact List.getElem_mem _) k hlt
              rw [← HVI.out, ← HLL.out] at hcm
              obtain ⟨xa, hxa⟩ : ∃ x, x = (C.getD m hZero).a := ⟨_, rfl⟩
              obtain ⟨xd, hxd⟩ : ∃ x, x = (C.getD m hZero).d := ⟨_, rfl⟩
              rw [← hxa] at y1 hcm
              rw [← hxd] at y4 hcm
              have HD : Hid (∀ n, Below w3.heap.size w3 (wr.drewN n)) := fun n => below_drewN hS.out n
              have k0 : (0 : Int) ≤ (k : Int) := by omega
              have k1 : (k : Int) < (NV : Int) := by omega
              have HCX := Lib.hid hcm
              clear hS r4 r5 hxa hxd hcm
              by_cases e : xa = vi
              · have e1 : (xa == vi) = true := by rw [beq_iff_eq]; exact e
                have e2 : ¬ L < xd := by have := HCX.out e; omega
                clear e
                go_wp2
                go_quiet (fail)
                go_wp2
                go_roundw
                case rel => first | exact ⟨m + 1, by omega, by go_num, HD.out _⟩ | ((repeat apply Exists.intro); exact ⟨⟨m + 1, by omega, by go_num, HD.out _⟩, rfl⟩)
                case measure => first | (simp [intOf]; done) | (simp [intOf]; omega)
              · have e1 : (xa == vi) = false := by rw [beq_eq_false_iff_ne]; exact e
                clear e
                go_wp2
                go_quiet (fail)
                go_wp2
                go_roundw
                case rel => first | exact ⟨m + 1, by omega, by go_num, HD.out _⟩ | ((repeat apply Exists.intro); exact ⟨⟨m + 1, by omega, by go_num, HD.out _⟩, rfl⟩)
                case measure => first | (simp [intOf]; done) | (simp [intOf]; omega)
            · have m1 : ¬ (m : Int) < (NC : Int) := by omega
              have R : Hid (Below w2.heap.size w2 wr) := HB3.out.trans (hS.out.mono HB3.out.size)
              clear hS
              go_wp2
              go_roundw
              case rel => first | exact ⟨k + 1, by omega, by go_num, R⟩ | ((repeat apply Exists.intro); exact ⟨⟨k + 1, by omega, by go_num, R⟩, rfl⟩)
              case measure => first | (simp [intOf]; done) | (simp [intOf]; omega)
    · have k1 : ¬ (k : Int) < (NV : Int) := by omega
      have R := Lib.hid (HALL.out wr hS.out).2.2.2.2.2
      clear hS
      go_wp2
      go_ret
      exact ⟨rfl, R.out⟩

end Go.Proofs.Ytbmgiekiildaaaa

namespace Go.Proofs.Ytbmgiekiildaaaa
open Go.RowKit

theorem blkTo_up {m : Int} {l : List Rc} : ∀ n, (blkTo m l n).Pairwise fun x y => x.b < y.b
  | 0 => List.Pairwise.nil
  | n + 1 => by
    by_cases q : newL n m l = hZero
    · rw [blkTo_no q]; exact blkTo_up n
    · rw [blkTo_yes q, List.pairwise_append]
      refine ⟨blkTo_up n, List.pairwise_singleton _ _, fun x hx y hy => ?_⟩
      obtain ⟨b, hb, e, hz⟩ := blkTo_mem n hx
      rw [List.mem_singleton] at hy
      have h1 := (newL_mem (b := b) (m := m) (l := l) (by rw [← e]; exact hz)).2.1
      have h2 := (newL_mem (b := n) (m := m) (l := l) q).2.1
      rw [← e] at h1
      rw [hy, h1, h2]
      omega
theorem newL_vol {t : Tab} {hs : List Rc} {j b : Nat} {m : Int} {x : Rc} (e : x = newL b m (goodL (volK t j) t.os hs)) (hz : x ≠ hZero) : x.a = (volK t j).id := by
  have h1 := (newL_mem (b := b) (m := m) (l := goodL (volK t j) t.os hs) (by rw [← e]; exact hz)).1
  rw [← e] at h1
  obtain ⟨s, _, _, hg⟩ := goodL_mem.1 h1
  exact (goodB_iff.1 hg).2.2.1
theorem cntTo_up {t : Tab} {hs : List Rc} {ls : List Int} (ht : t.sound) : ∀ k, k ≤ t.vs.length → (cntTo t hs ls k).Pairwise fun x y => x.a < y.a ∨ (x.a = y.a ∧ x.b < y.b)
  | 0, _ => List.Pairwise.nil
  | k + 1, hk => by
    have e : cntTo t hs ls (k + 1) = cntTo t hs ls k ++ blkTo (ls.getD k 0) (goodL (volK t k) t.os hs) (volK t k).blocks.toNat := rfl
    rw [e, List.pairwise_append]
    have same : ∀ y ∈ blkTo (ls.getD k 0) (goodL (volK t k) t.os hs) (volK t k).blocks.toNat, y.a = (volK t k).id := fun y hy => by
      obtain ⟨b, _, q, hz⟩ := blkTo_mem _ hy
      exact newL_vol q hz
    refine ⟨cntTo_up ht k (by omega), ?_, fun x hx y hy => ?_⟩
    · exact List.Pairwise.imp_of_mem (fun {x y} hx hy h => .inr ⟨(same x hx).trans (same y hy).symm, h⟩) (blkTo_up _)
    · obtain ⟨j, hj, b, _, q, hz⟩ := cntTo_mem k hx
      left
      rw [newL_vol q hz, same y hy]
      exact volK_lt ht hj (by omega)
/-- Two that count are not of one block. -/
theorem cnt_apart {t : Tab} {hs : List Rc} {ls : List Int} (ht : t.sound) {C : List Rc} (hC : C = cntTo t hs ls t.vs.length) {i j : Nat} (hj : j < i) (hi : i < C.length) (ha : (C.getD j hZero).a = (C.getD i hZero).a) : (C.getD j hZero).b ≠ (C.getD i hZero).b := by
  have hp := cntTo_up (hs := hs) (ls := ls) ht t.vs.length (Nat.le_refl _)
  rw [← hC] at hp
  have h := List.pairwise_iff_getElem.1 hp j i (by omega) hi hj
  have e1 : C.getD j hZero = C[j] := by rw [List.getD_eq_getElem?_getD, List.getElem?_eq_getElem (by omega)]; rfl
  have e2 : C.getD i hZero = C[i] := by rw [List.getD_eq_getElem?_getD, List.getElem?_eq_getElem hi]; rfl
  rw [e1, e2] at ha ⊢
  rcases h with h | ⟨_, h⟩
  · rw [ha] at h; exact absurd h (Int.lt_irrefl _)
  · exact fun q => by rw [q] at h; exact absurd h (Int.lt_irrefl _)

/-- The document's Good: of a head at a place. -/
def rGood (t : Tab) (h : Rc) (s : Nat) : Bool :=
  decide (h.c = (s : Int)) && (decide (1 ≤ h.k) && (decide (t.os.getD s 0 = h.k) && (decide (0 ≤ volI t.vs h.a) && (decide ((t.vs.getD (volI t.vs h.a).toNat ⟨0, 0, 0, 0⟩).ten = h.k) && (decide (0 ≤ h.b) && (decide (h.b < (t.vs.getD (volI t.vs h.a).toNat ⟨0, 0, 0, 0⟩).blocks) && decide (1 ≤ h.d)))))))
theorem rGood_iff {t : Tab} {h : Rc} {s : Nat} : rGood t h s = true ↔ h.c = (s : Int) ∧ 1 ≤ h.k ∧ t.os.getD s 0 = h.k ∧ 0 ≤ volI t.vs h.a ∧ (volK t (volI t.vs h.a).toNat).ten = h.k ∧ 0 ≤ h.b ∧ h.b < (volK t (volI t.vs h.a).toNat).blocks ∧ 1 ≤ h.d := by
  unfold rGood volK
  simp only [Bool.and_eq_true, decide_eq_true_eq]
theorem volI_volK {t : Tab} (ht : t.sound) {j : Nat} (hj : j < t.vs.length) : volI t.vs (volK t j).id = (j : Int) :=
  volI_at hj (by rw [volK_at hj]) fun i hi hlt => by
    have := volK_lt ht hlt hj
    rw [volK_at hi] at this
    omega
theorem vol_plain {t : Tab} (ht : t.sound) {j : Nat} (hj : j < t.vs.length) : 1 ≤ (volK t j).ten := by
  have h := (ht.vol _ (List.getElem_mem hj)).2.1
  rw [volK_at hj]
  obtain ⟨x, hx, e⟩ := tenAt_isSome.1 h
  have := (ht.ten x hx).1
  obtain ⟨q, _⟩ := this
  rw [← e]
  exact q.1
/-- What the law asks of one that counts, of the volume's place j. -/
structure CntIs (t : Tab) (hs : List Rc) (ls : List Int) (x : Rc) (j : Nat) (s : Nat) : Prop where
  lt : j < t.vs.length
  vol : volI t.vs x.a = (j : Int)
  slot : s < hs.length
  at_ : x.c = (s : Int)
  eq : hs.getD s hZero = x
  good : rGood t x s = true
  le : x.d ≤ ls.getD j 0
  most : ∀ i, i < hs.length → rGood t (hs.getD i hZero) i = true → (hs.getD i hZero).a = x.a → (hs.getD i hZero).b = x.b → (hs.getD i hZero).d ≤ ls.getD j 0 → ¬ x.d < (hs.getD i hZero).d
theorem cnt_is {t : Tab} {hs : List Rc} {ls : List Int} {x : Rc} (ht : t.sound) (h : x ∈ cntTo t hs ls t.vs.length) : ∃ j s, CntIs t hs ls x j s := by
  obtain ⟨j, hj, ⟨s, hs1, hs2, hg⟩, hd, hb, hm⟩ := count_is h
  obtain ⟨g1, g2, g3, g4, g5, g6⟩ := goodB_iff.1 hg
  have hv : volI t.vs x.a = (j : Int) := by rw [g3]; exact volI_volK ht hj
  have hp := vol_plain ht hj
  refine ⟨j, s, hj, hv, hs1, g1, hs2, rGood_iff.2 ?_, hd, fun i hi hr ha hbb hdd => ?_⟩
  · rw [hv]
    exact ⟨g1, by omega, g2.symm, by omega, by rw [Int.toNat_natCast]; exact g4.symm, hb.1, by rw [Int.toNat_natCast]; exact g5, g6⟩
  · obtain ⟨r1, r2, r3, r4, r5, r6, r7, r8⟩ := rGood_iff.1 hr
    rw [ha, hv, Int.toNat_natCast] at r5 r7
    have hin : hs.getD i hZero ∈ goodL (volK t j) t.os hs := goodL_mem.2 ⟨i, hi, rfl, goodB_iff.2 ⟨r1, r3.symm, by rw [ha, g3], r5.symm, r7, r8⟩⟩
    have := hm _ hin hbb hdd
    omega

end Go.Proofs.Ytbmgiekiildaaaa
