/-
  SolveSlower: where no gain ever grows, slot by slot is as good as the best. Written by wip/gen/solve_slower.py.
-/
import Derived.Test.YtnpdffcplgjbnaaSolveSlowN
import Derived.Test.YtnpdffcplgjbnaaSolveEven
import Derived.Test.YtnpdffcplgjbnaaRows3
import Derived.Deep.OwnRows
namespace Go.Proofs.Ytnpdffcplgjbnaa
open Go.RowKit

/-- What is built after j rows. -/
def SlowR (rs : List (Option Addr × Nat × List Int)) (w : World) (v : Value) (j : Nat) (wr : World) : Prop :=
  ∃ ps : List Cur, ps.length = j ∧ ps.map Cur.l = rowsC rs j ∧ wr.ownsRow w.heap.size 40 1 v j (ps.map Cur.V) ∧ Built wr v ps ∧ Below w.heap.size w wr
theorem slowR_more {rs : List (Option Addr × Nat × List Int)} {w wi wx w5 : World} {v v5 : Value} {j : Nat} {A : Option Addr} {c m : Nat} (h : SlowR rs w v j wi) (hx : Below wi.heap.size wi wx) (hj : j < rs.length) (hval : ∀ z ∈ rs[j].2.2, 0 ≤ z ∧ z ≤ 65535) (hm : m = min rs[j].2.2.length 100)
    (ho : wx.ownsRow wi.heap.size 3 1 (.slice A (m + 1) c) (m + 1) ((slowTo rs[j].2.2 m).map (Value.int .i64)))
    (h5 : w5.ownsRow w.heap.size 40 1 v5 (j + 1) ((h.choose.map Cur.V) ++ [.slice A (m + 1) c])) (hg : (wx.alloc (.cells #[.slice A (m + 1) c] 40)).grownBy w5 v.ownBlock) (hv : v5.ownBlock = v.ownBlock ∨ v5.ownBlock = some (wx.alloc (.cells #[.slice A (m + 1) c] 40)).heap.size) :
    SlowR rs w v5 (j + 1) w5 := by
  obtain ⟨h1, h2, h3, h4, hb⟩ := h.choose_spec
  obtain ⟨ps, hps⟩ : ∃ ps, ps = h.choose := ⟨_, rfl⟩
  rw [← hps] at h1 h2 h3 h4 h5
  have hlen : (slowTo rs[j].2.2 m).length = m + 1 := slowTo_len _ _
  obtain ⟨hr1, hr2⟩ := own_capS ho
  have hI : Ints wx wx.heap.size .i64 A (slowTo rs[j].2.2 m) := Ints.of_own (n := m + 1) (c := c) (by rw [hlen]; exact ho)
  obtain ⟨g, cap, hgv, hbg, hgl⟩ := ho.form (by omega)
  injection hgv with q1 _ q3
  have hok : Cur.ok wx wx.heap.size ⟨A, c, slowTo rs[j].2.2 m⟩ := ⟨hI, fun z hz => by
    obtain ⟨i, hi, e⟩ := List.mem_map.1 hz
    rw [List.mem_range] at hi
    have := slowV_bounds hval i
    rw [← e]; omega, by show (slowTo rs[j].2.2 m).length ≤ c; rw [hlen]; exact hr1, by show c ≤ _; unfold maxLen at hr2; omega⟩
  have hbx : Below w.heap.size w wx := chain hb hx
  have hB : Built wx v (ps ++ [⟨A, c, slowTo rs[j].2.2 m⟩]) := fun p hp => by
    rcases List.mem_append.1 hp with h | h
    · exact (h4.below hx) p h
    · rw [List.mem_singleton] at h
      subst h
      refine ⟨hok, g, 0, q1, hgl, fun e => ?_⟩
      have := (h3.lt g e).2
      omega
  have hba : Below wx.heap.size wx (wx.alloc (.cells #[.slice A (m + 1) c] 40)) := (Below.refl _ _).alloc (Nat.le_refl _) _
  refine ⟨ps ++ [⟨A, c, slowTo rs[j].2.2 m⟩], by simp [h1], ?_, ?_, (hB.below hba).grown hg hv, ?_⟩
  · rw [List.map_append, h2, rowsC_succ rs hj]
    congr 1
    show [slowTo rs[j].2.2 m] = [slowC rs[j].2.2]
    rw [hm]; rfl
  · rw [List.map_append]
    have e : [(⟨A, c, slowTo rs[j].2.2 m⟩ : Cur)].map Cur.V = [.slice A (m + 1) c] := by simp [Cur.V, hlen]
    rw [e]; exact h5
  · exact (hbx.alloc hbx.size _).grown hg (by have := hbx.size; simp; omega) fun q hq => (h3.lt q hq).1

set_option maxHeartbeats 3200000 in
set_option maxRecDepth 20000 in
/-- SolveSlower. -/
theorem solveSlower_go (t : Nat) (A1 : Option Addr) (N c1 : Nat) (rs : List (Option Addr × Nat × List Int)) (w : World) (HS : SolveSpec w) (ht : t < 256) (h1 : IsRows .u16 w A1 N c1 rs) :
    Calls Try.prog 6 #[.int .u8 (t : Int), .slice A1 N c1] w fun e w' => e = .returned (.bool true) ∧ Below w.heap.size w w' := by
  obtain ⟨i0, hif, hz0, hz1, hz2⟩ := info_parts Try.infoI64v
  obtain ⟨j0, jif, jz0, jz1, jz2⟩ := info_parts Try.infoCurveE
  have HA := Lib.hid (fun (W : World) (hb : Below w.heap.size w W) => solveAwake HS W hb)
  have HSS := Lib.hid HS
  obtain ⟨hrl, hrc, hrm, hrr⟩ := h1
  have HVAL : Hid (∀ j (hj : j < rs.length), ∀ z ∈ rs[j].2.2, 0 ≤ z ∧ z ≤ 65535) := fun j hj z hz => by
    obtain ⟨_, _, _, _, _, _, _, _, hw, _⟩ := hrr j hj
    exact bounds_u16 (hw z hz)
  have HVR : Hid (∀ r ∈ rs, ∀ z ∈ r.2.2, 0 ≤ z ∧ z ≤ 65535) := fun r hr z hz => by
    obtain ⟨j, hj, e⟩ := List.getElem_of_mem hr
    rw [← e] at hz
    exact HVAL.out j hj z hz
  have HROW : Hid (∀ W, Below w.heap.size w W → ∀ j (hj : j < rs.length), ∃ b off, A1 = some ⟨b, off, none⟩ ∧ W.cell? ⟨b, off + j, none⟩ = some (.slice rs[j].1 rs[j].2.2.length rs[j].2.1) ∧
      ∀ k, k < rs[j].2.2.length → ∃ b' o', rs[j].1 = some ⟨b', o', none⟩ ∧ W.cell? ⟨b', o' + k, none⟩ = some (.int .u16 (rs[j].2.2.getD k 0))) := fun W hb j hj => by
    obtain ⟨b, off, e, hbl, hc, hI, _, _, _, _⟩ := hrr j hj
    refine ⟨b, off, e, (hb.cell (p := ⟨b, off + j, none⟩) hbl).trans hc, fun k hk => ?_⟩
    obtain ⟨b', o', e', hb', hc'⟩ := hI k hk
    exact ⟨b', o', e', (hb.cell (p := ⟨b', o' + k, none⟩) hb').trans hc'⟩
  have HRL := Lib.hid hrl
  have hR0 : Hid (∀ W v, Below w.heap.size w W → W.ownsRow w.heap.size 40 1 v 0 [] → SlowR rs w v 0 W) := fun W v hb ho => ⟨[], rfl, by simp [rowsC], ho, fun p hp => absurd hp (by simp), hb⟩
  clear hrl hrc hrm hrr HS
  go_enter Try.func6, Try.ntmps6
  go_wp2
  go_loopw [5, 6] (fun v i wr => ∃ j : Nat, j ≤ N ∧ j ≤ 12 ∧ i = .int .i64 j ∧ (∃ A c, v = .slice A j c) ∧ Hid (SlowR rs w v j wr)) (fun _ i _ => 12 - (intOf i).toNat)
  case atStart =>
    refine ⟨0, Nat.zero_le _, Nat.zero_le _, rfl, ⟨_, _, rfl⟩, ?_⟩
    exact hR0.out _ _ ((Below.refl _ _).alloc (Nat.le_refl _) _) (World.ownsRow_made w #[] 0 (Nat.le_refl _) (Nat.zero_le _) rfl)
  case round =>
    obtain ⟨j, hjN, hj12, rfl, ⟨A3, c3, rfl⟩, hR⟩ := hrel
    obtain ⟨wi, hwi⟩ : ∃ x, x = wr := ⟨_, rfl⟩
    subst hwi
    by_cases hj1 : j < N
    · have k1 : (j : Int) < (N : Int) := by omega
      have k0 : (0 : Int) ≤ (j : Int) := by omega
      by_cases hj2 : j < 12
      · have k2 : (j : Int) < 12 := by omega
        have hjr : j < rs.length := by have := HRL.out; omega
        have hval := HVAL.out j hjr
        have hrow := fun W hb => HROW.out W hb j hjr
        have HBi : Hid (Below w.heap.size w wi) := hR.out.choose_spec.2.2.2.2
        have HMORE : Hid (∀ (wx w5 : World) (A : Option Addr) (c m : Nat) (v5 : Value), Below wi.heap.size wi wx → m = min rs[j].2.2.length 100 → wx.ownsRow wi.heap.size 3 1 (.slice A (m + 1) c) (m + 1) ((slowTo rs[j].2.2 m).map (Value.int .i64)) →
            w5.ownsRow w.heap.size 40 1 v5 (j + 1) ((hR.out.choose.map Cur.V) ++ [.slice A (m + 1) c]) → (wx.alloc (.cells #[.slice A (m + 1) c] 40)).grownBy w5 (Value.ownBlock (.slice A3 j c3)) → (v5.ownBlock = Value.ownBlock (.slice A3 j c3) ∨ v5.ownBlock = some (wx.alloc (.cells #[.slice A (m + 1) c] 40)).heap.size) → SlowR rs w v5 (j + 1) w5) :=
          fun wx w5 A c m v5 q1 q2 q3 q4 q5 q6 => slowR_more hR.out q1 hjr hval q2 q3 q4 q5 q6
        have HOV : Hid (wi.ownsRow w.heap.size 40 1 (.slice A3 j c3) j (hR.out.choose.map Cur.V)) := hR.out.choose_spec.2.2.1
        obtain ⟨PV, hPV⟩ : ∃ P, P = hR.out.choose.map Cur.V := ⟨_, rfl⟩
        rw [← hPV] at HMORE HOV
        obtain ⟨r, hr⟩ : ∃ r, r = rs[j].2.2 := ⟨_, rfl⟩
        obtain ⟨rA, hrA⟩ : ∃ r, r = rs[j].1 := ⟨_, rfl⟩
        obtain ⟨rc, hrc⟩ : ∃ r, r = rs[j].2.1 := ⟨_, rfl⟩
        simp only [← hr, ← hrA, ← hrc] at hval hrow HMORE
        have HLB := Lib.hid (lastM_bounds hval)
        have HVB := Lib.hid (slowV_bounds hval)
        have HVX := Lib.hid (getD_u16 hval)
        have HLS : Hid (∀ k, lastM r (k + 1) = min (lastM r k) (r.getD k 0)) := fun _ => rfl
        have HVS : Hid (∀ k, slowV r (k + 1) = slowV r k + lastM r (k + 1)) := fun _ => rfl
        have HTS := Lib.hid (slowTo_succ r)
        have HTL := Lib.hid (slowTo_len r)
        have HTA : Hid (∀ k, (slowTo r k).getD k 0 = slowV r k) := fun k => slowTo_at (Nat.le_refl k)
        have HT0 : Hid (slowTo r 0 = [0]) := rfl
        have HL0 : Hid (lastM r 0 = 65535) := rfl
        obtain ⟨rl, hrl⟩ : ∃ n, n = r.length := ⟨_, rfl⟩
        rw [← hrl] at HMORE
        simp only [← hrl] at hrow
        have HROWj := Lib.hid hrow
        clear hval hrow hR hPV hr hrA hrc hrl hjr
        go_wp2
        go_loopw [7, 8, 9] (fun v l i wx => ∃ k : Nat, k ≤ rl ∧ k ≤ 100 ∧ i = .int .i64 k ∧ l = .int .i64 (lastM r k) ∧ (∃ A c, v = .slice A (k + 1) c) ∧ Hid (wx.ownsRow wi.heap.size 3 1 v (k + 1) ((slowTo r k).map (Value.int .i64)) ∧ Below wi.heap.size wi wx)) (fun _ _ i _ => 100 - (intOf i).toNat)
        case atStart =>
          refine ⟨0, Nat.zero_le _, Nat.zero_le _, rfl, by rw [HL0.out], ⟨_, _, rfl⟩, ?_⟩
          rw [HT0.out]
          exact ⟨World.ownsRow_lit (base := wi.heap.size) (e := 3) (size := 1) wi #[.int .i64 0] 1 (Nat.le_refl _) (by decide) rfl, (Below.refl _ _).alloc (Nat.le_refl _) _⟩
        case round =>
          obtain ⟨k, hk1, hk2, rfl, rfl, ⟨A4, c4, rfl⟩, hS⟩ := hrel
          obtain ⟨hown, hbel⟩ := hS.out
          obtain ⟨b, off, hA1, hhd, hcells⟩ := HROWj.out wr (chain HBi.out hbel)
          subst hA1
          have m0 : (0 : Int) ≤ (k : Int) := by omega
          by_cases hkr : k < rl
          · have m1 : (k : Int) < (rl : Int) := by omega
            by_cases hk100 : k < 100
            · have m2 : (k : Int) < 100 := by omega
              obtain ⟨b', o', hrA, hcx⟩ := hcells k hkr
              have HHA := Lib.hid hrA
              rw [hrA] at hhd
              obtain ⟨g, cap, hv, hbg, hgl⟩ := hown.form (by omega)
              injection hv with q1 _ q3
              subst q1 q3
              have cs := own_atG hown (i := k) (by rw [HTL.out]; omega)
              rw [HTA.out] at cs
              have hvb := HVB.out k
              have hlb := HLB.out k
              have hlb2 := HLB.out (k + 1)
              have hvs := HVS.out k
              have hls := HLS.out k
              have hxb := HVX.out k
              obtain ⟨x, hx⟩ : ∃ x, x = r.getD k 0 := ⟨_, rfl⟩
              rw [← hx] at hls hcx hxb
              obtain ⟨S, hSS⟩ : ∃ x, x = slowV r k := ⟨_, rfl⟩
              rw [← hSS] at cs hvb hvs
              obtain ⟨L, hL⟩ : ∃ x, x = lastM r k := ⟨_, rfl⟩
              rw [← hL] at hlb hls ⊢
              obtain ⟨P, hP⟩ : ∃ P, P = slowV r (k + 1) := ⟨_, rfl⟩
              rw [← hP] at hvs
              have HTSS := Lib.hid (show (slowTo r (k + 1)).map (Value.int .i64) = (slowTo r k).map (Value.int .i64) ++ [Value.int .i64 P] by rw [HTS.out, List.map_append, ← hP]; rfl)
              have x0 := hxb.1
              have x1 := hxb.2
              have mw : IntKind.i64.wrap x = x := IntWalk.i64_in _ (by omega)
              by_cases hxl : x < L
              · have hle : lastM r (k + 1) = x := by rw [hls]; omega
                rw [hle] at hvs
                have HLE := Lib.hid hle
                have v1 : IntKind.i64.wrap (S + x) = P := by rw [hvs]; exact IntWalk.i64_in _ (by omega)
                clear hx hSS hL hP hvs hls hle hlb2 hvb hlb hS hxb hcells hrA
                go_wp2_with (at_builtin; refine wpList_append_own_at _ rfl _ _ 40 rfl wi.heap.size 3 i0 (.int .i64 0) 1 8 Try.underlying40 hif hz0 hz1 hz2 rfl (by decide) _ _ _ rfl (hown.alloc _) ⟨wr.heap.size, 0, none⟩ 1 1 [.int .i64 P] rfl rfl (cell_one_new _ _ _) ?d1 ?d2 ?d3 ?d4 ?_)
                case d1 => first | rfl | (intro u hu; simp at hu; subst hu; rfl)
                case d2 => unfold maxLen; omega
                case d3 => omega
                case d4 => have := hbel.size; simp; omega
                intro v3 w3 hown3 hg3 _ _
                have R : Hid (w3.ownsRow wi.heap.size 3 1 v3 (k + 1 + 1) ((slowTo r (k + 1)).map (Value.int .i64)) ∧ Below wi.heap.size wi w3) := by
                  refine ⟨?_, (hbel.alloc hbel.size _).grown hg3 (by have := hbel.size; simp; omega) fun q hq => (hown.lt q hq).1⟩
                  rw [HTSS.out]; exact hown3
                obtain ⟨A5, c5, rfl⟩ := own_slice R.out.1
                clear hown hbel hown3 hg3 hhd hcx cs hbg hgl
                go_wp2
                go_roundw
                case rel => first | exact ⟨k + 1, by omega, by omega, by go_num, by rw [HLE.out], ⟨A5, c5, rfl⟩, R.out⟩ | ((repeat apply Exists.intro); exact ⟨⟨k + 1, by omega, by omega, by go_num, by rw [HLE.out], ⟨A5, c5, rfl⟩, R.out⟩, rfl⟩)
                case measure => simp [intOf]; omega
              · have hle : lastM r (k + 1) = L := by rw [hls]; omega
                rw [hle] at hvs
                have HLE := Lib.hid hle
                have v1 : IntKind.i64.wrap (S + L) = P := by rw [hvs]; exact IntWalk.i64_in _ (by omega)
                clear hx hSS hL hP hvs hls hle hlb2 hvb hlb hS hxb hcells hrA
                go_wp2_with (at_builtin; refine wpList_append_own_at _ rfl _ _ 40 rfl wi.heap.size 3 i0 (.int .i64 0) 1 8 Try.underlying40 hif hz0 hz1 hz2 rfl (by decide) _ _ _ rfl (hown.alloc _) ⟨wr.heap.size, 0, none⟩ 1 1 [.int .i64 P] rfl rfl (cell_one_new _ _ _) ?d1 ?d2 ?d3 ?d4 ?_)
                case d1 => first | rfl | (intro u hu; simp at hu; subst hu; rfl)
                case d2 => unfold maxLen; omega
                case d3 => omega
                case d4 => have := hbel.size; simp; omega
                intro v3 w3 hown3 hg3 _ _
                have R : Hid (w3.ownsRow wi.heap.size 3 1 v3 (k + 1 + 1) ((slowTo r (k + 1)).map (Value.int .i64)) ∧ Below wi.heap.size wi w3) := by
                  refine ⟨?_, (hbel.alloc hbel.size _).grown hg3 (by have := hbel.size; simp; omega) fun q hq => (hown.lt q hq).1⟩
                  rw [HTSS.out]; exact hown3
                obtain ⟨A5, c5, rfl⟩ := own_slice R.out.1
                clear hown hbel hown3 hg3 hhd hcx cs hbg hgl
                go_wp2
                go_roundw
                case rel => first | exact ⟨k + 1, by omega, by omega, by go_num, by rw [HLE.out], ⟨A5, c5, rfl⟩, R.out⟩ | ((repeat apply Exists.intro); exact ⟨⟨k + 1, by omega, by omega, by go_num, by rw [HLE.out], ⟨A5, c5, rfl⟩, R.out⟩, rfl⟩)
                case measure => simp [intOf]; omega
            · have m2 : ¬ (k : Int) < 100 := by omega
              have hm : k = min rl 100 := by omega
              have hov := own_belowS HOV.out hbel
              have HOC := Lib.hid hown
              have HBX := Lib.hid hbel
              have hbw := chain HBi.out hbel
              have HHM := Lib.hid hm
              clear hS hcells hown hbel hm
              go_wp2_with (at_builtin; refine wpList_append_own_at _ rfl _ _ 23 rfl w.heap.size 40 j0 (.slice none 0 0) 1 24 Try.underlying23 jif jz0 jz1 jz2 rfl (by decide) _ _ _ rfl (hov.alloc _) ⟨wr.heap.size, 0, none⟩ 1 1 [.slice A4 (k + 1) c4] rfl rfl (cell_one_new _ _ _) ?d1 ?d2 ?d3 ?d4 ?_)
              case d1 => first | rfl | (intro u hu; simp at hu; subst hu; rfl)
              case d2 => unfold maxLen; omega
              case d3 => omega
              case d4 => have := hbw.size; simp; omega
              intro v5 w5 hown5 hg5 _ hv5
              have R : Hid (SlowR rs w v5 (j + 1) w5) := HMORE.out wr w5 A4 c4 k v5 HBX.out HHM.out HOC.out hown5 hg5 (by rw [World.size_alloc]; exact hv5)
              obtain ⟨A6, c6, rfl⟩ := own_slice hown5
              clear hov hbw hown5 hg5 hv5 hhd
              go_wp2
              go_roundw
              case rel => first | exact ⟨j + 1, by omega, by omega, by go_num, ⟨A6, c6, rfl⟩, R.out⟩ | ((repeat apply Exists.intro); exact ⟨⟨j + 1, by omega, by omega, by go_num, ⟨A6, c6, rfl⟩, R.out⟩, rfl⟩)
              case measure => simp [intOf]; omega
          · have m1 : ¬ (k : Int) < (rl : Int) := by omega
            have hm : k = min rl 100 := by omega
            have hov := own_belowS HOV.out hbel
            have HOC := Lib.hid hown
            have HBX := Lib.hid hbel
            have hbw := chain HBi.out hbel
            have HHM := Lib.hid hm
            clear hS hcells hown hbel hm
            go_wp2_with (at_builtin; refine wpList_append_own_at _ rfl _ _ 23 rfl w.heap.size 40 j0 (.slice none 0 0) 1 24 Try.underlying23 jif jz0 jz1 jz2 rfl (by decide) _ _ _ rfl (hov.alloc _) ⟨wr.heap.size, 0, none⟩ 1 1 [.slice A4 (k + 1) c4] rfl rfl (cell_one_new _ _ _) ?d1 ?d2 ?d3 ?d4 ?_)
            case d1 => first | rfl | (intro u hu; simp at hu; subst hu; rfl)
            case d2 => unfold maxLen; omega
            case d3 => omega
            case d4 => have := hbw.size; simp; omega
            intro v5 w5 hown5 hg5 _ hv5
            have R : Hid (SlowR rs w v5 (j + 1) w5) := HMORE.out wr w5 A4 c4 k v5 HBX.out HHM.out HOC.out hown5 hg5 (by rw [World.size_alloc]; exact hv5)
            obtain ⟨A6, c6, rfl⟩ := own_slice hown5
            clear hov hbw hown5 hg5 hv5 hhd
            go_wp2
            go_roundw
            case rel => first | exact ⟨j + 1, by omega, by omega, by go_num, ⟨A6, c6, rfl⟩, R.out⟩ | ((repeat apply Exists.intro); exact ⟨⟨j + 1, by omega, by omega, by go_num, ⟨A6, c6, rfl⟩, R.out⟩, rfl⟩)
            case measure => simp [intOf]; omega
      · have k2 : ¬ (j : Int) < 12 := by omega
        obtain ⟨ps, hpl, hpm, hown, hbu, hbel⟩ := hR.out
        by_cases hj0 : j = 0
        · omega
        · have hj1' : 1 ≤ j := by omega
          have hmem : ∀ c ∈ ps.map Cur.l, soundL c = true ∧ ∀ n : Nat, gainF (fun n => atN c (n : Int)) (n + 1) ≤ gainF (fun n => atN c (n : Int)) n := fun c hc => by
            rw [hpm] at hc
            obtain ⟨r, hr, rfl⟩ := rowsC_mem hc
            exact ⟨slow_sound (HVR.out r hr), slow_gain (HVR.out r hr)⟩
          have hcl : (ps.map Cur.l).length = j := by rw [List.length_map, hpl]
          have t0 : (0 : Int) ≤ (t : Int) := by omega
          have t5 : (t : Int) ≤ 512 := by omega
          obtain ⟨lw, hlw⟩ : ∃ l, l = List.replicate j (0 : Int) := ⟨_, rfl⟩
          have llw : lw.length = j := by rw [hlw, List.length_replicate]
          have hE := solveE_zeros (k := (t : Int)) (K := j) (cs := ps.map Cur.l) t0 t5 hcl ⟨hj1', by omega⟩ (fun c hc => (hmem c hc).1)
          have hb := slow_best (k := (t : Int)) (K := j) (cs := ps.map Cur.l) t0 hcl hj1' (fun c hc => (hmem c hc).1) (fun c hc => (hmem c hc).2)
          have hgr : greedyR (t : Int) lw (ps.map Cur.l) = (0, giveL (ps.map Cur.l) lw (t : Int).toNat) := by
            unfold greedyR
            rw [hlw, if_pos hE, rep_sum, Int.sub_zero]
          have hbr : bestQ (t : Int) lw (ps.map Cur.l) = (0, bestR lw (ps.map Cur.l) (t : Int)) := by
            unfold bestQ
            rw [hlw, if_pos hE]
          rw [← hlw] at hb
          have lB : (bestR lw (ps.map Cur.l) (t : Int)).1.length = j := by
            have hm : May lw (ps.map Cur.l) (t : Int) := ⟨by rw [llw, hcl], by omega, fun z hz => by rw [hlw] at hz; rw [(List.mem_replicate.1 hz).2]; exact Int.le_refl _, by rw [hlw, rep_sum]; exact t0, fun c hc => (hmem c hc).1⟩
            have := (bestR_spec _ _ _ hm).1.len
            omega
          have hCU : Curs wi wi.heap.size A3 ps := Curs.of_own (n := j) (c := c3) (by rw [hpl]; exact hown) (fun p hp => (hbu p hp).1)
          have hmk : ∀ W : World, (Instr.makeSlice 22 (.int .i64 (j : Int)) (.int .i64 (j : Int))).run Try.prog W = .ok (.slice (some ⟨W.heap.size, 0, none⟩) j j) (W.alloc (.cells (madeCells #[Value.int .i64 0] j) 3)) := fun W => run_make_row' (P := Try.prog) 22 3 (.int .i64 0) 8 Try.underlying22 Try.infoI64v rfl .i64 .i64 j (by omega) (by omega) W
          have hZl : (madeCells #[Value.int .i64 0] j).toList = lw.map (Value.int .i64) := by rw [toList_madeCells_one, hlw, List.map_replicate]
          obtain ⟨Z, hZ⟩ : ∃ Z, Z = madeCells #[Value.int .i64 0] j := ⟨_, rfl⟩
          rw [← hZ] at hmk hZl
          obtain ⟨wz, hwz⟩ : ∃ W, W = wi.alloc (.cells Z 3) := ⟨_, rfl⟩
          have hbz : Below wi.heap.size wi wz := by rw [hwz]; exact (Below.refl _ _).alloc (Nat.le_refl _) _
          have hLZ : Ints wz wz.heap.size .i64 (some ⟨wi.heap.size, 0, none⟩) lw := by
            rw [hwz]
            exact (Ints.new wi 3 .i64 lw Z hZl).more (by simp)
          have hAsk : Asked wz (t : Int) (some ⟨wi.heap.size, 0, none⟩) A3 j c3 lw ps := ⟨hLZ, (hCU.below hbz).more hbz.size, fun z hz => by rw [hlw] at hz; rw [(List.mem_replicate.1 hz).2]; omega, by omega, by rw [llw]; exact Nat.le_refl _, by rw [hpl]; exact (own_capS hown).1, by rw [llw]; omega, by rw [hpl]; omega⟩
          have hbw := chain hbel hbz
          have hG := HSS.out.greedy (t : Int) (some ⟨wi.heap.size, 0, none⟩) A3 j c3 lw ps wz hbw hAsk
          have hB : ∀ W, Below wz.heap.size wz W → _ := fun W hb => HSS.out.best (t : Int) (some ⟨wi.heap.size, 0, none⟩) A3 j c3 lw ps W (chain hbw hb) (hAsk.to hb)
          simp only [hbr, llw, hpl, lB] at hB
          rw [hgr, llw, hpl] at hG
          obtain ⟨V, hV⟩ : ∃ V, V = (bestR lw (ps.map Cur.l) (t : Int)).2 := ⟨_, rfl⟩
          rw [← hV] at hb
          simp only [← hV] at hB
          obtain ⟨GL, hGL⟩ : ∃ G, G = giveL (ps.map Cur.l) lw (t : Int).toNat := ⟨_, rfl⟩
          have lG : GL.length = j := by rw [hGL, giveL_len, llw]
          rw [← hGL] at hG hb
          simp only [lG] at hG
          have HSUM : Hid (∀ (W : World) (A : Option Addr) (c : Nat), Below wz.heap.size wz W → Ints W W.heap.size .i64 A GL → Calls Try.prog 15 #[.slice A j c, .slice A3 j c3] W fun e w' => e = .returned (.int .i64 V) ∧ ∃ m, w' = W.drewN m) := fun W A c hbW hI => by
            have h := refSum_any A A3 c c3 GL ps W hI (hAsk.to hbW).curves (lG.trans hpl.symm) (by omega) (fun i hi => (hmem _ (by rw [List.getD_eq_getElem?_getD, List.getElem?_eq_getElem hi]; exact List.getElem_mem _)).1)
            rw [lG, hpl, show sumZ (bring (ps.map Cur.l) GL) j = V by rw [← hb, bringL_sum _ _ (lG.trans hcl.symm), hcl]] at h
            exact h
          have HCV : Hid (∀ (W : World), Below wz.heap.size wz W → ∀ i (hi : i < j), ∃ b o, A3 = some ⟨b, o, none⟩ ∧ ∃ pA pl pc, W.cell? ⟨b, o + i, none⟩ = some (.slice pA pl pc) ∧
              Calls Try.prog 17 #[.slice pA pl pc] W (fun e w' => e = .returned (.bool true) ∧ w' = W) ∧ Calls Try.prog 18 #[.slice pA pl pc] W (fun e w' => e = .returned (.bool true) ∧ ∃ m, w' = W.drewN m)) := fun W hbW i hi => by
            obtain ⟨b, o, e, hbl, hc, ok⟩ := (hAsk.to hbW).curves i (by rw [hpl]; exact hi)
            obtain ⟨s1, s2⟩ := hmem (ps[i]'(by rw [hpl]; exact hi)).l (List.mem_map_of_mem (List.getElem_mem _))
            have hs := refSoundC_any (ps[i]'(by rw [hpl]; exact hi)).A (ps[i]'(by rw [hpl]; exact hi)).c (ps[i]'(by rw [hpl]; exact hi)).l W ok.ints (by have := ok.le; have := ok.cap; omega)
            rw [s1] at hs
            exact ⟨b, o, e, _, _, _, hc, refSlower_yes _ _ _ W ok.ints s1 s2, hs⟩
          have HG := Lib.hid hG
          have HB := Lib.hid hB
          have HBW := Lib.hid hbw
          have HWZ := Lib.hid hwz
          have hbz0 : Below wz.heap.size wz wz := Below.refl _ _
          have jn0 : ((j : Int) == 0) = false := beq_eq_false_iff_ne.2 (by omega)
          have j1 : (1 : Int) ≤ (j : Int) := by omega
          have j12 : (j : Int) ≤ 12 := by omega
          have tw : IntKind.i64.wrap (t : Int) = (t : Int) := IntWalk.i64_in _ (by omega)
          clear hR hpl hpm hown hbu hbel hmem hcl hlw llw hE hb hgr hbr lB hCU hZl hZ hbz hLZ hAsk hbw hG hB hV hGL lG hj0 HVAL HVR HROW HRL hR0
          rw [hwz] at HG hbz0
          go_wp2_with (first
            | (go_at_call 9; with_reducible (refine Calls.mono HG.out ?_); rintro e w1 ⟨A5, c5, rfl, _, hi5, hb5⟩; rw [← HWZ.out] at hb5)
            | (go_at_call 14; with_reducible (refine Calls.mono (HB.out _ hb5) ?_); rintro e w2 ⟨A6, c6, rfl, _, hi6, hb6⟩; have hx6 := chain hb5 hb6; have hi7 := (hi5.below hb6).more hb6.size))
          have HX6 := Lib.hid hx6
          have HI7 := Lib.hid hi7
          clear hx6 hi7 hb5 hb6 hi5 hi6 hwz hbz0
          go_loopw [16] (fun i wx => ∃ k m : Nat, k ≤ j ∧ i = .int .i64 k ∧ wx = w2.drewN m) (fun i _ => j - (intOf i).toNat)
          case atStart => exact ⟨0, 0, Nat.zero_le _, rfl, rfl⟩
          case round =>
            obtain ⟨k, m, hk, rfl, hwr⟩ := hrel
            have hbr : Below wz.heap.size wz wr := by rw [hwr]; exact below_drewN HX6.out m
            by_cases hkj : k < j
            · obtain ⟨b, o, rfl, pA, pl, pc, hc, hs1, hs2⟩ := HCV.out wr hbr k hkj
              have HS1 := Lib.hid hs1
              have HS2 := Lib.hid hs2
              have HWR := Lib.hid hwr
              have kk1 : (k : Int) < (j : Int) := by omega
              have kk0 : (0 : Int) ≤ (k : Int) := by omega
              clear hs1 hs2 hwr hbr
              go_wp2_with (first
                | (go_at_call 17; with_reducible (refine Calls.mono HS1.out ?_); rintro e w7 ⟨rfl, rfl⟩)
                | (go_at_call 18; with_reducible (refine Calls.mono HS2.out ?_); rintro e w8 ⟨rfl, m8, rfl⟩))
              go_roundw
              case rel => first | exact ⟨k + 1, m + m8, by omega, by go_num, by rw [HWR.out, World.drewN_drewN]⟩ | ((repeat apply Exists.intro); exact ⟨⟨k + 1, m + m8, by omega, by go_num, by rw [HWR.out, World.drewN_drewN]⟩, rfl⟩)
              case measure => simp [intOf]; omega
            · have hkk : k = j := by omega
              subst hkk
              have HBR := Lib.hid hbr
              have HI8 : Hid (Ints wr wr.heap.size .i64 A5 GL) := by unfold Hid; rw [hwr]; exact HI7.out.drewS m
              clear hbr hwr
              go_wp2_with (first
                | (go_at_call 11; with_reducible (refine Calls.mono (HA.out _ (chain HBW.out HBR.out)) ?_); rintro e w9 ⟨rfl, hb9⟩; have hx9 := chain HBR.out hb9; have hi9 := (HI8.out.below hb9).more hb9.size)
                | (go_at_call 15; with_reducible (refine Calls.mono (HSUM.out _ _ _ hx9 hi9) ?_); rintro e wA ⟨rfl, mA, hwA⟩; have hxA := below_drewN (chain HBW.out hx9) mA; rw [← hwA] at hxA; clear hwA))
              go_ret
              exact ⟨rfl, hxA⟩
    · have k1 : ¬ (j : Int) < (N : Int) := by omega
      obtain ⟨ps, hpl, hpm, hown, hbu, hbel⟩ := hR.out
      by_cases hj0 : j = 0
      · subst hj0
        have HBB := Lib.hid hbel
        clear hR hpl hpm hown hbu hbel
        go_wp2_with (go_at_call 11; with_reducible (refine Calls.mono (HA.out _ HBB.out) ?_); rintro e w3 ⟨rfl, hb3⟩; have hx3 := chain HBB.out hb3)
        go_ret
        exact ⟨rfl, hx3⟩
      · have hj1' : 1 ≤ j := by omega
        have hmem : ∀ c ∈ ps.map Cur.l, soundL c = true ∧ ∀ n : Nat, gainF (fun n => atN c (n : Int)) (n + 1) ≤ gainF (fun n => atN c (n : Int)) n := fun c hc => by
          rw [hpm] at hc
          obtain ⟨r, hr, rfl⟩ := rowsC_mem hc
          exact ⟨slow_sound (HVR.out r hr), slow_gain (HVR.out r hr)⟩
        have hcl : (ps.map Cur.l).length = j := by rw [List.length_map, hpl]
        have t0 : (0 : Int) ≤ (t : Int) := by omega
        have t5 : (t : Int) ≤ 512 := by omega
        obtain ⟨lw, hlw⟩ : ∃ l, l = List.replicate j (0 : Int) := ⟨_, rfl⟩
        have llw : lw.length = j := by rw [hlw, List.length_replicate]
        have hE := solveE_zeros (k := (t : Int)) (K := j) (cs := ps.map Cur.l) t0 t5 hcl ⟨hj1', by omega⟩ (fun c hc => (hmem c hc).1)
        have hb := slow_best (k := (t : Int)) (K := j) (cs := ps.map Cur.l) t0 hcl hj1' (fun c hc => (hmem c hc).1) (fun c hc => (hmem c hc).2)
        have hgr : greedyR (t : Int) lw (ps.map Cur.l) = (0, giveL (ps.map Cur.l) lw (t : Int).toNat) := by
          unfold greedyR
          rw [hlw, if_pos hE, rep_sum, Int.sub_zero]
        have hbr : bestQ (t : Int) lw (ps.map Cur.l) = (0, bestR lw (ps.map Cur.l) (t : Int)) := by
          unfold bestQ
          rw [hlw, if_pos hE]
        rw [← hlw] at hb
        have lB : (bestR lw (ps.map Cur.l) (t : Int)).1.length = j := by
          have hm : May lw (ps.map Cur.l) (t : Int) := ⟨by rw [llw, hcl], by omega, fun z hz => by rw [hlw] at hz; rw [(List.mem_replicate.1 hz).2]; exact Int.le_refl _, by rw [hlw, rep_sum]; exact t0, fun c hc => (hmem c hc).1⟩
          have := (bestR_spec _ _ _ hm).1.len
          omega
        have hCU : Curs wi wi.heap.size A3 ps := Curs.of_own (n := j) (c := c3) (by rw [hpl]; exact hown) (fun p hp => (hbu p hp).1)
        have hmk : ∀ W : World, (Instr.makeSlice 22 (.int .i64 (j : Int)) (.int .i64 (j : Int))).run Try.prog W = .ok (.slice (some ⟨W.heap.size, 0, none⟩) j j) (W.alloc (.cells (madeCells #[Value.int .i64 0] j) 3)) := fun W => run_make_row' (P := Try.prog) 22 3 (.int .i64 0) 8 Try.underlying22 Try.infoI64v rfl .i64 .i64 j (by omega) (by omega) W
        have hZl : (madeCells #[Value.int .i64 0] j).toList = lw.map (Value.int .i64) := by rw [toList_madeCells_one, hlw, List.map_replicate]
        obtain ⟨Z, hZ⟩ : ∃ Z, Z = madeCells #[Value.int .i64 0] j := ⟨_, rfl⟩
        rw [← hZ] at hmk hZl
        obtain ⟨wz, hwz⟩ : ∃ W, W = wi.alloc (.cells Z 3) := ⟨_, rfl⟩
        have hbz : Below wi.heap.size wi wz := by rw [hwz]; exact (Below.refl _ _).alloc (Nat.le_refl _) _
        have hLZ : Ints wz wz.heap.size .i64 (some ⟨wi.heap.size, 0, none⟩) lw := by
          rw [hwz]
          exact (Ints.new wi 3 .i64 lw Z hZl).more (by simp)
        have hAsk : Asked wz (t : Int) (some ⟨wi.heap.size, 0, none⟩) A3 j c3 lw ps := ⟨hLZ, (hCU.below hbz).more hbz.size, fun z hz => by rw [hlw] at hz; rw [(List.mem_replicate.1 hz).2]; omega, by omega, by rw [llw]; exact Nat.le_refl _, by rw [hpl]; exact (own_capS hown).1, by rw [llw]; omega, by rw [hpl]; omega⟩
        have hbw := chain hbel hbz
        have hG := HSS.out.greedy (t : Int) (some ⟨wi.heap.size, 0, none⟩) A3 j c3 lw ps wz hbw hAsk
        have hB : ∀ W, Below wz.heap.size wz W → _ := fun W hb => HSS.out.best (t : Int) (some ⟨wi.heap.size, 0, none⟩) A3 j c3 lw ps W (chain hbw hb) (hAsk.to hb)
        simp only [hbr, llw, hpl, lB] at hB
        rw [hgr, llw, hpl] at hG
        obtain ⟨V, hV⟩ : ∃ V, V = (bestR lw (ps.map Cur.l) (t : Int)).2 := ⟨_, rfl⟩
        rw [← hV] at hb
        simp only [← hV] at hB
        obtain ⟨GL, hGL⟩ : ∃ G, G = giveL (ps.map Cur.l) lw (t : Int).toNat := ⟨_, rfl⟩
        have lG : GL.length = j := by rw [hGL, giveL_len, llw]
        rw [← hGL] at hG hb
        simp only [lG] at hG
        have HSUM : Hid (∀ (W : World) (A : Option Addr) (c : Nat), Below wz.heap.size wz W → Ints W W.heap.size .i64 A GL → Calls Try.prog 15 #[.slice A j c, .slice A3 j c3] W fun e w' => e = .returned (.int .i64 V) ∧ ∃ m, w' = W.drewN m) := fun W A c hbW hI => by
          have h := refSum_any A A3 c c3 GL ps W hI (hAsk.to hbW).curves (lG.trans hpl.symm) (by omega) (fun i hi => (hmem _ (by rw [List.getD_eq_getElem?_getD, List.getElem?_eq_getElem hi]; exact List.getElem_mem _)).1)
          rw [lG, hpl, show sumZ (bring (ps.map Cur.l) GL) j = V by rw [← hb, bringL_sum _ _ (lG.trans hcl.symm), hcl]] at h
          exact h
        have HCV : Hid (∀ (W : World), Below wz.heap.size wz W → ∀ i (hi : i < j), ∃ b o, A3 = some ⟨b, o, none⟩ ∧ ∃ pA pl pc, W.cell? ⟨b, o + i, none⟩ = some (.slice pA pl pc) ∧
            Calls Try.prog 17 #[.slice pA pl pc] W (fun e w' => e = .returned (.bool true) ∧ w' = W) ∧ Calls Try.prog 18 #[.slice pA pl pc] W (fun e w' => e = .returned (.bool true) ∧ ∃ m, w' = W.drewN m)) := fun W hbW i hi => by
          obtain ⟨b, o, e, hbl, hc, ok⟩ := (hAsk.to hbW).curves i (by rw [hpl]; exact hi)
          obtain ⟨s1, s2⟩ := hmem (ps[i]'(by rw [hpl]; exact hi)).l (List.mem_map_of_mem (List.getElem_mem _))
          have hs := refSoundC_any (ps[i]'(by rw [hpl]; exact hi)).A (ps[i]'(by rw [hpl]; exact hi)).c (ps[i]'(by rw [hpl]; exact hi)).l W ok.ints (by have := ok.le; have := ok.cap; omega)
          rw [s1] at hs
          exact ⟨b, o, e, _, _, _, hc, refSlower_yes _ _ _ W ok.ints s1 s2, hs⟩
        have HG := Lib.hid hG
        have HB := Lib.hid hB
        have HBW := Lib.hid hbw
        have HWZ := Lib.hid hwz
        have hbz0 : Below wz.heap.size wz wz := Below.refl _ _
        have jn0 : ((j : Int) == 0) = false := beq_eq_false_iff_ne.2 (by omega)
        have j1 : (1 : Int) ≤ (j : Int) := by omega
        have j12 : (j : Int) ≤ 12 := by omega
        have tw : IntKind.i64.wrap (t : Int) = (t : Int) := IntWalk.i64_in _ (by omega)
        clear hR hpl hpm hown hbu hbel hmem hcl hlw llw hE hb hgr hbr lB hCU hZl hZ hbz hLZ hAsk hbw hG hB hV hGL lG hj0 HVAL HVR HROW HRL hR0
        rw [hwz] at HG hbz0
        go_wp2_with (first
          | (go_at_call 9; with_reducible (refine Calls.mono HG.out ?_); rintro e w1 ⟨A5, c5, rfl, _, hi5, hb5⟩; rw [← HWZ.out] at hb5)
          | (go_at_call 14; with_reducible (refine Calls.mono (HB.out _ hb5) ?_); rintro e w2 ⟨A6, c6, rfl, _, hi6, hb6⟩; have hx6 := chain hb5 hb6; have hi7 := (hi5.below hb6).more hb6.size))
        have HX6 := Lib.hid hx6
        have HI7 := Lib.hid hi7
        clear hx6 hi7 hb5 hb6 hi5 hi6 hwz hbz0
        go_loopw [16] (fun i wx => ∃ k m : Nat, k ≤ j ∧ i = .int .i64 k ∧ wx = w2.drewN m) (fun i _ => j - (intOf i).toNat)
        case atStart => exact ⟨0, 0, Nat.zero_le _, rfl, rfl⟩
        case round =>
          obtain ⟨k, m, hk, rfl, hwr⟩ := hrel
          have hbr : Below wz.heap.size wz wr := by rw [hwr]; exact below_drewN HX6.out m
          by_cases hkj : k < j
          · obtain ⟨b, o, rfl, pA, pl, pc, hc, hs1, hs2⟩ := HCV.out wr hbr k hkj
            have HS1 := Lib.hid hs1
            have HS2 := Lib.hid hs2
            have HWR := Lib.hid hwr
            have kk1 : (k : Int) < (j : Int) := by omega
            have kk0 : (0 : Int) ≤ (k : Int) := by omega
            clear hs1 hs2 hwr hbr
            go_wp2_with (first
              | (go_at_call 17; with_reducible (refine Calls.mono HS1.out ?_); rintro e w7 ⟨rfl, rfl⟩)
              | (go_at_call 18; with_reducible (refine Calls.mono HS2.out ?_); rintro e w8 ⟨rfl, m8, rfl⟩))
            go_roundw
            case rel => first | exact ⟨k + 1, m + m8, by omega, by go_num, by rw [HWR.out, World.drewN_drewN]⟩ | ((repeat apply Exists.intro); exact ⟨⟨k + 1, m + m8, by omega, by go_num, by rw [HWR.out, World.drewN_drewN]⟩, rfl⟩)
            case measure => simp [intOf]; omega
          · have hkk : k = j := by omega
            subst hkk
            have HBR := Lib.hid hbr
            have HI8 : Hid (Ints wr wr.heap.size .i64 A5 GL) := by unfold Hid; rw [hwr]; exact HI7.out.drewS m
            clear hbr hwr
            go_wp2_with (first
              | (go_at_call 11; with_reducible (refine Calls.mono (HA.out _ (chain HBW.out HBR.out)) ?_); rintro e w9 ⟨rfl, hb9⟩; have hx9 := chain HBR.out hb9; have hi9 := (HI8.out.below hb9).more hb9.size)
              | (go_at_call 15; with_reducible (refine Calls.mono (HSUM.out _ _ _ hx9 hi9) ?_); rintro e wA ⟨rfl, mA, hwA⟩; have hxA := below_drewN (chain HBW.out hx9) mA; rw [← hwA] at hxA; clear hwA))
            go_ret
            exact ⟨rfl, hxA⟩

end Go.Proofs.Ytnpdffcplgjbnaa
