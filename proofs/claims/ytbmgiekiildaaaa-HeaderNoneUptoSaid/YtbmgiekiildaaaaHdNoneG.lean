/-
  HeaderNone: where no slot has a head. HeaderNone. Plain: what heads that count are; versions without a gap. No program is spoken of here.
-/
import Derived.Test.YtbmgiekiildaaaaHdCAG
import Derived.Deep.QuietTactic
import Derived.Test.YtbmgiekiildaaaaIntRowG
namespace Go.Proofs.Ytbmgiekiildaaaa
open Go.RowKit

def zHead : Array Value := #[.int .i64 0, .int .i64 0, .int .i64 0, .int .i64 0, .int .i64 0, .string ⟨#[]⟩]
/-- n heads without anything. -/
def ZH (n : Nat) : Array Value := madeCells zHead (n * 6)
theorem ZH_at {n k j : Nat} (hk : k < n) (hj : j < 6) : (ZH n)[6 * k + j]? = zHead[j]? := by
  unfold ZH madeCells
  have h6 : zHead.size = 6 := rfl
  rw [Array.getElem?_map, Array.getElem?_range, if_pos (by omega), Option.map_some, h6, show (6 * k + j) % 6 = j by omega, getElem!_pos zHead j (by omega), Array.getElem?_eq_getElem (by omega)]
theorem hmake_zero (n : Nat) (hn : n ≤ 1048576) (w : World) : (Instr.makeSlice 39 (.int .i64 (n : Int)) (.int .i64 (n : Int))).run Try.prog w = .ok (.slice (some ⟨w.heap.size, 0, none⟩) n n) (w.alloc (.cells (ZH n) 23)) := by
  obtain ⟨i6, hi8, hz0, hz1, hz2⟩ := info_parts Try.infoHeadF
  have h := run_make (P := Try.prog) w 39 23 i6 _ Try.underlying39 hi8 hz0 .i64 .i64 n n (by omega) (Int.le_refl _) (by rw [hz2]; omega) (by omega)
  rw [hz1] at h
  simp only [Int.toNat_natCast] at h
  exact h
theorem ZH_recs {n : Nat} {g : Nat} {t : TypeId} {w : World} (h : w.heap[g]? = some (.cells (ZH n) t (0, 0))) : RecsAt w w.heap.size (some ⟨g, 0, none⟩) (List.replicate n hZero) := fun k hk => by
  rw [List.length_replicate] at hk
  refine ⟨g, 0, rfl, (Array.getElem?_eq_some_iff.1 h).1, ?_, ?_, ?_, ?_, ?_, ?_⟩
  · rw [cell_of_row _ _ _ _ _ _ h, Nat.zero_add, show 6 * k = 6 * k + 0 from rfl, ZH_at hk (by decide), List.getElem_replicate]; rfl
  · rw [cell_of_row _ _ _ _ _ _ h, Nat.zero_add, ZH_at hk (by decide), List.getElem_replicate]; rfl
  · rw [cell_of_row _ _ _ _ _ _ h, Nat.zero_add, ZH_at hk (by decide), List.getElem_replicate]; rfl
  · rw [cell_of_row _ _ _ _ _ _ h, Nat.zero_add, ZH_at hk (by decide), List.getElem_replicate]; rfl
  · rw [cell_of_row _ _ _ _ _ _ h, Nat.zero_add, ZH_at hk (by decide), List.getElem_replicate]; rfl
  · rw [cell_of_row _ _ _ _ _ _ h, Nat.zero_add, ZH_at hk (by decide), List.getElem_replicate]; rfl
theorem goodTo_none (v : Vol) (os : List Int) (n : Nat) : ∀ k, goodTo v os (List.replicate n hZero) k = []
  | 0 => rfl
  | k + 1 => by
    have hz : (List.replicate n hZero).getD k hZero = hZero := by
      rw [List.getD_eq_getElem?_getD, List.getElem?_replicate]
      split <;> rfl
    rw [goodTo_no (by rw [hz]; exact decide_eq_false fun q => absurd q.2.2.2.2.2 (by decide)), goodTo_none v os n k]
theorem blkTo_nil (m : Int) : ∀ k, blkTo m [] k = []
  | 0 => rfl
  | k + 1 => by rw [blkTo_no rfl, blkTo_nil m k]
theorem cntTo_none (t : Tab) (n : Nat) (ls : List Int) : ∀ k, cntTo t (List.replicate n hZero) ls k = []
  | 0 => rfl
  | k + 1 => by
    unfold cntTo
    rw [cntTo_none t n ls k, show goodL (t.vs.getD k ⟨0, 0, 0, 0⟩) t.os (List.replicate n hZero) = [] from goodTo_none _ _ _ _, blkTo_nil]; rfl
theorem last_none {t : Tab} {n : Nat} {ls : List Int} (h : LastOK t (List.replicate n hZero) ls) {k : Nat} (hk : k < ls.length) : ls.getD k 0 = (t.vs.getD k ⟨0, 0, 0, 0⟩).base := by
  obtain ⟨h1, h2, _⟩ := h k hk
  rw [show goodL (t.vs.getD k ⟨0, 0, 0, 0⟩) t.os (List.replicate n hZero) = [] from goodTo_none _ _ _ _] at h2
  rcases Int.lt_or_le (t.vs.getD k ⟨0, 0, 0, 0⟩).base (ls.getD k 0) with q | q
  · obtain ⟨x, hx, _⟩ := h2 _ q (Int.le_refl _)
    exact absurd hx (by simp)
  · omega
def NoneAns (t : Tab) (w : World) (e : Ending) (w' : World) : Prop :=
  ∃ A4 c4 A5 c5 ls, e = .returned (.tuple #[.slice A4 0 c4, .slice A5 t.vs.length c5, .int .i64 0]) ∧ ls.length = t.vs.length ∧ (∀ k, k < t.vs.length → ls.getD k 0 = (t.vs.getD k ⟨0, 0, 0, 0⟩).base) ∧ Ints w' w'.heap.size .i64 A5 ls ∧ Below w.heap.size w w'
theorem NoneAns.out {t : Tab} {w : World} {e : Ending} {w' : World} (h : NoneAns t w e w') : ∃ A4 c4 A5 c5 ls, e = .returned (.tuple #[.slice A4 0 c4, .slice A5 t.vs.length c5, .int .i64 0]) ∧ ls.length = t.vs.length ∧ (∀ k, k < t.vs.length → ls.getD k 0 = (t.vs.getD k ⟨0, 0, 0, 0⟩).base) ∧ Ints w' w'.heap.size .i64 A5 ls ∧ Below w.heap.size w w' := h
theorem none_ok (V : TabW) (t : Tab) (g : Nat) (w : World) (h : TabAt w w.heap.size V t) (ho : t.ok) (hs : t.sound) (hg : w.heap[g]? = some (.cells (ZH t.os.length) 23 (0, 0))) :
    Calls Try.prog 14 #[.agg (tabV V t), .slice (some ⟨g, 0, none⟩) t.os.length t.os.length] w fun e w' => NoneAns t w e w' := by
  have h1 := hNewest_ok V t (some ⟨g, 0, none⟩) t.os.length (List.replicate t.os.length hZero) w h ho (ZH_recs hg) (fun x hx => by rw [List.eq_of_mem_replicate hx]; exact ⟨by decide, by decide⟩) hs (by rw [List.length_replicate])
  rw [List.length_replicate] at h1
  refine h1.mono fun e w' ⟨A4, c4, A5, c5, ls, q1, _, _, q2, q3, _, q4, q5⟩ => ⟨A4, c4, A5, c5, ls, ?_, q2, fun k hk => last_none q3 (by omega), q4, q5⟩
  rw [q1, cntTo_none]; rfl

end Go.Proofs.Ytbmgiekiildaaaa

namespace Go.Proofs.Ytbmgiekiildaaaa
open Go.RowKit

theorem tabs_one (V : TabW) (t : Tab) : ∀ v ∈ (tabV V t).toList, v.oneCell' = true := by
  intro v hv
  simp [tabV] at hv
  rcases hv with rfl | rfl | rfl <;> rfl

set_option maxHeartbeats 3200000 in
set_option maxRecDepth 20000 in
/-- HeaderNone. -/
theorem headerNone_go (V : TabW) (t : Tab) (w : World) (h : TabAt w w.heap.size V t) (ho : t.ok) (hm : t.os.length ≤ 1048576) :
    Calls Try.prog 7 #[.agg (tabV V t)] w fun e w' => e = .returned (.bool true) ∧ Below w.heap.size w w' := by
  have HA := Lib.hid (fun W => hdAwake (hd_spec W) W (Below.refl _ _))
  obtain ⟨_, hrow, hb0⟩ := htab_box w V t 38
  have hmk := hmake_zero t.os.length hm
  have HT := Lib.hid h
  have HOK : Hid (t.sound → ∀ (U : World) g, Below w.heap.size w U → U.heap[g]? = some (.cells (ZH t.os.length) 23 (0, 0)) → Calls Try.prog 14 #[.agg (tabV V t), .slice (some ⟨g, 0, none⟩) t.os.length t.os.length] U fun e w' => NoneAns t U e w') := fun hs U g hb hg => none_ok V t g U ((h.below hb).more hb.size) ho hs hg
  have HNO : Hid (¬ t.sound → ∀ (U : World) g, Below w.heap.size w U → Calls Try.prog 14 #[.agg (tabV V t), .slice (some ⟨g, 0, none⟩) t.os.length t.os.length] U fun e w' => e = .returned (.tuple #[.slice none 0 0, .slice none 0 0, .int .i64 2]) ∧ Below U.heap.size U w') := fun hs U g hb => hNewest_no V t _ _ _ U ((h.below hb).more hb.size) ho (.inl hs)
  have hmv := ho.nv
  have HROW : Hid (∀ W : World, W.heap[w.heap.size]? = some (.cells (tabV V t) 38 (0, 0)) → W.cell? ⟨w.heap.size, 0, none⟩ = some (.slice V.A1 t.ts.length V.c1) ∧ W.cell? ⟨w.heap.size, 1, none⟩ = some (.slice V.A2 t.vs.length V.c2) ∧ W.cell? ⟨w.heap.size, 2, none⟩ = some (.slice V.A3 t.os.length V.c3)) := fun W q =>
    ⟨by rw [cell_of_row _ _ _ _ _ _ q]; rfl, by rw [cell_of_row _ _ _ _ _ _ q]; rfl, by rw [cell_of_row _ _ _ _ _ _ q]; rfl⟩
  have HVS : Hid (∀ W, Below w.heap.size w W → VolsAt W W.heap.size V.A2 t.vs) := fun W hb => (h.vs.below hb).more hb.size
  obtain ⟨X, hX⟩ : ∃ X, X = w.alloc (.cells (tabV V t) 38) := ⟨_, rfl⟩
  rw [← hX] at hrow hb0
  have HX := Lib.hid (And.intro hrow hb0)
  have hfs := HROW.out X hrow
  simp only [tabV] at HOK HNO hX ⊢
  obtain ⟨NO, hNO⟩ : ∃ N, N = t.os.length := ⟨_, rfl⟩
  obtain ⟨NV, hNV⟩ : ∃ N, N = t.vs.length := ⟨_, rfl⟩
  obtain ⟨NT, hNT⟩ : ∃ N, N = t.ts.length := ⟨_, rfl⟩
  have HNV := Lib.hid hNV
  rw [← hNO] at hmk hm
  simp only [← hNO, ← hNV, ← hNT] at HOK HNO hX hfs ⊢
  have HROW2 : Hid (∀ W : World, W.heap[w.heap.size]? = some (.cells (tabV V t) 38 (0, 0)) → W.cell? ⟨w.heap.size, 1, none⟩ = some (.slice V.A2 NV V.c2)) := fun W q => by rw [hNV]; exact (HROW.out W q).2.1
  rw [← hNV] at hmv
  obtain ⟨Z, hZ⟩ : ∃ Z, Z = ZH NO := ⟨_, rfl⟩
  rw [← hZ] at hmk
  simp only [← hZ] at HOK HNO
  obtain ⟨f0, f1, f2⟩ := hfs
  have hXB := hb0
  have HXL : Hid (w.heap.size < X.heap.size) := (Array.getElem?_eq_some_iff.1 hrow).1
  clear h ho hrow hb0 hNO hNV hNT hZ HROW
  by_cases hs : t.sound
  · have HOK := Lib.hid (HOK.out hs)
    clear HNO hs
    go_enter Try.func7, Try.ntmps7
    go_wp2
    rw [← hX]
    clear hX
    have hx0 := Below.refl X.heap.size X
    have HS : Hid (∀ U, Below X.heap.size X U → U.cell? ⟨w.heap.size, 0, none⟩ = some (.slice V.A1 NT V.c1) ∧ U.cell? ⟨w.heap.size, 1, none⟩ = some (.slice V.A2 NV V.c2) ∧ U.cell? ⟨w.heap.size, 2, none⟩ = some (.slice V.A3 NO V.c3)) := fun U hb =>
      ⟨(hb.cell (p := ⟨w.heap.size, 0, none⟩) HXL.out).trans f0, (hb.cell (p := ⟨w.heap.size, 1, none⟩) HXL.out).trans f1, (hb.cell (p := ⟨w.heap.size, 2, none⟩) HXL.out).trans f2⟩
    have hrow1 : (X.alloc (.cells Z 23)).drew.heap[X.heap.size]? = some (.cells Z 23 (0, 0)) := heap_alloc_new X (.cells Z 23)
    go_region_held3 (fun U => U.cell? ⟨w.heap.size, 0, none⟩ = some (.slice V.A1 NT V.c1) ∧ U.cell? ⟨w.heap.size, 1, none⟩ = some (.slice V.A2 NV V.c2) ∧ U.cell? ⟨w.heap.size, 2, none⟩ = some (.slice V.A3 NO V.c3))
      (first | exact HS.out _ hx0 | exact HS.out _ hx0.drew | exact HS.out _ (hx0.alloc hx0.size _) | exact HS.out _ (hx0.alloc hx0.size _).drew | exact HS.out _ hxx)
      (first
        | (go_at_call 14; with_reducible (refine Calls.mono (HOK.out (X.alloc (.cells Z 23)).drew X.heap.size (hXB.alloc hXB.size _).drew hrow1) ?_); intro e w1 hN; obtain ⟨A4, c4, A5, c5, ls, rfl, hls, hbs, hi5, hb1⟩ := NoneAns.out hN; rw [← HNV.out] at hls hbs ⊢; have hxx := (hx0.alloc hx0.size (.cells Z 23)).drew.trans (hb1.mono (hx0.alloc hx0.size (.cells Z 23)).drew.size))
        | fail)
    have H5 := Lib.hid hi5
    have HB := Lib.hid (And.intro hls hbs)
    have HXX := Lib.hid hxx
    clear hi5 hls hbs hrow1 hmk HOK hx0 f0 f1 f2
    go_wp2_with (first
      | (go_at_call 11; with_reducible (refine Calls.mono (HA.out _) ?_); rintro e w2 ⟨rfl, hb2⟩; have hx2 := HXX.out.trans (hb2.mono HXX.out.size); obtain ⟨_, g1, _⟩ := HS.out w2 hx2; have h52 := Lib.hid ((H5.out.below hb2).more hb2.size)))
    have HX2 := Lib.hid hx2
    clear hb2 g1 hx2 hxx hb1
    go_loopw [6] (fun i wr => ∃ k : Nat, k ≤ NV ∧ i = .int .i64 k ∧ Hid (Below w2.heap.size w2 wr)) (fun i _ => NV - (intOf i).toNat)
    case atStart => exact ⟨0, Nat.zero_le _, rfl, Below.refl _ _⟩
    case round =>
      obtain ⟨k, hk, rfl, hS⟩ := hrel
      have hxr := HX2.out.trans (hS.out.mono HX2.out.size)
      by_cases hlt : k < NV
      · have k0 : (0 : Int) ≤ (k : Int) := by omega
        have k1 : (k : Int) < (NV : Int) := by omega
        obtain ⟨_, g1, _⟩ := HS.out wr hxr
        obtain ⟨b5, o5, rfl, _, q5⟩ := (h52.out.below hS.out) k (by rw [HB.out.1]; have := HNV.out; omega)
        rw [HB.out.2 k (by have := HNV.out; omega)] at q5
        obtain ⟨b, off, hA2, _, hmid⟩ := vols_mid (HVS.out wr (hXB.trans (hxr.mono hXB.size))) (k := k) (by have := HNV.out; omega)
        have qb : wr.cell? ⟨b, off + k * 4 + 3, none⟩ = some (.int .i64 (t.vs.getD k ⟨0, 0, 0, 0⟩).base) := hmid 3 _ rfl
        obtain ⟨x, hx⟩ : ∃ x, x = (t.vs.getD k ⟨0, 0, 0, 0⟩).base := ⟨_, rfl⟩
        rw [← hx] at qb q5
        rw [hA2] at g1
        have HD : Hid (∀ n, Below w2.heap.size w2 (wr.drewN n)) := fun n => below_drewN hS.out n
        clear hS hxr hmid hx hA2
        go_wp2
        go_quiet (fail)
        go_wp2
        go_roundw
        case rel => first | exact ⟨k + 1, by omega, by go_num, HD.out _⟩ | ((repeat apply Exists.intro); exact ⟨⟨k + 1, by omega, by go_num, HD.out _⟩, rfl⟩)
        case measure => first | (simp [intOf]; done) | (simp [intOf]; omega)
      · have k1 : ¬ (k : Int) < (NV : Int) := by omega
        have R : Hid (Below w.heap.size w wr) := hXB.trans (hxr.mono hXB.size)
        clear hS hxr
        go_wp2
        go_ret
        exact ⟨rfl, R.out⟩
  · have HNO := Lib.hid (HNO.out hs)
    clear HOK hs
    go_enter Try.func7, Try.ntmps7
    go_wp2
    rw [← hX]
    clear hX
    have hx0 := Below.refl X.heap.size X
    have HS : Hid (∀ U, Below X.heap.size X U → U.cell? ⟨w.heap.size, 0, none⟩ = some (.slice V.A1 NT V.c1) ∧ U.cell? ⟨w.heap.size, 1, none⟩ = some (.slice V.A2 NV V.c2) ∧ U.cell? ⟨w.heap.size, 2, none⟩ = some (.slice V.A3 NO V.c3)) := fun U hb =>
      ⟨(hb.cell (p := ⟨w.heap.size, 0, none⟩) HXL.out).trans f0, (hb.cell (p := ⟨w.heap.size, 1, none⟩) HXL.out).trans f1, (hb.cell (p := ⟨w.heap.size, 2, none⟩) HXL.out).trans f2⟩
    go_region_held3 (fun U => U.cell? ⟨w.heap.size, 0, none⟩ = some (.slice V.A1 NT V.c1) ∧ U.cell? ⟨w.heap.size, 1, none⟩ = some (.slice V.A2 NV V.c2) ∧ U.cell? ⟨w.heap.size, 2, none⟩ = some (.slice V.A3 NO V.c3))
      (first | exact HS.out _ hx0 | exact HS.out _ hx0.drew | exact HS.out _ (hx0.alloc hx0.size _) | exact HS.out _ (hx0.alloc hx0.size _).drew | exact HS.out _ hxx)
      (first
        | (go_at_call 14; with_reducible (refine Calls.mono (HNO.out (X.alloc (.cells Z 23)).drew X.heap.size (hXB.alloc hXB.size _).drew) ?_); rintro e w1 ⟨rfl, hb1⟩; have hxx := (hx0.alloc hx0.size (.cells Z 23)).drew.trans (hb1.mono (hx0.alloc hx0.size (.cells Z 23)).drew.size))
        | fail)
    have HXX := Lib.hid hxx
    clear hmk HNO hx0 f0 f1 f2 hxx hb1
    go_wp2_with (first
      | (have hguard := HXX; clear hguard; go_at_call 11; with_reducible (refine Calls.mono (HA.out _) ?_); rintro e w2 ⟨rfl, hb2⟩; have HX2 := Lib.hid (HXX.out.trans (hb2.mono HXX.out.size)); clear HXX)
      | (go_at_call 11; with_reducible (refine Calls.mono (HA.out _) ?_); rintro e w3 ⟨rfl, hb3⟩; have HX3 := Lib.hid (HX2.out.trans (hb3.mono HX2.out.size))))
    go_ret
    exact ⟨rfl, hXB.trans (HX3.out.mono hXB.size)⟩

end Go.Proofs.Ytbmgiekiildaaaa

namespace Go.Proofs.Ytbmgiekiildaaaa
open Go.RowKit

theorem newL_mem {b m : Int} {l : List Rc} (h : newL b m l ≠ hZero) : newL b m l ∈ l ∧ (newL b m l).b = b ∧ (newL b m l).d ≤ m := by
  rcases newTo_is (blk := b) (most := m) (l := l) l.length with q | ⟨i, hi, q1, q2, q3⟩
  · exact absurd q h
  · refine ⟨?_, q2, q3⟩
    show newTo b m l l.length ∈ l
    rw [q1, List.getD_eq_getElem?_getD, List.getElem?_eq_getElem hi]
    exact List.getElem_mem _
theorem newL_most {b m : Int} {l : List Rc} {x : Rc} (hx : x ∈ l) (hb : x.b = b) (hd : x.d ≤ m) : x.d ≤ (newL b m l).d := by
  obtain ⟨i, hi, rfl⟩ := List.getElem_of_mem hx
  have e : l.getD i hZero = l[i] := by rw [List.getD_eq_getElem?_getD, List.getElem?_eq_getElem hi]; rfl
  have := newTo_most (blk := b) (most := m) (l := l) l.length i hi (by rw [e]; exact hb) (by rw [e]; exact hd)
  rw [e] at this; exact this
theorem blkTo_mem {m : Int} {l : List Rc} {x : Rc} : ∀ n, x ∈ blkTo m l n → ∃ b : Nat, b < n ∧ x = newL b m l ∧ x ≠ hZero
  | 0, h => absurd h (by simp [blkTo])
  | n + 1, h => by
    by_cases q : newL n m l = hZero
    · rw [blkTo_no q] at h
      obtain ⟨b, h1, h2⟩ := blkTo_mem n h
      exact ⟨b, by omega, h2⟩
    · rw [blkTo_yes q, List.mem_append, List.mem_singleton] at h
      rcases h with h | h
      · obtain ⟨b, h1, h2⟩ := blkTo_mem n h
        exact ⟨b, by omega, h2⟩
      · exact ⟨n, by omega, h, by rw [h]; exact q⟩
/-- The k-th volume. -/
def volK (t : Tab) (k : Nat) : Vol := t.vs.getD k ⟨0, 0, 0, 0⟩
theorem cntTo_mem {t : Tab} {hs : List Rc} {ls : List Int} {x : Rc} : ∀ k, x ∈ cntTo t hs ls k → ∃ j, j < k ∧ ∃ b : Nat, b < (volK t j).blocks.toNat ∧ x = newL b (ls.getD j 0) (goodL (volK t j) t.os hs) ∧ x ≠ hZero
  | 0, h => absurd h (by simp [cntTo])
  | k + 1, h => by
    unfold cntTo at h
    rcases List.mem_append.1 h with h | h
    · obtain ⟨j, h1, h2⟩ := cntTo_mem k h
      exact ⟨j, by omega, h2⟩
    · obtain ⟨b, h1, h2⟩ := blkTo_mem _ h
      exact ⟨k, by omega, b, h1, h2⟩
theorem goodL_mem {v : Vol} {os : List Int} {hs : List Rc} {x : Rc} : x ∈ goodL v os hs ↔ ∃ s, s < hs.length ∧ hs.getD s hZero = x ∧ goodB v os s x = true := goodTo_mem hs.length
theorem volK_at {t : Tab} {k : Nat} (h : k < t.vs.length) : volK t k = t.vs[k] := by unfold volK; rw [List.getD_eq_getElem?_getD, List.getElem?_eq_getElem h]; rfl
theorem volK_lt {t : Tab} (hs : t.sound) {i j : Nat} (hi : i < j) (hj : j < t.vs.length) : (volK t i).id < (volK t j).id := by
  rw [volK_at hj, volK_at (by omega)]
  exact (List.pairwise_iff_getElem.1 hs.vup) i j (by omega) hj hi
theorem volK_inj {t : Tab} (hs : t.sound) {i j : Nat} (hi : i < t.vs.length) (hj : j < t.vs.length) (h : (volK t i).id = (volK t j).id) : i = j := by
  rcases Nat.lt_trichotomy i j with q | q | q
  · have := volK_lt hs q hj; omega
  · exact q
  · have := volK_lt hs q hi; omega
/-- What is known of one that counts. -/
theorem count_is {t : Tab} {hs : List Rc} {ls : List Int} {x : Rc} (h : x ∈ cntTo t hs ls t.vs.length) : ∃ j, j < t.vs.length ∧ (∃ s, s < hs.length ∧ hs.getD s hZero = x ∧ goodB (volK t j) t.os s x = true) ∧ x.d ≤ ls.getD j 0 ∧ (0 ≤ x.b ∧ x.b < (volK t j).blocks) ∧
    ∀ y, y ∈ goodL (volK t j) t.os hs → y.b = x.b → y.d ≤ ls.getD j 0 → y.d ≤ x.d := by
  obtain ⟨j, hj, b, hb, hx, hz⟩ := cntTo_mem _ h
  obtain ⟨h1, h2, h3⟩ := newL_mem (b := b) (m := ls.getD j 0) (l := goodL (volK t j) t.os hs) (by rw [← hx]; exact hz)
  rw [← hx] at h1 h2 h3
  refine ⟨j, hj, goodL_mem.1 h1, h3, by omega, fun y hy hyb hyd => ?_⟩
  rw [hx]
  exact newL_most hy (by rw [hyb, h2]) hyd
/-- How often so far a head of a volume and a version was met. -/
def metTo (hs : List Rc) (id n : Int) : Nat → Bool
  | 0 => false
  | k + 1 => metTo hs id n k || (decide ((hs.getD k hZero).a = id) && decide ((hs.getD k hZero).d = n))
theorem metTo_of {hs : List Rc} {id n : Int} : ∀ k s, s < k → (hs.getD s hZero).a = id → (hs.getD s hZero).d = n → metTo hs id n k = true
  | k + 1, s, h, ha, hd => by
    unfold metTo
    rcases Nat.lt_or_ge s k with q | q
    · rw [metTo_of k s q ha hd]; rfl
    · have : s = k := by omega
      subst this
      rw [decide_eq_true ha, decide_eq_true hd]; simp
theorem gap_met {t : Tab} {hs : List Rc} {ls : List Int} (h : LastOK t hs ls) {k : Nat} (hk : k < ls.length) {n : Int} (h1 : (volK t k).base < n) (h2 : n ≤ ls.getD k 0) : metTo hs (volK t k).id n hs.length = true := by
  obtain ⟨x, hx, hd⟩ := (h k hk).all n h1 h2
  obtain ⟨s, h3, h4, h5⟩ := goodL_mem.1 hx
  exact metTo_of _ s h3 (by rw [h4]; exact (goodB_iff.1 h5).2.2.1) (by rw [h4]; exact hd)
theorem gap_far {t : Tab} {hs : List Rc} {ls : List Int} (ht : t.sound) {k : Nat} (hk : k < t.vs.length) {x : Rc} (hx : x ∈ cntTo t hs ls t.vs.length) (ha : x.a = (volK t k).id) : x.d ≤ ls.getD k 0 := by
  obtain ⟨j, hj, ⟨s, _, _, hg⟩, hd, _⟩ := count_is hx
  have e := volK_inj ht hj hk ((goodB_iff.1 hg).2.2.1.symm.trans ha)
  rw [← e]; exact hd

end Go.Proofs.Ytbmgiekiildaaaa
