/-
  The document's own header: Decode (stowageref18).
-/
import Derived.Test.YtbmgiekiildaaaaHdR2
import Derived.Test.YtbmgiekiildaaaaHdC5
import Derived.Test.YtbmgiekiildaaaaLow
namespace Go.Proofs.Ytbmgiekiildaaaa
open Go.RowKit

theorem hor_byte (v x : Int) (hv : 0 ≤ v ∧ v < 72057594037927936) (hx : 0 ≤ x ∧ x ≤ 255) : bits .or .i64 (IntKind.i64.wrap (v * 256)) x = wr64 (v * 256 + x) := by
  have h1 : (BitVec.ofInt 64 (IntKind.i64.wrap (v * 256))).toNat = (v * 256).toNat := by
    rw [BitVec.toNat_ofInt, IntKind.wrap_i64]
    omega
  have h2 : (BitVec.ofInt 64 x).toNat = x.toNat := by
    rw [BitVec.toNat_ofInt]
    omega
  have h3 : (v * 256).toNat ||| x.toNat = (v * 256 + x).toNat := by
    rw [nat_join 8 _ _ (by omega) (by omega)]
    omega
  show IntKind.i64.wrap (((BitVec.ofInt 64 (IntKind.i64.wrap (v * 256)) ||| BitVec.ofInt 64 x).toNat : Nat) : Int) = _
  rw [BitVec.toNat_or, h1, h2, h3]
  unfold wr64
  congr 1
  omega

theorem hrefEnc_bad (h : Rc) (w : World) (hE : hErr h ≠ 0) :
    Calls Try.prog 10 #[.agg (rcV h)] w fun e w' => e = .returned (.tuple #[.slice none 0 0, .int .i64 (hErr h)]) ∧ Below w.heap.size w w' := by
  by_cases hr : hRng h
  · have hk : h.key.size ≠ 16 := fun q => hE (hErr_zero.2 ⟨hr, q⟩)
    rw [show hErr h = 1 by unfold hErr; rw [if_pos hr, if_neg hk]]
    exact hrefEnc_key h w hr hk
  · rw [show hErr h = 7 by unfold hErr; rw [if_neg hr]]
    exact hrefEnc_no h w hr

set_option maxHeartbeats 1600000 in
set_option maxRecDepth 20000 in
/-- 'Decode', of 64 bytes 0, or of other than 64 bytes. -/
theorem hrefDec_short (A : Option Addr) (c : Nat) (bs : List Int) (w : World) (h : Ints w w.heap.size .u8 A bs) (hz : ∀ z ∈ bs, 0 ≤ z ∧ z ≤ 255) (hs : bs = zero64 ∨ bs.length ≠ 64) :
    Calls Try.prog 13 #[.slice A bs.length c] w fun e w' => e = .returned (.tuple #[.agg (rcV hZero), .int .i64 (if bs = zero64 then 4 else 2)]) ∧ Below w.heap.size w w' := by
  have hinf0 : (Try.prog.info? 23).map (·.size) = some zeroH.size := Try.infoHead
  have hone0 : zeroH.all (·.oneCell') = true := rcV_ones hZero
  obtain ⟨W0, hW0⟩ : ∃ W, W = w.alloc (.cells zeroH 23) := ⟨_, rfl⟩
  have hq0 : W0.heap[w.heap.size]? = some (.cells zeroH 23 (0, 0)) := by rw [hW0]; exact heap_alloc_new _ _
  have hb0 : Below w.heap.size w W0 := by rw [hW0]; exact (Below.refl _ _).alloc (Nat.le_refl _) _
  have hmk : ∀ w : World, (Instr.makeSlice 24 (.int .i64 64) (.int .i64 64)).run Try.prog w = .ok (.slice (some ⟨w.heap.size, 0, none⟩) 64 64) (w.alloc (.cells (UB zero64) 5)) := makeBytes 64 (by decide)
  have hi0 := h.below hb0
  have hr1 := BtRow.new W0 5 zero64
  have hb1 : Below w.heap.size w (W0.alloc (.cells (UB zero64) 5)) := hb0.alloc hb0.size _
  have hi1 := h.below hb1
  have hzz : ∀ z ∈ zero64, 0 ≤ z ∧ z ≤ 255 := fun z hz => by have := List.eq_of_mem_replicate hz; omega
  have HTX := textH_apart hz hzz
  have c1 := hi0.textAs (P := Try.prog) Try.underlying24 Try.underlying5 Try.underlying9 rfl rfl c
  have c2 := hi1.textAs (P := Try.prog) Try.underlying24 Try.underlying5 Try.underlying9 rfl rfl c
  have c3 := hr1.ints.textAs (P := Try.prog) (n := 64) Try.underlying24 Try.underlying5 Try.underlying9 rfl rfl 64
  have c1d := hi0.drew.textAs (P := Try.prog) Try.underlying24 Try.underlying5 Try.underlying9 rfl rfl c
  have c2d := hi1.drew.textAs (P := Try.prog) Try.underlying24 Try.underlying5 Try.underlying9 rfl rfl c
  have c3d := hr1.ints.drew.textAs (P := Try.prog) (n := 64) Try.underlying24 Try.underlying5 Try.underlying9 rfl rfl 64
  have hl : bs ≠ zero64 → ((bs.length : Int) != 64) = true := fun q => by rw [bne_iff_ne]; rcases hs with h | h; exact absurd h q; omega
  obtain ⟨D, hD⟩ : ∃ D, D = decide (bs = zero64) := ⟨_, rfl⟩
  have hl2 : D = false → ((bs.length : Int) != 64) = true := fun q => hl (of_decide_eq_false (hD ▸ q))
  rw [show (if bs = zero64 then (4 : Int) else 2) = if D = true then 4 else 2 by rw [hD]; simp]
  rw [← hD] at HTX
  obtain ⟨s1, hs1⟩ : ∃ s, s = strOfNums bs := ⟨_, rfl⟩
  obtain ⟨s2, hs2⟩ : ∃ s, s = strOfNums zero64 := ⟨_, rfl⟩
  rw [← hs1] at c1 c2 c1d c2d HTX
  rw [← hs2] at c3 c3d HTX
  obtain ⟨N, hN⟩ : ∃ N, N = bs.length := ⟨_, rfl⟩
  rw [← hN] at c1 c2 c1d c2d hl2 ⊢
  obtain ⟨O, hO⟩ : ∃ O, O = UB zero64 := ⟨_, rfl⟩
  rw [← hO] at hmk c2 c3 c2d c3d hb1
  have hq1 : (W0.alloc (.cells O 5)).heap[w.heap.size]? = some (.cells zeroH 23 (0, 0)) := by rw [Below.heap_alloc _ _ _ (Array.getElem?_eq_some_iff.1 hq0).1]; exact hq0
  have HQB := Lib.hid (And.intro hq1 hb1)
  have HW0 := Lib.hid hW0
  unfold zeroH at hW0
  clear h hi0 hr1 hb1 hi1 hzz hz hs hl hD hs1 hs2 hN hO hq1
  cases D
  · have hl3 := hl2 rfl
    go_enter Try.func13, Try.ntmps13
    go_wp2
    rw [← hW0]
    clear hW0
    go_region
    all_goals
      obtain ⟨V, hV⟩ : ∃ V, V = (W0.alloc (.cells O 5)).drew := ⟨_, rfl⟩
      rw [← hV]
      have hq : V.heap[w.heap.size]? = some (.cells zeroH 23 (0, 0)) := by rw [hV]; exact HQB.out.1
      have hb : Below w.heap.size w V := by rw [hV]; exact HQB.out.2.drew
      have HV := Lib.hid (And.intro hq hb)
      clear hV hq hb
      go_wp2_with (refine wpList_store_fresh rfl 23 _ _ rfl w.heap.size zeroH rfl rfl 23 _ HV.out.1 hinf0 rfl hone0 HV.out.2 (Nat.le_refl _) ?_; intro W hW hbW hkW hsW; clear hkW hsW)
      exact bodyPost_ret (hres_row_tmp rfl _ _ w.heap.size _ _ _ _ rfl hW Try.underlying23 rfl hinf0) rfl ⟨rfl, hbW⟩
  · clear hl2
    go_enter Try.func13, Try.ntmps13
    go_wp2
    rw [← hW0]
    clear hW0
    go_region
    all_goals
      obtain ⟨V, hV⟩ : ∃ V, V = (W0.alloc (.cells O 5)).drew := ⟨_, rfl⟩
      rw [← hV]
      have hq : V.heap[w.heap.size]? = some (.cells zeroH 23 (0, 0)) := by rw [hV]; exact HQB.out.1
      have hb : Below w.heap.size w V := by rw [hV]; exact HQB.out.2.drew
      have HV := Lib.hid (And.intro hq hb)
      clear hV hq hb
      go_wp2_with (refine wpList_store_fresh rfl 23 _ _ rfl w.heap.size zeroH rfl rfl 23 _ HV.out.1 hinf0 rfl hone0 HV.out.2 (Nat.le_refl _) ?_; intro W hW hbW hkW hsW; clear hkW hsW)
      exact bodyPost_ret (hres_row_tmp rfl _ _ w.heap.size _ _ _ _ rfl hW Try.underlying23 rfl hinf0) rfl ⟨rfl, hbW⟩

end Go.Proofs.Ytbmgiekiildaaaa
