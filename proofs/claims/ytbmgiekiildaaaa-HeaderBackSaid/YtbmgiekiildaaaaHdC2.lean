/-
  The landed header: numbers, of a head that is in range.
-/
import Derived.Test.YtbmgiekiildaaaaHdC1
namespace Go.Proofs.Ytbmgiekiildaaaa
open Go.RowKit

/-- The numbers ahead of the tag, but for the mark. -/
def hTail (h : Rc) : List Int := [h.k, h.a, h.b, h.c, h.d]
def hNum (h : Rc) : List Int := 21320 :: hTail h
theorem hTail_at {h : Rc} (hr : hRng h) : ∀ i, i < 5 → 0 ≤ (hTail h).getD i 0 ∧ (hTail h).getD i 0 ≤ 1099511627776 := by
  obtain ⟨q1, q2, q3, q4, q5⟩ := hr
  intro i hi
  match i, hi with
  | 0, _ => show 0 ≤ h.k ∧ h.k ≤ _; omega
  | 1, _ => show 0 ≤ h.a ∧ h.a ≤ _; omega
  | 2, _ => show 0 ≤ h.b ∧ h.b ≤ _; omega
  | 3, _ => show 0 ≤ h.c ∧ h.c ≤ _; omega
  | 4, _ => show 0 ≤ h.d ∧ h.d ≤ _; omega
theorem Try.infoU64H : (Try.prog.info? 54).map (fun i => (i.zero, i.size, i.bytes)) = some (some (.int .u64 0), 1, 8) := by kernel_rfl

set_option maxHeartbeats 1600000 in
set_option maxRecDepth 20000 in
/-- 'numbers'. -/
theorem hnumbers_any (h : Rc) (w : World) (hr : hRng h) :
    Calls Try.prog 19 #[.agg (rcV h)] w fun e w' => ∃ A c, e = .returned (.slice A 6 c) ∧ Ints w' w'.heap.size .u64 A (hNum h) ∧ Below w.heap.size w w' := by
  obtain ⟨i0, hi8, hz0, hz1, hz2⟩ := info_parts Try.infoU64H
  have HTB := Lib.hid (hTail_at hr)
  have HTT : Hid (ICs (hTail h) = #[.int .i64 h.k, .int .i64 h.a, .int .i64 h.b, .int .i64 h.c, .int .i64 h.d]) := rfl
  obtain ⟨T, hT⟩ : ∃ T, T = hTail h := ⟨_, rfl⟩
  have nT : T.length = 5 := by rw [hT]; rfl
  have HNL : Hid (hNum h = 21320 :: T) := by rw [hT]; rfl
  rw [← hT] at HTB HTT
  clear hr hT
  have HBX := hd_box w h 23
  obtain ⟨W, hW⟩ : ∃ W, W = w.alloc (.cells (rcV h) 23) := ⟨_, rfl⟩
  rw [← hW] at HBX
  obtain ⟨⟨F0, F1, F2, F3, F4, F5⟩, hbW⟩ := HBX
  have hWW := Lib.hid hW
  obtain ⟨a0, a1, a2, a3, a4, key⟩ := h
  simp only [rcV] at F0 F1 F2 F3 F4 F5 hW ⊢
  have hsW : W.heap.size = w.heap.size + 1 := by rw [hWW.out]; simp
  have hba : Below W.heap.size W (W.alloc (.cells #[.int .u64 21320] 54)) := (Below.refl _ _).alloc (Nat.le_refl _) _
  have HC : Hid (((W.alloc (.cells #[.int .u64 21320] 54)).alloc (.cells (ICs T) 3)).ownsRow (w.heap.size + 1) 54 1 (.slice (some ⟨w.heap.size + 1, 0, none⟩) 1 1) 1 [.int .u64 21320] ∧ IRow 3 (w.heap.size + 1 + 1) T ((W.alloc (.cells #[.int .u64 21320] 54)).alloc (.cells (ICs T) 3)) ∧ Below (w.heap.size + 1) W ((W.alloc (.cells #[.int .u64 21320] 54)).alloc (.cells (ICs T) 3))) := by
    rw [← hsW]
    refine ⟨((World.ownsRow_lit (base := W.heap.size) (e := 54) (size := 1) W #[.int .u64 21320] 1 (Nat.le_refl _) (by decide) rfl).alloc _), ?_, hba.alloc hba.size _⟩
    have h := IRow.new (W.alloc (.cells #[.int .u64 21320] 54)) 3 T
    rw [show (W.alloc (.cells #[.int .u64 21320] 54)).heap.size = W.heap.size + 1 by simp] at h
    exact h
  have HNK : Hid (∀ k, k < 5 → T.take (k + 1) = T.take k ++ [T.getD k 0]) := fun k hk => take_snoc T k (by omega)
  have HT5 : Hid (T.take 5 = T) := List.take_of_length_le (by omega)
  have HNT := Lib.hid nT
  have hbw := Lib.hid hbW
  have HSW : Hid (w.heap.size + 1 ≤ W.heap.size) := by unfold Hid; omega
  clear hbW hba hWW nT hsW
  go_enter Try.func19, Try.ntmps19
  go_wp2
  rw [← HTT.out, ← hW]
  obtain ⟨V, hV⟩ : ∃ V, V = (W.alloc (.cells #[.int .u64 21320] 54)).alloc (.cells (ICs T) 3) := ⟨_, rfl⟩
  rw [← hV] at HC ⊢
  clear hV hW HTT F0 F1 F2 F3 F4 F5
  go_loopw [3, 19] (fun v i wr => ∃ k : Nat, k ≤ 5 ∧ i = .int .i64 k ∧ (∃ A c, v = .slice A (1 + k) c) ∧ Hid (wr.ownsRow (w.heap.size + 1) 54 1 v (1 + k) ((21320 :: T.take k).map (Value.int .u64)) ∧ v.ownBlock ≠ some (w.heap.size + 1 + 1) ∧ IRow 3 (w.heap.size + 1 + 1) T wr ∧ Below (w.heap.size + 1) W wr)) (fun _ i _ => 5 - (intOf i).toNat)
  case atStart =>
    refine ⟨0, Nat.zero_le _, rfl, ⟨_, _, rfl⟩, HC.out.1, fun h => ?_, HC.out.2⟩
    have : w.heap.size + 1 = w.heap.size + 1 + 1 := by injection h
    omega
  case round =>
    obtain ⟨k, hk, rfl, ⟨A1, c1, rfl⟩, hS⟩ := hrel
    clear HC
    by_cases hlt : k < 5
    · obtain ⟨hown, hne, hrow, hbel⟩ := hS.out
      have hq0 := hrow.cell (i := k) (by have := HNT.out; omega)
      obtain ⟨x0, x1⟩ := HTB.out k hlt
      have HK1 := Lib.hid (HNK.out k hlt)
      have k1 : (k : Int) < 5 := by omega
      have k0 : (0 : Int) ≤ (k : Int) := by omega
      have hq1 := hrow.lt
      obtain ⟨x, hx⟩ : ∃ x, x = T.getD k 0 := ⟨_, rfl⟩
      rw [← hx] at hq0 x0 x1 HK1
      have hw : IntKind.u64.wrap x = x := IntWalk.u64_in _ (by omega)
      have hHR := Lib.hid (And.intro hne hrow)
      have hbs := Nat.le_trans HSW.out hbel.size
      clear hx hS hne hrow
      go_wp2_with (at_builtin; refine wpList_append_own_at _ rfl _ _ 50 rfl (w.heap.size + 1) 54 i0 (.int .u64 0) 1 8 Try.underlying50 hi8 hz0 hz1 hz2 rfl (by decide) _ _ _ rfl (hown.alloc _) ⟨wr.heap.size, 0, none⟩ 1 1 [_] rfl rfl (cell_one_new _ _ _) ?c2 ?c3 ?c4 ?c5 ?_)
      case c2 => intro u hu; simp at hu; subst hu; rfl
      case c3 => unfold maxLen; omega
      case c4 => omega
      case c5 => simp; omega
      intro v1 w1 hown1 hgrow _ hvb
      have R : Hid (w1.ownsRow (w.heap.size + 1) 54 1 v1 (1 + (k + 1)) ((21320 :: T.take (k + 1)).map (Value.int .u64)) ∧ v1.ownBlock ≠ some (w.heap.size + 1 + 1) ∧ IRow 3 (w.heap.size + 1 + 1) T w1 ∧ Below (w.heap.size + 1) W w1) := by
        obtain ⟨hne, hrow⟩ := hHR.out
        refine ⟨?_, ?_, ?_, (hbel.alloc hbs _).grown hgrow (by simp; omega) fun q hq => (hown.lt q hq).1⟩
        · have e : (21320 :: (T.take k ++ [x])).map (Value.int .u64) = Value.int .u64 21320 :: ((T.map (Value.int .u64)).take k ++ [Value.int .u64 x]) := by simp [List.map_take]
          rw [HK1.out, ← Nat.add_assoc, e]; exact hown1
        · rcases hvb with h | h
          · rw [h]; exact hne
          · rw [h]; intro e; injection e with e; simp at e; omega
        · show _ = _
          rw [hgrow.block _ (by simp; omega) (fun e => hne e.symm), Below.heap_alloc _ _ _ hq1]; exact hrow
      obtain ⟨A3, c3, rfl⟩ := own_slice R.out.1
      clear hown1 hgrow hown hbel hHR hvb hq0 hq1 hw hbs
      go_wp2
      go_roundw
      case rel => first | exact ⟨k + 1, by omega, by go_num, ⟨A3, c3, rfl⟩, R⟩ | ((repeat apply Exists.intro); exact ⟨⟨k + 1, by omega, by go_num, ⟨A3, c3, rfl⟩, R⟩, rfl⟩)
      case measure => first | (simp [intOf]; done) | (simp [intOf]; omega)
    · have hk5 : k = 5 := by omega
      subst hk5
      have HR : Hid (Ints wr wr.heap.size .u64 A1 (hNum ⟨a0, a1, a2, a3, a4, key⟩) ∧ Below w.heap.size w wr) := by
        obtain ⟨hown, _, _, hbel⟩ := hS.out
        rw [HT5.out] at hown
        refine ⟨?_, hbw.out.trans (hbel.mono (Nat.le_succ _))⟩
        rw [HNL.out]
        exact Ints.of_own (n := 6) (c := c1) (by have e : (21320 :: T).length = 6 := by rw [List.length_cons, HNT.out]
                                                 rw [e]; exact hown)
      clear hS
      go_wp2
      go_ret
      exact ⟨A1, c1, rfl, HR.out.1, HR.out.2⟩

end Go.Proofs.Ytbmgiekiildaaaa
