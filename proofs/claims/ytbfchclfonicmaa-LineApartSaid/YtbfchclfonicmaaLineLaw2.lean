/-
  The laws LineEncodes, LineDecodes, LineReplays as walks, from what is asked of the layer line.
-/
import Derived.Test.YtbfchclfonicmaaLineLaws
namespace Go.Proofs.Ytbfchclfonicmaa
open Go.RowKit

theorem text_of {w : World} {B n : Nat} {A : Option Addr} {zs : List Int} (h : Ints w B .u8 A zs) (hn : zs.length = n) (c : Nat) : (convert 26 9 (.slice A n c)).run Try.prog w = .ok (.string (strOfNums zs)) w :=
  h.textAs Try.underlying26 Try.underlying5 Try.underlying9 hn rfl c

/-- What line.Encode answers, whatever the line. -/
theorem LineSpec.encAny {w0 : World} (HS : LineSpec w0) (l : Ln) (w : World) (hw : Below w0.heap.size w0 w) (ho : l.ok) :
    Calls Try.prog 10 #[.agg (lnV l)] w fun e w' => ∃ A c, e = .returned (.tuple #[.slice A (encR l).2.length c, .int .i64 (encE l)]) ∧ Ints w' w'.heap.size .u8 A (encR l).2 ∧ Below w.heap.size w w' := by
  by_cases h : encE l = 0
  · have h2 : (encR l).2 = encB l := by unfold encR; rw [if_pos h]
    rw [h2, encB_len h, h]
    exact (HS.enc l w hw ho h).mono fun e w' ⟨A, c, q1, _, _, q3, q4⟩ => ⟨A, c, q1, q3.ints, q4⟩
  · have h2 : (encR l).2 = [] := by unfold encR; rw [if_neg h]
    rw [h2]
    exact (HS.encNo l w hw ho h).mono fun e w' ⟨A, c, q1, q4⟩ => ⟨A, c, q1, Ints.nil _ _ _ _, q4⟩

set_option maxHeartbeats 1600000 in
set_option maxRecDepth 20000 in
/-- LineEncodes. -/
theorem lineEncodes_go (l : Ln) (w : World) (HS : LineSpec w) (ho : l.ok) :
    Calls Try.prog 3 #[.agg (lnV l)] w fun e w' => e = .returned (.bool true) ∧ Below w.heap.size w w' := by
  have HA := Lib.hid (fun W (hb : Below w.heap.size w W) => lineAwake HS W hb)
  have H1 := Lib.hid (fun W (hb : Below w.heap.size w W) => HS.encAny l W hb ho)
  have H2 := Lib.hid (fun W => refEnc_any l W)
  have HT := Lib.hid (fun (W : World) (A : Option Addr) (c : Nat) (h : Ints W W.heap.size .u8 A (encR l).2) => text_of h rfl c)
  have hinf : (Try.prog.info? 25).map (·.size) = some (lnV l).size := Try.infoLine
  have HR : Hid (∀ o : Array Value, (w.alloc (.cells o 25)).heap[w.heap.size]? = some (.cells o 25 (0, 0)) ∧ Below w.heap.size w (w.alloc (.cells o 25)) ∧ w.heap.size < (w.alloc (.cells o 25)).heap.size) := fun o => ⟨heap_alloc_new w _, (Below.refl _ _).alloc (Nat.le_refl _) _, by simp⟩
  obtain ⟨S, hS⟩ : ∃ S, S = strOfNums (encR l).2 := ⟨_, rfl⟩
  rw [← hS] at HT
  obtain ⟨X, hX⟩ : ∃ X, X = (encR l).2 := ⟨_, rfl⟩
  simp only [← hX] at H1 H2 HT
  obtain ⟨E, hE⟩ : ∃ X, X = encE l := ⟨_, rfl⟩
  simp only [← hE] at H1 H2
  obtain ⟨N, hN⟩ : ∃ N, N = X.length := ⟨_, rfl⟩
  simp only [← hN] at H1 H2 HT
  obtain ⟨V, hV⟩ : ∃ V, V = lnV l := ⟨_, rfl⟩
  rw [← hV] at hinf ⊢
  simp only [← hV] at H1 H2
  clear HS ho hS hX hE hN hV
  go_enter Try.func3, Try.ntmps3
  go_wp2_with (first
    | (refine wpList_load_row rfl 25 _ rfl w.heap.size rfl 25 _ (0, 0) _ (HR.out V).1 Try.underlying25 rfl hinf ?_)
    | (go_at_call 10; with_reducible (refine Calls.mono (H1.out _ (HR.out V).2.1) ?_); rintro e w1 ⟨A1, c1, rfl, hi1, hb1⟩; have hx1 := (HR.out V).2.1.trans (hb1.mono (HR.out V).2.1.size); have HW1 := Lib.hid ((hb1.block _ (HR.out V).2.2).trans (HR.out V).1))
    | (refine wpList_load_row rfl 25 _ rfl w.heap.size rfl 25 _ (0, 0) _ HW1.out Try.underlying25 rfl hinf ?_)
    | (go_at_call 11; with_reducible (refine Calls.mono (H2.out _) ?_); rintro e w2 ⟨A2, c2, rfl, hc2, hi2, hb2⟩; have hx2 := hx1.trans (hb2.mono hx1.size); have hj1 := (hi1.below hb2).more hb2.size)
    | (go_at_call 12; with_reducible (refine Calls.mono (HA.out _ hx2) ?_); rintro e w3 ⟨rfl, hb3⟩; have hx3 := hx2.trans (hb3.mono hx2.size); have t1 := HT.out w3 A1 c1 ((hj1.below hb3).more hb3.size); have t2 := HT.out w3 A2 c2 ((hi2.below hb3).more hb3.size)))
  go_ret
  exact ⟨rfl, hx3⟩

set_option maxHeartbeats 1600000 in
set_option maxRecDepth 20000 in
/-- LineDecodes. -/
theorem lineDecodes_go (A : Option Addr) (c : Nat) (zs : List Int) (w : World) (HS : LineSpec w) (h : Ints w w.heap.size .u8 A zs) (hz : ∀ z ∈ zs, 0 ≤ z ∧ z ≤ 255) (hc : zs.length ≤ c) (hm : zs.length ≤ 9223372036854775807) :
    Calls Try.prog 4 #[.slice A zs.length c] w fun e w' => e = .returned (.bool true) ∧ Below w.heap.size w w' := by
  have HA := Lib.hid (fun W (hb : Below w.heap.size w W) => lineAwake HS W hb)
  have H1 := Lib.hid (HS.dec A c zs w (Below.refl _ _) h hz hc hm)
  have H2 := Lib.hid (fun W (hb : Below w.heap.size w W) => refDec_any A c zs W ((h.below hb).more hb.size) hz hc)
  have HEQ : Hid (∀ W, (Op.equalIn 10000 25 (.agg (lnV (decR zs).2)) (.agg (lnV (decR zs).2))).run Try.prog W = .ok true W) := fun W => by rw [eqLine_all, decide_eq_true rfl]
  have hinf : (Try.prog.info? 25).map (·.size) = some (lnV (decR zs).2).size := Try.infoLine
  have hone := lnV_one (decR zs).2
  have hold : Hid (9 = (lnV (decR zs).2).size) := rfl
  have HNEW := Lib.hid (fun W : World => heap_alloc_new W (.cells #[.int .i64 0, .int .i64 0, .bool false, .int .i64 0, .int .i64 0, .int .i64 0, .int .i64 0, .int .i64 0, .string ⟨#[]⟩] 25))
  have HAL := Lib.hid (fun W : World => (Below.refl W.heap.size W).alloc (Nat.le_refl _) (.cells #[.int .i64 0, .int .i64 0, .bool false, .int .i64 0, .int .i64 0, .int .i64 0, .int .i64 0, .int .i64 0, .string ⟨#[]⟩] 25))
  obtain ⟨V, hV⟩ : ∃ V, V = lnV (decR zs).2 := ⟨_, rfl⟩
  rw [← hV] at H1 hinf hone hold
  simp only [← hV] at H2 HEQ
  obtain ⟨E, hE⟩ : ∃ X, X = (decR zs).1 := ⟨_, rfl⟩
  rw [← hE] at H1
  simp only [← hE] at H2
  obtain ⟨N, hN⟩ : ∃ N, N = zs.length := ⟨_, rfl⟩
  rw [← hN] at H1 ⊢
  simp only [← hN] at H2
  have heq := fun W => HEQ.out W
  clear HS h hz hc hm hV hE hN
  go_enter Try.func4, Try.ntmps4
  go_wp2_with (first
    | (go_at_call 13; with_reducible (refine Calls.mono H1.out ?_); rintro e w1 ⟨rfl, hb1⟩)
    | (refine wpList_store_fresh rfl 25 _ _ rfl w1.heap.size V rfl rfl 25 _ (HNEW.out w1) hinf hold.out hone (HAL.out w1) (Nat.le_refl _) ?_; intro W2 hW2 hbW2 hkW hsW; have hx2 := hb1.trans (hbW2.mono hb1.size); have HQ2 : Hid (w1.heap.size < W2.heap.size ∧ W2.heap[w1.heap.size]? = some (.cells V 25 (0, 0))) := ⟨(Array.getElem?_eq_some_iff.1 hW2).1, hW2⟩; clear hkW hsW hW2)
    | (go_at_call 14; with_reducible (refine Calls.mono (H2.out _ hx2) ?_); rintro e w3 ⟨rfl, hb3⟩; have hx3 := hx2.trans (hb3.mono hx2.size))
    | (have hguard := hx3; clear hguard; refine wpList_store_fresh rfl 25 _ _ rfl w3.heap.size V rfl rfl 25 _ (HNEW.out w3) hinf hold.out hone (HAL.out w3) (Nat.le_refl _) ?_; intro W4 hW4 hbW4 hkW hsW
       have hx4 := hx3.trans (hbW4.mono hx3.size)
       have HR4 : Hid (w1.heap.size < W4.heap.size ∧ w3.heap.size < W4.heap.size ∧ W4.heap[w1.heap.size]? = some (.cells V 25 (0, 0)) ∧ W4.heap[w3.heap.size]? = some (.cells V 25 (0, 0))) := by
         have h1 := HQ2.out
         have h3 := hb3.size
         have h4 := (Array.getElem?_eq_some_iff.1 hW4).1
         exact ⟨by omega, h4, (hbW4.block _ (by omega)).trans ((hb3.block _ h1.1).trans h1.2), hW4⟩
       clear hkW hsW hW4)
    | (go_at_call 12; with_reducible (refine Calls.mono (HA.out _ hx4) ?_); rintro e w5 ⟨rfl, hb5⟩; have hx5 := hx4.trans (hb5.mono hx4.size); have HW5 := Lib.hid ((hb5.block _ HR4.out.1).trans HR4.out.2.2.1); have HW6 := Lib.hid ((hb5.block _ HR4.out.2.1).trans HR4.out.2.2.2))
    | (refine wpList_load_when rfl 25 _ rfl w1.heap.size rfl 25 _ HW5.out Try.underlying25 rfl hinf ?_)
    | (refine wpList_load_when rfl 25 _ rfl w3.heap.size rfl 25 _ HW6.out Try.underlying25 rfl hinf ?_))
  go_ret
  exact ⟨rfl, hx5⟩

set_option maxHeartbeats 1600000 in
set_option maxRecDepth 20000 in
/-- LineReplays. -/
theorem lineReplays_go (A : Option Addr) (c : Nat) (ps : List Sec) (g : Int) (w : World) (HS : LineSpec w) (h : Secs w w.heap.size A ps) (hc : ps.length ≤ c) (hm : ps.length * 24 ≤ 140737488351232) (hg : I64n g) :
    Calls Try.prog 7 #[.slice A ps.length c, .int .i64 g] w fun e w' => e = .returned (.bool true) ∧ Below w.heap.size w w' := by
  have HA := Lib.hid (lineAwake HS w (Below.refl _ _))
  have H1 := Lib.hid (fun W (hb : Below w.heap.size w W) => HS.repl A c ps g W hb ((h.below hb).more hb.size) hc hm hg)
  have H2 := Lib.hid (fun W (hb : Below w.heap.size w W) => refReplay_any A c ps g W ((h.below hb).more hb.size) (by omega) hg)
  have HSAME : Hid (∀ (W : World) (A1 A2 : Option Addr) (c1 c2 : Nat), TransAt W W.heap.size A1 (replR (secsB ps) g) → TransAt W W.heap.size A2 (replR (secsB ps) g) → Calls Try.prog 15 #[.slice A1 (replR (secsB ps) g).length c1, .slice A2 (replR (secsB ps) g).length c2] W fun e w' => e = .returned (.bool true) ∧ ∃ m, w' = W.drewN m) := fun W A1 A2 c1 c2 h1 h2 => by
    have hle : ∀ k, (outTo (secsB ps) k).length ≤ k ∧ ∀ x ∈ outTo (secsB ps) k, x.length ≤ k := fun k => by
      induction k with
      | zero => exact ⟨Nat.le_refl _, fun x hx => absurd hx (by simp [outTo])⟩
      | succ k ih =>
        unfold outTo
        split
        · refine ⟨by rw [List.length_append]; simp; omega, fun x hx => ?_⟩
          rcases List.mem_append.1 hx with hx | hx
          · have := ih.2 x hx; omega
          · have := nowTo_len (secsB ps) k
            simp only [List.mem_cons, List.not_mem_nil, or_false] at hx
            subst hx
            rw [List.length_append]; simp; omega
        · exact ⟨by omega, fun x hx => by have := ih.2 x hx; omega⟩
    have hgl : goodN (secsB ps) g ≤ ps.length := by
      unfold goodN
      exact Nat.le_trans (List.takeWhile_sublist _).length_le (by rw [List.length_range, secsB_len]; exact Nat.le_refl _)
    have := refSameT_any A1 A2 c1 c2 _ _ W W.heap.size h1 h2 (by unfold replR; have := (hle (goodN (secsB ps) g)).1; omega) (fun x hx => by have := (hle (goodN (secsB ps) g)).2 x hx; omega)
    rw [decide_eq_true rfl] at this
    exact this
  obtain ⟨RR, hRR⟩ : ∃ R, R = replR (secsB ps) g := ⟨_, rfl⟩
  simp only [← hRR] at H1 H2 HSAME
  obtain ⟨M, hM⟩ : ∃ M, M = RR.length := ⟨_, rfl⟩
  simp only [← hM] at H1 H2 HSAME
  obtain ⟨N, hN⟩ : ∃ N, N = ps.length := ⟨_, rfl⟩
  rw [← hN]
  simp only [← hN] at H1 H2
  clear HS h hc hm hg hRR hM hN
  go_enter Try.func7, Try.ntmps7
  go_wp2_with (first
    | (go_at_call 12; with_reducible (refine Calls.mono HA.out ?_); rintro e w1 ⟨rfl, hb1⟩)
    | (go_at_call 16; with_reducible (refine Calls.mono (H1.out _ hb1) ?_); rintro e w2 ⟨A2, c2, rfl, hc2, ht2, hb2⟩; have hx2 := hb1.trans (hb2.mono hb1.size))
    | (go_at_call 17; with_reducible (refine Calls.mono (H2.out _ hx2) ?_); rintro e w3 ⟨A3, c3, rfl, hc3, ht3, hb3⟩; have hx3 := hx2.trans (hb3.mono hx2.size); have hu2 := (ht2.below hb3).more hb3.size)
    | (go_at_call 15; with_reducible (refine Calls.mono (HSAME.out _ _ _ _ _ hu2 ht3) ?_); rintro e w4 ⟨rfl, m, rfl⟩))
  go_ret
  exact ⟨rfl, below_drewN hx3 m⟩

end Go.Proofs.Ytbfchclfonicmaa
