/-
  The document's own Encode (stowageref15), where it refuses nothing. Written by wip/gen/line_ref3.py.
-/
import Derived.Test.YtbfchclfonicmaaLineRef2
namespace Go.Proofs.Ytbfchclfonicmaa
open Go.RowKit

/-- A step more of what is written. -/
def nextX (X : List Int) (n : Int) (s : Nat) : List Int := X ++ bytesOf n s
theorem nextX_len (X : List Int) (n : Int) (s : Nat) : (nextX X n s).length = X.length + s := by unfold nextX; rw [List.length_append, bytesOf_len]
theorem putX {base : Nat} {v : Value} {X : List Int} {n : Int} {s : Nat} {w : World} (hown : w.ownsRow base 5 1 v X.length (X.map (Value.int .u8))) (hb : base ≤ w.heap.size) (hs : 1 ≤ s ∧ s ≤ 8) (hx : X.length ≤ 1000000) (hn : 0 ≤ n ∧ n ≤ 9223372036854775807) :
    Calls Try.prog 25 #[v, .int .i64 n, .int .i64 s] w fun e w' => ∃ v', e = .returned v' ∧ w'.ownsRow base 5 1 v' (nextX X n s).length ((nextX X n s).map (Value.int .u8)) ∧ Below base w w' := refPut_any base v X n s w hown hb hs hx hn

set_option maxHeartbeats 1600000 in
set_option maxRecDepth 20000 in
theorem refEnc_yes (l : Ln) (w : World) (hE : encE l = 0) :
    Calls Try.prog 11 #[.agg (lnV l)] w fun e w' => ∃ A c, e = .returned (.tuple #[.slice A 64 c, .int .i64 0]) ∧ 64 ≤ c ∧ Ints w' w'.heap.size .u8 A (encB l) ∧ Below w.heap.size w w' := by
  obtain ⟨hr, hk⟩ := encE_zero.1 hE
  obtain ⟨q1, q2, q3, q4, q5, q6, q7⟩ := (rangeL_iff l).1 hr
  have d0 : inN l.g 2147483647 = true := inN_iff.2 q1
  have d1 : inN l.s 2147483647 = true := inN_iff.2 q2
  have d2 : inN l.r.k 9 = true := inN_iff.2 q3
  have d3 : inN l.r.a 1099511627776 = true := inN_iff.2 q4
  have d4 : inN l.r.b 1099511627776 = true := inN_iff.2 q5
  have d5 : inN l.r.c 1099511627776 = true := inN_iff.2 q6
  have d6 : inN l.r.d 1099511627776 = true := inN_iff.2 q7
  obtain ⟨i0, hi8, hz0, hz1, hz2⟩ := info_parts Try.infoU8L
  have H0 := Lib.hid (fun W => refIn_any l.g 2147483647 W)
  rw [d0] at H0
  have H1 := Lib.hid (fun W => refIn_any l.s 2147483647 W)
  rw [d1] at H1
  have H2 := Lib.hid (fun W => refIn_any l.r.k 9 W)
  rw [d2] at H2
  have H3 := Lib.hid (fun W => refIn_any l.r.a 1099511627776 W)
  rw [d3] at H3
  have H4 := Lib.hid (fun W => refIn_any l.r.b 1099511627776 W)
  rw [d4] at H4
  have H5 := Lib.hid (fun W => refIn_any l.r.c 1099511627776 W)
  rw [d5] at H5
  have H6 := Lib.hid (fun W => refIn_any l.r.d 1099511627776 W)
  rw [d6] at H6
  have hinf : (Try.prog.info? 23).map (·.size) = some (rcV l.r).size := Try.infoRec
  have hinf2 : (Try.prog.info? 23).map (·.size) = some (rcV l.r).toList.length := Try.infoRec
  have hone := rcV_one l.r
  have HRA : Hid ((w.alloc (.cells (lnV l) 25)).rangeAt w.heap.size 3 (rcV l.r).toList) := (ln_cells (heap_alloc_new w (.cells (lnV l) 25)) (Below.refl _ _)).2.2.2
  have HLN : Hid (∀ W W' : World, W.heap[w.heap.size]? = some (.cells (lnV l) 25 (0, 0)) → Below W.heap.size W W' → W'.cell? ⟨w.heap.size, 0, none⟩ = some (.int .i64 l.g) ∧ W'.cell? ⟨w.heap.size, 1, none⟩ = some (.int .i64 l.s) ∧ W'.cell? ⟨w.heap.size, 2, none⟩ = some (.bool l.last)) :=
    fun W W' h hb => ⟨(ln_cells h hb).1, (ln_cells h hb).2.1, (ln_cells h hb).2.2.1⟩
  have HRC : Hid (∀ W W' : World, W.heap[w.heap.size + 1]? = some (.cells (rcV l.r) 23 (0, 0)) → Below W.heap.size W W' → W'.cell? ⟨w.heap.size + 1, 0, none⟩ = some (.int .i64 l.r.k) ∧ W'.cell? ⟨w.heap.size + 1, 1, none⟩ = some (.int .i64 l.r.a) ∧ W'.cell? ⟨w.heap.size + 1, 2, none⟩ = some (.int .i64 l.r.b) ∧ W'.cell? ⟨w.heap.size + 1, 3, none⟩ = some (.int .i64 l.r.c) ∧ W'.cell? ⟨w.heap.size + 1, 4, none⟩ = some (.int .i64 l.r.d) ∧ W'.cell? ⟨w.heap.size + 1, 5, none⟩ = some (.string l.r.key)) :=
    fun W W' h hb => rc_cells h hb
  have HZ : Hid (((w.alloc (.cells (lnV l) 25)).alloc (.cells #[.int .i64 0, .int .i64 0, .int .i64 0, .int .i64 0, .int .i64 0, .string ⟨#[]⟩] 23)).heap[w.heap.size + 1]? = some (.cells #[.int .i64 0, .int .i64 0, .int .i64 0, .int .i64 0, .int .i64 0, .string ⟨#[]⟩] 23 (0, 0))) := by
    have := heap_alloc_new (w.alloc (.cells (lnV l) 25)) (.cells #[.int .i64 0, .int .i64 0, .int .i64 0, .int .i64 0, .int .i64 0, .string ⟨#[]⟩] 23)
    rwa [show (w.alloc (.cells (lnV l) 25)).heap.size = w.heap.size + 1 by simp] at this
  have HQ : Hid (∀ o, ((w.alloc (.cells (lnV l) 25)).alloc o).heap[w.heap.size]? = some (.cells (lnV l) 25 (0, 0))) := fun o => by
    rw [Below.heap_alloc _ _ _ (by simp)]; exact heap_alloc_new _ _
  have HB : Hid (∀ o o', Below w.heap.size w ((w.alloc o).alloc o')) := fun o o' => ((Below.refl _ _).alloc (Nat.le_refl _) _).alloc (by simp) _
  obtain ⟨L, hL⟩ : ∃ L, L = lnV l := ⟨_, rfl⟩
  simp only [← hL] at HRA HLN HZ HQ
  rw [← hL]
  obtain ⟨R, hR⟩ : ∃ L, L = rcV l.r := ⟨_, rfl⟩
  rw [← hR] at hinf hinf2 hone HRA
  simp only [← hR] at HRC
  have hRT : R.toList.toArray = R := Array.toArray_toList
  obtain ⟨C, hC⟩ : ∃ L, L = R.toList := ⟨_, rfl⟩
  rw [← hC] at hinf2 HRA hRT
  have hold : Hid (6 = R.size) := by rw [hR]; rfl
  have hlast : 0 ≤ lastN l.last ∧ lastN l.last ≤ 1 := by unfold lastN; split <;> decide
  obtain ⟨X0, hX0⟩ : ∃ X : List Int, X = [83, 76] := ⟨_, rfl⟩
  have n0 : X0.length = 2 := by rw [hX0]; rfl
  obtain ⟨X1, hX1⟩ : ∃ X, X = nextX X0 l.g 4 := ⟨_, rfl⟩
  have n1 : X1.length = 6 := by rw [hX1, nextX_len, n0]
  have P1 : Hid (∀ (B : Nat) (v : Value) (W : World), W.ownsRow B 5 1 v X0.length (X0.map (Value.int .u8)) → B ≤ W.heap.size → Calls Try.prog 25 #[v, .int .i64 l.g, .int .i64 4] W fun e w' => ∃ v', e = .returned v' ∧ w'.ownsRow B 5 1 v' X1.length (X1.map (Value.int .u8)) ∧ Below B W w') := fun B v W ho hb => by rw [hX1]; exact putX (s := 4) ho hb (by omega) (by omega) (by omega)
  obtain ⟨X2, hX2⟩ : ∃ X, X = nextX X1 l.s 4 := ⟨_, rfl⟩
  have n2 : X2.length = 10 := by rw [hX2, nextX_len, n1]
  have P2 : Hid (∀ (B : Nat) (v : Value) (W : World), W.ownsRow B 5 1 v X1.length (X1.map (Value.int .u8)) → B ≤ W.heap.size → Calls Try.prog 25 #[v, .int .i64 l.s, .int .i64 4] W fun e w' => ∃ v', e = .returned v' ∧ w'.ownsRow B 5 1 v' X2.length (X2.map (Value.int .u8)) ∧ Below B W w') := fun B v W ho hb => by rw [hX2]; exact putX (s := 4) ho hb (by omega) (by omega) (by omega)
  obtain ⟨X3, hX3⟩ : ∃ X, X = nextX X2 (lastN l.last) 1 := ⟨_, rfl⟩
  have n3 : X3.length = 11 := by rw [hX3, nextX_len, n2]
  have P3 : Hid (∀ (B : Nat) (v : Value) (W : World), W.ownsRow B 5 1 v X2.length (X2.map (Value.int .u8)) → B ≤ W.heap.size → Calls Try.prog 25 #[v, .int .i64 (lastN l.last), .int .i64 1] W fun e w' => ∃ v', e = .returned v' ∧ w'.ownsRow B 5 1 v' X3.length (X3.map (Value.int .u8)) ∧ Below B W w') := fun B v W ho hb => by rw [hX3]; exact putX (s := 1) ho hb (by omega) (by omega) (by omega)
  obtain ⟨X4, hX4⟩ : ∃ X, X = nextX X3 l.r.k 1 := ⟨_, rfl⟩
  have n4 : X4.length = 12 := by rw [hX4, nextX_len, n3]
  have P4 : Hid (∀ (B : Nat) (v : Value) (W : World), W.ownsRow B 5 1 v X3.length (X3.map (Value.int .u8)) → B ≤ W.heap.size → Calls Try.prog 25 #[v, .int .i64 l.r.k, .int .i64 1] W fun e w' => ∃ v', e = .returned v' ∧ w'.ownsRow B 5 1 v' X4.length (X4.map (Value.int .u8)) ∧ Below B W w') := fun B v W ho hb => by rw [hX4]; exact putX (s := 1) ho hb (by omega) (by omega) (by omega)
  obtain ⟨X5, hX5⟩ : ∃ X, X = nextX X4 l.r.a 7 := ⟨_, rfl⟩
  have n5 : X5.length = 19 := by rw [hX5, nextX_len, n4]
  have P5 : Hid (∀ (B : Nat) (v : Value) (W : World), W.ownsRow B 5 1 v X4.length (X4.map (Value.int .u8)) → B ≤ W.heap.size → Calls Try.prog 25 #[v, .int .i64 l.r.a, .int .i64 7] W fun e w' => ∃ v', e = .returned v' ∧ w'.ownsRow B 5 1 v' X5.length (X5.map (Value.int .u8)) ∧ Below B W w') := fun B v W ho hb => by rw [hX5]; exact putX (s := 7) ho hb (by omega) (by omega) (by omega)
  obtain ⟨X6, hX6⟩ : ∃ X, X = nextX X5 l.r.b 7 := ⟨_, rfl⟩
  have n6 : X6.length = 26 := by rw [hX6, nextX_len, n5]
  have P6 : Hid (∀ (B : Nat) (v : Value) (W : World), W.ownsRow B 5 1 v X5.length (X5.map (Value.int .u8)) → B ≤ W.heap.size → Calls Try.prog 25 #[v, .int .i64 l.r.b, .int .i64 7] W fun e w' => ∃ v', e = .returned v' ∧ w'.ownsRow B 5 1 v' X6.length (X6.map (Value.int .u8)) ∧ Below B W w') := fun B v W ho hb => by rw [hX6]; exact putX (s := 7) ho hb (by omega) (by omega) (by omega)
  obtain ⟨X7, hX7⟩ : ∃ X, X = nextX X6 l.r.c 7 := ⟨_, rfl⟩
  have n7 : X7.length = 33 := by rw [hX7, nextX_len, n6]
  have P7 : Hid (∀ (B : Nat) (v : Value) (W : World), W.ownsRow B 5 1 v X6.length (X6.map (Value.int .u8)) → B ≤ W.heap.size → Calls Try.prog 25 #[v, .int .i64 l.r.c, .int .i64 7] W fun e w' => ∃ v', e = .returned v' ∧ w'.ownsRow B 5 1 v' X7.length (X7.map (Value.int .u8)) ∧ Below B W w') := fun B v W ho hb => by rw [hX7]; exact putX (s := 7) ho hb (by omega) (by omega) (by omega)
  obtain ⟨X8, hX8⟩ : ∃ X, X = nextX X7 l.r.d 7 := ⟨_, rfl⟩
  have n8 : X8.length = 40 := by rw [hX8, nextX_len, n7]
  have P8 : Hid (∀ (B : Nat) (v : Value) (W : World), W.ownsRow B 5 1 v X7.length (X7.map (Value.int .u8)) → B ≤ W.heap.size → Calls Try.prog 25 #[v, .int .i64 l.r.d, .int .i64 7] W fun e w' => ∃ v', e = .returned v' ∧ w'.ownsRow B 5 1 v' X8.length (X8.map (Value.int .u8)) ∧ Below B W w') := fun B v W ho hb => by rw [hX8]; exact putX (s := 7) ho hb (by omega) (by omega) (by omega)
  obtain ⟨X9, hX9⟩ : ∃ X, X = nextX X8 ((l.r.key.size : Nat) : Int) 1 := ⟨_, rfl⟩
  have n9 : X9.length = 41 := by rw [hX9, nextX_len, n8]
  have P9 : Hid (∀ (B : Nat) (v : Value) (W : World), W.ownsRow B 5 1 v X8.length (X8.map (Value.int .u8)) → B ≤ W.heap.size → Calls Try.prog 25 #[v, .int .i64 ((l.r.key.size : Nat) : Int), .int .i64 1] W fun e w' => ∃ v', e = .returned v' ∧ w'.ownsRow B 5 1 v' X9.length (X9.map (Value.int .u8)) ∧ Below B W w') := fun B v W ho hb => by rw [hX9]; exact putX (s := 1) ho hb (by omega) (by omega) (by omega)
  have hfront : X9 = frontL l := by
    rw [hX9, hX8, hX7, hX6, hX5, hX4, hX3, hX2, hX1, hX0]
    unfold nextX frontL
    simp only [List.append_assoc]
  have HBODY : Hid (bodyL l = X9 ++ keyI l.r.key ++ List.replicate (19 - l.r.key.size) 0) := by unfold Hid bodyL; rw [hfront, List.append_assoc]
  have HENC : Hid (encB l = bodyL l ++ bytesOf (moreN 0 (nb (bodyL l)) : Nat) 4) := rfl
  have HBM := Lib.hid (bodyL_mem l)
  have hbl := bodyL_len (l := l) (by omega)
  have HSUM : Hid (0 ≤ ((moreN 0 (nb (bodyL l)) : Nat) : Int) ∧ ((moreN 0 (nb (bodyL l)) : Nat) : Int) ≤ 4294967295) := by have := moreN_lt 0 (nb (bodyL l)); unfold Hid; omega
  have HX0 := Lib.hid hX0
  obtain ⟨Bd, hBd⟩ : ∃ B, B = bodyL l := ⟨_, rfl⟩
  rw [← hBd] at HBODY HENC HBM hbl HSUM
  have HKL := Lib.hid (keyI_len l.r.key)
  obtain ⟨ky, hky⟩ : ∃ k, k = l.r.key := ⟨_, rfl⟩
  rw [← hky] at HBODY HKL hk
  simp only [← hky] at HRC
  have HKY := Lib.hid hky
  clear hE hr q1 q2 q3 q4 q5 q6 q7 d0 d1 d2 d3 d4 d5 d6 hL hR hC hX0 hX1 hX2 hX3 hX4 hX5 hX6 hX7 hX8 hX9 hfront hBd hky
  obtain ⟨B, hB⟩ : ∃ B, B = l.last := ⟨_, rfl⟩
  simp only [← hB] at HLN P3
  clear hB
  cases B
  · rw [show lastN false = 0 from rfl] at P3
    rcases hk with hk | hk
    · have kA : ((ky.size : Int) != 0) = false := by rw [bne_eq_false_iff_eq]; omega
      have kB : ((ky.size : Int) == 0) = true := by rw [beq_iff_eq]; omega
      have kC : ((ky.size : Int) != 16) = true := by rw [bne_iff_ne]; omega
      have kD : ((ky.size : Int) == 16) = false := by rw [beq_eq_false_iff_ne]; omega
      have P9' : Hid (∀ (B : Nat) (v : Value) (W : World), W.ownsRow B 5 1 v X8.length (X8.map (Value.int .u8)) → B ≤ W.heap.size → Calls Try.prog 25 #[v, .int .i64 0, .int .i64 1] W fun e w' => ∃ v', e = .returned v' ∧ w'.ownsRow B 5 1 v' X9.length (X9.map (Value.int .u8)) ∧ Below B W w') := by
        have h := P9.out
        rw [← HKY.out, hk] at h
        exact h
      replace P9 := P9'
      clear P9'
      obtain ⟨T, hT⟩ : ∃ T, T = X9 ++ keyI ky := ⟨_, rfl⟩
      have nT : T.length = 41 := by rw [hT, List.length_append, n9, HKL.out, hk]
      have HT := Lib.hid hT
      have hbd : Bd = T ++ List.replicate 19 0 := by rw [HBODY.out, ← hT, hk]
      have HBD := Lib.hid hbd
      have HKS := Lib.hid hk
      clear hT hbd HBODY HKL
      go_enter Try.func11, Try.ntmps11
      go_wp2_with (first
        | (refine wpList_load_mid rfl 23 _ rfl w.heap.size 3 rfl C _ HRA.out Try.underlying23 rfl hinf2 ?_; rw [hRT])
        | (refine wpList_store_fresh rfl 23 _ _ rfl (w.heap.size + 1) R rfl rfl 23 _ HZ.out hinf hold.out hone (HB.out _ _) (Nat.le_succ _) ?_; intro W hW hbW hkW hsW
           have hqW := (hkW _ (Nat.ne_of_lt (Nat.lt_succ_self _))).trans (HQ.out _)
           obtain ⟨l0, l1, l2⟩ := HLN.out W W hqW (Below.refl _ _)
           obtain ⟨r0, r1, r2, r3, r4, r5⟩ := HRC.out W W hW (Below.refl _ _)
           have HW := Lib.hid hW
           have HQW := Lib.hid hqW
           obtain ⟨a0, _, _⟩ := HLN.out W (W.alloc (.cells #[.int .u8 83, .int .u8 76] 5)) hqW ((Below.refl _ _).alloc (Nat.le_refl _) _)
           clear hW hkW hsW hqW)
        | (go_at_call_of 24 (Value.int .i64 l.g); with_reducible (refine Calls.mono (H0.out _) ?_); rintro e w1 ⟨rfl, rfl⟩)
        | (go_at_call_of 24 (Value.int .i64 l.s); with_reducible (refine Calls.mono (H1.out _) ?_); rintro e w1 ⟨rfl, rfl⟩)
        | (go_at_call_of 24 (Value.int .i64 l.r.k); with_reducible (refine Calls.mono (H2.out _) ?_); rintro e w1 ⟨rfl, rfl⟩)
        | (go_at_call_of 24 (Value.int .i64 l.r.a); with_reducible (refine Calls.mono (H3.out _) ?_); rintro e w1 ⟨rfl, rfl⟩)
        | (go_at_call_of 24 (Value.int .i64 l.r.b); with_reducible (refine Calls.mono (H4.out _) ?_); rintro e w1 ⟨rfl, rfl⟩)
        | (go_at_call_of 24 (Value.int .i64 l.r.c); with_reducible (refine Calls.mono (H5.out _) ?_); rintro e w1 ⟨rfl, rfl⟩)
        | (go_at_call_of 24 (Value.int .i64 l.r.d); with_reducible (refine Calls.mono (H6.out _) ?_); rintro e w1 ⟨rfl, rfl⟩)
        | (have hguard := ow8; clear hguard; go_at_call 25; with_reducible (refine Calls.mono (P9.out W.heap.size _ _ ow8 bb8.size) ?_); rintro e w10 ⟨v9, rfl, ow9, hb9⟩; have bb9 := bb8.trans hb9; clear P9 ow8; obtain ⟨l0, l1, l2⟩ := HLN.out W w10 HQW.out bb9; obtain ⟨r0, r1, r2, r3, r4, r5⟩ := HRC.out W w10 HW.out bb9)
        | (have hguard := ow7; clear hguard; go_at_call 25; with_reducible (refine Calls.mono (P8.out W.heap.size _ _ ow7 bb7.size) ?_); rintro e w9 ⟨v8, rfl, ow8, hb8⟩; have bb8 := bb7.trans hb8; clear P8 ow7; obtain ⟨l0, l1, l2⟩ := HLN.out W w9 HQW.out bb8; obtain ⟨r0, r1, r2, r3, r4, r5⟩ := HRC.out W w9 HW.out bb8)
        | (have hguard := ow6; clear hguard; go_at_call 25; with_reducible (refine Calls.mono (P7.out W.heap.size _ _ ow6 bb6.size) ?_); rintro e w8 ⟨v7, rfl, ow7, hb7⟩; have bb7 := bb6.trans hb7; clear P7 ow6; obtain ⟨l0, l1, l2⟩ := HLN.out W w8 HQW.out bb7; obtain ⟨r0, r1, r2, r3, r4, r5⟩ := HRC.out W w8 HW.out bb7)
        | (have hguard := ow5; clear hguard; go_at_call 25; with_reducible (refine Calls.mono (P6.out W.heap.size _ _ ow5 bb5.size) ?_); rintro e w7 ⟨v6, rfl, ow6, hb6⟩; have bb6 := bb5.trans hb6; clear P6 ow5; obtain ⟨l0, l1, l2⟩ := HLN.out W w7 HQW.out bb6; obtain ⟨r0, r1, r2, r3, r4, r5⟩ := HRC.out W w7 HW.out bb6)
        | (have hguard := ow4; clear hguard; go_at_call 25; with_reducible (refine Calls.mono (P5.out W.heap.size _ _ ow4 bb4.size) ?_); rintro e w6 ⟨v5, rfl, ow5, hb5⟩; have bb5 := bb4.trans hb5; clear P5 ow4; obtain ⟨l0, l1, l2⟩ := HLN.out W w6 HQW.out bb5; obtain ⟨r0, r1, r2, r3, r4, r5⟩ := HRC.out W w6 HW.out bb5)
        | (have hguard := ow3; clear hguard; go_at_call 25; with_reducible (refine Calls.mono (P4.out W.heap.size _ _ ow3 bb3.size) ?_); rintro e w5 ⟨v4, rfl, ow4, hb4⟩; have bb4 := bb3.trans hb4; clear P4 ow3; obtain ⟨l0, l1, l2⟩ := HLN.out W w5 HQW.out bb4; obtain ⟨r0, r1, r2, r3, r4, r5⟩ := HRC.out W w5 HW.out bb4)
        | (have hguard := ow2; clear hguard; go_at_call 25; with_reducible (refine Calls.mono (P3.out W.heap.size _ _ ow2 bb2.size) ?_); rintro e w4 ⟨v3, rfl, ow3, hb3⟩; have bb3 := bb2.trans hb3; clear P3 ow2; obtain ⟨l0, l1, l2⟩ := HLN.out W w4 HQW.out bb3; obtain ⟨r0, r1, r2, r3, r4, r5⟩ := HRC.out W w4 HW.out bb3)
        | (have hguard := ow1; clear hguard; go_at_call 25; with_reducible (refine Calls.mono (P2.out W.heap.size _ _ ow1 bb1.size) ?_); rintro e w3 ⟨v2, rfl, ow2, hb2⟩; have bb2 := bb1.trans hb2; clear P2 ow1; obtain ⟨l0, l1, l2⟩ := HLN.out W w3 HQW.out bb2; obtain ⟨r0, r1, r2, r3, r4, r5⟩ := HRC.out W w3 HW.out bb2)
        | (go_at_call 25; have ow0 : (W.alloc (.cells #[.int .u8 83, .int .u8 76] 5)).ownsRow W.heap.size 5 1 (.slice (some ⟨W.heap.size, 0, none⟩) 2 2) X0.length (X0.map (Value.int .u8)) := (by rw [HX0.out]; exact World.ownsRow_lit (base := W.heap.size) (e := 5) (size := 1) W #[.int .u8 83, .int .u8 76] 2 (Nat.le_refl _) (by decide) rfl); have bb0 : Below W.heap.size W (W.alloc (.cells #[.int .u8 83, .int .u8 76] 5)) := (Below.refl _ _).alloc (Nat.le_refl _) _; with_reducible (refine Calls.mono (P1.out W.heap.size _ _ ow0 bb0.size) ?_); rintro e w2 ⟨v1, rfl, ow1, hb1⟩; have bb1 := bb0.trans hb1; clear P1 ow0; obtain ⟨l0, l1, l2⟩ := HLN.out W w2 HQW.out bb1; obtain ⟨r0, r1, r2, r3, r4, r5⟩ := HRC.out W w2 HW.out bb1)
        | (have hguard := ow9; clear hguard; at_builtin; refine Lib.wpList_append_own_string _ rfl _ _ 26 9 rfl W.heap.size 5 i0 Try.underlying26 Try.underlying9 hi8 hz0 hz1 hz2 _ _ _ rfl ow9 ky rfl ?e1 ?e2 bb9.size ?_))
      case e1 => unfold maxLen; omega
      case e2 => omega
      intro vk wk owk hgk _
      have bbk : Below W.heap.size W wk := bb9.grown hgk bb9.size fun q9 hq9 => (ow9.lt q9 hq9).1
      have owT : wk.ownsRow W.heap.size 5 1 vk T.length (T.map (Value.int .u8)) := by
        rw [nT, HT.out, List.map_append, ← strCells_keyI]; exact owk
      rw [nT] at owT
      obtain ⟨A0, c0, rfl⟩ := own_slice owT
      have HO := Lib.hid (And.intro owT bbk)
      clear owk hgk owT bbk ow9 bb9
      go_wp2
      go_loopw [6] (fun v wr => ∃ k : Nat, k ≤ 19 ∧ (∃ A c, v = .slice A (41 + k) c) ∧ Hid (wr.ownsRow W.heap.size 5 1 v (41 + k) ((T ++ List.replicate k 0).map (Value.int .u8)) ∧ Below W.heap.size W wr)) (fun v _ => match v with | .slice _ n _ => 60 - n | _ => 0)
      case atStart => exact ⟨0, Nat.zero_le _, ⟨A0, c0, rfl⟩, by rw [List.replicate_zero, List.append_nil]; exact HO.out⟩
      case round =>
        obtain ⟨k, hkm, ⟨A1, c1, rfl⟩, hS⟩ := hrel
        clear HO
        by_cases hlt : k < 19
        · obtain ⟨hownr, hbel⟩ := hS.out
          have k1 : (41 : Int) + (k : Int) < 60 := by omega
          clear hS
          go_wp2_with (at_builtin; refine wpList_append_own_at _ rfl _ _ 26 rfl W.heap.size 5 i0 (.int .u8 0) 1 1 Try.underlying26 hi8 hz0 hz1 hz2 rfl (by decide) _ _ _ rfl (hownr.alloc _) ⟨wr.heap.size, 0, none⟩ 1 1 [_] rfl rfl (cell_one_new _ _ _) ?c2 ?c3 ?c4 ?c5 ?_)
          case c2 => intro u hu; simp at hu; subst hu; rfl
          case c3 => unfold maxLen; omega
          case c4 => omega
          case c5 => have := hbel.size; simp; omega
          intro v1 w1 hown1 hgrow _ _
          have R1 : Hid (w1.ownsRow W.heap.size 5 1 v1 (41 + (k + 1)) ((T ++ List.replicate (k + 1) 0).map (Value.int .u8)) ∧ Below W.heap.size W w1) := by
            refine ⟨?_, (hbel.alloc hbel.size _).grown hgrow (by have := hbel.size; simp; omega) fun q hq => (hownr.lt q hq).1⟩
            rw [List.replicate_succ', List.map_append, List.map_append, List.map_replicate, ← Nat.add_assoc]; exact hown1
          obtain ⟨A3, c3, rfl⟩ := own_slice R1.out.1
          clear hown1 hgrow hownr hbel
          go_wp2
          go_roundw
          case rel => first | exact ⟨k + 1, by omega, ⟨A3, c3, rfl⟩, R1⟩ | ((repeat apply Exists.intro); exact ⟨⟨k + 1, by omega, ⟨A3, c3, rfl⟩, R1⟩, rfl⟩)
          case measure => first | (simp; done) | (simp; omega)
        · have hk8 : k = 19 := by omega
          subst hk8
          obtain ⟨hownr, hbel⟩ := hS.out
          rw [← HBD.out] at hownr
          have hI : Ints wr wr.heap.size .u8 A1 Bd := Ints.of_own (n := 60) (c := c1) (by rw [hbl]; exact hownr)
          have HSC := Lib.hid (refSumL_any A1 c1 wr.heap.size Bd wr hI HBM.out (by omega))
          rw [hbl] at HSC
          have HPL := Lib.hid (putX (s := 4) (n := ((moreN 0 (nb Bd) : Nat) : Int)) (base := W.heap.size) (v := .slice A1 60 c1) (X := Bd) (w := wr) (by rw [hbl]; exact hownr) hbel.size (by omega) (by omega) (by have := HSUM.out; omega))
          have hne : nextX Bd ((moreN 0 (nb Bd) : Nat) : Int) 4 = encB l := HENC.out.symm
          rw [hne] at HPL
          have hel : (encB l).length = 64 := by rw [HENC.out, List.length_append, hbl, bytesOf_len]
          rw [hel] at HPL
          have hsm := HSUM.out
          have HEL := Lib.hid hel
          obtain ⟨sm, hsme⟩ : ∃ s : Int, s = ((moreN 0 (nb Bd) : Nat) : Int) := ⟨_, rfl⟩
          rw [← hsme] at HSC HPL hsm
          have hbw := Lib.hid (hbW.trans (hbel.mono hbW.size))
          have HBZ := Lib.hid hbel
          clear hS hownr hbel hI hne hel hsme HENC HBD
          go_wp2_with (first
            | (go_at_call 26; with_reducible (refine Calls.mono HSC.out ?_); rintro e w5 ⟨rfl, rfl⟩)
            | (go_at_call 25; with_reducible (refine Calls.mono HPL.out ?_); rintro e w6 ⟨v6, rfl, ow6, hb6⟩))
          obtain ⟨A6, c6, rfl⟩ := own_slice ow6
          have R2 : Hid (64 ≤ c6 ∧ Ints w6 w6.heap.size .u8 A6 (encB l) ∧ Below w.heap.size w w6) := ⟨own_le ow6, Ints.of_own (n := 64) (c := c6) (by rw [HEL.out]; exact ow6), hbw.out.trans (hb6.mono hbW.size)⟩
          clear ow6 hb6
          go_ret2
          exact ⟨A6, c6, rfl, R2.out.1, R2.out.2.1, R2.out.2.2⟩
    · have kA : ((ky.size : Int) != 0) = true := by rw [bne_iff_ne]; omega
      have kB : ((ky.size : Int) == 0) = false := by rw [beq_eq_false_iff_ne]; omega
      have kC : ((ky.size : Int) != 16) = false := by rw [bne_eq_false_iff_eq]; omega
      have kD : ((ky.size : Int) == 16) = true := by rw [beq_iff_eq]; omega
      have P9' : Hid (∀ (B : Nat) (v : Value) (W : World), W.ownsRow B 5 1 v X8.length (X8.map (Value.int .u8)) → B ≤ W.heap.size → Calls Try.prog 25 #[v, .int .i64 16, .int .i64 1] W fun e w' => ∃ v', e = .returned v' ∧ w'.ownsRow B 5 1 v' X9.length (X9.map (Value.int .u8)) ∧ Below B W w') := by
        have h := P9.out
        rw [← HKY.out, hk] at h
        exact h
      replace P9 := P9'
      clear P9'
      obtain ⟨T, hT⟩ : ∃ T, T = X9 ++ keyI ky := ⟨_, rfl⟩
      have nT : T.length = 57 := by rw [hT, List.length_append, n9, HKL.out, hk]
      have HT := Lib.hid hT
      have hbd : Bd = T ++ List.replicate 3 0 := by rw [HBODY.out, ← hT, hk]
      have HBD := Lib.hid hbd
      have HKS := Lib.hid hk
      clear hT hbd HBODY HKL
      go_enter Try.func11, Try.ntmps11
      go_wp2_with (first
        | (refine wpList_load_mid rfl 23 _ rfl w.heap.size 3 rfl C _ HRA.out Try.underlying23 rfl hinf2 ?_; rw [hRT])
        | (refine wpList_store_fresh rfl 23 _ _ rfl (w.heap.size + 1) R rfl rfl 23 _ HZ.out hinf hold.out hone (HB.out _ _) (Nat.le_succ _) ?_; intro W hW hbW hkW hsW
           have hqW := (hkW _ (Nat.ne_of_lt (Nat.lt_succ_self _))).trans (HQ.out _)
           obtain ⟨l0, l1, l2⟩ := HLN.out W W hqW (Below.refl _ _)
           obtain ⟨r0, r1, r2, r3, r4, r5⟩ := HRC.out W W hW (Below.refl _ _)
           have HW := Lib.hid hW
           have HQW := Lib.hid hqW
           obtain ⟨a0, _, _⟩ := HLN.out W (W.alloc (.cells #[.int .u8 83, .int .u8 76] 5)) hqW ((Below.refl _ _).alloc (Nat.le_refl _) _)
           clear hW hkW hsW hqW)
        | (go_at_call_of 24 (Value.int .i64 l.g); with_reducible (refine Calls.mono (H0.out _) ?_); rintro e w1 ⟨rfl, rfl⟩)
        | (go_at_call_of 24 (Value.int .i64 l.s); with_reducible (refine Calls.mono (H1.out _) ?_); rintro e w1 ⟨rfl, rfl⟩)
        | (go_at_call_of 24 (Value.int .i64 l.r.k); with_reducible (refine Calls.mono (H2.out _) ?_); rintro e w1 ⟨rfl, rfl⟩)
        | (go_at_call_of 24 (Value.int .i64 l.r.a); with_reducible (refine Calls.mono (H3.out _) ?_); rintro e w1 ⟨rfl, rfl⟩)
        | (go_at_call_of 24 (Value.int .i64 l.r.b); with_reducible (refine Calls.mono (H4.out _) ?_); rintro e w1 ⟨rfl, rfl⟩)
        | (go_at_call_of 24 (Value.int .i64 l.r.c); with_reducible (refine Calls.mono (H5.out _) ?_); rintro e w1 ⟨rfl, rfl⟩)
        | (go_at_call_of 24 (Value.int .i64 l.r.d); with_reducible (refine Calls.mono (H6.out _) ?_); rintro e w1 ⟨rfl, rfl⟩)
        | (have hguard := ow8; clear hguard; go_at_call 25; with_reducible (refine Calls.mono (P9.out W.heap.size _ _ ow8 bb8.size) ?_); rintro e w10 ⟨v9, rfl, ow9, hb9⟩; have bb9 := bb8.trans hb9; clear P9 ow8; obtain ⟨l0, l1, l2⟩ := HLN.out W w10 HQW.out bb9; obtain ⟨r0, r1, r2, r3, r4, r5⟩ := HRC.out W w10 HW.out bb9)
        | (have hguard := ow7; clear hguard; go_at_call 25; with_reducible (refine Calls.mono (P8.out W.heap.size _ _ ow7 bb7.size) ?_); rintro e w9 ⟨v8, rfl, ow8, hb8⟩; have bb8 := bb7.trans hb8; clear P8 ow7; obtain ⟨l0, l1, l2⟩ := HLN.out W w9 HQW.out bb8; obtain ⟨r0, r1, r2, r3, r4, r5⟩ := HRC.out W w9 HW.out bb8)
        | (have hguard := ow6; clear hguard; go_at_call 25; with_reducible (refine Calls.mono (P7.out W.heap.size _ _ ow6 bb6.size) ?_); rintro e w8 ⟨v7, rfl, ow7, hb7⟩; have bb7 := bb6.trans hb7; clear P7 ow6; obtain ⟨l0, l1, l2⟩ := HLN.out W w8 HQW.out bb7; obtain ⟨r0, r1, r2, r3, r4, r5⟩ := HRC.out W w8 HW.out bb7)
        | (have hguard := ow5; clear hguard; go_at_call 25; with_reducible (refine Calls.mono (P6.out W.heap.size _ _ ow5 bb5.size) ?_); rintro e w7 ⟨v6, rfl, ow6, hb6⟩; have bb6 := bb5.trans hb6; clear P6 ow5; obtain ⟨l0, l1, l2⟩ := HLN.out W w7 HQW.out bb6; obtain ⟨r0, r1, r2, r3, r4, r5⟩ := HRC.out W w7 HW.out bb6)
        | (have hguard := ow4; clear hguard; go_at_call 25; with_reducible (refine Calls.mono (P5.out W.heap.size _ _ ow4 bb4.size) ?_); rintro e w6 ⟨v5, rfl, ow5, hb5⟩; have bb5 := bb4.trans hb5; clear P5 ow4; obtain ⟨l0, l1, l2⟩ := HLN.out W w6 HQW.out bb5; obtain ⟨r0, r1, r2, r3, r4, r5⟩ := HRC.out W w6 HW.out bb5)
        | (have hguard := ow3; clear hguard; go_at_call 25; with_reducible (refine Calls.mono (P4.out W.heap.size _ _ ow3 bb3.size) ?_); rintro e w5 ⟨v4, rfl, ow4, hb4⟩; have bb4 := bb3.trans hb4; clear P4 ow3; obtain ⟨l0, l1, l2⟩ := HLN.out W w5 HQW.out bb4; obtain ⟨r0, r1, r2, r3, r4, r5⟩ := HRC.out W w5 HW.out bb4)
        | (have hguard := ow2; clear hguard; go_at_call 25; with_reducible (refine Calls.mono (P3.out W.heap.size _ _ ow2 bb2.size) ?_); rintro e w4 ⟨v3, rfl, ow3, hb3⟩; have bb3 := bb2.trans hb3; clear P3 ow2; obtain ⟨l0, l1, l2⟩ := HLN.out W w4 HQW.out bb3; obtain ⟨r0, r1, r2, r3, r4, r5⟩ := HRC.out W w4 HW.out bb3)
        | (have hguard := ow1; clear hguard; go_at_call 25; with_reducible (refine Calls.mono (P2.out W.heap.size _ _ ow1 bb1.size) ?_); rintro e w3 ⟨v2, rfl, ow2, hb2⟩; have bb2 := bb1.trans hb2; clear P2 ow1; obtain ⟨l0, l1, l2⟩ := HLN.out W w3 HQW.out bb2; obtain ⟨r0, r1, r2, r3, r4, r5⟩ := HRC.out W w3 HW.out bb2)
        | (go_at_call 25; have ow0 : (W.alloc (.cells #[.int .u8 83, .int .u8 76] 5)).ownsRow W.heap.size 5 1 (.slice (some ⟨W.heap.size, 0, none⟩) 2 2) X0.length (X0.map (Value.int .u8)) := (by rw [HX0.out]; exact World.ownsRow_lit (base := W.heap.size) (e := 5) (size := 1) W #[.int .u8 83, .int .u8 76] 2 (Nat.le_refl _) (by decide) rfl); have bb0 : Below W.heap.size W (W.alloc (.cells #[.int .u8 83, .int .u8 76] 5)) := (Below.refl _ _).alloc (Nat.le_refl _) _; with_reducible (refine Calls.mono (P1.out W.heap.size _ _ ow0 bb0.size) ?_); rintro e w2 ⟨v1, rfl, ow1, hb1⟩; have bb1 := bb0.trans hb1; clear P1 ow0; obtain ⟨l0, l1, l2⟩ := HLN.out W w2 HQW.out bb1; obtain ⟨r0, r1, r2, r3, r4, r5⟩ := HRC.out W w2 HW.out bb1)
        | (have hguard := ow9; clear hguard; at_builtin; refine Lib.wpList_append_own_string _ rfl _ _ 26 9 rfl W.heap.size 5 i0 Try.underlying26 Try.underlying9 hi8 hz0 hz1 hz2 _ _ _ rfl ow9 ky rfl ?e1 ?e2 bb9.size ?_))
      case e1 => unfold maxLen; omega
      case e2 => omega
      intro vk wk owk hgk _
      have bbk : Below W.heap.size W wk := bb9.grown hgk bb9.size fun q9 hq9 => (ow9.lt q9 hq9).1
      have owT : wk.ownsRow W.heap.size 5 1 vk T.length (T.map (Value.int .u8)) := by
        rw [nT, HT.out, List.map_append, ← strCells_keyI]; exact owk
      rw [nT] at owT
      obtain ⟨A0, c0, rfl⟩ := own_slice owT
      have HO := Lib.hid (And.intro owT bbk)
      clear owk hgk owT bbk ow9 bb9
      go_wp2
      go_loopw [6] (fun v wr => ∃ k : Nat, k ≤ 3 ∧ (∃ A c, v = .slice A (57 + k) c) ∧ Hid (wr.ownsRow W.heap.size 5 1 v (57 + k) ((T ++ List.replicate k 0).map (Value.int .u8)) ∧ Below W.heap.size W wr)) (fun v _ => match v with | .slice _ n _ => 60 - n | _ => 0)
      case atStart => exact ⟨0, Nat.zero_le _, ⟨A0, c0, rfl⟩, by rw [List.replicate_zero, List.append_nil]; exact HO.out⟩
      case round =>
        obtain ⟨k, hkm, ⟨A1, c1, rfl⟩, hS⟩ := hrel
        clear HO
        by_cases hlt : k < 3
        · obtain ⟨hownr, hbel⟩ := hS.out
          have k1 : (57 : Int) + (k : Int) < 60 := by omega
          clear hS
          go_wp2_with (at_builtin; refine wpList_append_own_at _ rfl _ _ 26 rfl W.heap.size 5 i0 (.int .u8 0) 1 1 Try.underlying26 hi8 hz0 hz1 hz2 rfl (by decide) _ _ _ rfl (hownr.alloc _) ⟨wr.heap.size, 0, none⟩ 1 1 [_] rfl rfl (cell_one_new _ _ _) ?c2 ?c3 ?c4 ?c5 ?_)
          case c2 => intro u hu; simp at hu; subst hu; rfl
          case c3 => unfold maxLen; omega
          case c4 => omega
          case c5 => have := hbel.size; simp; omega
          intro v1 w1 hown1 hgrow _ _
          have R1 : Hid (w1.ownsRow W.heap.size 5 1 v1 (57 + (k + 1)) ((T ++ List.replicate (k + 1) 0).map (Value.int .u8)) ∧ Below W.heap.size W w1) := by
            refine ⟨?_, (hbel.alloc hbel.size _).grown hgrow (by have := hbel.size; simp; omega) fun q hq => (hownr.lt q hq).1⟩
            rw [List.replicate_succ', List.map_append, List.map_append, List.map_replicate, ← Nat.add_assoc]; exact hown1
          obtain ⟨A3, c3, rfl⟩ := own_slice R1.out.1
          clear hown1 hgrow hownr hbel
          go_wp2
          go_roundw
          case rel => first | exact ⟨k + 1, by omega, ⟨A3, c3, rfl⟩, R1⟩ | ((repeat apply Exists.intro); exact ⟨⟨k + 1, by omega, ⟨A3, c3, rfl⟩, R1⟩, rfl⟩)
          case measure => first | (simp; done) | (simp; omega)
        · have hk8 : k = 3 := by omega
          subst hk8
          obtain ⟨hownr, hbel⟩ := hS.out
          rw [← HBD.out] at hownr
          have hI : Ints wr wr.heap.size .u8 A1 Bd := Ints.of_own (n := 60) (c := c1) (by rw [hbl]; exact hownr)
          have HSC := Lib.hid (refSumL_any A1 c1 wr.heap.size Bd wr hI HBM.out (by omega))
          rw [hbl] at HSC
          have HPL := Lib.hid (putX (s := 4) (n := ((moreN 0 (nb Bd) : Nat) : Int)) (base := W.heap.size) (v := .slice A1 60 c1) (X := Bd) (w := wr) (by rw [hbl]; exact hownr) hbel.size (by omega) (by omega) (by have := HSUM.out; omega))
          have hne : nextX Bd ((moreN 0 (nb Bd) : Nat) : Int) 4 = encB l := HENC.out.symm
          rw [hne] at HPL
          have hel : (encB l).length = 64 := by rw [HENC.out, List.length_append, hbl, bytesOf_len]
          rw [hel] at HPL
          have hsm := HSUM.out
          have HEL := Lib.hid hel
          obtain ⟨sm, hsme⟩ : ∃ s : Int, s = ((moreN 0 (nb Bd) : Nat) : Int) := ⟨_, rfl⟩
          rw [← hsme] at HSC HPL hsm
          have hbw := Lib.hid (hbW.trans (hbel.mono hbW.size))
          have HBZ := Lib.hid hbel
          clear hS hownr hbel hI hne hel hsme HENC HBD
          go_wp2_with (first
            | (go_at_call 26; with_reducible (refine Calls.mono HSC.out ?_); rintro e w5 ⟨rfl, rfl⟩)
            | (go_at_call 25; with_reducible (refine Calls.mono HPL.out ?_); rintro e w6 ⟨v6, rfl, ow6, hb6⟩))
          obtain ⟨A6, c6, rfl⟩ := own_slice ow6
          have R2 : Hid (64 ≤ c6 ∧ Ints w6 w6.heap.size .u8 A6 (encB l) ∧ Below w.heap.size w w6) := ⟨own_le ow6, Ints.of_own (n := 64) (c := c6) (by rw [HEL.out]; exact ow6), hbw.out.trans (hb6.mono hbW.size)⟩
          clear ow6 hb6
          go_ret2
          exact ⟨A6, c6, rfl, R2.out.1, R2.out.2.1, R2.out.2.2⟩
  · rw [show lastN true = 1 from rfl] at P3
    rcases hk with hk | hk
    · have kA : ((ky.size : Int) != 0) = false := by rw [bne_eq_false_iff_eq]; omega
      have kB : ((ky.size : Int) == 0) = true := by rw [beq_iff_eq]; omega
      have kC : ((ky.size : Int) != 16) = true := by rw [bne_iff_ne]; omega
      have kD : ((ky.size : Int) == 16) = false := by rw [beq_eq_false_iff_ne]; omega
      have P9' : Hid (∀ (B : Nat) (v : Value) (W : World), W.ownsRow B 5 1 v X8.length (X8.map (Value.int .u8)) → B ≤ W.heap.size → Calls Try.prog 25 #[v, .int .i64 0, .int .i64 1] W fun e w' => ∃ v', e = .returned v' ∧ w'.ownsRow B 5 1 v' X9.length (X9.map (Value.int .u8)) ∧ Below B W w') := by
        have h := P9.out
        rw [← HKY.out, hk] at h
        exact h
      replace P9 := P9'
      clear P9'
      obtain ⟨T, hT⟩ : ∃ T, T = X9 ++ keyI ky := ⟨_, rfl⟩
      have nT : T.length = 41 := by rw [hT, List.length_append, n9, HKL.out, hk]
      have HT := Lib.hid hT
      have hbd : Bd = T ++ List.replicate 19 0 := by rw [HBODY.out, ← hT, hk]
      have HBD := Lib.hid hbd
      have HKS := Lib.hid hk
      clear hT hbd HBODY HKL
      go_enter Try.func11, Try.ntmps11
      go_wp2_with (first
        | (refine wpList_load_mid rfl 23 _ rfl w.heap.size 3 rfl C _ HRA.out Try.underlying23 rfl hinf2 ?_; rw [hRT])
        | (refine wpList_store_fresh rfl 23 _ _ rfl (w.heap.size + 1) R rfl rfl 23 _ HZ.out hinf hold.out hone (HB.out _ _) (Nat.le_succ _) ?_; intro W hW hbW hkW hsW
           have hqW := (hkW _ (Nat.ne_of_lt (Nat.lt_succ_self _))).trans (HQ.out _)
           obtain ⟨l0, l1, l2⟩ := HLN.out W W hqW (Below.refl _ _)
           obtain ⟨r0, r1, r2, r3, r4, r5⟩ := HRC.out W W hW (Below.refl _ _)
           have HW := Lib.hid hW
           have HQW := Lib.hid hqW
           obtain ⟨a0, _, _⟩ := HLN.out W (W.alloc (.cells #[.int .u8 83, .int .u8 76] 5)) hqW ((Below.refl _ _).alloc (Nat.le_refl _) _)
           clear hW hkW hsW hqW)
        | (go_at_call_of 24 (Value.int .i64 l.g); with_reducible (refine Calls.mono (H0.out _) ?_); rintro e w1 ⟨rfl, rfl⟩)
        | (go_at_call_of 24 (Value.int .i64 l.s); with_reducible (refine Calls.mono (H1.out _) ?_); rintro e w1 ⟨rfl, rfl⟩)
        | (go_at_call_of 24 (Value.int .i64 l.r.k); with_reducible (refine Calls.mono (H2.out _) ?_); rintro e w1 ⟨rfl, rfl⟩)
        | (go_at_call_of 24 (Value.int .i64 l.r.a); with_reducible (refine Calls.mono (H3.out _) ?_); rintro e w1 ⟨rfl, rfl⟩)
        | (go_at_call_of 24 (Value.int .i64 l.r.b); with_reducible (refine Calls.mono (H4.out _) ?_); rintro e w1 ⟨rfl, rfl⟩)
        | (go_at_call_of 24 (Value.int .i64 l.r.c); with_reducible (refine Calls.mono (H5.out _) ?_); rintro e w1 ⟨rfl, rfl⟩)
        | (go_at_call_of 24 (Value.int .i64 l.r.d); with_reducible (refine Calls.mono (H6.out _) ?_); rintro e w1 ⟨rfl, rfl⟩)
        | (have hguard := ow8; clear hguard; go_at_call 25; with_reducible (refine Calls.mono (P9.out W.heap.size _ _ ow8 bb8.size) ?_); rintro e w10 ⟨v9, rfl, ow9, hb9⟩; have bb9 := bb8.trans hb9; clear P9 ow8; obtain ⟨l0, l1, l2⟩ := HLN.out W w10 HQW.out bb9; obtain ⟨r0, r1, r2, r3, r4, r5⟩ := HRC.out W w10 HW.out bb9)
        | (have hguard := ow7; clear hguard; go_at_call 25; with_reducible (refine Calls.mono (P8.out W.heap.size _ _ ow7 bb7.size) ?_); rintro e w9 ⟨v8, rfl, ow8, hb8⟩; have bb8 := bb7.trans hb8; clear P8 ow7; obtain ⟨l0, l1, l2⟩ := HLN.out W w9 HQW.out bb8; obtain ⟨r0, r1, r2, r3, r4, r5⟩ := HRC.out W w9 HW.out bb8)
        | (have hguard := ow6; clear hguard; go_at_call 25; with_reducible (refine Calls.mono (P7.out W.heap.size _ _ ow6 bb6.size) ?_); rintro e w8 ⟨v7, rfl, ow7, hb7⟩; have bb7 := bb6.trans hb7; clear P7 ow6; obtain ⟨l0, l1, l2⟩ := HLN.out W w8 HQW.out bb7; obtain ⟨r0, r1, r2, r3, r4, r5⟩ := HRC.out W w8 HW.out bb7)
        | (have hguard := ow5; clear hguard; go_at_call 25; with_reducible (refine Calls.mono (P6.out W.heap.size _ _ ow5 bb5.size) ?_); rintro e w7 ⟨v6, rfl, ow6, hb6⟩; have bb6 := bb5.trans hb6; clear P6 ow5; obtain ⟨l0, l1, l2⟩ := HLN.out W w7 HQW.out bb6; obtain ⟨r0, r1, r2, r3, r4, r5⟩ := HRC.out W w7 HW.out bb6)
        | (have hguard := ow4; clear hguard; go_at_call 25; with_reducible (refine Calls.mono (P5.out W.heap.size _ _ ow4 bb4.size) ?_); rintro e w6 ⟨v5, rfl, ow5, hb5⟩; have bb5 := bb4.trans hb5; clear P5 ow4; obtain ⟨l0, l1, l2⟩ := HLN.out W w6 HQW.out bb5; obtain ⟨r0, r1, r2, r3, r4, r5⟩ := HRC.out W w6 HW.out bb5)
        | (have hguard := ow3; clear hguard; go_at_call 25; with_reducible (refine Calls.mono (P4.out W.heap.size _ _ ow3 bb3.size) ?_); rintro e w5 ⟨v4, rfl, ow4, hb4⟩; have bb4 := bb3.trans hb4; clear P4 ow3; obtain ⟨l0, l1, l2⟩ := HLN.out W w5 HQW.out bb4; obtain ⟨r0, r1, r2, r3, r4, r5⟩ := HRC.out W w5 HW.out bb4)
        | (have hguard := ow2; clear hguard; go_at_call 25; with_reducible (refine Calls.mono (P3.out W.heap.size _ _ ow2 bb2.size) ?_); rintro e w4 ⟨v3, rfl, ow3, hb3⟩; have bb3 := bb2.trans hb3; clear P3 ow2; obtain ⟨l0, l1, l2⟩ := HLN.out W w4 HQW.out bb3; obtain ⟨r0, r1, r2, r3, r4, r5⟩ := HRC.out W w4 HW.out bb3)
        | (have hguard := ow1; clear hguard; go_at_call 25; with_reducible (refine Calls.mono (P2.out W.heap.size _ _ ow1 bb1.size) ?_); rintro e w3 ⟨v2, rfl, ow2, hb2⟩; have bb2 := bb1.trans hb2; clear P2 ow1; obtain ⟨l0, l1, l2⟩ := HLN.out W w3 HQW.out bb2; obtain ⟨r0, r1, r2, r3, r4, r5⟩ := HRC.out W w3 HW.out bb2)
        | (go_at_call 25; have ow0 : (W.alloc (.cells #[.int .u8 83, .int .u8 76] 5)).ownsRow W.heap.size 5 1 (.slice (some ⟨W.heap.size, 0, none⟩) 2 2) X0.length (X0.map (Value.int .u8)) := (by rw [HX0.out]; exact World.ownsRow_lit (base := W.heap.size) (e := 5) (size := 1) W #[.int .u8 83, .int .u8 76] 2 (Nat.le_refl _) (by decide) rfl); have bb0 : Below W.heap.size W (W.alloc (.cells #[.int .u8 83, .int .u8 76] 5)) := (Below.refl _ _).alloc (Nat.le_refl _) _; with_reducible (refine Calls.mono (P1.out W.heap.size _ _ ow0 bb0.size) ?_); rintro e w2 ⟨v1, rfl, ow1, hb1⟩; have bb1 := bb0.trans hb1; clear P1 ow0; obtain ⟨l0, l1, l2⟩ := HLN.out W w2 HQW.out bb1; obtain ⟨r0, r1, r2, r3, r4, r5⟩ := HRC.out W w2 HW.out bb1)
        | (have hguard := ow9; clear hguard; at_builtin; refine Lib.wpList_append_own_string _ rfl _ _ 26 9 rfl W.heap.size 5 i0 Try.underlying26 Try.underlying9 hi8 hz0 hz1 hz2 _ _ _ rfl ow9 ky rfl ?e1 ?e2 bb9.size ?_))
      case e1 => unfold maxLen; omega
      case e2 => omega
      intro vk wk owk hgk _
      have bbk : Below W.heap.size W wk := bb9.grown hgk bb9.size fun q9 hq9 => (ow9.lt q9 hq9).1
      have owT : wk.ownsRow W.heap.size 5 1 vk T.length (T.map (Value.int .u8)) := by
        rw [nT, HT.out, List.map_append, ← strCells_keyI]; exact owk
      rw [nT] at owT
      obtain ⟨A0, c0, rfl⟩ := own_slice owT
      have HO := Lib.hid (And.intro owT bbk)
      clear owk hgk owT bbk ow9 bb9
      go_wp2
      go_loopw [6] (fun v wr => ∃ k : Nat, k ≤ 19 ∧ (∃ A c, v = .slice A (41 + k) c) ∧ Hid (wr.ownsRow W.heap.size 5 1 v (41 + k) ((T ++ List.replicate k 0).map (Value.int .u8)) ∧ Below W.heap.size W wr)) (fun v _ => match v with | .slice _ n _ => 60 - n | _ => 0)
      case atStart => exact ⟨0, Nat.zero_le _, ⟨A0, c0, rfl⟩, by rw [List.replicate_zero, List.append_nil]; exact HO.out⟩
      case round =>
        obtain ⟨k, hkm, ⟨A1, c1, rfl⟩, hS⟩ := hrel
        clear HO
        by_cases hlt : k < 19
        · obtain ⟨hownr, hbel⟩ := hS.out
          have k1 : (41 : Int) + (k : Int) < 60 := by omega
          clear hS
          go_wp2_with (at_builtin; refine wpList_append_own_at _ rfl _ _ 26 rfl W.heap.size 5 i0 (.int .u8 0) 1 1 Try.underlying26 hi8 hz0 hz1 hz2 rfl (by decide) _ _ _ rfl (hownr.alloc _) ⟨wr.heap.size, 0, none⟩ 1 1 [_] rfl rfl (cell_one_new _ _ _) ?c2 ?c3 ?c4 ?c5 ?_)
          case c2 => intro u hu; simp at hu; subst hu; rfl
          case c3 => unfold maxLen; omega
          case c4 => omega
          case c5 => have := hbel.size; simp; omega
          intro v1 w1 hown1 hgrow _ _
          have R1 : Hid (w1.ownsRow W.heap.size 5 1 v1 (41 + (k + 1)) ((T ++ List.replicate (k + 1) 0).map (Value.int .u8)) ∧ Below W.heap.size W w1) := by
            refine ⟨?_, (hbel.alloc hbel.size _).grown hgrow (by have := hbel.size; simp; omega) fun q hq => (hownr.lt q hq).1⟩
            rw [List.replicate_succ', List.map_append, List.map_append, List.map_replicate, ← Nat.add_assoc]; exact hown1
          obtain ⟨A3, c3, rfl⟩ := own_slice R1.out.1
          clear hown1 hgrow hownr hbel
          go_wp2
          go_roundw
          case rel => first | exact ⟨k + 1, by omega, ⟨A3, c3, rfl⟩, R1⟩ | ((repeat apply Exists.intro); exact ⟨⟨k + 1, by omega, ⟨A3, c3, rfl⟩, R1⟩, rfl⟩)
          case measure => first | (simp; done) | (simp; omega)
        · have hk8 : k = 19 := by omega
          subst hk8
          obtain ⟨hownr, hbel⟩ := hS.out
          rw [← HBD.out] at hownr
          have hI : Ints wr wr.heap.size .u8 A1 Bd := Ints.of_own (n := 60) (c := c1) (by rw [hbl]; exact hownr)
          have HSC := Lib.hid (refSumL_any A1 c1 wr.heap.size Bd wr hI HBM.out (by omega))
          rw [hbl] at HSC
          have HPL := Lib.hid (putX (s := 4) (n := ((moreN 0 (nb Bd) : Nat) : Int)) (base := W.heap.size) (v := .slice A1 60 c1) (X := Bd) (w := wr) (by rw [hbl]; exact hownr) hbel.size (by omega) (by omega) (by have := HSUM.out; omega))
          have hne : nextX Bd ((moreN 0 (nb Bd) : Nat) : Int) 4 = encB l := HENC.out.symm
          rw [hne] at HPL
          have hel : (encB l).length = 64 := by rw [HENC.out, List.length_append, hbl, bytesOf_len]
          rw [hel] at HPL
          have hsm := HSUM.out
          have HEL := Lib.hid hel
          obtain ⟨sm, hsme⟩ : ∃ s : Int, s = ((moreN 0 (nb Bd) : Nat) : Int) := ⟨_, rfl⟩
          rw [← hsme] at HSC HPL hsm
          have hbw := Lib.hid (hbW.trans (hbel.mono hbW.size))
          have HBZ := Lib.hid hbel
          clear hS hownr hbel hI hne hel hsme HENC HBD
          go_wp2_with (first
            | (go_at_call 26; with_reducible (refine Calls.mono HSC.out ?_); rintro e w5 ⟨rfl, rfl⟩)
            | (go_at_call 25; with_reducible (refine Calls.mono HPL.out ?_); rintro e w6 ⟨v6, rfl, ow6, hb6⟩))
          obtain ⟨A6, c6, rfl⟩ := own_slice ow6
          have R2 : Hid (64 ≤ c6 ∧ Ints w6 w6.heap.size .u8 A6 (encB l) ∧ Below w.heap.size w w6) := ⟨own_le ow6, Ints.of_own (n := 64) (c := c6) (by rw [HEL.out]; exact ow6), hbw.out.trans (hb6.mono hbW.size)⟩
          clear ow6 hb6
          go_ret2
          exact ⟨A6, c6, rfl, R2.out.1, R2.out.2.1, R2.out.2.2⟩
    · have kA : ((ky.size : Int) != 0) = true := by rw [bne_iff_ne]; omega
      have kB : ((ky.size : Int) == 0) = false := by rw [beq_eq_false_iff_ne]; omega
      have kC : ((ky.size : Int) != 16) = false := by rw [bne_eq_false_iff_eq]; omega
      have kD : ((ky.size : Int) == 16) = true := by rw [beq_iff_eq]; omega
      have P9' : Hid (∀ (B : Nat) (v : Value) (W : World), W.ownsRow B 5 1 v X8.length (X8.map (Value.int .u8)) → B ≤ W.heap.size → Calls Try.prog 25 #[v, .int .i64 16, .int .i64 1] W fun e w' => ∃ v', e = .returned v' ∧ w'.ownsRow B 5 1 v' X9.length (X9.map (Value.int .u8)) ∧ Below B W w') := by
        have h := P9.out
        rw [← HKY.out, hk] at h
        exact h
      replace P9 := P9'
      clear P9'
      obtain ⟨T, hT⟩ : ∃ T, T = X9 ++ keyI ky := ⟨_, rfl⟩
      have nT : T.length = 57 := by rw [hT, List.length_append, n9, HKL.out, hk]
      have HT := Lib.hid hT
      have hbd : Bd = T ++ List.replicate 3 0 := by rw [HBODY.out, ← hT, hk]
      have HBD := Lib.hid hbd
      have HKS := Lib.hid hk
      clear hT hbd HBODY HKL
      go_enter Try.func11, Try.ntmps11
      go_wp2_with (first
        | (refine wpList_load_mid rfl 23 _ rfl w.heap.size 3 rfl C _ HRA.out Try.underlying23 rfl hinf2 ?_; rw [hRT])
        | (refine wpList_store_fresh rfl 23 _ _ rfl (w.heap.size + 1) R rfl rfl 23 _ HZ.out hinf hold.out hone (HB.out _ _) (Nat.le_succ _) ?_; intro W hW hbW hkW hsW
           have hqW := (hkW _ (Nat.ne_of_lt (Nat.lt_succ_self _))).trans (HQ.out _)
           obtain ⟨l0, l1, l2⟩ := HLN.out W W hqW (Below.refl _ _)
           obtain ⟨r0, r1, r2, r3, r4, r5⟩ := HRC.out W W hW (Below.refl _ _)
           have HW := Lib.hid hW
           have HQW := Lib.hid hqW
           obtain ⟨a0, _, _⟩ := HLN.out W (W.alloc (.cells #[.int .u8 83, .int .u8 76] 5)) hqW ((Below.refl _ _).alloc (Nat.le_refl _) _)
           clear hW hkW hsW hqW)
        | (go_at_call_of 24 (Value.int .i64 l.g); with_reducible (refine Calls.mono (H0.out _) ?_); rintro e w1 ⟨rfl, rfl⟩)
        | (go_at_call_of 24 (Value.int .i64 l.s); with_reducible (refine Calls.mono (H1.out _) ?_); rintro e w1 ⟨rfl, rfl⟩)
        | (go_at_call_of 24 (Value.int .i64 l.r.k); with_reducible (refine Calls.mono (H2.out _) ?_); rintro e w1 ⟨rfl, rfl⟩)
        | (go_at_call_of 24 (Value.int .i64 l.r.a); with_reducible (refine Calls.mono (H3.out _) ?_); rintro e w1 ⟨rfl, rfl⟩)
        | (go_at_call_of 24 (Value.int .i64 l.r.b); with_reducible (refine Calls.mono (H4.out _) ?_); rintro e w1 ⟨rfl, rfl⟩)
        | (go_at_call_of 24 (Value.int .i64 l.r.c); with_reducible (refine Calls.mono (H5.out _) ?_); rintro e w1 ⟨rfl, rfl⟩)
        | (go_at_call_of 24 (Value.int .i64 l.r.d); with_reducible (refine Calls.mono (H6.out _) ?_); rintro e w1 ⟨rfl, rfl⟩)
        | (have hguard := ow8; clear hguard; go_at_call 25; with_reducible (refine Calls.mono (P9.out W.heap.size _ _ ow8 bb8.size) ?_); rintro e w10 ⟨v9, rfl, ow9, hb9⟩; have bb9 := bb8.trans hb9; clear P9 ow8; obtain ⟨l0, l1, l2⟩ := HLN.out W w10 HQW.out bb9; obtain ⟨r0, r1, r2, r3, r4, r5⟩ := HRC.out W w10 HW.out bb9)
        | (have hguard := ow7; clear hguard; go_at_call 25; with_reducible (refine Calls.mono (P8.out W.heap.size _ _ ow7 bb7.size) ?_); rintro e w9 ⟨v8, rfl, ow8, hb8⟩; have bb8 := bb7.trans hb8; clear P8 ow7; obtain ⟨l0, l1, l2⟩ := HLN.out W w9 HQW.out bb8; obtain ⟨r0, r1, r2, r3, r4, r5⟩ := HRC.out W w9 HW.out bb8)
        | (have hguard := ow6; clear hguard; go_at_call 25; with_reducible (refine Calls.mono (P7.out W.heap.size _ _ ow6 bb6.size) ?_); rintro e w8 ⟨v7, rfl, ow7, hb7⟩; have bb7 := bb6.trans hb7; clear P7 ow6; obtain ⟨l0, l1, l2⟩ := HLN.out W w8 HQW.out bb7; obtain ⟨r0, r1, r2, r3, r4, r5⟩ := HRC.out W w8 HW.out bb7)
        | (have hguard := ow5; clear hguard; go_at_call 25; with_reducible (refine Calls.mono (P6.out W.heap.size _ _ ow5 bb5.size) ?_); rintro e w7 ⟨v6, rfl, ow6, hb6⟩; have bb6 := bb5.trans hb6; clear P6 ow5; obtain ⟨l0, l1, l2⟩ := HLN.out W w7 HQW.out bb6; obtain ⟨r0, r1, r2, r3, r4, r5⟩ := HRC.out W w7 HW.out bb6)
        | (have hguard := ow4; clear hguard; go_at_call 25; with_reducible (refine Calls.mono (P5.out W.heap.size _ _ ow4 bb4.size) ?_); rintro e w6 ⟨v5, rfl, ow5, hb5⟩; have bb5 := bb4.trans hb5; clear P5 ow4; obtain ⟨l0, l1, l2⟩ := HLN.out W w6 HQW.out bb5; obtain ⟨r0, r1, r2, r3, r4, r5⟩ := HRC.out W w6 HW.out bb5)
        | (have hguard := ow3; clear hguard; go_at_call 25; with_reducible (refine Calls.mono (P4.out W.heap.size _ _ ow3 bb3.size) ?_); rintro e w5 ⟨v4, rfl, ow4, hb4⟩; have bb4 := bb3.trans hb4; clear P4 ow3; obtain ⟨l0, l1, l2⟩ := HLN.out W w5 HQW.out bb4; obtain ⟨r0, r1, r2, r3, r4, r5⟩ := HRC.out W w5 HW.out bb4)
        | (have hguard := ow2; clear hguard; go_at_call 25; with_reducible (refine Calls.mono (P3.out W.heap.size _ _ ow2 bb2.size) ?_); rintro e w4 ⟨v3, rfl, ow3, hb3⟩; have bb3 := bb2.trans hb3; clear P3 ow2; obtain ⟨l0, l1, l2⟩ := HLN.out W w4 HQW.out bb3; obtain ⟨r0, r1, r2, r3, r4, r5⟩ := HRC.out W w4 HW.out bb3)
        | (have hguard := ow1; clear hguard; go_at_call 25; with_reducible (refine Calls.mono (P2.out W.heap.size _ _ ow1 bb1.size) ?_); rintro e w3 ⟨v2, rfl, ow2, hb2⟩; have bb2 := bb1.trans hb2; clear P2 ow1; obtain ⟨l0, l1, l2⟩ := HLN.out W w3 HQW.out bb2; obtain ⟨r0, r1, r2, r3, r4, r5⟩ := HRC.out W w3 HW.out bb2)
        | (go_at_call 25; have ow0 : (W.alloc (.cells #[.int .u8 83, .int .u8 76] 5)).ownsRow W.heap.size 5 1 (.slice (some ⟨W.heap.size, 0, none⟩) 2 2) X0.length (X0.map (Value.int .u8)) := (by rw [HX0.out]; exact World.ownsRow_lit (base := W.heap.size) (e := 5) (size := 1) W #[.int .u8 83, .int .u8 76] 2 (Nat.le_refl _) (by decide) rfl); have bb0 : Below W.heap.size W (W.alloc (.cells #[.int .u8 83, .int .u8 76] 5)) := (Below.refl _ _).alloc (Nat.le_refl _) _; with_reducible (refine Calls.mono (P1.out W.heap.size _ _ ow0 bb0.size) ?_); rintro e w2 ⟨v1, rfl, ow1, hb1⟩; have bb1 := bb0.trans hb1; clear P1 ow0; obtain ⟨l0, l1, l2⟩ := HLN.out W w2 HQW.out bb1; obtain ⟨r0, r1, r2, r3, r4, r5⟩ := HRC.out W w2 HW.out bb1)
        | (have hguard := ow9; clear hguard; at_builtin; refine Lib.wpList_append_own_string _ rfl _ _ 26 9 rfl W.heap.size 5 i0 Try.underlying26 Try.underlying9 hi8 hz0 hz1 hz2 _ _ _ rfl ow9 ky rfl ?e1 ?e2 bb9.size ?_))
      case e1 => unfold maxLen; omega
      case e2 => omega
      intro vk wk owk hgk _
      have bbk : Below W.heap.size W wk := bb9.grown hgk bb9.size fun q9 hq9 => (ow9.lt q9 hq9).1
      have owT : wk.ownsRow W.heap.size 5 1 vk T.length (T.map (Value.int .u8)) := by
        rw [nT, HT.out, List.map_append, ← strCells_keyI]; exact owk
      rw [nT] at owT
      obtain ⟨A0, c0, rfl⟩ := own_slice owT
      have HO := Lib.hid (And.intro owT bbk)
      clear owk hgk owT bbk ow9 bb9
      go_wp2
      go_loopw [6] (fun v wr => ∃ k : Nat, k ≤ 3 ∧ (∃ A c, v = .slice A (57 + k) c) ∧ Hid (wr.ownsRow W.heap.size 5 1 v (57 + k) ((T ++ List.replicate k 0).map (Value.int .u8)) ∧ Below W.heap.size W wr)) (fun v _ => match v with | .slice _ n _ => 60 - n | _ => 0)
      case atStart => exact ⟨0, Nat.zero_le _, ⟨A0, c0, rfl⟩, by rw [List.replicate_zero, List.append_nil]; exact HO.out⟩
      case round =>
        obtain ⟨k, hkm, ⟨A1, c1, rfl⟩, hS⟩ := hrel
        clear HO
        by_cases hlt : k < 3
        · obtain ⟨hownr, hbel⟩ := hS.out
          have k1 : (57 : Int) + (k : Int) < 60 := by omega
          clear hS
          go_wp2_with (at_builtin; refine wpList_append_own_at _ rfl _ _ 26 rfl W.heap.size 5 i0 (.int .u8 0) 1 1 Try.underlying26 hi8 hz0 hz1 hz2 rfl (by decide) _ _ _ rfl (hownr.alloc _) ⟨wr.heap.size, 0, none⟩ 1 1 [_] rfl rfl (cell_one_new _ _ _) ?c2 ?c3 ?c4 ?c5 ?_)
          case c2 => intro u hu; simp at hu; subst hu; rfl
          case c3 => unfold maxLen; omega
          case c4 => omega
          case c5 => have := hbel.size; simp; omega
          intro v1 w1 hown1 hgrow _ _
          have R1 : Hid (w1.ownsRow W.heap.size 5 1 v1 (57 + (k + 1)) ((T ++ List.replicate (k + 1) 0).map (Value.int .u8)) ∧ Below W.heap.size W w1) := by
            refine ⟨?_, (hbel.alloc hbel.size _).grown hgrow (by have := hbel.size; simp; omega) fun q hq => (hownr.lt q hq).1⟩
            rw [List.replicate_succ', List.map_append, List.map_append, List.map_replicate, ← Nat.add_assoc]; exact hown1
          obtain ⟨A3, c3, rfl⟩ := own_slice R1.out.1
          clear hown1 hgrow hownr hbel
          go_wp2
          go_roundw
          case rel => first | exact ⟨k + 1, by omega, ⟨A3, c3, rfl⟩, R1⟩ | ((repeat apply Exists.intro); exact ⟨⟨k + 1, by omega, ⟨A3, c3, rfl⟩, R1⟩, rfl⟩)
          case measure => first | (simp; done) | (simp; omega)
        · have hk8 : k = 3 := by omega
          subst hk8
          obtain ⟨hownr, hbel⟩ := hS.out
          rw [← HBD.out] at hownr
          have hI : Ints wr wr.heap.size .u8 A1 Bd := Ints.of_own (n := 60) (c := c1) (by rw [hbl]; exact hownr)
          have HSC := Lib.hid (refSumL_any A1 c1 wr.heap.size Bd wr hI HBM.out (by omega))
          rw [hbl] at HSC
          have HPL := Lib.hid (putX (s := 4) (n := ((moreN 0 (nb Bd) : Nat) : Int)) (base := W.heap.size) (v := .slice A1 60 c1) (X := Bd) (w := wr) (by rw [hbl]; exact hownr) hbel.size (by omega) (by omega) (by have := HSUM.out; omega))
          have hne : nextX Bd ((moreN 0 (nb Bd) : Nat) : Int) 4 = encB l := HENC.out.symm
          rw [hne] at HPL
          have hel : (encB l).length = 64 := by rw [HENC.out, List.length_append, hbl, bytesOf_len]
          rw [hel] at HPL
          have hsm := HSUM.out
          have HEL := Lib.hid hel
          obtain ⟨sm, hsme⟩ : ∃ s : Int, s = ((moreN 0 (nb Bd) : Nat) : Int) := ⟨_, rfl⟩
          rw [← hsme] at HSC HPL hsm
          have hbw := Lib.hid (hbW.trans (hbel.mono hbW.size))
          have HBZ := Lib.hid hbel
          clear hS hownr hbel hI hne hel hsme HENC HBD
          go_wp2_with (first
            | (go_at_call 26; with_reducible (refine Calls.mono HSC.out ?_); rintro e w5 ⟨rfl, rfl⟩)
            | (go_at_call 25; with_reducible (refine Calls.mono HPL.out ?_); rintro e w6 ⟨v6, rfl, ow6, hb6⟩))
          obtain ⟨A6, c6, rfl⟩ := own_slice ow6
          have R2 : Hid (64 ≤ c6 ∧ Ints w6 w6.heap.size .u8 A6 (encB l) ∧ Below w.heap.size w w6) := ⟨own_le ow6, Ints.of_own (n := 64) (c := c6) (by rw [HEL.out]; exact ow6), hbw.out.trans (hb6.mono hbW.size)⟩
          clear ow6 hb6
          go_ret2
          exact ⟨A6, c6, rfl, R2.out.1, R2.out.2.1, R2.out.2.2⟩

end Go.Proofs.Ytbfchclfonicmaa
