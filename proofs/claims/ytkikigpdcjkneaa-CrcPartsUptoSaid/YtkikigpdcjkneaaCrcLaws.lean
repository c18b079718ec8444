/-
  Laws of layer 2 as walks, from what is asked of the layer's functions: CrcSums, CrcZeros, CrcLater, CrcJoins. Conditions: those properties; what comes in is of its type.
-/
import Derived.Test.YtkikigpdcjkneaaCrcSpec
namespace Go.Proofs.Ytkikigpdcjkneaa
open Go.RowKit

theorem crcSums_go (HSum : SumSpec) (HMore : MoreSpec) (A : Option Addr) (c : Nat) (zs : List Int) (s : Nat) (w : World) (hr : Ints w w.heap.size .u8 A zs) (hz : ∀ z ∈ zs, 0 ≤ z ∧ z ≤ 255) (hc : zs.length ≤ c) (hm : zs.length ≤ 9223372036854775807) (hs : s < 2 ^ 32) :
    Calls Try.prog 3 #[.int .u32 (s : Int), .slice A zs.length c] w fun e w' => e = .returned (.bool true) ∧ Below w.heap.size w w' := by
  have H1 := Lib.hid (fun w1 (hb : Below w.heap.size w w1) => HSum A c zs w1 ((hr.below hb).more hb.size) hz hc hm)
  have H2 := Lib.hid (fun w1 (hb : Below w.heap.size w w1) => HMore A c zs s w1 ((hr.below hb).more hb.size) hz hc hm hs)
  have H3 := Lib.hid (fun w1 (hb : Below w.heap.size w w1) => refSum_any A c _ zs w1 (hr.below hb) hz hm)
  have H4 := Lib.hid (fun w1 (hb : Below w.heap.size w w1) => refMore_any A c _ zs s w1 (hr.below hb) hz hm hs)
  have HA := Lib.hid (crcAwake HSum)
  clear hz hs HSum HMore
  obtain ⟨x, hx⟩ : ∃ x, x = moreN 0 (nb zs) := ⟨_, rfl⟩
  obtain ⟨y, hy⟩ : ∃ y, y = moreN s (nb zs) := ⟨_, rfl⟩
  rw [← hx] at H1 H3
  rw [← hy] at H2 H4
  clear hx hy
  go_enter Try.func3, Try.ntmps3
  go_wp2_with (first
    | (go_at_call 11; refine Calls.mono (HA.out _) ?_; rintro e w1 ⟨rfl, hb1⟩)
    | (go_at_call 12; refine Calls.mono (H1.out _ hb1) ?_; rintro e w2 ⟨rfl, hb2⟩; have hc2 := chain hb1 hb2)
    | (go_at_call 13; refine Calls.mono (H3.out _ hc2) ?_; rintro e w3 ⟨rfl, rfl⟩)
    | (go_at_call 14; refine Calls.mono (H2.out _ hc2) ?_; rintro e w4 ⟨rfl, hb4⟩; have hc4 := chain hc2 hb4)
    | (go_at_call 15; refine Calls.mono (H4.out _ hc4) ?_; rintro e w5 ⟨rfl, rfl⟩))
  go_ret
  exact ⟨rfl, hc4⟩

theorem crcZeros_go (HSum : SumSpec) (HZeros : ZerosSpec) (s : Nat) (n : Int) (w : World) (hs : s < 2 ^ 32) (h1 : -9223372036854775808 ≤ n) (h2 : n ≤ 9223372036854775807) :
    Calls Try.prog 4 #[.int .u32 (s : Int), .int .i64 n] w fun e w' => e = .returned (.bool true) ∧ Below w.heap.size w w' := by
  have HA := Lib.hid (crcAwake HSum)
  by_cases h5 : 5000 < n
  · have H1 := Lib.hid (fun w => HZeros s 5000 w hs (by omega) (by omega))
    have H2 := Lib.hid (fun w => refZeros_any s 5000 w hs (by omega))
    clear hs HSum HZeros
    obtain ⟨x, hx⟩ : ∃ x, x = zerosN s (5000 : Int).toNat := ⟨_, rfl⟩
    rw [← hx] at H1 H2
    clear hx
    go_enter Try.func4, Try.ntmps4
    go_wp2_with (first
      | (go_at_call 11; refine Calls.mono (HA.out _) ?_; rintro e w1 ⟨rfl, hb1⟩)
      | (go_at_call 16; refine Calls.mono (H1.out _) ?_; rintro e w2 ⟨rfl, hb2⟩)
      | (go_at_call 17; refine Calls.mono (H2.out _) ?_; rintro e w3 ⟨rfl, hb3⟩))
    go_ret
    exact ⟨rfl, by repeat (first | assumption | refine chain ?_ (by assumption))⟩
  · have H1 := Lib.hid (fun w => HZeros s n w hs (by omega) (by omega))
    have H2 := Lib.hid (fun w => refZeros_any s n w hs (by omega))
    clear hs HSum HZeros
    obtain ⟨x, hx⟩ : ∃ x, x = zerosN s n.toNat := ⟨_, rfl⟩
    rw [← hx] at H1 H2
    clear hx
    go_enter Try.func4, Try.ntmps4
    go_wp2_with (first
      | (go_at_call 11; refine Calls.mono (HA.out _) ?_; rintro e w1 ⟨rfl, hb1⟩)
      | (go_at_call 16; refine Calls.mono (H1.out _) ?_; rintro e w2 ⟨rfl, hb2⟩)
      | (go_at_call 17; refine Calls.mono (H2.out _) ?_; rintro e w3 ⟨rfl, hb3⟩))
    go_ret
    exact ⟨rfl, by repeat (first | assumption | refine chain ?_ (by assumption))⟩

/-- Both numbers of bytes are within the bounds. -/
theorem crcLater_in (HSum : SumSpec) (HZeros : ZerosSpec) (s : Nat) (a b : Int) (w : World) (hs : s < 2 ^ 32) (ha0 : 0 ≤ a) (hb0 : 0 ≤ b) (ha1 : a ≤ 2305843009213693952) (hb1 : b ≤ 2305843009213693952) :
    Calls Try.prog 6 #[.int .u32 (s : Int), .int .i64 a, .int .i64 b] w fun e w' => e = .returned (.bool true) ∧ Below w.heap.size w w' := by
  have HA := Lib.hid (crcAwake HSum)
  have H1 := Lib.hid (fun w => HZeros s a w hs (by omega) (by omega))
  have H2 := Lib.hid (fun w => HZeros (zerosN s a.toNat) b w (zerosN_lt _ _) (by omega) (by omega))
  have H3 := Lib.hid (fun w => HZeros s (a + b) w hs (by omega) (by omega))
  have e := zerosN_add s a.toNat b.toNat
  rw [show a.toNat + b.toNat = (a + b).toNat by omega] at e
  rw [e] at H2
  clear hs HSum HZeros e
  obtain ⟨x, hx⟩ : ∃ x, x = zerosN s a.toNat := ⟨_, rfl⟩
  obtain ⟨y, hy⟩ : ∃ y, y = zerosN s (a + b).toNat := ⟨_, rfl⟩
  rw [← hx] at H1 H2
  rw [← hy] at H2 H3
  clear hx hy
  have q1 : ¬ a < 0 := by omega
  have q2 : ¬ b < 0 := by omega
  have q3 : ¬ 2305843009213693952 < a := by omega
  have q4 : ¬ 2305843009213693952 < b := by omega
  go_enter Try.func6, Try.ntmps6
  go_wp2_with (first
    | (go_at_call 11; refine Calls.mono (HA.out _) ?_; rintro e w1 ⟨rfl, hb1⟩)
    | (go_at_call_of 16 (Value.int .u32 (x : Int)); refine Calls.mono (H2.out _) ?_; rintro e w3 ⟨rfl, hb3⟩)
    | (go_at_call_of 16 (Value.int .i64 a); refine Calls.mono (H1.out _) ?_; rintro e w2 ⟨rfl, hb2⟩)
    | (go_at_call 16; refine Calls.mono (H3.out _) ?_; rintro e w4 ⟨rfl, hb4⟩))
  go_ret
  exact ⟨rfl, by repeat (first | assumption | refine chain ?_ (by assumption))⟩

/-- The first number is below 0. -/
theorem crcLater_neg (HSum : SumSpec) (HZeros : ZerosSpec) (s : Nat) (a b : Int) (w : World) (hs : s < 2 ^ 32) (ha0 : a < 0) (ha2 : -9223372036854775808 ≤ a) :
    Calls Try.prog 6 #[.int .u32 (s : Int), .int .i64 a, .int .i64 b] w fun e w' => e = .returned (.bool true) ∧ Below w.heap.size w w' := by
  have HA := Lib.hid (crcAwake HSum)
  have H1 := fun w => HZeros s a w hs ha2 (by omega)
  rw [show a.toNat = 0 by omega, zerosN_zero hs] at H1
  have H2 := Lib.hid H1
  have q1 : ¬ 0 ≤ a := by omega
  clear hs HSum HZeros H1
  go_enter Try.func6, Try.ntmps6
  go_wp2_with (first
    | (go_at_call 11; refine Calls.mono (HA.out _) ?_; rintro e w1 ⟨rfl, hb1⟩)
    | (go_at_call 16; refine Calls.mono (H2.out _) ?_; rintro e w2 ⟨rfl, hb2⟩))
  go_ret
  exact ⟨rfl, by repeat (first | assumption | refine chain ?_ (by assumption))⟩

/-- The first number is not below 0, and one is out of the bounds. -/
theorem crcLater_out (HSum : SumSpec) (s : Nat) (a b : Int) (w : World) (ha0 : 0 ≤ a) (h : b < 0 ∨ 2305843009213693952 < a ∨ 2305843009213693952 < b) :
    Calls Try.prog 6 #[.int .u32 (s : Int), .int .i64 a, .int .i64 b] w fun e w' => e = .returned (.bool true) ∧ Below w.heap.size w w' := by
  have HA := Lib.hid (crcAwake HSum)
  have q1 : ¬ a < 0 := by omega
  clear HSum
  by_cases hb : b < 0
  · clear h
    go_enter Try.func6, Try.ntmps6
    go_wp2_with (go_at_call 11; refine Calls.mono (HA.out _) ?_; rintro e w1 ⟨rfl, hb1⟩)
    go_ret
    exact ⟨rfl, by assumption⟩
  · by_cases h2 : 2305843009213693952 < a
    · clear h
      go_enter Try.func6, Try.ntmps6
      go_wp2_with (go_at_call 11; refine Calls.mono (HA.out _) ?_; rintro e w1 ⟨rfl, hb1⟩)
      go_ret
      exact ⟨rfl, by assumption⟩
    · have h3 : 2305843009213693952 < b := by omega
      clear h
      go_enter Try.func6, Try.ntmps6
      go_wp2_with (go_at_call 11; refine Calls.mono (HA.out _) ?_; rintro e w1 ⟨rfl, hb1⟩)
      go_ret
      exact ⟨rfl, by assumption⟩

theorem crcLater_go (HSum : SumSpec) (HZeros : ZerosSpec) (s : Nat) (a b : Int) (w : World) (hs : s < 2 ^ 32) (ha : -9223372036854775808 ≤ a ∧ a ≤ 9223372036854775807) :
    Calls Try.prog 6 #[.int .u32 (s : Int), .int .i64 a, .int .i64 b] w fun e w' => e = .returned (.bool true) ∧ Below w.heap.size w w' := by
  by_cases h0 : a < 0
  · exact crcLater_neg HSum HZeros s a b w hs h0 ha.1
  · by_cases h : b < 0 ∨ 2305843009213693952 < a ∨ 2305843009213693952 < b
    · exact crcLater_out HSum s a b w (by omega) h
    · exact crcLater_in HSum HZeros s a b w hs (by omega) (by omega) (by omega) (by omega)

/-- Both numbers of bytes are within the bounds. -/
theorem crcJoins_in (HSum : SumSpec) (HJoin : JoinSpec) (a b c : Nat) (n m : Int) (w : World) (ha : a < 2 ^ 32) (hb : b < 2 ^ 32) (hc : c < 2 ^ 32) (hn0 : 0 ≤ n) (hm0 : 0 ≤ m) (hn1 : n ≤ 2305843009213693952) (hm1 : m ≤ 2305843009213693952) :
    Calls Try.prog 7 #[.int .u32 (a : Int), .int .u32 (b : Int), .int .u32 (c : Int), .int .i64 n, .int .i64 m] w fun e w' => e = .returned (.bool true) ∧ Below w.heap.size w w' := by
  have HA := Lib.hid (crcAwake HSum)
  have H1 := Lib.hid (fun w => HJoin a b n w ha hb (by omega) (by omega))
  have H2 := Lib.hid (fun w => HJoin (joinN a b n.toNat) c m w (joinN_lt ha hb) hc (by omega) (by omega))
  have H3 := Lib.hid (fun w => HJoin b c m w hb hc (by omega) (by omega))
  have H4 := Lib.hid (fun w => HJoin a (joinN b c m.toNat) (n + m) w ha (joinN_lt hb hc) (by omega) (by omega))
  have e := joinN_assoc a b c n.toNat m.toNat ha hb
  rw [show n.toNat + m.toNat = (n + m).toNat by omega] at e
  rw [e] at H2
  clear ha hb hc HSum HJoin e
  obtain ⟨x, hx⟩ : ∃ x, x = joinN a b n.toNat := ⟨_, rfl⟩
  obtain ⟨y, hy⟩ : ∃ y, y = joinN b c m.toNat := ⟨_, rfl⟩
  rw [← hx] at H1 H2
  rw [← hy] at H2 H3 H4
  obtain ⟨z, hz⟩ : ∃ z, z = joinN a y (n + m).toNat := ⟨_, rfl⟩
  rw [← hz] at H2 H4
  clear hx hy hz
  have q1 : ¬ n < 0 := by omega
  have q2 : ¬ m < 0 := by omega
  have q3 : ¬ 2305843009213693952 < n := by omega
  have q4 : ¬ 2305843009213693952 < m := by omega
  go_enter Try.func7, Try.ntmps7
  go_wp2_with (first
    | (go_at_call 11; refine Calls.mono (HA.out _) ?_; rintro e w1 ⟨rfl, hb1⟩)
    | (go_at_call 18; with_reducible (refine Calls.mono (H1.out _) ?_); rintro e w2 ⟨rfl, hb2⟩)
    | (go_at_call 18; with_reducible (refine Calls.mono (H2.out _) ?_); rintro e w2 ⟨rfl, hb2⟩)
    | (go_at_call 18; with_reducible (refine Calls.mono (H3.out _) ?_); rintro e w2 ⟨rfl, hb2⟩)
    | (go_at_call 18; with_reducible (refine Calls.mono (H4.out _) ?_); rintro e w2 ⟨rfl, hb2⟩))
  go_ret
  exact ⟨rfl, by repeat (first | assumption | refine chain ?_ (by assumption))⟩

/-- One number is out of the bounds. -/
theorem crcJoins_out (HSum : SumSpec) (a b c : Nat) (n m : Int) (w : World) (h : n < 0 ∨ m < 0 ∨ 2305843009213693952 < n ∨ 2305843009213693952 < m) :
    Calls Try.prog 7 #[.int .u32 (a : Int), .int .u32 (b : Int), .int .u32 (c : Int), .int .i64 n, .int .i64 m] w fun e w' => e = .returned (.bool true) ∧ Below w.heap.size w w' := by
  have HA := Lib.hid (crcAwake HSum)
  clear HSum
  by_cases h1 : n < 0
  · clear h
    go_enter Try.func7, Try.ntmps7
    go_wp2_with (go_at_call 11; refine Calls.mono (HA.out _) ?_; rintro e w1 ⟨rfl, hb1⟩)
    go_ret
    exact ⟨rfl, by assumption⟩
  · by_cases h2 : m < 0
    · clear h
      go_enter Try.func7, Try.ntmps7
      go_wp2_with (go_at_call 11; refine Calls.mono (HA.out _) ?_; rintro e w1 ⟨rfl, hb1⟩)
      go_ret
      exact ⟨rfl, by assumption⟩
    · by_cases h3 : 2305843009213693952 < n
      · clear h
        go_enter Try.func7, Try.ntmps7
        go_wp2_with (go_at_call 11; refine Calls.mono (HA.out _) ?_; rintro e w1 ⟨rfl, hb1⟩)
        go_ret
        exact ⟨rfl, by assumption⟩
      · have h4 : 2305843009213693952 < m := by omega
        clear h
        go_enter Try.func7, Try.ntmps7
        go_wp2_with (go_at_call 11; refine Calls.mono (HA.out _) ?_; rintro e w1 ⟨rfl, hb1⟩)
        go_ret
        exact ⟨rfl, by assumption⟩

theorem crcJoins_go (HSum : SumSpec) (HJoin : JoinSpec) (a b c : Nat) (n m : Int) (w : World) (ha : a < 2 ^ 32) (hb : b < 2 ^ 32) (hc : c < 2 ^ 32) :
    Calls Try.prog 7 #[.int .u32 (a : Int), .int .u32 (b : Int), .int .u32 (c : Int), .int .i64 n, .int .i64 m] w fun e w' => e = .returned (.bool true) ∧ Below w.heap.size w w' := by
  by_cases h : n < 0 ∨ m < 0 ∨ 2305843009213693952 < n ∨ 2305843009213693952 < m
  · exact crcJoins_out HSum a b c n m w h
  · exact crcJoins_in HSum HJoin a b c n m w ha hb hc (by omega) (by omega) (by omega) (by omega)

end Go.Proofs.Ytkikigpdcjkneaa
