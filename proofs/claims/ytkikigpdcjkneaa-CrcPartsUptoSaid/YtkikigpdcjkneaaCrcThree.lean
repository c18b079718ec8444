/-
  The law CrcThree as a walk, from what is asked of the layer's functions. Conditions: those properties; what comes in is of its type and within the reach.
-/
import Derived.Test.YtkikigpdcjkneaaCrcFinds
import Derived.Deep.DeepCutAuto
namespace Go.Proofs.Ytkikigpdcjkneaa
open Go.RowKit

/-- Three texts added bit by bit, the first k of n bytes done. -/
def added (xs ys zs : List Int) (n k : Nat) : List Int := (List.range n).map fun j => if j < k then (((xs.getD j 0).toNat ^^^ (ys.getD j 0).toNat ^^^ (zs.getD j 0).toNat : Nat) : Int) else 0
theorem added_len (xs ys zs : List Int) (n k : Nat) : (added xs ys zs n k).length = n := by simp [added]
theorem added_zero (xs ys zs : List Int) (n : Nat) : added xs ys zs n 0 = List.replicate n 0 := by
  apply List.ext_getElem
  · simp [added]
  · intro j h1 h2
    simp [added]
theorem added_succ (xs ys zs : List Int) (n k : Nat) :
    (added xs ys zs n k).set k (((xs.getD k 0).toNat ^^^ (ys.getD k 0).toNat ^^^ (zs.getD k 0).toNat : Nat) : Int) = added xs ys zs n (k + 1) := by
  apply List.ext_getElem
  · simp [added]
  · intro j h1 h2
    rw [List.getElem_set]
    simp only [added, List.getElem_map, List.getElem_range]
    by_cases e : k = j
    · subst e; rw [if_pos rfl, if_pos (by omega)]
    · rw [if_neg e]
      by_cases c : j < k
      · rw [if_pos c, if_pos (by omega)]
      · rw [if_neg c, if_neg (by omega)]
theorem added_nb (xs ys zs : List Int) (n : Nat) (h1 : n ≤ xs.length) (h2 : n ≤ ys.length) (h3 : n ≤ zs.length) :
    nb (added xs ys zs n n) = List.zipWith (· ^^^ ·) (List.zipWith (· ^^^ ·) (nb (xs.take n)) (nb (ys.take n))) (nb (zs.take n)) := by
  apply List.ext_getElem
  · simp [nb, added]; omega
  · intro j g1 g2
    have hj : j < n := by simpa [nb, added] using g1
    rw [List.getElem_zipWith, List.getElem_zipWith]
    have a1 : j < xs.length := by omega
    have a2 : j < ys.length := by omega
    have a3 : j < zs.length := by omega
    simp [nb, added, hj, List.getD, a1, a2, a3]
theorem byte_xor3 {a b c : Nat} (ha : a < 256) (hb : b < 256) (hc : c < 256) : a ^^^ b ^^^ c < 256 :=
  Nat.xor_lt_two_pow (n := 8) (Nat.xor_lt_two_pow (n := 8) (by omega) (by omega)) (by omega)
theorem getD_byte {xs : List Int} (hx : ∀ z ∈ xs, 0 ≤ z ∧ z ≤ 255) (j : Nat) : (xs.getD j 0).toNat < 256 ∧ 0 ≤ xs.getD j 0 := by
  rcases Nat.lt_or_ge j xs.length with h | h
  · have := hx _ (getD_mem h); omega
  · simp [List.getD, h]
theorem added_mem (xs ys zs : List Int) (n k : Nat) (hx : ∀ z ∈ xs, 0 ≤ z ∧ z ≤ 255) (hy : ∀ z ∈ ys, 0 ≤ z ∧ z ≤ 255) (hz : ∀ z ∈ zs, 0 ≤ z ∧ z ≤ 255) : ∀ z ∈ added xs ys zs n k, 0 ≤ z ∧ z ≤ 255 := by
  intro z h
  simp only [added, List.mem_map] at h
  obtain ⟨j, _, rfl⟩ := h
  split
  · have := byte_xor3 (getD_byte hx j).1 (getD_byte hy j).1 (getD_byte hz j).1
    omega
  · omega
theorem added_sum (xs ys zs : List Int) (n : Nat) (h1 : n ≤ xs.length) (h2 : n ≤ ys.length) (h3 : n ≤ zs.length) (hx : ∀ z ∈ xs, 0 ≤ z ∧ z ≤ 255) (hy : ∀ z ∈ ys, 0 ≤ z ∧ z ≤ 255) (hz : ∀ z ∈ zs, 0 ≤ z ∧ z ≤ 255) :
    moreN 0 (nb (added xs ys zs n n)) = moreN 0 (nb (xs.take n)) ^^^ moreN 0 (nb (ys.take n)) ^^^ moreN 0 (nb (zs.take n)) := by
  have e := added_nb xs ys zs n h1 h2 h3
  have hm := nb_lt (added_mem xs ys zs n n hx hy hz)
  rw [e] at hm ⊢
  exact moreN_three _ _ _ (by simp [nb]; omega) (by simp [nb]; omega) (nb_lt fun z h => hx z (List.mem_of_mem_take h)) (nb_lt fun z h => hy z (List.mem_of_mem_take h)) (nb_lt fun z h => hz z (List.mem_of_mem_take h)) hm

set_option maxHeartbeats 3200000 in
set_option maxRecDepth 100000 in
theorem crcThree_go (HSum : SumSpec) (A1 A2 A3 : Option Addr) (c1 c2 c3 : Nat) (xs ys zs : List Int) (w : World) (h1 : Ints w w.heap.size .u8 A1 xs) (h2 : Ints w w.heap.size .u8 A2 ys) (h3 : Ints w w.heap.size .u8 A3 zs)
    (hx : ∀ z ∈ xs, 0 ≤ z ∧ z ≤ 255) (hy : ∀ z ∈ ys, 0 ≤ z ∧ z ≤ 255) (hz : ∀ z ∈ zs, 0 ≤ z ∧ z ≤ 255) (hc1 : xs.length ≤ c1) (hc2 : ys.length ≤ c2) (hc3 : zs.length ≤ c3) (hm3 : zs.length ≤ 140737488351232) :
    Calls Try.prog 10 #[.slice A1 xs.length c1, .slice A2 ys.length c2, .slice A3 zs.length c3] w fun e w' => e = .returned (.bool true) ∧ Below w.heap.size w w' := by
  obtain ⟨i0, hi, hz0, hz1, hz2⟩ := info_parts Try.infoU8
  have HA := Lib.hid (crcAwake HSum)
  have HSm := Lib.hid HSum
  have HX := Lib.hid hx
  have HY := Lib.hid hy
  have HZ := Lib.hid hz
  clear HSum hx hy hz
  go_enter Try.func10, Try.ntmps10
  go_upto_if 15 with fail
  go_cut [7] (fun t wx => (∃ m : Nat, t = .int .i64 m ∧ m ≤ xs.length ∧ m ≤ ys.length) ∧ wx = w)
  case first =>
    by_cases hl : (ys.length : Int) < (xs.length : Int)
    · go_wp2
      go_meet
      exact ⟨⟨ys.length, rfl, by omega, by omega⟩, rfl⟩
    · go_wp2
      go_meet
      exact ⟨⟨xs.length, rfl, by omega, by omega⟩, rfl⟩
  case rest =>
    obtain ⟨⟨m, rfl, hmx, hmy⟩, hw⟩ := hcut
    have hw' := hw.symm
    subst hw'
    go_upto_if 21 with fail
    go_cut [7] (fun t wx => (∃ n : Nat, t = .int .i64 n ∧ n ≤ xs.length ∧ n ≤ ys.length ∧ n ≤ zs.length) ∧ wx = w)
    case first =>
      by_cases hl : (zs.length : Int) < (m : Int)
      · go_wp2
        go_meet
        exact ⟨⟨zs.length, rfl, by omega, by omega, by omega⟩, rfl⟩
      · go_wp2
        go_meet
        exact ⟨⟨m, rfl, by omega, by omega, by omega⟩, rfl⟩
    case rest =>
      obtain ⟨⟨n, rfl, hnx, hny, hnz⟩, hw⟩ := hcut
      have hw' := hw.symm
      subst hw'
      go_wp2_with (at_make; refine wpList_make_full _ rfl _ _ 23 rfl w.heap.size 5 i0 (.int .u8 0) 1 Try.underlying23 hi hz0 hz1 .i64 .i64 (n : Int) (n : Int) n rfl rfl rfl rfl ?c1 ?c2 (Nat.le_refl _) ?_)
      case c1 => omega
      case c2 => unfold maxLen; omega
      intro w1 hown1 hg1
      have hbel1 : Below w.heap.size w w1 := (Below.refl _ _).grown hg1 (Nat.le_refl _) (fun _ h => by cases h)
      have hown : w1.ownsRow w.heap.size 5 1 (.slice (some ⟨w.heap.size, 0, none⟩) n n) n ((added xs ys zs n 0).map (Value.int .u8)) := by
        rw [added_zero, List.map_replicate]
        have h := hown1
        rw [toList_madeCells_one] at h
        exact h
      clear hown1 hg1
      go_wp2
      go_loopw [9] (fun j wr => ∃ k : Nat, k ≤ n ∧ j = .int .i64 k ∧ wr.ownsRow w.heap.size 5 1 (.slice (some ⟨w.heap.size, 0, none⟩) n n) n ((added xs ys zs n k).map (Value.int .u8)) ∧ Below w.heap.size w wr) (fun j _ => n - (intOf j).toNat)
      case atStart => exact ⟨0, by omega, rfl, hown, hbel1⟩
      case round =>
        clear hown hbel1
        obtain ⟨k, hk, rfl, hown, hbel⟩ := hrel
        by_cases hlt : k < n
        · obtain ⟨b1, o1, e1, _, hc1'⟩ := h1.below hbel k (by omega)
          obtain ⟨b2, o2, e2, _, hc2'⟩ := h2.below hbel k (by omega)
          obtain ⟨b3, o3, e3, _, hc3'⟩ := h3.below hbel k (by omega)
          have hcell := hown.cellAt k (by omega)
          have hfz := hown.frozenAt k
          rw [List.getElem?_map, List.getElem?_eq_getElem (by rw [added_len]; exact hlt), Option.map_some] at hcell
          obtain ⟨u, hu⟩ : ∃ u, u = (added xs ys zs n k)[k]'(by rw [added_len]; exact hlt) := ⟨_, rfl⟩
          rw [← hu] at hcell
          have hb1 := getD_byte HX.out k
          have hb2 := getD_byte HY.out k
          have hb3 := getD_byte HZ.out k
          have HS := Lib.hid (added_succ xs ys zs n k)
          obtain ⟨x, hx'⟩ : ∃ x : Nat, (x : Int) = xs.getD k 0 := ⟨(xs.getD k 0).toNat, by omega⟩
          obtain ⟨y, hy'⟩ : ∃ y : Nat, (y : Int) = ys.getD k 0 := ⟨(ys.getD k 0).toNat, by omega⟩
          obtain ⟨z, hz'⟩ : ∃ z : Nat, (z : Int) = zs.getD k 0 := ⟨(zs.getD k 0).toNat, by omega⟩
          rw [← hx'] at hc1' hb1 HS
          rw [← hy'] at hc2' hb2 HS
          rw [← hz'] at hc3' hb3 HS
          have hxy : x ^^^ y < 256 := Nat.xor_lt_two_pow (n := 8) (by omega) (by omega)
          have hv1 : bits .xor .u8 (x : Int) (y : Int) = ((x ^^^ y : Nat) : Int) := u8_xor_nat _ _ (by omega) (by omega)
          have hv2 : bits .xor .u8 ((x ^^^ y : Nat) : Int) (z : Int) = ((x ^^^ y ^^^ z : Nat) : Int) := u8_xor_nat _ _ (by omega) (by omega)
          have HV := Lib.hid hv2
          have HV1 := Lib.hid hv1
          have hk0 : (0 : Int) ≤ (k : Int) := by omega
          have hk1 : (k : Int) < (n : Int) := by omega
          have hk2 : (k : Int) < (xs.length : Int) := by omega
          have hk3 : (k : Int) < (ys.length : Int) := by omega
          have hk4 : (k : Int) < (zs.length : Int) := by omega
          obtain rfl := e1
          obtain rfl := e2
          obtain rfl := e3
          clear hx' hy' hz' hu hv1 hv2 hb1 hb2 hb3 hxy
          go_wp2
          go_region
          all_goals
            go_wp2
            go_roundw
            case rel =>
              rw [HV1.out, HV.out]
              have hst := (hown.stored k (.int .u8 ((x ^^^ y ^^^ z : Nat) : Int))).1
              rw [← List.map_set] at hst
              have hs' : (added xs ys zs n k).set k ((x ^^^ y ^^^ z : Nat) : Int) = added xs ys zs n (k + 1) := HS.out
              rw [hs'] at hst
              exact ⟨k + 1, by omega, by go_num, hst, (hbel.setCell (p := ⟨w.heap.size, k, none⟩) (Nat.le_refl w.heap.size) _).drew⟩
            case measure => simp [intOf]; omega
        · have hkn : k = n := by omega
          subst hkn
          have hres : Ints wr wr.heap.size .u8 (some ⟨w.heap.size, 0, none⟩) (added xs ys zs k k) := Ints.of_own (c := k) (n := k) (by rw [added_len]; exact hown)
          have hsum := added_sum xs ys zs k hnx hny hnz HX.out HY.out HZ.out
          have hT1 : (xs.take k).length = k := by rw [List.length_take]; omega
          have hT2 : (ys.take k).length = k := by rw [List.length_take]; omega
          have hT3 : (zs.take k).length = k := by rw [List.length_take]; omega
          have H0 := fun w1 (hb : Below wr.heap.size wr w1) => HSm.out (some ⟨w.heap.size, 0, none⟩) k (added xs ys zs k k) w1 ((hres.below hb).more hb.size) (added_mem xs ys zs k k HX.out HY.out HZ.out) (by rw [added_len]; exact Nat.le_refl _) (by rw [added_len]; omega)
          have H1 := fun w1 (hb : Below wr.heap.size wr w1) => HSm.out A1 c1 (xs.take k) w1 ((((h1.below hbel).take k).more hbel.size).below hb |>.more hb.size) (fun z h => HX.out z (List.mem_of_mem_take h)) (by omega) (by omega)
          have H2 := fun w1 (hb : Below wr.heap.size wr w1) => HSm.out A2 c2 (ys.take k) w1 ((((h2.below hbel).take k).more hbel.size).below hb |>.more hb.size) (fun z h => HY.out z (List.mem_of_mem_take h)) (by omega) (by omega)
          have H3 := fun w1 (hb : Below wr.heap.size wr w1) => HSm.out A3 c3 (zs.take k) w1 ((((h3.below hbel).take k).more hbel.size).below hb |>.more hb.size) (fun z h => HZ.out z (List.mem_of_mem_take h)) (by omega) (by omega)
          rw [added_len, hsum] at H0
          rw [hT1] at H1
          rw [hT2] at H2
          rw [hT3] at H3
          obtain ⟨p1, hp1⟩ : ∃ p, p = moreN 0 (nb (xs.take k)) := ⟨_, rfl⟩
          obtain ⟨p2, hp2⟩ : ∃ p, p = moreN 0 (nb (ys.take k)) := ⟨_, rfl⟩
          obtain ⟨p3, hp3⟩ : ∃ p, p = moreN 0 (nb (zs.take k)) := ⟨_, rfl⟩
          have hl1 : p1 < 2 ^ 32 := by rw [hp1]; exact moreN_lt _ _
          have hl2 : p2 < 2 ^ 32 := by rw [hp2]; exact moreN_lt _ _
          have hl3 : p3 < 2 ^ 32 := by rw [hp3]; exact moreN_lt _ _
          rw [← hp1] at H0 H1
          rw [← hp2] at H0 H2
          rw [← hp3] at H0 H3
          have hu1 := u32_x p1 p2 hl1 hl2
          have hu2 := u32_x (p1 ^^^ p2) p3 (Nat.xor_lt_two_pow hl1 hl2) hl3
          have HC0 := Lib.hid H0
          have HC1 := Lib.hid H1
          have HC2 := Lib.hid H2
          have HC3 := Lib.hid H3
          have hn0 : (0 : Int) ≤ (k : Int) := by omega
          have hn1 : (k : Int) ≤ (c1 : Int) := by omega
          have hn2 : (k : Int) ≤ (c2 : Int) := by omega
          have hn3 : (k : Int) ≤ (c3 : Int) := by omega
          clear hres hsum hT1 hT2 hT3 H0 H1 H2 H3 hp1 hp2 hp3 hl1 hl2 hl3 hown
          go_wp2
          go_region_held3 (fun w' => Below wr.heap.size wr w')
            (first
              | exact Below.refl _ _
              | exact (Below.refl _ _).drew
              | (exact chain (by assumption) hbq)
              | go_keep)
            (first
              | (go_at_call 11; refine Calls.mono (HA.out _) ?_; rintro e wq ⟨rfl, hbq⟩)
              | (go_at_call_of 12 (Value.slice A1 k c1); refine Calls.mono (HC1.out _ (by assumption)) ?_; rintro e wq ⟨rfl, hbq⟩)
              | (go_at_call_of 12 (Value.slice A2 k c2); refine Calls.mono (HC2.out _ (by assumption)) ?_; rintro e wq ⟨rfl, hbq⟩)
              | (go_at_call_of 12 (Value.slice A3 k c3); refine Calls.mono (HC3.out _ (by assumption)) ?_; rintro e wq ⟨rfl, hbq⟩)
              | (go_at_call 12; refine Calls.mono (HC0.out _ (by assumption)) ?_; rintro e wq ⟨rfl, hbq⟩))
          go_wp2
          go_ret
          exact ⟨rfl, chain hbel (by assumption)⟩

end Go.Proofs.Ytkikigpdcjkneaa
