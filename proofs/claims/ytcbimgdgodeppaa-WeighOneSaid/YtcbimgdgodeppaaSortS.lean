/-
  slices.stableCmpFunc and slices.SortStableFunc on the numbers 0, 1, .. N - 1: they lie in their order.
-/
import Derived.Test.YtcbimgdgodeppaaSortM
namespace Go.Proofs.Ytcbimgdgodeppaa
open Go.RowKit

theorem blks_len (r : List Int) {s n : Nat} (hs : 0 < s) : ∀ (k a : Nat), n ≤ a + k → (blks r s n k a).length = n - a
  | 0, a, h => by unfold blks; simp; omega
  | k + 1, a, h => by
    unfold blks
    by_cases ha : a < n
    · rw [if_pos ha, List.length_append, srtI_len r (by omega), blks_len r hs k (a + s) (by omega)]; omega
    · rw [if_neg ha]; simp; omega
theorem blk_len (r : List Int) {s n a : Nat} (hs : 0 < s) : (blk r s n a).length = n - a := blks_len r hs _ _ (by omega)
theorem srtI_in (r : List Int) {a b : Nat} (h : a ≤ b) : ∀ x ∈ srtI r a b, 0 ≤ x ∧ x < (b : Int) := fun x hx => by
  obtain ⟨i, rfl, _, _⟩ := runI_mem.1 ((srtI_perm r h).subset hx)
  omega

set_option maxHeartbeats 3200000 in
set_option maxRecDepth 20000 in
theorem stable_go (g N cap : Nat) (fn : FuncId) (cb : Array Value) (r : List Int) (w0 w : World) (HC : CmpOk fn cb g N w0 r) (hS : Srt g w0 (runI 0 N) w) (hx : N ≤ 100000) :
    Calls Try.prog 42 #[.slice (some ⟨g, 0, none⟩) N cap, .int .i64 N, .func (.func fn) #[] cb] w fun e w' => e = .returned (.tuple #[]) ∧ Srt g w0 (srtI r 0 N) w' := by
  have HINS : Hid (∀ (a b : Nat) (P S l : List Int) (W : World), l = P ++ (runI a b ++ S) → Srt g w0 l W → l.length = N → P.length = a → a ≤ b → b ≤ N →
      Calls Try.prog 48 #[.slice (some ⟨g, 0, none⟩) N cap, .int .i64 a, .int .i64 b, .func (.func fn) #[] cb] W fun e w' => e = .returned (.tuple #[]) ∧ Srt g w0 (P ++ (srtI r a b ++ S)) w') :=
    fun a b P S l W q1 q2 q3 q4 q5 q6 => insSort_go g N cap a b fn cb r P S l w0 W HC q1 q2 q3 q4 q5 q6 hx
  have HSYM : Hid (∀ (a m b : Nat) (P S : List Int) (W : World), Srt g w0 (P ++ (srtI r a m ++ (srtI r m b ++ S))) W → (P ++ (srtI r a m ++ (srtI r m b ++ S))).length = N → P.length = a → a < m → m < b → b ≤ N →
      Calls Try.prog 49 #[.slice (some ⟨g, 0, none⟩) N cap, .int .i64 a, .int .i64 m, .int .i64 b, .func (.func fn) #[] cb] W fun e w' => e = .returned (.tuple #[]) ∧ Srt g w0 (P ++ (srtI r a b ++ S)) w') := fun a m b P S W q1 q2 q3 q4 q5 q6 => by
    have l1 := srtI_len r (Nat.le_of_lt q4)
    have l2 := srtI_len r (Nat.le_of_lt q5)
    refine (symMerge_go g N cap fn cb r w0 HC hx (b - a) a m b P (srtI r a m) (srtI r m b) S _ W (Nat.le_refl _) rfl q1 q2 q3 (by omega) (by omega) (by omega) (by omega) (srtI_asc r a m) (srtI_asc r m b) (srtI_apart r (Nat.le_of_lt q4) (Nat.le_of_lt q5)) (fun x hx => ?_)).mono fun e w' ⟨p1, M, p2, p3, p4⟩ => ⟨p1, ?_⟩
    · rcases List.mem_append.1 hx with h | h
      · have := srtI_in r (Nat.le_of_lt q4) x h; omega
      · have := srtI_in r (Nat.le_of_lt q5) x h; omega
    · rw [srtI_merge r (Nat.le_of_lt q4) (Nat.le_of_lt q5) p2 p3] at p4; exact p4
  have H0 : Hid (∃ D : List Int, Srt g w0 (D ++ runI 0 N) w ∧ D.length = 0 ∧ D ++ blk r 20 N 0 = blk r 20 N 0) := ⟨[], hS, rfl, rfl⟩
  -- the first loop
  have HA : Hid (∀ (a : Nat) (D : List Int) (W : World), a + 20 ≤ N → Srt g w0 (D ++ runI a N) W → D.length = a → D ++ blk r 20 N a = blk r 20 N 0 →
      Calls Try.prog 48 #[.slice (some ⟨g, 0, none⟩) N cap, .int .i64 a, .int .i64 ((a + 20 : Nat) : Int), .func (.func fn) #[] cb] W fun e w' => e = .returned (.tuple #[]) ∧
        ∃ D : List Int, Srt g w0 (D ++ runI (a + 20) N) w' ∧ D.length = a + 20 ∧ D ++ blk r 20 N (a + 20) = blk r 20 N 0) := fun a D W h q1 q2 q3 => by
    rw [← runI_app (a := a) (m := a + 20) (b := N) (by omega) h] at q1
    refine (HINS.out a (a + 20) D (runI (a + 20) N) _ W rfl q1 (by simp only [List.length_append, runI_len]; omega) q2 (by omega) h).mono fun e w' ⟨p1, p2⟩ => ⟨p1, D ++ srtI r a (a + 20), by rw [List.append_assoc]; exact p2, by rw [List.length_append, srtI_len r (by omega)]; omega, ?_⟩
    rw [← q3, blk_step r (by decide) (show a < N by omega), Nat.min_eq_left h, List.append_assoc]
  have HE : Hid (∀ (a : Nat) (D : List Int) (W : World), a ≤ N → N ≤ a + 20 → Srt g w0 (D ++ runI a N) W → D.length = a → D ++ blk r 20 N a = blk r 20 N 0 →
      Calls Try.prog 48 #[.slice (some ⟨g, 0, none⟩) N cap, .int .i64 a, .int .i64 N, .func (.func fn) #[] cb] W fun e w' => e = .returned (.tuple #[]) ∧ Srt g w0 (blk r 20 N 0) w') := fun a D W h1 h2 q1 q2 q3 => by
    have e : D ++ runI a N = D ++ (runI a N ++ []) := by rw [List.append_nil]
    rw [e] at q1
    refine (HINS.out a N D [] _ W rfl q1 (by simp only [List.length_append, runI_len, List.length_nil]; omega) q2 h1 (Nat.le_refl _)).mono fun e w' ⟨p1, p2⟩ => ⟨p1, ?_⟩
    rw [List.append_nil, ← blk_last r (by decide : 0 < 20) h2, q3] at p2; exact p2
  -- the second loop
  have HB : Hid (∀ (s a : Nat) (D : List Int) (W : World), 20 ≤ s → a + 2 * s ≤ N → Srt g w0 (D ++ blk r s N a) W → D.length = a → D ++ blk r (2 * s) N a = blk r (2 * s) N 0 →
      Calls Try.prog 49 #[.slice (some ⟨g, 0, none⟩) N cap, .int .i64 a, .int .i64 ((a + s : Nat) : Int), .int .i64 ((a + 2 * s : Nat) : Int), .func (.func fn) #[] cb] W fun e w' => e = .returned (.tuple #[]) ∧
        ∃ D : List Int, Srt g w0 (D ++ blk r s N (a + 2 * s)) w' ∧ D.length = a + 2 * s ∧ D ++ blk r (2 * s) N (a + 2 * s) = blk r (2 * s) N 0) := fun s a D W hs h q1 q2 q3 => by
    have e : blk r s N a = srtI r a (a + s) ++ (srtI r (a + s) (a + 2 * s) ++ blk r s N (a + 2 * s)) := by
      rw [blk_step r (by omega) (show a < N by omega), Nat.min_eq_left (by omega), blk_step r (by omega) (show a + s < N by omega), Nat.min_eq_left (by omega), show a + s + s = a + 2 * s by omega]
    have hl : (D ++ blk r s N a).length = N := by rw [List.length_append, blk_len r (by omega)]; omega
    rw [e] at q1 hl
    refine (HSYM.out a (a + s) (a + 2 * s) D _ W q1 hl q2 (by omega) (by omega) h).mono fun e w' ⟨p1, p2⟩ => ⟨p1, D ++ srtI r a (a + 2 * s), by rw [List.append_assoc]; exact p2, by rw [List.length_append, srtI_len r (by omega)]; omega, ?_⟩
    rw [← q3, blk_step r (by omega) (show a < N by omega), Nat.min_eq_left h, List.append_assoc]
  have HL : Hid (∀ (s a : Nat) (D : List Int) (W : World), 20 ≤ s → a + s < N → N < a + 2 * s → Srt g w0 (D ++ blk r s N a) W → D.length = a → D ++ blk r (2 * s) N a = blk r (2 * s) N 0 →
      Calls Try.prog 49 #[.slice (some ⟨g, 0, none⟩) N cap, .int .i64 a, .int .i64 ((a + s : Nat) : Int), .int .i64 N, .func (.func fn) #[] cb] W fun e w' => e = .returned (.tuple #[]) ∧ Srt g w0 (blk r (2 * s) N 0) w') := fun s a D W hs h h2 q1 q2 q3 => by
    have e : blk r s N a = srtI r a (a + s) ++ (srtI r (a + s) N ++ []) := by
      rw [blk_step r (by omega) (show a < N by omega), Nat.min_eq_left (by omega), blk_last r (by omega) (show N ≤ a + s + s by omega), List.append_nil]
    have hl : (D ++ blk r s N a).length = N := by rw [List.length_append, blk_len r (by omega)]; omega
    rw [e] at q1 hl
    refine (HSYM.out a (a + s) N D _ W q1 hl q2 (by omega) h (Nat.le_refl _)).mono fun e w' ⟨p1, p2⟩ => ⟨p1, ?_⟩
    rw [List.append_nil, ← blk_last r (show 0 < 2 * s by omega) (by omega), q3] at p2; exact p2
  have HLN : Hid (∀ (s a : Nat) (D : List Int) (W : World), 20 ≤ s → N ≤ a + s → Srt g w0 (D ++ blk r s N a) W → D ++ blk r (2 * s) N a = blk r (2 * s) N 0 → Srt g w0 (blk r (2 * s) N 0) W) := fun s a D W hs h q1 q3 => by
    rw [blk_last r (by omega) h, ← blk_last r (show 0 < 2 * s by omega) (by omega), q3] at q1; exact q1
  have HFN : Hid (∀ (s : Nat) (W : World), 20 ≤ s → N ≤ s → Srt g w0 (blk r s N 0) W → Srt g w0 (srtI r 0 N) W) := fun s W hs h q1 => by
    rw [blk_last r (by omega) (by omega)] at q1; exact q1
  clear hS HC HINS HSYM
  go_enter Try.func42, Try.ntmps42
  go_wp2
  go_loopw [7, 8] (fun va vb wr => ∃ a : Nat, a ≤ N ∧ va = .int .i64 a ∧ vb = .int .i64 ((a + 20 : Nat) : Int) ∧ Hid (∃ D : List Int, Srt g w0 (D ++ runI a N) wr ∧ D.length = a ∧ D ++ blk r 20 N a = blk r 20 N 0)) (fun va _ _ => N - (intOf va).toNat)
  case atStart => exact ⟨0, Nat.zero_le _, rfl, rfl, H0⟩
  case round =>
    clear H0
    obtain ⟨a, ha, rfl, rfl, HI⟩ := hrel
    obtain ⟨D, q1, q2, q3⟩ := HI.out
    by_cases hlt : a + 20 ≤ N
    · have HC := Lib.hid (HA.out a D wr hlt q1 q2 q3)
      obtain ⟨p, hp⟩ : ∃ p, p = a + 20 := ⟨_, rfl⟩
      have HPP : Hid (p = a + 20) := hp
      rw [← hp] at HC hlt ⊢
      have k1 : (p : Int) ≤ (N : Int) := by omega
      have r1 : IntKind.i64.wrap ((p : Int) + 20) = ((p + 20 : Nat) : Int) := by rw [IntWalk.i64_in _ (by omega)]; omega
      clear HI q1 q2 q3 hp HA HE HB HL HLN HFN
      go_wp2_with (go_at_call 48; with_reducible (refine Calls.mono HC.out ?_); rintro e w1 ⟨rfl, hs⟩; replace hs := Lib.hid hs)
      go_roundw
      case rel => first | exact ⟨p, hlt, rfl, by go_num, hs⟩ | ((repeat apply Exists.intro); exact ⟨⟨p, hlt, rfl, by go_num, hs⟩, rfl⟩)
      case measure => have := HPP.out; simp [intOf]; omega
    · have HC := Lib.hid (HE.out a D wr ha (by omega) q1 q2 q3)
      obtain ⟨p, hp⟩ : ∃ p, p = a + 20 := ⟨_, rfl⟩
      rw [← hp] at hlt ⊢
      have k1 : ¬ (p : Int) ≤ (N : Int) := by omega
      clear HI q1 q2 q3 hp HA HE
      go_wp2_with (go_at_call 48; with_reducible (refine Calls.mono HC.out ?_); rintro e w1 ⟨rfl, hs⟩; replace hs := Lib.hid hs)
      clear HC
      go_loopw [6] (fun v wx => ∃ s : Nat, 20 ≤ s ∧ s ≤ 2 * N + 20 ∧ v = .int .i64 s ∧ Hid (Srt g w0 (blk r s N 0) wx)) (fun v _ => N - (intOf v).toNat)
      case atStart => exact ⟨20, Nat.le_refl _, by omega, rfl, hs⟩
      case round =>
        clear hs
        obtain ⟨s, hs20, hsN, rfl, HI⟩ := hrel
        by_cases hsn : s < N
        · have k2 : (s : Int) < (N : Int) := by omega
          have r1 : IntKind.i64.wrap (2 * (s : Int)) = ((2 * s : Nat) : Int) := by rw [IntWalk.i64_in _ (by omega)]; omega
          have r2 : IntKind.i64.wrap ((s : Int) * 2) = ((2 * s : Nat) : Int) := by rw [IntWalk.i64_in _ (by omega)]; omega
          have HS0 : Hid (∃ D : List Int, Srt g w0 (D ++ blk r s N 0) wr ∧ D.length = 0 ∧ D ++ blk r (2 * s) N 0 = blk r (2 * s) N 0) := ⟨[], HI.out, rfl, rfl⟩
          have HB1 := Lib.hid (HB.out s)
          have HL1 := Lib.hid (HL.out s)
          have HLN1 := Lib.hid (HLN.out s)
          have hsz : 2 * s ≤ 2 * N + 20 := by omega
          obtain ⟨z, hz⟩ : ∃ z, z = 2 * s := ⟨_, rfl⟩
          have HZ : Hid (z = 2 * s) := hz
          simp only [← hz] at HB1 HL1 HLN1 HS0
          rw [← hz] at r1 r2 hsz
          have hz40 : 40 ≤ z := by omega
          clear HI HB HL HLN HFN hz
          go_wp2
          go_loopw [7, 8] (fun va vb wy => ∃ a : Nat, a ≤ N ∧ va = .int .i64 a ∧ vb = .int .i64 ((a + z : Nat) : Int) ∧ Hid (∃ D : List Int, Srt g w0 (D ++ blk r s N a) wy ∧ D.length = a ∧ D ++ blk r z N a = blk r z N 0)) (fun va _ _ => N - (intOf va).toNat)
          case atStart => exact ⟨0, Nat.zero_le _, rfl, by simp, HS0⟩
          case round =>
            clear HS0
            obtain ⟨a, ha, rfl, rfl, HI⟩ := hrel
            obtain ⟨D, q1, q2, q3⟩ := HI.out
            by_cases hlt : a + z ≤ N
            · have HC := Lib.hid (HB1.out a D wr hs20 hlt q1 q2 q3)
              obtain ⟨p, hp⟩ : ∃ p, p = a + z := ⟨_, rfl⟩
              have HPP : Hid (p = a + z) := hp
              rw [← hp] at HC hlt ⊢
              have k1 : (p : Int) ≤ (N : Int) := by omega
              have r3 : IntKind.i64.wrap ((p : Int) + (z : Int)) = ((p + z : Nat) : Int) := by rw [IntWalk.i64_in _ (by omega)]; omega
              have r4 : IntKind.i64.wrap ((a : Int) + (s : Int)) = ((a + s : Nat) : Int) := by rw [IntWalk.i64_in _ (by omega)]; omega
              obtain ⟨u, hu⟩ : ∃ u, u = a + s := ⟨_, rfl⟩
              rw [← hu] at HC r4
              clear HI q1 q2 q3 hp HB1 HL1 HLN1 hu
              go_wp2_with (go_at_call 49; with_reducible (refine Calls.mono HC.out ?_); rintro e w1 ⟨rfl, hs⟩; replace hs := Lib.hid hs)
              go_roundw
              case rel => first | exact ⟨p, hlt, rfl, by go_num, hs⟩ | ((repeat apply Exists.intro); exact ⟨⟨p, hlt, rfl, by go_num, hs⟩, rfl⟩)
              case measure => have := HPP.out; simp [intOf]; omega
            · by_cases hms : a + s < N
              · have HC := Lib.hid (HL1.out a D wr hs20 hms (by omega) q1 q2 q3)
                obtain ⟨p, hp⟩ : ∃ p, p = a + z := ⟨_, rfl⟩
                rw [← hp] at hlt ⊢
                have k1 : ¬ (p : Int) ≤ (N : Int) := by omega
                have r4 : IntKind.i64.wrap ((a : Int) + (s : Int)) = ((a + s : Nat) : Int) := by rw [IntWalk.i64_in _ (by omega)]; omega
                obtain ⟨u, hu⟩ : ∃ u, u = a + s := ⟨_, rfl⟩
                rw [← hu] at HC r4 hms
                have k3 : (u : Int) < (N : Int) := by omega
                clear HI q1 q2 q3 hp HB1 HL1 HLN1 hu
                go_wp2_with (go_at_call 49; with_reducible (refine Calls.mono HC.out ?_); rintro e w1 ⟨rfl, hs⟩; replace hs := Lib.hid hs)
                go_roundw
                case rel => first | exact ⟨z, by omega, hsz, rfl, hs⟩ | ((repeat apply Exists.intro); exact ⟨⟨z, by omega, hsz, rfl, hs⟩, rfl⟩)
                case measure => have := HZ.out; simp [intOf]; omega
              · have HE1 := Lib.hid (HLN1.out a D wr hs20 (by omega) q1 q3)
                obtain ⟨p, hp⟩ : ∃ p, p = a + z := ⟨_, rfl⟩
                rw [← hp] at hlt ⊢
                have k1 : ¬ (p : Int) ≤ (N : Int) := by omega
                have r4 : IntKind.i64.wrap ((a : Int) + (s : Int)) = ((a + s : Nat) : Int) := by rw [IntWalk.i64_in _ (by omega)]; omega
                obtain ⟨u, hu⟩ : ∃ u, u = a + s := ⟨_, rfl⟩
                rw [← hu] at r4 hms
                have k3 : ¬ (u : Int) < (N : Int) := by omega
                clear HI q1 q2 q3 hp HB1 HL1 HLN1 hu
                go_wp2
                go_roundw
                case rel => first | exact ⟨z, by omega, hsz, rfl, HE1⟩ | ((repeat apply Exists.intro); exact ⟨⟨z, by omega, hsz, rfl, HE1⟩, rfl⟩)
                case measure => have := HZ.out; simp [intOf]; omega
        · have k2 : ¬ (s : Int) < (N : Int) := by omega
          have HE1 := Lib.hid (HFN.out s wr hs20 (by omega) HI.out)
          clear HI HB HL HLN HFN
          go_wp2
          go_end0
          exact ⟨rfl, HE1.out⟩

set_option maxHeartbeats 1600000 in
set_option maxRecDepth 20000 in
theorem sortStable_go (g N cap : Nat) (fn : FuncId) (cb : Array Value) (r : List Int) (w0 w : World) (HC : CmpOk fn cb g N w0 r) (hS : Srt g w0 (runI 0 N) w) (hx : N ≤ 100000) :
    Calls Try.prog 36 #[.slice (some ⟨g, 0, none⟩) N cap, .func (.func fn) #[] cb] w fun e w' => e = .returned (.tuple #[]) ∧ Srt g w0 (srtI r 0 N) w' := by
  have H := Lib.hid (stable_go g N cap fn cb r w0 w HC hS hx)
  clear HC hS
  go_enter Try.func36, Try.ntmps36
  go_wp2_with (go_at_call 42; with_reducible (refine Calls.mono H.out ?_); rintro e w1 ⟨rfl, hs⟩; replace hs := Lib.hid hs)
  go_end0
  exact ⟨rfl, hs.out⟩

end Go.Proofs.Ytcbimgdgodeppaa
