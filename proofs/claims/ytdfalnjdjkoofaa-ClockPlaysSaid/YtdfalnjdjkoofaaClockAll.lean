/-
  ClockAll: of all that were put, each leaves just once. Written by wip/gen/clock_all.py.
-/
import Derived.Test.YtdfalnjdjkoofaaClockAllN
import Derived.Test.YtdfalnjdjkoofaaArrs
namespace Go.Proofs.Ytdfalnjdjkoofaa
open Go.RowKit

theorem Try.infoI64k : (Try.prog.info? 3).map (fun i => (i.zero, i.size, i.bytes)) = some (some (.int .i64 0), 1, 8) := by kernel_rfl
theorem own_atK {w : World} {base g n cap : Nat} {t : TypeId} {l : List Int} (h : w.ownsRow base t 1 (.slice (some ⟨g, 0, none⟩) n cap) n (l.map (Value.int .i64))) {i : Nat} (hi : i < l.length) : w.cell? ⟨g, i, none⟩ = some (.int .i64 (l.getD i 0)) := by
  rw [h.cellAt i (by have := h.1; rw [List.length_map] at this; omega), List.getElem?_map, List.getElem?_eq_getElem hi]
  simp [List.getD_eq_getElem?_getD, hi]
theorem own_roomK {w : World} {base t n c : Nat} {A : Option Addr} {xs : List Value} (h : w.ownsRow base t 1 (.slice A n c) n xs) : n ≤ c := by
  rcases h.2 with ⟨h, _⟩ | ⟨_, _, _, h, _, _, h2, _⟩
  · injection h with _ h2 h3; omega
  · injection h with _ _ h3; omega
section
variable {w : World} {Rep : World → Nat → (Nat → Prop) → Ck → Prop}
def AllR1 (Rep : World → Nat → (Nat → Prop) → Ck → Prop) (w : World) (p k i : Nat) (v : Value) (W : World) : Prop :=
  ∃ F, Rep W p F (stA k i) ∧ (∀ b, F b → w.heap.size ≤ b) ∧ W.ownsRow w.heap.size 3 1 v i ((allL i).map (Value.int .i64)) ∧ Free F v ∧ Below w.heap.size w W
def AllR2 (Rep : World → Nat → (Nat → Prop) → Ck → Prop) (w : World) (p k i : Nat) (mv v : Value) (s : Ck) (seen : List Int) (W : World) : Prop :=
  All13 k i s seen ∧ ∃ F, Rep W p F s ∧ (∀ b, F b → w.heap.size ≤ b) ∧ W.ownsRow w.heap.size 3 1 mv k ((allL k).map (Value.int .i64)) ∧ Free F mv ∧ W.ownsRow w.heap.size 3 1 v i (seen.map (Value.int .i64)) ∧ Free F v ∧ Apart v mv ∧ Below w.heap.size w W
/-- A touch changes nothing of these rows. -/
theorem allR2_touch (HS : ClockSpec w Rep) {W : World} {p k i : Nat} {mv v : Value} {s : Ck} {seen : List Int} (h : AllR2 Rep w p k i mv v s seen W) {n : Int} (hn : I64c n) :
    Calls Try.prog 13 #[.pointer (some ⟨p, 0, none⟩), .int .i64 n] W fun e w' => ∃ r, e = .returned (.int .i64 r) ∧ AllR2 Rep w p k i mv v (touchS s n) seen w' := by
  obtain ⟨h1, F, hr, hF, hm, hfm, hv, hfv, hap, hb⟩ := h
  exact (HS.touch n p F s W hb hn hr hF).mono fun e w' ⟨F', q1, q2, q3, q4⟩ => ⟨_, q1, all_touch h1 n, F', q2, fun b q => (q3 b q).elim (hF b) (fun q => Nat.le_trans hb.size q), own_away hm q4 hfm, free_more hm hfm q3, own_away hv q4 hfv, free_more hv hfv q3, hap, q4.below hF hb hb.size⟩
theorem allR2_leave (HS : ClockSpec w Rep) {W : World} {p k i c : Nat} {A : Option Addr} {v : Value} {s : Ck} {seen : List Int} (h : AllR2 Rep w p k i (.slice A k c) v s seen W) (hk : k ≤ 60) (hi : i < k) :
    Calls Try.prog 17 #[.pointer (some ⟨p, 0, none⟩), .slice A k c] W fun e w' => ∃ x : Int, e = .returned (.tuple #[.int .i64 x, .int .i64 0]) ∧ 100 - (k : Int) < x ∧ x ≤ 100 ∧ x ∉ seen ∧ All13 k (i + 1) (leaveS s (allL k)) (seen ++ [x]) ∧
      ∃ F, Rep w' p F (leaveS s (allL k)) ∧ (∀ b, F b → w.heap.size ≤ b) ∧ w'.ownsRow w.heap.size 3 1 (.slice A k c) k ((allL k).map (Value.int .i64)) ∧ Free F (.slice A k c) ∧ w'.ownsRow w.heap.size 3 1 v i (seen.map (Value.int .i64)) ∧ Free F v ∧ Apart v (.slice A k c) ∧ Below w.heap.size w w' := by
  obtain ⟨h1, F, hr, hF, hm, hfm, hv, hfv, hap, hb⟩ := h
  obtain ⟨q1, q2, q3, q4, q5⟩ := all_leave h1 hi
  have hI : Ints W W.heap.size .i64 A (allL k) := Ints.of_own (n := k) (c := c) (by rw [allL_len]; exact hm)
  have hc := HS.leave A c (allL k) p F s W hb hI (fun z hz => by obtain ⟨j, hj, e⟩ := allL_mem.1 hz; unfold I64c; omega) (by rw [allL_len]; exact own_roomK hm) (by rw [allL_len]; omega) (fun _ b o e => hfm b (by rw [e]; rfl)) hr hF
  rw [allL_len, q1] at hc
  exact hc.mono fun e w' ⟨F', r1, r2, r3, r4⟩ => ⟨leaveN s (allL k), r1, q2, q3, q4, q5, F', r2, fun b q => (r3 b q).elim (hF b) (fun q => Nat.le_trans hb.size q), own_away hm r4 hfm, free_more hm hfm r3, own_away hv r4 hfv, free_more hv hfv r3, hap, r4.below hF hb hb.size⟩
theorem allR2_end (HS : ClockSpec w Rep) {W : World} {p k c : Nat} {A : Option Addr} {v : Value} {s : Ck} {seen : List Int} (h : AllR2 Rep w p k k (.slice A k c) v s seen W) (hk : k ≤ 60) :
    Calls Try.prog 17 #[.pointer (some ⟨p, 0, none⟩), .slice A k c] W fun e w' => ∃ x : Int, e = .returned (.tuple #[.int .i64 x, .int .i64 4]) ∧ Below w.heap.size w w' := by
  obtain ⟨h1, F, hr, hF, hm, hfm, hv, hfv, hap, hb⟩ := h
  have hI : Ints W W.heap.size .i64 A (allL k) := Ints.of_own (n := k) (c := c) (by rw [allL_len]; exact hm)
  have hc := HS.leave A c (allL k) p F s W hb hI (fun z hz => by obtain ⟨j, hj, e⟩ := allL_mem.1 hz; unfold I64c; omega) (by rw [allL_len]; exact own_roomK hm) (by rw [allL_len]; omega) (fun _ b o e => hfm b (by rw [e]; rfl)) hr hF
  rw [allL_len, all_end h1] at hc
  exact hc.mono fun e w' ⟨F', r1, r2, r3, r4⟩ => ⟨_, r1, r4.below hF hb hb.size⟩
/-- What is left behind an append to the row of those that left. -/
theorem allR2_app (HS : ClockSpec w Rep) {W W2 : World} {p k i c c2 : Nat} {A A2 : Option Addr} {v5 : Value} {s : Ck} {seen : List Int} {x : Int} (h1 : All13 k (i + 1) s (seen ++ [x]))
    (h : ∃ F, Rep W p F s ∧ (∀ b, F b → w.heap.size ≤ b) ∧ W.ownsRow w.heap.size 3 1 (.slice A k c) k ((allL k).map (Value.int .i64)) ∧ Free F (.slice A k c) ∧ W.ownsRow w.heap.size 3 1 (.slice A2 i c2) i (seen.map (Value.int .i64)) ∧ Free F (.slice A2 i c2) ∧ Apart (.slice A2 i c2) (.slice A k c) ∧ Below w.heap.size w W)
    (h5 : W2.ownsRow w.heap.size 3 1 v5 (i + 1) (seen.map (Value.int .i64) ++ [.int .i64 x])) (hg : (W.alloc (.cells #[.int .i64 x] 3)).grownBy W2 (Value.ownBlock (.slice A2 i c2))) (hv5 : v5.ownBlock = Value.ownBlock (.slice A2 i c2) ∨ v5.ownBlock = some (W.heap.size + 1)) :
    AllR2 Rep w p k (i + 1) (.slice A k c) v5 s (seen ++ [x]) W2 := by
  obtain ⟨F, hr, hF, hm, hfm, hv, hfv, hap, hb⟩ := h
  have hba : Below W.heap.size W (W.alloc (.cells #[.int .i64 x] 3)) := (Below.refl _ _).alloc (Nat.le_refl _) _
  have hr2 := HS.later hr hba
  have hs : (W.alloc (.cells #[.int .i64 x] 3)).heap.size = W.heap.size + 1 := by simp
  refine ⟨h1, F, rep_grown HS hr2 hg hfv, hF, own_kept (hm.alloc _) hg (fun q hq hq2 => hap q hq hq2), hfm, by rw [List.map_append]; exact h5, free_grown HS hr2 hfv (by rw [hs]; exact hv5), ?_, ?_⟩
  · exact hap.grown (N := W.heap.size + 1) (fun q hq => by have := (hm.lt q hq).2; omega) hv5
  · exact (hb.alloc hb.size _).grown hg (by have := hb.size; omega) fun q hq => (hv.lt q hq).1

set_option maxHeartbeats 3200000 in
set_option maxRecDepth 20000 in
/-- ClockAll. -/
theorem clockAll_go (n : Nat) (A1 : Option Addr) (c1 : Nat) (tl : List Int) (w : World) (HS : ClockSpec w Rep) (hn : n < 256) (hI : Ints w w.heap.size .u8 A1 tl) (hv : ∀ z ∈ tl, 0 ≤ z ∧ z ≤ 255) :
    Calls Try.prog 6 #[.int .u8 (n : Int), .slice A1 tl.length c1] w fun e w' => e = .returned (.bool true) ∧ Below w.heap.size w w' := by
  obtain ⟨i0, hif, hz0, hz1, hz2⟩ := info_parts Try.infoI64k
  have HA := Lib.hid (fun (W : World) (hb : Below w.heap.size w W) => clockAwake HS W hb)
  obtain ⟨M, hM⟩ : ∃ M, M = n % 60 := ⟨_, rfl⟩
  obtain ⟨k, hk⟩ : ∃ k, k = M + 1 := ⟨_, rfl⟩
  have f1 : IntKind.u8.wrap ((n : Int) % 60) = (M : Int) := by show ((n : Int) % 60) % 256 = _; omega
  have f2 : ((n : Int)).tmod 60 = (M : Int) := by rw [Int.tmod_eq_emod_of_nonneg (by omega)]; omega
  have f4 : (M : Int) + 1 = (k : Int) := by omega
  have f5 : IntKind.i64.wrap ((M : Int) + 1) = (k : Int) := by rw [f4]; exact IntWalk.i64_in _ (by omega)
  have f6 : IntKind.i64.wrap (M : Int) = (M : Int) := IntWalk.i64_in _ (by omega)
  have hk60 : k ≤ 60 := by omega
  have hk1 : 1 ≤ k := by omega
  have H1 := Lib.hid (own_new (Rep := Rep) HS (W := w) (n := k) (Below.refl _ _) hk1 (by omega))
  have HLT : Hid (∀ W W' p s, OwnK Rep w W p s → Below W.heap.size W W' → OwnK Rep w W' p s) := fun W W' p s h hb => h.later HS hb
  have HOB : Hid (∀ W p s, OwnK Rep w W p s → Below w.heap.size w W) := fun W p s h => h.choose_spec.2.2
  have H0 : Hid (∀ W p, OwnK Rep w W p (newC k) → AllR1 Rep w p k 0 (.slice (some ⟨W.heap.size, 0, none⟩) 0 0) (W.alloc (.cells #[] 3))) := fun W p h => by
    obtain ⟨F, hr, hF, hb⟩ := h
    refine ⟨F, HS.later hr ((Below.refl _ _).alloc (Nat.le_refl _) _), hF, World.ownsRow_made W #[] 0 hb.size (Nat.zero_le _) rfl, fun q hq hq2 => ?_, hb.alloc hb.size _⟩
    have : q = W.heap.size := by simp [Value.ownBlock] at hq; exact hq.symm
    have := HS.lt W p F _ hr q hq2
    omega
  have HPUT : Hid (∀ i v W p, i < k → AllR1 Rep w p k i v W → Calls Try.prog 11 #[.pointer (some ⟨p, 0, none⟩), .int .i64 (100 - (i : Int))] W fun e w' => e = .returned (.tuple #[.int .i64 (i : Int), .int .i64 0]) ∧
      ∃ F, Rep w' p F (stA k (i + 1)) ∧ (∀ b, F b → w.heap.size ≤ b) ∧ w'.ownsRow w.heap.size 3 1 v i ((allL i).map (Value.int .i64)) ∧ Free F v ∧ Below w.heap.size w w') := fun i v W p hi h => by
    obtain ⟨F, hr, hF, ho, hf, hb⟩ := h
    obtain ⟨q1, q2⟩ := stA_put hk60 hi
    have hc := HS.put (100 - (i : Int)) p F (stA k i) W hb (by unfold I64c; omega) hr hF
    rw [q1, q2] at hc
    exact hc.mono fun e w' ⟨F', r1, r2, r3, r4⟩ => ⟨r1, F', r2, fun b q => (r3 b q).elim (hF b) (fun q => Nat.le_trans hb.size q), own_away ho r4 hf, free_more ho hf r3, r4.below hF hb hb.size⟩
  have HAPP : Hid (∀ i v W W2 v5 p, (∃ F, Rep W p F (stA k (i + 1)) ∧ (∀ b, F b → w.heap.size ≤ b) ∧ W.ownsRow w.heap.size 3 1 v i ((allL i).map (Value.int .i64)) ∧ Free F v ∧ Below w.heap.size w W) →
      W2.ownsRow w.heap.size 3 1 v5 (i + 1) ((allL i).map (Value.int .i64) ++ [.int .i64 (100 - (i : Int))]) → (W.alloc (.cells #[.int .i64 (100 - (i : Int))] 3)).grownBy W2 v.ownBlock → (v5.ownBlock = v.ownBlock ∨ v5.ownBlock = some (W.heap.size + 1)) → AllR1 Rep w p k (i + 1) v5 W2) := fun i v W W2 v5 p h h5 hg hv5 => by
    obtain ⟨F, hr, hF, ho, hf, hb⟩ := h
    have hr2 := HS.later hr ((Below.refl _ _).alloc (Nat.le_refl _) (.cells #[.int .i64 (100 - (i : Int))] 3))
    have hs : (W.alloc (.cells #[.int .i64 (100 - (i : Int))] 3)).heap.size = W.heap.size + 1 := by simp
    exact ⟨F, rep_grown HS hr2 hg hf, hF, by rw [allL_succ, List.map_append]; exact h5, free_grown HS hr2 hf (by rw [hs]; exact hv5), (hb.alloc hb.size _).grown hg (by have := hb.size; omega) fun q hq => (ho.lt q hq).1⟩
  have HP5 : Hid (∀ v W p, AllR1 Rep w p k k v W → Calls Try.prog 11 #[.pointer (some ⟨p, 0, none⟩), .int .i64 500] W fun e w' => ∃ a, e = .returned (.tuple #[.int .i64 a, .int .i64 6]) ∧ AllR2 Rep w p k 0 v (.slice (some ⟨w'.heap.size, 0, none⟩) 0 0) (stA k k) [] (w'.alloc (.cells #[] 3))) := fun v W p h => by
    obtain ⟨F, hr, hF, ho, hf, hb⟩ := h
    obtain ⟨q1, q2, q3, q4⟩ := stA_full hk60 hk1
    have hc := HS.put 500 p F (stA k k) W hb (by unfold I64c; omega) hr hF
    rw [q3, q4] at hc
    refine hc.mono fun e w' ⟨F', r1, r2, r3, r4⟩ => ⟨_, r1, all_start hk60 hk1, F', HS.later r2 ((Below.refl _ _).alloc (Nat.le_refl _) _), fun b q => (r3 b q).elim (hF b) (fun q => Nat.le_trans hb.size q), (own_away ho r4 hf).alloc _, free_more ho hf r3, ?_, ?_, ?_, ?_⟩
    · exact World.ownsRow_made w' #[] 0 (r4.below hF hb hb.size).size (Nat.zero_le _) rfl
    · intro q hq hq2
      have : q = w'.heap.size := by simp [Value.ownBlock] at hq; exact hq.symm
      have := HS.lt w' p F' _ r2 q hq2
      omega
    · intro q hq hq2
      have : q = w'.heap.size := by simp [Value.ownBlock] at hq; exact hq.symm
      have := ((own_away ho r4 hf).lt q hq2).2
      omega
    · exact (r4.below hF hb hb.size).alloc (r4.below hF hb hb.size).size _
  have HTO : Hid (∀ i mv v s seen W p n, I64c n → AllR2 Rep w p k i mv v s seen W → Calls Try.prog 13 #[.pointer (some ⟨p, 0, none⟩), .int .i64 n] W fun e w' => ∃ r, e = .returned (.int .i64 r) ∧ AllR2 Rep w p k i mv v (touchS s n) seen w') := fun i mv v s seen W p n hn h => allR2_touch HS h hn
  have HLE : Hid (∀ i A c v s seen W p, i < k → AllR2 Rep w p k i (.slice A k c) v s seen W → Calls Try.prog 17 #[.pointer (some ⟨p, 0, none⟩), .slice A k c] W fun e w' => ∃ x : Int, e = .returned (.tuple #[.int .i64 x, .int .i64 0]) ∧ 100 - (k : Int) < x ∧ x ≤ 100 ∧ x ∉ seen ∧ All13 k (i + 1) (leaveS s (allL k)) (seen ++ [x]) ∧
      ∃ F, Rep w' p F (leaveS s (allL k)) ∧ (∀ b, F b → w.heap.size ≤ b) ∧ w'.ownsRow w.heap.size 3 1 (.slice A k c) k ((allL k).map (Value.int .i64)) ∧ Free F (.slice A k c) ∧ w'.ownsRow w.heap.size 3 1 v i (seen.map (Value.int .i64)) ∧ Free F v ∧ Apart v (.slice A k c) ∧ Below w.heap.size w w') := fun i A c v s seen W p hi h => allR2_leave HS h hk60 hi
  have HEND : Hid (∀ A c v s seen W p, AllR2 Rep w p k k (.slice A k c) v s seen W → Calls Try.prog 17 #[.pointer (some ⟨p, 0, none⟩), .slice A k c] W fun e w' => ∃ x : Int, e = .returned (.tuple #[.int .i64 x, .int .i64 4]) ∧ Below w.heap.size w w') := fun A c v s seen W p h => allR2_end HS h hk60
  have HAP2 : Hid (∀ (W W2 : World) (p i c c2 : Nat) (A A2 : Option Addr) (v5 : Value) (s : Ck) (seen : List Int) (x : Int), All13 k (i + 1) s (seen ++ [x]) →
    (∃ F, Rep W p F s ∧ (∀ b, F b → w.heap.size ≤ b) ∧ W.ownsRow w.heap.size 3 1 (.slice A k c) k ((allL k).map (Value.int .i64)) ∧ Free F (.slice A k c) ∧ W.ownsRow w.heap.size 3 1 (.slice A2 i c2) i (seen.map (Value.int .i64)) ∧ Free F (.slice A2 i c2) ∧ Apart (.slice A2 i c2) (.slice A k c) ∧ Below w.heap.size w W) →
    W2.ownsRow w.heap.size 3 1 v5 (i + 1) (seen.map (Value.int .i64) ++ [.int .i64 x]) → (W.alloc (.cells #[.int .i64 x] 3)).grownBy W2 (Value.ownBlock (.slice A2 i c2)) → (v5.ownBlock = Value.ownBlock (.slice A2 i c2) ∨ v5.ownBlock = some (W.heap.size + 1)) → AllR2 Rep w p k (i + 1) (.slice A k c) v5 s (seen ++ [x]) W2) := fun W W2 p i c c2 A A2 v5 s seen x q1 q2 q3 q4 q5 => allR2_app HS q1 q2 q3 q4 q5
  have HCELL : Hid (∀ W, Below w.heap.size w W → ∀ i, i < tl.length → ∃ b o, A1 = some ⟨b, o, none⟩ ∧ W.cell? ⟨b, o + i, none⟩ = some (.int .u8 (tl.getD i 0)) ∧ 0 ≤ tl.getD i 0 ∧ tl.getD i 0 ≤ 255) := fun W hb i hi => by
    obtain ⟨b, o, e, hbl, hc⟩ := hI i hi
    exact ⟨b, o, e, (hb.cell (p := ⟨b, o + i, none⟩) hbl).trans hc, hv _ (by rw [List.getD_eq_getElem?_getD, List.getElem?_eq_getElem hi]; exact List.getElem_mem hi)⟩
  obtain ⟨lt, hlt⟩ : ∃ m, m = tl.length := ⟨_, rfl⟩
  rw [← hlt] at HCELL ⊢
  have k1 : (1 : Int) ≤ (k : Int) := by omega
  have k60 : (k : Int) ≤ 60 := by omega
  have f8 : IntKind.i64.wrap (100 - (k : Int)) = 100 - (k : Int) := IntWalk.i64_in _ (by omega)
  clear HS hM hk f4 hn hI hv hlt
  go_enter Try.func6, Try.ntmps6
  go_wp2_with (first
    | (go_at_call 8; with_reducible (refine Calls.mono H1.out ?_); rintro e w1 ⟨p, rfl, ho1⟩)
    | (go_at_call 9; with_reducible (refine Calls.mono (HA.out _ (HOB.out _ _ _ ho1)) ?_); rintro e w2 ⟨rfl, hb2⟩; have ho2 := Lib.hid (HLT.out _ _ _ _ ho1 hb2)))
  have R0 := Lib.hid (H0.out _ _ ho2.out)
  clear ho1 ho2 hb2 HA H1
  go_loopw [8, 9] (fun v i wx => ∃ j : Nat, j ≤ k ∧ i = .int .i64 j ∧ (∃ A c, v = .slice A j c) ∧ Hid (AllR1 Rep w p k j v wx)) (fun _ i _ => k - (intOf i).toNat)
  case atStart => exact ⟨0, Nat.zero_le _, rfl, ⟨_, _, rfl⟩, R0.out⟩
  case round =>
    clear R0
    obtain ⟨j, hj, rfl, ⟨A3, c3, rfl⟩, hR⟩ := hrel
    by_cases hlt : j < k
    · have HPJ := Lib.hid (HPUT.out j _ _ _ hlt hR.out)
      have j1 : (j : Int) < (k : Int) := by omega
      have v1 : IntKind.i64.wrap (100 - (j : Int)) = 100 - (j : Int) := IntWalk.i64_in _ (by omega)
      clear hR
      go_wp2_with (first
        | (go_at_call 11; with_reducible (refine Calls.mono HPJ.out ?_); rintro e w3 ⟨rfl, hr3⟩; have HR3 := Lib.hid hr3; obtain ⟨F3, _, _, ho3, _, hb3⟩ := hr3)
        | (at_builtin; refine wpList_append_own_at _ rfl _ _ 30 rfl w.heap.size 3 i0 (.int .i64 0) 1 8 Try.underlying30 hif hz0 hz1 hz2 rfl (by decide) _ _ _ rfl (ho3.alloc _) ⟨w3.heap.size, 0, none⟩ 1 1 [.int .i64 (100 - (j : Int))] rfl rfl (cell_one_new _ _ _) ?d1 ?d2 ?d3 ?d4 ?_))
      case d1 => first | rfl | (intro u hu; simp at hu; subst hu; rfl)
      case d2 => unfold maxLen; omega
      case d3 => omega
      case d4 => have := hb3.size; simp; omega
      intro v5 w5 hown5 hg5 _ hv5
      have R : Hid (AllR1 Rep w p k (j + 1) v5 w5) := HAPP.out j _ w3 w5 v5 p HR3.out hown5 hg5 hv5
      obtain ⟨A6, c6, rfl⟩ := own_slice hown5
      clear ho3 hb3 hown5 hg5 hv5
      go_wp2
      go_roundw
      case rel => first | exact ⟨j + 1, by omega, by go_num, ⟨A6, c6, rfl⟩, R⟩ | ((repeat apply Exists.intro); exact ⟨⟨j + 1, by omega, by go_num, ⟨A6, c6, rfl⟩, R⟩, rfl⟩)
      case measure => simp [intOf]; omega
    · have hjk : k = j := by omega
      subst hjk
      have HP5J := Lib.hid (HP5.out _ _ _ hR.out)
      clear hR HPUT HAPP HP5 H0 HLT HOB
      go_wp2_with (go_at_call 11; with_reducible (refine Calls.mono HP5J.out ?_); rintro e w3 ⟨a3, rfl, hr3⟩; have HR3 := Lib.hid hr3; clear hr3)
      go_loopw [14, 15] (fun v i wx => ∃ (j : Nat) (s : Ck) (seen : List Int), j ≤ k ∧ i = .int .i64 j ∧ (∃ A c, v = .slice A j c) ∧ Hid (AllR2 Rep w p k j (.slice A3 k c3) v s seen wx)) (fun _ i _ => k - (intOf i).toNat)
      case atStart => exact ⟨0, _, _, Nat.zero_le _, rfl, ⟨_, _, rfl⟩, HR3.out⟩
      case round =>
        clear HR3
        obtain ⟨j, s, seen, hj, rfl, ⟨A4, c4, rfl⟩, hR⟩ := hrel
        obtain ⟨wo, hwo⟩ : ∃ x, x = wr := ⟨_, rfl⟩
        subst hwo
        by_cases hlt : j < k
        · have j1 : (j : Int) < (k : Int) := by omega
          have j0 : (0 : Int) ≤ (j : Int) := by omega
          have HBo : Hid (Below w.heap.size w wo) := hR.out.2.choose_spec.2.2.2.2.2.2.2
          by_cases hjt : j < lt
          · have j2 : (j : Int) < (lt : Int) := by omega
            obtain ⟨bt, ot, rfl, ct, x0, x1⟩ := HCELL.out wo HBo.out j hjt
            obtain ⟨y, hy⟩ : ∃ y, y = tl.getD j 0 := ⟨_, rfl⟩
            rw [← hy] at ct x0 x1
            have vy : IntKind.i64.wrap y = y := IntWalk.i64_in _ (by omega)
            have vz : IntKind.i64.wrap (100 - y) = 100 - y := IntWalk.i64_in _ (by omega)
            have HTJ := Lib.hid (HTO.out _ _ _ _ _ _ _ (100 - y) (by unfold I64c; omega) hR.out)
            clear hy hR
            go_wp2_with (first
              | (go_at_call 13; with_reducible (refine Calls.mono HTJ.out ?_); rintro e w4 ⟨r4, rfl, hr4⟩; have HR4 := Lib.hid hr4; clear hr4)
              | (go_at_call 17; with_reducible (refine Calls.mono (HLE.out _ _ _ _ _ _ _ _ hlt HR4.out) ?_); rintro e w5 ⟨x, rfl, hx1, hx2, hx3, hA5, hr5⟩; have HR5 := Lib.hid hr5; obtain ⟨F5, _, _, _, _, ho5, _, _, hb5⟩ := hr5; have HA5 := Lib.hid hA5; clear hA5))
            have hsl : seen.length = j := by have := ho5.1; rw [List.length_map] at this; omega
            have HNI : Hid (∀ i, i < j → seen.getD i 0 ≠ x) := fun i hi e => hx3 (by rw [← e, List.getD_eq_getElem?_getD, List.getElem?_eq_getElem (by rw [hsl]; exact hi)]; exact List.getElem_mem _)
            have HO5 := Lib.hid ho5
            have HB5 := Lib.hid hb5
            have HSL := Lib.hid hsl
            have xg : ¬ (100 : Int) < x := by omega
            have xl : ¬ x ≤ 100 - (k : Int) := by omega
            clear ho5 hb5 hsl hx3
            go_loopw [18] (fun i wx => ∃ m : Nat, m ≤ j ∧ i = .int .i64 m ∧ wx = w5) (fun i _ => j - (intOf i).toNat)
            case atStart => exact ⟨0, Nat.zero_le _, rfl, rfl⟩
            case round =>
              obtain ⟨m, hm, rfl, hwr⟩ := hrel
              by_cases hmj : m < j
              · have m1 : (m : Int) < (j : Int) := by omega
                have m0 : (0 : Int) ≤ (m : Int) := by omega
                obtain ⟨g, cap, hv, _, _⟩ := HO5.out.form (by omega)
                injection hv with q1 _ q3
                subst q1 q3
                have cm := own_atK HO5.out (i := m) (by rw [HSL.out]; exact hmj)
                rw [← hwr] at cm
                have hne := HNI.out m hmj
                obtain ⟨z, hz⟩ : ∃ z, z = seen.getD m 0 := ⟨_, rfl⟩
                rw [← hz] at cm hne
                have he : (z == x) = false := beq_eq_false_iff_ne.2 hne
                have HWR := Lib.hid hwr
                clear hz hwr
                go_wp2
                go_roundw
                case rel => first | exact ⟨m + 1, by omega, by go_num, HWR.out⟩ | ((repeat apply Exists.intro); exact ⟨⟨m + 1, by omega, by go_num, HWR.out⟩, rfl⟩)
                case measure => simp [intOf]; omega
              · have hmj2 : m = j := by omega
                subst hmj2
                subst hwr
                have ho5 := HO5.out
                have hb5 := HB5.out
                go_wp2_with (at_builtin; refine wpList_append_own_at _ rfl _ _ 30 rfl w.heap.size 3 i0 (.int .i64 0) 1 8 Try.underlying30 hif hz0 hz1 hz2 rfl (by decide) _ _ _ rfl (ho5.alloc _) ⟨wr.heap.size, 0, none⟩ 1 1 [.int .i64 x] rfl rfl (cell_one_new _ _ _) ?d1 ?d2 ?d3 ?d4 ?_)
                case d1 => first | rfl | (intro u hu; simp at hu; subst hu; rfl)
                case d2 => unfold maxLen; omega
                case d3 => omega
                case d4 => have := hb5.size; simp; omega
                intro v6 w6 hown6 hg6 _ hv6
                have R : Hid (AllR2 Rep w p k (m + 1) (.slice A3 k c3) v6 _ (seen ++ [x]) w6) := HAP2.out _ w6 p m c3 c4 A3 A4 v6 _ seen x HA5.out HR5.out hown6 hg6 hv6
                obtain ⟨A7, c7, rfl⟩ := own_slice hown6
                clear ho5 hb5 hown6 hg6 hv6
                go_wp2
                go_roundw
                case rel => first | exact ⟨m + 1, _, _, by omega, by go_num, ⟨A7, c7, rfl⟩, R⟩ | ((repeat apply Exists.intro); exact ⟨⟨m + 1, _, _, by omega, by go_num, ⟨A7, c7, rfl⟩, R⟩, rfl⟩)
                case measure => simp [intOf]; omega
          · have j2 : ¬ (j : Int) < (lt : Int) := by omega
            have HR4 := hR
            clear hR
            go_wp2_with (go_at_call 17; with_reducible (refine Calls.mono (HLE.out _ _ _ _ _ _ _ _ hlt HR4.out) ?_); rintro e w5 ⟨x, rfl, hx1, hx2, hx3, hA5, hr5⟩; have HR5 := Lib.hid hr5; obtain ⟨F5, _, _, _, _, ho5, _, _, hb5⟩ := hr5; have HA5 := Lib.hid hA5; clear hA5)
            have hsl : seen.length = j := by have := ho5.1; rw [List.length_map] at this; omega
            have HNI : Hid (∀ i, i < j → seen.getD i 0 ≠ x) := fun i hi e => hx3 (by rw [← e, List.getD_eq_getElem?_getD, List.getElem?_eq_getElem (by rw [hsl]; exact hi)]; exact List.getElem_mem _)
            have HO5 := Lib.hid ho5
            have HB5 := Lib.hid hb5
            have HSL := Lib.hid hsl
            have xg : ¬ (100 : Int) < x := by omega
            have xl : ¬ x ≤ 100 - (k : Int) := by omega
            clear ho5 hb5 hsl hx3
            go_loopw [18] (fun i wx => ∃ m : Nat, m ≤ j ∧ i = .int .i64 m ∧ wx = w5) (fun i _ => j - (intOf i).toNat)
            case atStart => exact ⟨0, Nat.zero_le _, rfl, rfl⟩
            case round =>
              obtain ⟨m, hm, rfl, hwr⟩ := hrel
              by_cases hmj : m < j
              · have m1 : (m : Int) < (j : Int) := by omega
                have m0 : (0 : Int) ≤ (m : Int) := by omega
                obtain ⟨g, cap, hv, _, _⟩ := HO5.out.form (by omega)
                injection hv with q1 _ q3
                subst q1 q3
                have cm := own_atK HO5.out (i := m) (by rw [HSL.out]; exact hmj)
                rw [← hwr] at cm
                have hne := HNI.out m hmj
                obtain ⟨z, hz⟩ : ∃ z, z = seen.getD m 0 := ⟨_, rfl⟩
                rw [← hz] at cm hne
                have he : (z == x) = false := beq_eq_false_iff_ne.2 hne
                have HWR := Lib.hid hwr
                clear hz hwr
                go_wp2
                go_roundw
                case rel => first | exact ⟨m + 1, by omega, by go_num, HWR.out⟩ | ((repeat apply Exists.intro); exact ⟨⟨m + 1, by omega, by go_num, HWR.out⟩, rfl⟩)
                case measure => simp [intOf]; omega
              · have hmj2 : m = j := by omega
                subst hmj2
                subst hwr
                have ho5 := HO5.out
                have hb5 := HB5.out
                go_wp2_with (at_builtin; refine wpList_append_own_at _ rfl _ _ 30 rfl w.heap.size 3 i0 (.int .i64 0) 1 8 Try.underlying30 hif hz0 hz1 hz2 rfl (by decide) _ _ _ rfl (ho5.alloc _) ⟨wr.heap.size, 0, none⟩ 1 1 [.int .i64 x] rfl rfl (cell_one_new _ _ _) ?d1 ?d2 ?d3 ?d4 ?_)
                case d1 => first | rfl | (intro u hu; simp at hu; subst hu; rfl)
                case d2 => unfold maxLen; omega
                case d3 => omega
                case d4 => have := hb5.size; simp; omega
                intro v6 w6 hown6 hg6 _ hv6
                have R : Hid (AllR2 Rep w p k (m + 1) (.slice A3 k c3) v6 _ (seen ++ [x]) w6) := HAP2.out _ w6 p m c3 c4 A3 A4 v6 _ seen x HA5.out HR5.out hown6 hg6 hv6
                obtain ⟨A7, c7, rfl⟩ := own_slice hown6
                clear ho5 hb5 hown6 hg6 hv6
                go_wp2
                go_roundw
                case rel => first | exact ⟨m + 1, _, _, by omega, by go_num, ⟨A7, c7, rfl⟩, R⟩ | ((repeat apply Exists.intro); exact ⟨⟨m + 1, _, _, by omega, by go_num, ⟨A7, c7, rfl⟩, R⟩, rfl⟩)
                case measure => simp [intOf]; omega
        · have hjk : k = j := by omega
          subst hjk
          have HEJ := Lib.hid (HEND.out _ _ _ _ _ _ _ hR.out)
          clear hR
          go_wp2_with (go_at_call 17; with_reducible (refine Calls.mono HEJ.out ?_); rintro e w6 ⟨x6, rfl, hb6⟩)
          go_ret
          exact ⟨rfl, hb6⟩
end

end Go.Proofs.Ytdfalnjdjkoofaa
