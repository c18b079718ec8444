/-
  The program's small functions of bytes: doubled, turned, spread; and its images of all bytes. The program's columns: added, mixed.
-/
import Derived.Test.YtanpfodmmeagaaaDoorAesCNG
import Derived.Test.YtanpfodmmeagaaaDoorAesRefG
namespace Go.Proofs.YtanpfodmmeagaaaDoor
open Go.RowKit

set_option maxHeartbeats 800000 in
/-- 'double'. -/
theorem double_any (b : Nat) (w : World) (hb : b < 256) : Calls Tryd.prog 48 #[.int .u8 (b : Int)] w fun e w' => e = .returned (.int .u8 (timesN 2 b : Nat)) ∧ w = w' := by
  have h := dbl_is b hb
  have h1 := b8_x (b * 2 % 256) (b / 128 * 27) (by omega) (by omega)
  rw [h] at h1
  have HX := Lib.hid h1
  clear h h1
  go_enter Tryd.func48, Tryd.ntmps48
  go_wp2
  go_ret
  exact ⟨ret_int HX.out, rfl⟩

set_option maxHeartbeats 800000 in
/-- 'bits.RotateLeft8'. -/
theorem rot8_any (v n : Nat) (w : World) (hv : v < 256) (h1 : 1 ≤ n) (hn : n ≤ 4) :
    Calls Tryd.prog 81 #[.int .u8 (v : Int), .int .i64 (n : Int)] w fun e w' => e = .returned (.int .u8 (leftN v n : Nat)) ∧ w = w' := by
  have ha : bits .and .u64 (n : Int) 7 = (n : Int) := by
    have := b64_a n 7 (by omega) (by decide)
    rw [show n &&& 7 = n by rcases (show n = 1 ∨ n = 2 ∨ n = 3 ∨ n = 4 by omega) with rfl | rfl | rfl | rfl <;> rfl] at this
    exact this
  have h2 : (n : Int) ≤ 4 := by omega
  have h3 : (0 : Int) ≤ (n : Int) := by omega
  have h4 : (0 : Int) ≤ 8 - (n : Int) := by omega
  have h6 : ((8 : Int) - (n : Int)).toNat = 8 - n := by omega
  have e1 : bits .or .u8 ((v : Int) * 2 ^ n % 256) ((v : Int) / 2 ^ (8 - n)) = ((leftN v n : Nat) : Int) := by
    have a1 : ((v : Int) / 2 ^ (8 - n)) = ((v / 2 ^ (8 - n) : Nat) : Int) := by rw [Int.natCast_ediv, Int.natCast_pow]; rfl
    have a2 : ((v : Int) * 2 ^ n % 256) = ((v * 2 ^ n % 256 : Nat) : Int) := by
      rw [Int.natCast_emod, Int.natCast_mul, Int.natCast_pow]; rfl
    rw [a1, a2, b8_o _ _ (Nat.mod_lt _ (by decide)) (Nat.lt_of_le_of_lt (Nat.div_le_self _ _) hv)]; rfl
  have HE := Lib.hid e1
  clear e1
  go_enter Tryd.func81, Tryd.ntmps81
  go_wp2
  go_ret
  exact ⟨ret_int HE.out, rfl⟩

def spTo (v : Nat) : Nat → Nat
  | 0 => v ^^^ 99
  | k + 1 => spTo v k ^^^ leftN v (k + 1)
theorem spTo_lt {v : Nat} (hv : v < 256) : ∀ k, spTo v k < 256
  | 0 => xor_lt8 hv (by decide)
  | k + 1 => xor_lt8 (spTo_lt hv k) (leftN_lt hv)
set_option maxHeartbeats 800000 in
/-- 'spread'. -/
theorem spread_any (v : Nat) (w : World) (hv : v < 256) : Calls Tryd.prog 71 #[.int .u8 (v : Int)] w fun e w' => e = .returned (.int .u8 (spreadN v : Nat)) ∧ w = w' := by
  have h0 := b8_x v 99 hv (by decide)
  have hh : bits .xor .u8 (v : Int) 99 = ((v ^^^ 99 : Nat) : Int) := h0
  clear h0
  go_enter Tryd.func71, Tryd.ntmps71
  go_wp2
  go_loop [3, 4] (fun s i => ∃ k : Nat, k ≤ 4 ∧ i = .int .i64 ((k : Int) + 1) ∧ s = .int .u8 (spTo v k : Nat)) (fun _ i => 5 - (intOf i).toNat)
  case atStart => exact ⟨0, by omega, rfl, rfl⟩
  case round =>
    obtain ⟨k, hk, rfl, rfl⟩ := hrel
    clear hh
    by_cases hlt : k < 4
    · have hs := spTo_lt hv k
      have hT := fun W => rot8_any v (k + 1) W hv (by omega) (by omega)
      have hx := b8_x (spTo v k) (leftN v (k + 1)) hs (leftN_lt hv)
      have hn : spTo v (k + 1) = spTo v k ^^^ leftN v (k + 1) := rfl
      rw [← hn] at hx
      obtain ⟨q, hq⟩ : ∃ q, q = leftN v (k + 1) := ⟨_, rfl⟩
      obtain ⟨s, hs'⟩ : ∃ s, s = spTo v k := ⟨_, rfl⟩
      obtain ⟨t, ht⟩ : ∃ s, s = spTo v (k + 1) := ⟨_, rfl⟩
      have ek : ((k + 1 : Nat) : Int) = (k : Int) + 1 := rfl
      rw [← hs'] at hx hs ⊢
      simp only [← hq, ek] at hT
      rw [← hq, ← ht] at hx
      have HT := Lib.hid hT
      have HH := Lib.hid ht
      have k1 : (k : Int) + 1 ≤ 4 := by omega
      have k0 : (0 : Int) ≤ (k : Int) := by omega
      clear hq hs' ht hT hn hs ek
      go_wp2_with (go_at_call 81; with_reducible (refine Calls.mono (HT.out _) ?_); rintro e w' ⟨rfl, rfl⟩)
      go_round
      case rel => exact ⟨k + 1, by omega, by go_num, by rw [← HH.out]⟩
      case measure => simp [intOf]; omega
    · have hk4 : k = 4 := by omega
      subst hk4
      go_wp2
      go_ret
      exact ⟨rfl, rfl⟩

end Go.Proofs.YtanpfodmmeagaaaDoor

namespace Go.Proofs.YtanpfodmmeagaaaDoor
open Go.RowKit

structure Ok4 (b : List Nat) : Prop where
  len : b.length = 4
  lt : ∀ x ∈ b, x < 256
theorem Ok4.at_ {b : List Nat} (h : Ok4 b) (i : Nat) : b.getD i 0 < 256 := getD_lt' (by decide) h.lt i
def plus4 (a b : List Nat) : List Nat := (List.range 4).map fun i => a.getD i 0 ^^^ b.getD i 0
def mix4 (a : List Nat) : List Nat := (List.range 4).map fun i => mix1 (a.getD i 0) (a.getD ((i + 1) % 4) 0) (a.getD ((i + 2) % 4) 0) (a.getD ((i + 3) % 4) 0)
theorem plus4_ok {a b : List Nat} (ha : Ok4 a) (hb : Ok4 b) : Ok4 (plus4 a b) := ⟨by simp [plus4], fun x hx => by
  obtain ⟨i, _, rfl⟩ := List.mem_map.1 hx
  exact xor_lt8 (ha.at_ i) (hb.at_ i)⟩
theorem mix4_ok {a : List Nat} (ha : Ok4 a) : Ok4 (mix4 a) := ⟨by simp [mix4], fun x hx => by
  obtain ⟨i, _, rfl⟩ := List.mem_map.1 hx
  exact mix1_lt (ha.at_ _) (ha.at_ _)⟩

set_option maxHeartbeats 1600000 in
set_option maxRecDepth 20000 in
/-- 'plus' of columns. -/
theorem plus4_any (a b : List Nat) (w : World) (ha : Ok4 a) (hb : Ok4 b) : Calls Tryd.prog 72 #[.agg (BA a), .agg (BA b)] w fun e w' => e = .returned (.agg (BA (plus4 a b))) ∧ Below w.heap.size w w' := by
  have hz := (zero_of_info (P := Tryd.prog) (t := 78) (v := .agg (BA (zeros 4))) (n := 4) (by kernel_rfl)).1
  have hu := Tryd.underlying78
  have hp0 : prog 4 (fun i => a.getD i 0 ^^^ b.getD i 0) (fun i => a.getD i 0) 0 = a := prog_zero ha.len _
  have hp4 : prog 4 (fun i => a.getD i 0 ^^^ b.getD i 0) (fun i => a.getD i 0) 4 = plus4 a b := prog_all _ _ _
  have HPL := Lib.hid (fun k => prog_len 4 (fun i => a.getD i 0 ^^^ b.getD i 0) (fun i => a.getD i 0) k)
  have HPN := Lib.hid (fun k => prog_next 4 (fun i => a.getD i 0 ^^^ b.getD i 0) (fun i => a.getD i 0) k)
  have HPT := Lib.hid (fun k (hk : k < 4) => prog_at (n := 4) (fun i => a.getD i 0 ^^^ b.getD i 0) (fun i => a.getD i 0) k hk)
  obtain ⟨Z, hZ⟩ : ∃ Z, Z = zeros 4 := ⟨_, rfl⟩
  have hzl : Z.length = 4 := by rw [hZ]; rfl
  rw [← hZ] at hz
  obtain ⟨P, hP⟩ : ∃ P, P = prog 4 (fun i => a.getD i 0 ^^^ b.getD i 0) (fun i => a.getD i 0) := ⟨_, rfl⟩
  simp only [← hP] at hp0 hp4 HPL HPN HPT
  have i1 : ((w.alloc (.cells (BA a) 78)).alloc (.cells (BA b) 78)).heap[w.heap.size]? = some (.cells (BA a) 78 (0, 0)) := (Below.heap_alloc _ _ _ (by simp)).trans (heap_alloc_new _ _)
  have i2 : ((w.alloc (.cells (BA a) 78)).alloc (.cells (BA b) 78)).heap[w.heap.size + 1]? = some (.cells (BA b) 78 (0, 0)) := heap_alloc_new' _ _ _ (by simp)
  have ib : Below w.heap.size w ((w.alloc (.cells (BA a) 78)).alloc (.cells (BA b) 78)) := ((Below.refl _ _).alloc (Nat.le_refl _) _).alloc (by simp) _
  have is : ((w.alloc (.cells (BA a) 78)).alloc (.cells (BA b) 78)).heap.size = w.heap.size + 2 := by simp
  have h1 := (Below.heap_alloc _ (.cells (BA Z) 78) _ (by rw [is]; omega)).trans i1
  have h2 := (Below.heap_alloc _ (.cells (BA Z) 78) _ (by rw [is]; omega)).trans i2
  have h3 := heap_alloc_new' ((w.alloc (.cells (BA a) 78)).alloc (.cells (BA b) 78)) (.cells (BA Z) 78) (w.heap.size + 2) is.symm
  have h4 := ib.alloc (by rw [is]; omega) (.cells (BA Z) 78)
  rw [← hp0] at h1 h2 h3 h4
  have R0 := Lib.hid (And.intro h1 (And.intro h2 (And.intro h3 h4)))
  rw [hp0] at R0
  clear hZ i1 i2 ib is h1 h2 h3 h4
  go_enter Tryd.func72, Tryd.ntmps72
  go_wp2
  go_loopw [6] (fun i wr => ∃ k : Nat, k ≤ 4 ∧ i = .int .i64 k ∧ wr.heap[w.heap.size]? = some (.cells (BA (P k)) 78 (0, 0)) ∧ wr.heap[w.heap.size + 1]? = some (.cells (BA b) 78 (0, 0)) ∧ wr.heap[w.heap.size + 2]? = some (.cells (BA Z) 78 (0, 0)) ∧ Below w.heap.size w wr) (fun i _ => 4 - (intOf i).toNat)
  case atStart => exact ⟨0, by omega, rfl, by rw [hp0]; exact R0.out.1, R0.out.2⟩
  case round =>
    clear R0
    obtain ⟨k, hk, rfl, r1, r2, r3, rb⟩ := hrel
    by_cases hlt : k < 4
    · have c1 := BA_cell r1 (i := k) (by rw [HPL.out]; exact hlt)
      rw [HPT.out k hlt, if_neg (Nat.lt_irrefl k)] at c1
      have c2 := BA_cell r2 (i := k) (by rw [hb.len]; exact hlt)
      have f1 := frozen_row wr w.heap.size k _ _ r1
      have hx := b8_x (a.getD k 0) (b.getD k 0) (ha.at_ k) (hb.at_ k)
      have s1 := set_BA r1 k (a.getD k 0 ^^^ b.getD k 0)
      have s2 := (heap_cell_other wr w.heap.size k (w.heap.size + 1) (.int .u8 (a.getD k 0 ^^^ b.getD k 0 : Nat)) (by omega)).trans r2
      have s3 := (heap_cell_other wr w.heap.size k (w.heap.size + 2) (.int .u8 (a.getD k 0 ^^^ b.getD k 0 : Nat)) (by omega)).trans r3
      have s4 := below_cell rb (Nat.le_refl _) k (.int .u8 (a.getD k 0 ^^^ b.getD k 0 : Nat))
      rw [HPN.out] at s1
      have R := Lib.hid (And.intro s1 (And.intro s2 (And.intro s3 s4)))
      have k1 : (k : Int) < 4 := by omega
      obtain ⟨x, hx'⟩ : ∃ x, x = a.getD k 0 := ⟨_, rfl⟩
      obtain ⟨y, hy'⟩ : ∃ x, x = b.getD k 0 := ⟨_, rfl⟩
      rw [← hx'] at c1 hx R
      rw [← hy'] at c2 hx R
      obtain ⟨z, hz'⟩ : ∃ z, z = x ^^^ y := ⟨_, rfl⟩
      rw [← hz'] at hx R
      clear r1 r2 r3 rb s1 s2 s3 s4 hx' hy' hz'
      go_wp2
      go_region
      all_goals
        go_wp2
        go_roundw
        case rel => first | exact ⟨k + 1, by omega, by go_num, R.out.1, R.out.2.1, R.out.2.2.1, R.out.2.2.2.drew⟩ | ((repeat apply Exists.intro); exact ⟨⟨k + 1, by omega, by go_num, R.out.1, R.out.2.1, R.out.2.2.1, R.out.2.2.2.drew⟩, rfl⟩)
        case measure => simp [intOf]; omega
    · have hk8 : k = 4 := by omega
      subst hk8
      rw [hp4] at r1
      have hl := (plus4_ok ha hb).len
      have h1 := BA_one (plus4 a b)
      obtain ⟨I, hI⟩ : ∃ I, I = plus4 a b := ⟨_, rfl⟩
      rw [← hI] at r1 hl h1
      have hi := (show (Tryd.prog.info? 78).map (·.size) = some (BA I).size by rw [BA_size, hl]; kernel_rfl)
      have hzi : (BA Z).size = (BA I).size := by rw [BA_size, BA_size, hl, hzl]
      have HI := Lib.hid hI
      clear hI
      go_wp2_with (first
        | (refine wpList_load_row rfl 78 _ rfl w.heap.size rfl 78 _ (0, 0) _ r1 hu rfl hi ?_)
        | (refine wpList_store_fresh rfl 78 _ _ rfl (w.heap.size + 2) (BA I) rfl rfl 78 (BA Z) r3 hi hzi h1 rb (by omega) ?_; intro W hW hbW hkW hsW))
      refine bodyPost_ret (v := .agg (BA I)) ?_ rfl ⟨by rw [HI.out], hbW⟩
      exact results_mid rfl _ _ (w.heap.size + 2) I _ _ _ rfl hW hu rfl (by rw [hi, BA_size])
theorem all_turn (a : List Nat) {r : Nat} (hr : r < 4) : a.getD 0 0 ^^^ a.getD 1 0 ^^^ a.getD 2 0 ^^^ a.getD 3 0 = a.getD r 0 ^^^ a.getD ((r + 1) % 4) 0 ^^^ a.getD ((r + 2) % 4) 0 ^^^ a.getD ((r + 3) % 4) 0 := by
  rcases (show r = 0 ∨ r = 1 ∨ r = 2 ∨ r = 3 by omega) with rfl | rfl | rfl | rfl
  · rfl
  · show _ = a.getD 1 0 ^^^ a.getD 2 0 ^^^ a.getD 3 0 ^^^ a.getD 0 0
    rw [Nat.xor_comm _ (a.getD 0 0)]
    simp only [Nat.xor_assoc]
  · show _ = a.getD 2 0 ^^^ a.getD 3 0 ^^^ a.getD 0 0 ^^^ a.getD 1 0
    simp only [Nat.xor_assoc, Nat.xor_comm, xor_left']
  · show _ = a.getD 3 0 ^^^ a.getD 0 0 ^^^ a.getD 1 0 ^^^ a.getD 2 0
    rw [Nat.xor_comm _ (a.getD 3 0)]
    simp only [Nat.xor_assoc]
def allN (a : List Nat) : Nat := a.getD 0 0 ^^^ a.getD 1 0 ^^^ a.getD 2 0 ^^^ a.getD 3 0
theorem mix_all {a : List Nat} (ha : Ok4 a) {r : Nat} (hr : r < 4) : allN a ^^^ a.getD r 0 ^^^ timesN 2 (a.getD r 0 ^^^ a.getD ((r + 1) % 4) 0) = mix1 (a.getD r 0) (a.getD ((r + 1) % 4) 0) (a.getD ((r + 2) % 4) 0) (a.getD ((r + 3) % 4) 0) := by
  unfold allN
  rw [all_turn a hr]
  exact mix_code (ha.at_ _)

set_option maxHeartbeats 1600000 in
set_option maxRecDepth 20000 in
/-- 'mixed' of a column. -/
theorem mix4_any (a : List Nat) (w : World) (ha : Ok4 a) : Calls Tryd.prog 75 #[.agg (BA a)] w fun e w' => e = .returned (.agg (BA (mix4 a))) ∧ Below w.heap.size w w' := by
  have hz := (zero_of_info (P := Tryd.prog) (t := 78) (v := .agg (BA (zeros 4))) (n := 4) (by kernel_rfl)).1
  have hu := Tryd.underlying78
  have HDB := Lib.hid (fun (b : Nat) (W : World) (hb : b < 256) => double_any b W hb)
  have hp4 : prog 4 (fun i => mix1 (a.getD i 0) (a.getD ((i + 1) % 4) 0) (a.getD ((i + 2) % 4) 0) (a.getD ((i + 3) % 4) 0)) (fun i => (zeros 4).getD i 0) 4 = mix4 a := prog_all _ _ _
  have hp0 : prog 4 (fun i => mix1 (a.getD i 0) (a.getD ((i + 1) % 4) 0) (a.getD ((i + 2) % 4) 0) (a.getD ((i + 3) % 4) 0)) (fun i => (zeros 4).getD i 0) 0 = zeros 4 := prog_zero (zeros_len 4) _
  have HPL := Lib.hid (fun k => prog_len 4 (fun i => mix1 (a.getD i 0) (a.getD ((i + 1) % 4) 0) (a.getD ((i + 2) % 4) 0) (a.getD ((i + 3) % 4) 0)) (fun i => (zeros 4).getD i 0) k)
  have HPN := Lib.hid (fun k => prog_next 4 (fun i => mix1 (a.getD i 0) (a.getD ((i + 1) % 4) 0) (a.getD ((i + 2) % 4) 0) (a.getD ((i + 3) % 4) 0)) (fun i => (zeros 4).getD i 0) k)
  obtain ⟨P, hP⟩ : ∃ P, P = prog 4 (fun i => mix1 (a.getD i 0) (a.getD ((i + 1) % 4) 0) (a.getD ((i + 2) % 4) 0) (a.getD ((i + 3) % 4) 0)) (fun i => (zeros 4).getD i 0) := ⟨_, rfl⟩
  simp only [← hP] at hp0 hp4 HPL HPN
  obtain ⟨Z, hZ⟩ : ∃ Z, Z = zeros 4 := ⟨_, rfl⟩
  have hzl : Z.length = 4 := by rw [hZ]; rfl
  rw [← hZ] at hz hp0
  have i1 : ((w.alloc (.cells (BA a) 78)).alloc (.cells (BA Z) 78)).heap[w.heap.size]? = some (.cells (BA a) 78 (0, 0)) := (Below.heap_alloc _ _ _ (by simp)).trans (heap_alloc_new _ _)
  have i2 : ((w.alloc (.cells (BA a) 78)).alloc (.cells (BA Z) 78)).heap[w.heap.size + 1]? = some (.cells (BA Z) 78 (0, 0)) := heap_alloc_new' _ _ _ (by simp)
  have ib : Below w.heap.size w ((w.alloc (.cells (BA a) 78)).alloc (.cells (BA Z) 78)) := ((Below.refl _ _).alloc (Nat.le_refl _) _).alloc (by simp) _
  have is : ((w.alloc (.cells (BA a) 78)).alloc (.cells (BA Z) 78)).heap.size = w.heap.size + 2 := by simp
  have h1 := (Below.heap_alloc _ (.cells (BA Z) 78) _ (by rw [is]; omega)).trans i1
  have h2 := (Below.heap_alloc _ (.cells (BA Z) 78) _ (by rw [is]; omega)).trans i2
  have h3 := heap_alloc_new' ((w.alloc (.cells (BA a) 78)).alloc (.cells (BA Z) 78)) (.cells (BA Z) 78) (w.heap.size + 2) is.symm
  have h4 := ib.alloc (by rw [is]; omega) (.cells (BA Z) 78)
  have R0 := Lib.hid (And.intro h1 (And.intro h2 (And.intro h3 h4)))
  have c0 := BA_cell i1 (i := 0) (by rw [ha.len]; decide)
  have c1 := BA_cell i1 (i := 1) (by rw [ha.len]; decide)
  have c2 := BA_cell i1 (i := 2) (by rw [ha.len]; decide)
  have c3 := BA_cell i1 (i := 3) (by rw [ha.len]; decide)
  have x1 := b8_x _ _ (ha.at_ 0) (ha.at_ 1)
  have x2 := b8_x _ _ (xor_lt8 (ha.at_ 0) (ha.at_ 1)) (ha.at_ 2)
  have x3 := b8_x _ _ (xor_lt8 (xor_lt8 (ha.at_ 0) (ha.at_ 1)) (ha.at_ 2)) (ha.at_ 3)
  have hall : allN a = a.getD 0 0 ^^^ a.getD 1 0 ^^^ a.getD 2 0 ^^^ a.getD 3 0 := rfl
  have hal : allN a < 256 := xor_lt8 (xor_lt8 (xor_lt8 (ha.at_ 0) (ha.at_ 1)) (ha.at_ 2)) (ha.at_ 3)
  rw [← hall] at x3
  have HM := Lib.hid (fun (r : Nat) (hr : r < 4) => mix_all ha hr)
  obtain ⟨n, hn⟩ : ∃ n, n = allN a := ⟨_, rfl⟩
  rw [← hn] at x3 hal
  simp only [← hn] at HM
  obtain ⟨y0, e0⟩ : ∃ y, y = a.getD 0 0 := ⟨_, rfl⟩
  obtain ⟨y1, e1⟩ : ∃ y, y = a.getD 1 0 := ⟨_, rfl⟩
  obtain ⟨y2, e2⟩ : ∃ y, y = a.getD 2 0 := ⟨_, rfl⟩
  obtain ⟨y3, e3⟩ : ∃ y, y = a.getD 3 0 := ⟨_, rfl⟩
  rw [← e0] at c0 x1 x2 x3
  rw [← e1] at c1 x1 x2 x3
  rw [← e2] at c2 x2 x3
  rw [← e3] at c3 x3
  obtain ⟨s1, f1⟩ : ∃ y, y = y0 ^^^ y1 := ⟨_, rfl⟩
  rw [← f1] at x1 x2 x3
  obtain ⟨s2, f2⟩ : ∃ y, y = s1 ^^^ y2 := ⟨_, rfl⟩
  rw [← f2] at x2 x3
  clear hZ i1 i2 ib is h1 h2 h3 h4 hall hn hP e0 e1 e2 e3 f1 f2
  go_enter Tryd.func75, Tryd.ntmps75
  go_wp2
  clear c0 c1 c2 c3 x1 x2 x3
  go_loopw [17] (fun i wr => ∃ k : Nat, k ≤ 4 ∧ i = .int .i64 k ∧ wr.heap[w.heap.size]? = some (.cells (BA a) 78 (0, 0)) ∧ wr.heap[w.heap.size + 1]? = some (.cells (BA Z) 78 (0, 0)) ∧ wr.heap[w.heap.size + 2]? = some (.cells (BA (P k)) 78 (0, 0)) ∧ Below w.heap.size w wr) (fun i _ => 4 - (intOf i).toNat)
  case atStart => exact ⟨0, by omega, rfl, R0.out.1, R0.out.2.1, by rw [hp0]; exact R0.out.2.2⟩
  case round =>
    clear R0
    obtain ⟨k, hk, rfl, r1, r2, r3, rb⟩ := hrel
    by_cases hlt : k < 4
    · obtain ⟨j, hj⟩ : ∃ j, j = (k + 1) % 4 := ⟨_, rfl⟩
      have hj4 : j < 4 := by omega
      have hjt : ((k : Int) + 1).tmod 4 = (j : Int) := by rw [Int.tmod_eq_emod_of_nonneg (by omega)]; omega
      have hje : ((k : Int) + 1) % 4 = (j : Int) := by omega
      have HS : Hid (∀ w' : World, w'.heap[w.heap.size]? = wr.heap[w.heap.size]? → w'.cell? ⟨w.heap.size, k, none⟩ = some (.int .u8 (a.getD k 0 : Nat)) ∧ w'.cell? ⟨w.heap.size, j, none⟩ = some (.int .u8 (a.getD j 0 : Nat))) := fun w' he =>
        ⟨BA_cell (he.trans r1) (by rw [ha.len]; exact hlt), BA_cell (he.trans r1) (by rw [ha.len]; exact hj4)⟩
      have hm := HM.out k hlt
      have hN := HPN.out k
      rw [← hm] at hN
      rw [← hj] at hN
      have d1 := BA_cell r3 (i := k) (by rw [HPL.out]; exact hlt)
      have d2 := frozen_row wr (w.heap.size + 2) k _ _ r3
      have x1 := b8_x n (a.getD k 0) hal (ha.at_ k)
      have x2 := b8_x (a.getD k 0) (a.getD j 0) (ha.at_ k) (ha.at_ j)
      have x3 := b8_x (n ^^^ a.getD k 0) (timesN 2 (a.getD k 0 ^^^ a.getD j 0)) (xor_lt8 hal (ha.at_ k)) (timesN_lt _ _)
      have hD := fun W => HDB.out (a.getD k 0 ^^^ a.getD j 0) W (xor_lt8 (ha.at_ k) (ha.at_ j))
      obtain ⟨x, hx'⟩ : ∃ x, x = a.getD k 0 := ⟨_, rfl⟩
      obtain ⟨y, hy'⟩ : ∃ x, x = a.getD j 0 := ⟨_, rfl⟩
      rw [← hx'] at HS x1 x2 x3 hN
      rw [← hy'] at HS x2 x3 hN
      simp only [← hx', ← hy'] at hD
      obtain ⟨u, hu'⟩ : ∃ z, z = n ^^^ x := ⟨_, rfl⟩
      rw [← hu'] at x1 x3 hN
      obtain ⟨v, hv'⟩ : ∃ z, z = x ^^^ y := ⟨_, rfl⟩
      rw [← hv'] at x2 x3 hN
      simp only [← hv'] at hD
      obtain ⟨d, hd'⟩ : ∃ z, z = timesN 2 v := ⟨_, rfl⟩
      rw [← hd'] at x3 hN
      simp only [← hd'] at hD
      obtain ⟨z, hz'⟩ : ∃ z, z = u ^^^ d := ⟨_, rfl⟩
      rw [← hz'] at x3 hN
      have s3 := set_BA r3 k z
      rw [hN] at s3
      have s1 := (heap_cell_other wr (w.heap.size + 2) k w.heap.size (.int .u8 (z : Nat)) (by omega)).trans r1
      have s2 := (heap_cell_other wr (w.heap.size + 2) k (w.heap.size + 1) (.int .u8 (z : Nat)) (by omega)).trans r2
      have s4 := below_cell rb (show w.heap.size ≤ w.heap.size + 2 by omega) k (.int .u8 (z : Nat))
      have R := Lib.hid (And.intro s1 (And.intro s2 (And.intro s3 s4)))
      have HD := Lib.hid hD
      have k1 : (k : Int) < 4 := by omega
      have j1 : (j : Int) < 4 := by omega
      have k0 : (0 : Int) ≤ (k : Int) := by omega
      have j0 : (0 : Int) ≤ (j : Int) := by omega
      have v1 : IntKind.i64.wrap ((k : Int) + 1) = (k : Int) + 1 := IntWalk.i64_in _ (by omega)
      have v2 : IntKind.i64.wrap (j : Int) = (j : Int) := IntWalk.i64_in _ (by omega)
      obtain ⟨q, hq⟩ : ∃ q, q = (P k).getD k 0 := ⟨_, rfl⟩
      rw [← hq] at d1
      clear r1 r2 r3 rb s1 s2 s3 s4 hx' hy' hz' hu' hv' hd' hN hD hm hq hj
      go_wp2
      go_region_held3 (fun W => W.cell? ⟨w.heap.size, k, none⟩ = some (.int .u8 (x : Nat)) ∧ W.cell? ⟨w.heap.size, j, none⟩ = some (.int .u8 (y : Nat)))
        (first
          | exact HS.out _ rfl
          | exact HS.out _ (heap_cell_other _ _ _ _ _ (by omega)))
        (first
          | (go_at_call 48; with_reducible (refine Calls.mono (HD.out _) ?_); rintro e wq ⟨rfl, rfl⟩))
      go_wp2
      go_roundw
      case rel => first | exact ⟨k + 1, by omega, by go_num, R.out.1, R.out.2.1, R.out.2.2.1, R.out.2.2.2.drew⟩ | ((repeat apply Exists.intro); exact ⟨⟨k + 1, by omega, by go_num, R.out.1, R.out.2.1, R.out.2.2.1, R.out.2.2.2.drew⟩, rfl⟩)
      case measure => simp [intOf]; omega
    · have hk8 : k = 4 := by omega
      subst hk8
      rw [hp4] at r3
      have hl := (mix4_ok ha).len
      have h1 := BA_one (mix4 a)
      obtain ⟨I, hI⟩ : ∃ I, I = mix4 a := ⟨_, rfl⟩
      rw [← hI] at r3 hl h1
      have hi := (show (Tryd.prog.info? 78).map (·.size) = some (BA I).size by rw [BA_size, hl]; kernel_rfl)
      have hzi : (BA Z).size = (BA I).size := by rw [BA_size, BA_size, hl, hzl]
      have HI := Lib.hid hI
      clear hI
      go_wp2_with (first
        | (refine wpList_load_row rfl 78 _ rfl (w.heap.size + 2) rfl 78 _ (0, 0) _ r3 hu rfl hi ?_)
        | (refine wpList_store_fresh rfl 78 _ _ rfl (w.heap.size + 1) (BA I) rfl rfl 78 (BA Z) r2 hi hzi h1 rb (by omega) ?_; intro W hW hbW hkW hsW))
      refine bodyPost_ret (v := .agg (BA I)) ?_ rfl ⟨by rw [HI.out], hbW⟩
      exact results_mid rfl _ _ (w.heap.size + 1) I _ _ _ rfl hW hu rfl (by rw [hi, BA_size])

end Go.Proofs.YtanpfodmmeagaaaDoor
