/-
  The program's next round key.
-/
import Derived.Test.YtcoiincgclglbaaAesC7
namespace Go.Proofs.Ytcoiincgclglbaa
open Go.RowKit

def nkF (k : List Nat) (x i : Nat) : Nat := nk k x (i / 4) (i % 4)
theorem nextTo_prog (k : List Nat) (x n : Nat) : nextTo k x n = prog 16 (nkF k x) (fun i => k.getD i 0) (4 * n) := rfl
/-- What is added to the first column, ahead of the sum. -/
def aheadF (k : List Nat) (r : Nat) : Nat := sbox.getD (k.getD (12 + (r + 1) % 4) 0) 0
/-- What is added to column c. -/
def ahN (k : List Nat) (x : Nat) : Nat → Nat → Nat
  | 0, r => if r = 0 then sbox.getD (k.getD 13 0) 0 ^^^ x else aheadF k r
  | c + 1, r => nk k x c r
theorem nk_ah (k : List Nat) (x c r : Nat) : nk k x c r = k.getD (4 * c + r) 0 ^^^ ahN k x c r := by
  cases c with
  | zero => rw [Nat.mul_zero, Nat.zero_add]; rfl
  | succ c => rfl
def ahL (k : List Nat) (x c : Nat) : List Nat := [ahN k x c 0, ahN k x c 1, ahN k x c 2, ahN k x c 3]
theorem ahN_lt {k : List Nat} (hk : Ok16 k) {x : Nat} (hx : x < 256) (c r : Nat) : ahN k x c r < 256 := by
  cases c with
  | zero =>
    show (if r = 0 then sbox.getD (k.getD 13 0) 0 ^^^ x else aheadF k r) < 256
    by_cases h : r = 0
    · rw [if_pos h]; exact xor_lt8 (sbox_lt _) hx
    · rw [if_neg h]; exact sbox_lt _
  | succ c => exact nk_lt hk hx c r
theorem ahL_ok {k : List Nat} (hk : Ok16 k) {x : Nat} (hx : x < 256) (c : Nat) : Ok4 (ahL k x c) := ⟨rfl, fun y hy => by
  simp only [ahL, List.mem_cons, List.not_mem_nil, or_false] at hy
  rcases hy with rfl | rfl | rfl | rfl <;> exact ahN_lt hk hx _ _⟩
theorem nkF_col (k : List Nat) (x c m : Nat) (hm : m = 4 * c) : plus4 (subB k m 4) (ahL k x c) = (List.range 4).map fun i => nkF k x (m + i) := by
  subst hm
  show [_, _, _, _] = [nkF k x (4 * c), nkF k x (4 * c + 1), nkF k x (4 * c + 2), nkF k x (4 * c + 3)]
  unfold nkF
  rw [show 4 * c / 4 = c by omega, show (4 * c + 1) / 4 = c by omega, show (4 * c + 2) / 4 = c by omega, show (4 * c + 3) / 4 = c by omega, show 4 * c % 4 = 0 by omega, show (4 * c + 1) % 4 = 1 by omega, show (4 * c + 2) % 4 = 2 by omega, show (4 * c + 3) % 4 = 3 by omega,
    nk_ah, nk_ah, nk_ah, nk_ah]
  rfl
theorem ahL_next (k : List Nat) (x c m : Nat) (hm : m = 4 * c) : (List.range 4).map (fun i => nkF k x (m + i)) = ahL k x (c + 1) := by
  subst hm
  show [nkF k x (4 * c), nkF k x (4 * c + 1), nkF k x (4 * c + 2), nkF k x (4 * c + 3)] = _
  unfold nkF
  rw [show 4 * c / 4 = c by omega, show (4 * c + 1) / 4 = c by omega, show (4 * c + 2) / 4 = c by omega, show (4 * c + 3) / 4 = c by omega, show 4 * c % 4 = 0 by omega, show (4 * c + 1) % 4 = 1 by omega, show (4 * c + 2) % 4 = 2 by omega, show (4 * c + 3) % 4 = 3 by omega]
  rfl
theorem putL_four {l : List Nat} (h : l.length = 4) (a b c d : Nat) : putL l 0 [a, b, c, d] = [a, b, c, d] := by
  match l, h with
  | [_, _, _, _], _ => rfl
theorem ahead_sum (k : List Nat) (x : Nat) : ((List.range 4).map (aheadF k)).set 0 (aheadF k 0 ^^^ x) = ahL k x 0 := rfl

set_option maxHeartbeats 3200000 in
set_option maxRecDepth 20000 in
/-- 'nextKey'. -/
theorem nextKey_any (g : Nat) (k : List Nat) (x : Nat) (w : World) (hk : Ok16 k) (hx : x < 256) (hg : g < w.heap.size) (hbox : ∀ i, i < 256 → w.cell? ⟨g, i, none⟩ = some (.int .u8 (sbox.getD i 0 : Nat))) :
    Calls Try.prog 25 #[.pointer (some ⟨g, 0, none⟩), .agg (BA k), .int .u8 (x : Int)] w fun e w' => e = .returned (.agg (BA (nextL k x))) ∧ Below w.heap.size w w' := by
  have hz := (zero_of_info (P := Try.prog) (t := 57) (v := .agg (BA (zeros 16))) (n := 16) (by kernel_rfl)).1
  have hz4 := (zero_of_info (P := Try.prog) (t := 55) (v := .agg (BA (zeros 4))) (n := 4) (by kernel_rfl)).1
  have hu := Try.underlying57
  have HBX : Hid (∀ W, Below w.heap.size w W → ∀ i, i < 256 → W.cell? ⟨g, i, none⟩ = some (.int .u8 (sbox.getD i 0 : Nat))) := fun W hb i hi => (hb.cell (p := ⟨g, i, none⟩) hg).trans (hbox i hi)
  have HQ0 : Hid (prog 4 (aheadF k) (fun i => (zeros 4).getD i 0) 0 = zeros 4) := prog_zero (zeros_len 4) _
  have HQ4 : Hid (prog 4 (aheadF k) (fun i => (zeros 4).getD i 0) 4 = (List.range 4).map (aheadF k)) := prog_all _ _ _
  have HQL := Lib.hid (fun n => prog_len 4 (aheadF k) (fun i => (zeros 4).getD i 0) n)
  have HQN := Lib.hid (fun n => prog_next 4 (aheadF k) (fun i => (zeros 4).getD i 0) n)
  obtain ⟨Q, hQ⟩ : ∃ Q, Q = prog 4 (aheadF k) (fun i => (zeros 4).getD i 0) := ⟨_, rfl⟩
  simp only [← hQ] at HQ0 HQ4 HQL HQN
  obtain ⟨Y, hY⟩ : ∃ Y, Y = zeros 4 := ⟨_, rfl⟩
  rw [← hY] at hz4 HQ0
  obtain ⟨Z, hZ⟩ : ∃ Z, Z = zeros 16 := ⟨_, rfl⟩
  have hzl : Z.length = 16 := by rw [hZ]; rfl
  rw [← hZ] at hz
  have i1 : ((w.alloc (.cells (BA k) 57)).alloc (.cells (BA Z) 57)).heap[w.heap.size]? = some (.cells (BA k) 57 (0, 0)) := (Below.heap_alloc _ _ _ (by simp)).trans (heap_alloc_new _ _)
  have i2 : ((w.alloc (.cells (BA k) 57)).alloc (.cells (BA Z) 57)).heap[w.heap.size + 1]? = some (.cells (BA Z) 57 (0, 0)) := heap_alloc_new' _ _ _ (by simp)
  have ib : Below w.heap.size w ((w.alloc (.cells (BA k) 57)).alloc (.cells (BA Z) 57)) := ((Below.refl _ _).alloc (Nat.le_refl _) _).alloc (by simp) _
  have is : ((w.alloc (.cells (BA k) 57)).alloc (.cells (BA Z) 57)).heap.size = w.heap.size + 2 := by simp
  have h1 := (Below.heap_alloc _ (.cells (BA Y) 55) _ (by rw [is]; omega)).trans i1
  have h2 := (Below.heap_alloc _ (.cells (BA Y) 55) _ (by rw [is]; omega)).trans i2
  have h3 := heap_alloc_new' ((w.alloc (.cells (BA k) 57)).alloc (.cells (BA Z) 57)) (.cells (BA Y) 55) (w.heap.size + 2) is.symm
  have h4 := ib.alloc (by rw [is]; omega) (.cells (BA Y) 55)
  have R0 := Lib.hid (And.intro h1 (And.intro h2 (And.intro h3 h4)))
  have hgs : w.heap.size + 2 ≠ g := by omega
  clear hZ hY hQ i1 i2 ib is h1 h2 h3 h4 hbox
  go_enter Try.func25, Try.ntmps25
  go_wp2
  go_loopw [10] (fun i wr => ∃ r : Nat, r ≤ 4 ∧ i = .int .i64 r ∧ wr.heap[w.heap.size]? = some (.cells (BA k) 57 (0, 0)) ∧ wr.heap[w.heap.size + 1]? = some (.cells (BA Z) 57 (0, 0)) ∧ wr.heap[w.heap.size + 2]? = some (.cells (BA (Q r)) 55 (0, 0)) ∧ Below w.heap.size w wr) (fun i _ => 4 - (intOf i).toNat)
  case atStart => exact ⟨0, by omega, rfl, R0.out.1, R0.out.2.1, by rw [HQ0.out]; exact R0.out.2.2⟩
  case round =>
    clear R0
    obtain ⟨r, hr, rfl, r1, r2, r3, rb⟩ := hrel
    by_cases hlt : r < 4
    · obtain ⟨j, hj⟩ : ∃ j, j = (r + 1) % 4 := ⟨_, rfl⟩
      have hj4 : j < 4 := by omega
      have hjt : ((r : Int) + 1).tmod 4 = (j : Int) := by rw [Int.tmod_eq_emod_of_nonneg (by omega)]; omega
      have hje : ((r : Int) + 1) % 4 = (j : Int) := by omega
      have v1 : IntKind.i64.wrap ((r : Int) + 1) = (r : Int) + 1 := IntWalk.i64_in _ (by omega)
      have v2 : IntKind.i64.wrap (j : Int) = (j : Int) := IntWalk.i64_in _ (by omega)
      have d0 := BA_cell r1 (i := 12 + j) (by rw [hk.len]; omega)
      have hal := hk.at_ (12 + j)
      have d3 := HBX.out _ rb (k.getD (12 + j) 0) hal
      have d1 := BA_cell r3 (i := r) (by rw [HQL.out]; exact hlt)
      have d2 := frozen_row _ (w.heap.size + 2) r _ _ r3
      have hN := HQN.out r
      have hF : aheadF k r = sbox.getD (k.getD (12 + j) 0) 0 := by rw [hj]; rfl
      rw [hF] at hN
      have s3 := set_BA r3 r (sbox.getD (k.getD (12 + j) 0) 0)
      rw [hN] at s3
      have s1 := (heap_cell_other _ (w.heap.size + 2) r w.heap.size (.int .u8 (sbox.getD (k.getD (12 + j) 0) 0 : Nat)) (by omega)).trans r1
      have s2 := (heap_cell_other _ (w.heap.size + 2) r (w.heap.size + 1) (.int .u8 (sbox.getD (k.getD (12 + j) 0) 0 : Nat)) (by omega)).trans r2
      have s4 := below_cell rb (show w.heap.size ≤ w.heap.size + 2 by omega) r (.int .u8 (sbox.getD (k.getD (12 + j) 0) 0 : Nat))
      have R := Lib.hid (And.intro s1 (And.intro s2 (And.intro s3 s4)))
      obtain ⟨p, hp⟩ : ∃ p, p = k.getD (12 + j) 0 := ⟨_, rfl⟩
      rw [← hp] at d0 d3 R hal
      obtain ⟨q, hq⟩ : ∃ q, q = sbox.getD p 0 := ⟨_, rfl⟩
      rw [← hq] at d3 R
      obtain ⟨u, hu'⟩ : ∃ u, u = (Q r).getD r 0 := ⟨_, rfl⟩
      rw [← hu'] at d1
      have p1 : (p : Int) < 256 := by omega
      have p0 : (0 : Int) ≤ (p : Int) := by omega
      have j1 : (j : Int) < 4 := by omega
      have j0 : (0 : Int) ≤ (j : Int) := by omega
      have r5 : (r : Int) < 4 := by omega
      have r0 : (0 : Int) ≤ (r : Int) := by omega
      clear r1 r2 r3 rb s1 s2 s3 s4 hp hq hu' hN hF hj
      go_wp2
      go_region
      all_goals
        go_wp2
        go_roundw
        case rel => first | exact ⟨r + 1, by omega, by go_num, R.out.1, R.out.2.1, R.out.2.2.1, R.out.2.2.2.drew⟩ | ((repeat apply Exists.intro); exact ⟨⟨r + 1, by omega, by go_num, R.out.1, R.out.2.1, R.out.2.2.1, R.out.2.2.2.drew⟩, rfl⟩)
        case measure => simp [intOf]; omega
    · have hr' : r = 4 := by omega
      subst hr'
      rw [HQ4.out] at r3
      have d1 := BA_cell r3 (i := 0) (by simp)
      have d2 := frozen_row _ (w.heap.size + 2) 0 _ _ r3
      have hxx := b8_x (aheadF k 0) x (sbox_lt _) hx
      have he0 : ((List.range 4).map (aheadF k)).getD 0 0 = aheadF k 0 := rfl
      rw [he0] at d1
      have s3 := set_BA r3 0 (aheadF k 0 ^^^ x)
      rw [ahead_sum] at s3
      have s1 := (heap_cell_other _ (w.heap.size + 2) 0 w.heap.size (.int .u8 (aheadF k 0 ^^^ x : Nat)) (by omega)).trans r1
      have s2 := (heap_cell_other _ (w.heap.size + 2) 0 (w.heap.size + 1) (.int .u8 (aheadF k 0 ^^^ x : Nat)) (by omega)).trans r2
      have s4 := below_cell rb (show w.heap.size ≤ w.heap.size + 2 by omega) 0 (.int .u8 (aheadF k 0 ^^^ x : Nat))
      have R := Lib.hid (And.intro s1 (And.intro s2 (And.intro s3 s4)))
      obtain ⟨p, hp⟩ : ∃ p, p = aheadF k 0 := ⟨_, rfl⟩
      rw [← hp] at d1 hxx R
      obtain ⟨q, hq⟩ : ∃ q, q = p ^^^ x := ⟨_, rfl⟩
      rw [← hq] at hxx R
      clear r1 r2 r3 rb s1 s2 s3 s4 hp hq he0
      go_wp2
      have HP0 : Hid (prog 16 (nkF k x) (fun i => k.getD i 0) 0 = k) := prog_zero hk.len _
      have HP4 : Hid (prog 16 (nkF k x) (fun i => k.getD i 0) 16 = nextL k x) := rfl
      have HPL := Lib.hid (fun n => prog_len 16 (nkF k x) (fun i => k.getD i 0) n)
      have HPT := Lib.hid (fun n i (hi : i < 16) => prog_at (n := 16) (nkF k x) (fun i => k.getD i 0) n hi)
      have HPU := Lib.hid (fun n => putL_prog 16 (nkF k x) (fun i => k.getD i 0) n 4)
      have HPB := Lib.hid (fun n (h : n + 4 ≤ 16) => sub_prog (n := 16) (nkF k x) k h)
      have HOK := Lib.hid (show (nextL k x).length = 16 from (nextTo_ok hk hx 4).len)
      obtain ⟨N, hN⟩ : ∃ N, N = prog 16 (nkF k x) (fun i => k.getD i 0) := ⟨_, rfl⟩
      simp only [← hN] at HP0 HP4 HPL HPU HPB HPT
      have HK := Lib.hid hk
      have HX := Lib.hid hx
      clear hN d1 d2 hxx HQ4 HQL HQN HQ0 HBX hz4
      go_loopw [32] (fun i wx => ∃ c : Nat, c ≤ 4 ∧ i = .int .i64 c ∧ wx.heap[w.heap.size]? = some (.cells (BA (N (4 * c))) 57 (0, 0)) ∧ wx.heap[w.heap.size + 1]? = some (.cells (BA Z) 57 (0, 0)) ∧ wx.heap[w.heap.size + 2]? = some (.cells (BA (ahL k x c)) 55 (0, 0)) ∧ Below w.heap.size w wx) (fun i _ => 4 - (intOf i).toNat)
      case atStart => exact ⟨0, by omega, rfl, by rw [show 4 * 0 = 0 from rfl, HP0.out]; exact R.out⟩
      case round =>
        clear R
        obtain ⟨c, hc, rfl, r1, r2, r3, rb⟩ := hrel
        by_cases hc4 : c < 4
        · obtain ⟨m, hm⟩ : ∃ m, m = 4 * c := ⟨_, rfl⟩
          have hm16 : m + 4 ≤ 16 := by omega
          rw [← hm] at r1
          have HM := Lib.hid hm
          have hpl := HPL.out m
          have hsb := HPB.out m hm16
          have g0 := BA_cell r1 (i := m) (by rw [hpl]; omega)
          have g1 := BA_cell r1 (i := m + 1) (by rw [hpl]; omega)
          have g2 := BA_cell r1 (i := m + 2) (by rw [hpl]; omega)
          have g3 := BA_cell r1 (i := m + 3) (by rw [hpl]; omega)
          have k0 : wr.cell? ⟨w.heap.size + 2, 0, none⟩ = some (.int .u8 (ahN k x c 0 : Nat)) := BA_cell r3 (i := 0) (show 0 < 4 by decide)
          have k1 : wr.cell? ⟨w.heap.size + 2, 1, none⟩ = some (.int .u8 (ahN k x c 1 : Nat)) := BA_cell r3 (i := 1) (show 1 < 4 by decide)
          have k2 : wr.cell? ⟨w.heap.size + 2, 2, none⟩ = some (.int .u8 (ahN k x c 2 : Nat)) := BA_cell r3 (i := 2) (show 2 < 4 by decide)
          have k3 : wr.cell? ⟨w.heap.size + 2, 3, none⟩ = some (.int .u8 (ahN k x c 3 : Nat)) := BA_cell r3 (i := 3) (show 3 < 4 by decide)
          have hC := fun W : World => plus4_any (subB k m 4) (ahL k x c) W (sub4_ok HK.out m) (ahL_ok HK.out HX.out c)
          have hcol := nkF_col k x c m hm
          have hnext := ahL_next k x c m hm
          have hpu := HPU.out m
          rw [← hcol] at hpu hnext
          have hzz : plus4 (subB k m 4) (ahL k x c) = [nkF k x m, nkF k x (m + 1), nkF k x (m + 2), nkF k x (m + 3)] := hcol
          rw [hzz] at hpu hnext
          simp only [hzz] at hC
          have t0 := HPT.out (m + 4) m (by omega)
          have t1 := HPT.out (m + 4) (m + 1) (by omega)
          have t2 := HPT.out (m + 4) (m + 2) (by omega)
          have t3 := HPT.out (m + 4) (m + 3) (by omega)
          rw [if_pos (by omega)] at t0 t1 t2 t3
          rw [sub_four, sub_four] at hsb
          injection hsb with e0 hsb
          injection hsb with e1 hsb
          injection hsb with e2 hsb
          injection hsb with e3 hsb
          rw [e0] at g0
          rw [e1] at g1
          rw [e2] at g2
          rw [e3] at g3
          have hC' : ∀ W : World, Calls Try.prog 42 #[.agg #[.int .u8 (k.getD m 0 : Nat), .int .u8 (k.getD (m + 1) 0 : Nat), .int .u8 (k.getD (m + 2) 0 : Nat), .int .u8 (k.getD (m + 3) 0 : Nat)], .agg #[.int .u8 (ahN k x c 0 : Nat), .int .u8 (ahN k x c 1 : Nat), .int .u8 (ahN k x c 2 : Nat), .int .u8 (ahN k x c 3 : Nat)]] W
              fun e w' => e = .returned (.agg #[.int .u8 (nkF k x m : Nat), .int .u8 (nkF k x (m + 1) : Nat), .int .u8 (nkF k x (m + 2) : Nat), .int .u8 (nkF k x (m + 3) : Nat)]) ∧ Below W.heap.size W w' := hC
          clear hC e0 e1 e2 e3 hsb hcol hzz
          obtain ⟨x0, e0⟩ : ∃ x, x = k.getD m 0 := ⟨_, rfl⟩
          obtain ⟨x1, e1⟩ : ∃ x, x = k.getD (m + 1) 0 := ⟨_, rfl⟩
          obtain ⟨x2, e2⟩ : ∃ x, x = k.getD (m + 2) 0 := ⟨_, rfl⟩
          obtain ⟨x3, e3⟩ : ∃ x, x = k.getD (m + 3) 0 := ⟨_, rfl⟩
          obtain ⟨y0, f0⟩ : ∃ y, y = ahN k x c 0 := ⟨_, rfl⟩
          obtain ⟨y1, f1⟩ : ∃ y, y = ahN k x c 1 := ⟨_, rfl⟩
          obtain ⟨y2, f2⟩ : ∃ y, y = ahN k x c 2 := ⟨_, rfl⟩
          obtain ⟨y3, f3⟩ : ∃ y, y = ahN k x c 3 := ⟨_, rfl⟩
          obtain ⟨z0, d0⟩ : ∃ z, z = nkF k x m := ⟨_, rfl⟩
          obtain ⟨z1, d1⟩ : ∃ z, z = nkF k x (m + 1) := ⟨_, rfl⟩
          obtain ⟨z2, d2⟩ : ∃ z, z = nkF k x (m + 2) := ⟨_, rfl⟩
          obtain ⟨z3, d3⟩ : ∃ z, z = nkF k x (m + 3) := ⟨_, rfl⟩
          simp only [← e0, ← e1, ← e2, ← e3, ← f0, ← f1, ← f2, ← f3, ← d0, ← d1, ← d2, ← d3] at hC' hpu hnext g0 g1 g2 g3 k0 k1 k2 k3 t0 t1 t2 t3
          have R1 := Lib.hid (And.intro r1 (And.intro r2 (And.intro r3 rb)))
          have HFF : Hid (∀ W, Below wr.drew.heap.size wr.drew W → _) := fun W hb => four_free ((hb.block _ (lt_heap r1)).trans r1) (by rw [hpl]; exact hm16) z0 z1 z2
          have HC1 := Lib.hid hC'
          have HPU1 := Lib.hid hpu
          have HNX := Lib.hid hnext
          have HT := Lib.hid (And.intro t0 (And.intro t1 (And.intro t2 t3)))
          have ec : c * 4 = m := by omega
          have c1 : (c : Int) < 4 := by omega
          have c0 : (0 : Int) ≤ (c : Int) := by omega
          clear hm r1 r2 r3 rb hC' hpu hpl hnext e0 e1 e2 e3 f0 f1 f2 f3 d0 d1 d2 d3 t0 t1 t2 t3
          go_wp2
          go_region_with (first
            | (go_at_call 42; with_reducible (refine Calls.mono (HC1.out _) ?_); rintro e wq ⟨rfl, hbq⟩; obtain ⟨⟨q0, q1, q2, q3⟩, p0, p1, p2, p3⟩ := HFF.out _ hbq))
          all_goals
            obtain ⟨r1, r2, r3, rb⟩ := R1.out
            have hb2 : Below wr.heap.size wr wq := ((Below.refl _ _).drew).trans hbq
            have s1 := put_BA ((hb2.block _ (lt_heap r1)).trans r1) m [z0, z1, z2, z3]
            rw [HPU1.out] at s1
            have s2 := (heap_setCells_other w.heap.size (w.heap.size + 1) (by omega) (vals [z0, z1, z2, z3]) wq m).trans ((hb2.block _ (lt_heap r2)).trans r2)
            have s3 := (heap_setCells_other w.heap.size (w.heap.size + 2) (by omega) (vals [z0, z1, z2, z3]) wq m).trans ((hb2.block _ (lt_heap r3)).trans r3)
            have s4 := below_setCs (chain rb hb2) (Nat.le_refl w.heap.size) (vals [z0, z1, z2, z3]) m
            obtain ⟨W4, hW4⟩ : ∃ W, W = wq.setCells w.heap.size m (vals [z0, z1, z2, z3]) := ⟨_, rfl⟩
            rw [← hW4] at s1 s2 s3 s4
            have hW5 : (((wq.setCell ⟨w.heap.size, m, none⟩ (.int .u8 (z0 : Int))).setCell ⟨w.heap.size, m + 1, none⟩ (.int .u8 (z1 : Int))).setCell ⟨w.heap.size, m + 2, none⟩ (.int .u8 (z2 : Int))).setCell ⟨w.heap.size, m + 3, none⟩ (.int .u8 (z3 : Int)) = W4 := hW4.symm
            obtain ⟨t0, t1, t2, t3⟩ := HT.out
            have n0 := BA_cell s1 (i := m) (by rw [HPL.out]; omega)
            have n1 := BA_cell s1 (i := m + 1) (by rw [HPL.out]; omega)
            have n2 := BA_cell s1 (i := m + 2) (by rw [HPL.out]; omega)
            have n3 := BA_cell s1 (i := m + 3) (by rw [HPL.out]; omega)
            rw [t0] at n0
            rw [t1] at n1
            rw [t2] at n2
            rw [t3] at n3
            obtain ⟨⟨a0, a1, a2, a3⟩, b0, b1, b2, b3⟩ := four_free s3 (m := 0) (by show 4 ≤ 4; decide) z0 z1 z2
            simp only [Nat.zero_add] at a0 a1 a2 a3 b0 b1 b2 b3
            have u1 := (heap_setCells_other (w.heap.size + 2) w.heap.size (by omega) (vals [z0, z1, z2, z3]) W4 0).trans s1
            have u2 := (heap_setCells_other (w.heap.size + 2) (w.heap.size + 1) (by omega) (vals [z0, z1, z2, z3]) W4 0).trans s2
            have u3 := put_BA s3 0 [z0, z1, z2, z3]
            rw [show putL (ahL k x c) 0 [z0, z1, z2, z3] = ahL k x (c + 1) from (putL_four rfl _ _ _ _).trans HNX.out] at u3
            have u4 := below_setCs s4 (show w.heap.size ≤ w.heap.size + 2 by omega) (vals [z0, z1, z2, z3]) 0
            rw [show m + 4 = 4 * (c + 1) by rw [HM.out]; omega] at u1
            have RR := Lib.hid (And.intro u1 (And.intro u2 (And.intro u3 u4)))
            clear s1 s2 s3 s4 r1 r2 r3 rb hb2 hbq q0 q1 q2 q3 p0 p1 p2 p3 u1 u2 u3 u4 t0 t1 t2 t3 hW4
            rw [hW5]
            clear hW5
            go_wp2
            go_roundw
            case rel => first | exact ⟨c + 1, by omega, by go_num, RR.out⟩ | ((repeat apply Exists.intro); exact ⟨⟨c + 1, by omega, by go_num, RR.out⟩, rfl⟩)
            case measure => simp [intOf]; omega
        · have hc' : c = 4 := by omega
          subst hc'
          rw [show 4 * 4 = 16 from rfl, HP4.out] at r1
          have hl := HOK.out
          have h1 := BA_one (nextL k x)
          obtain ⟨I, hI⟩ : ∃ I, I = nextL k x := ⟨_, rfl⟩
          rw [← hI] at r1 hl h1
          have hi := (show (Try.prog.info? 57).map (·.size) = some (BA I).size by rw [BA_size, hl]; kernel_rfl)
          have hzi : (BA Z).size = (BA I).size := by rw [BA_size, BA_size, hl, hzl]
          have HI := Lib.hid hI
          clear hI
          go_wp2_with (first
            | (refine wpList_load_row rfl 57 _ rfl w.heap.size rfl 57 _ (0, 0) _ r1 hu rfl hi ?_)
            | (refine wpList_store_fresh rfl 57 _ _ rfl (w.heap.size + 1) (BA I) rfl rfl 57 (BA Z) r2 hi hzi h1 rb (by omega) ?_; intro W hW hbW hkW hsW))
          refine bodyPost_ret (v := .agg (BA I)) ?_ rfl ⟨by rw [HI.out], hbW⟩
          exact results_mid rfl _ _ (w.heap.size + 1) I _ _ _ rfl hW hu rfl (by rw [hi, BA_size])

end Go.Proofs.Ytcoiincgclglbaa
