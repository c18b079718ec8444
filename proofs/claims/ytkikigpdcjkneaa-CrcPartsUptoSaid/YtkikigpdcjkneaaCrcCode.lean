/-
  The four functions of the layer crc, as they are asked: Sum, More, Zeros, Join, for whatever comes in.
-/
import Derived.Test.YtkikigpdcjkneaaCrcTable
import Derived.Test.YtkikigpdcjkneaaCrcThree
import Derived.Test.YtkikigpdcjkneaaCrcParts
namespace Go.Proofs.Ytkikigpdcjkneaa
open Go.RowKit

theorem tab_cell {w : World} {g : Nat} {t : TypeId} (h : Row w g t tab) {j : Nat} (hj : j < 256) : w.cell? ⟨g, j, none⟩ = some (.int .u32 (byteStep j : Nat)) := by
  rw [h.cell (by simp only [tab, List.length_map, List.length_range]; exact hj), tab_at j hj]

theorem table_step (r x : Nat) (hx : x < 256) : byteStep (r ^^^ x) = r / 256 ^^^ byteStep (r % 256 ^^^ x) := by
  rw [byteStep_table, Nat.xor_comm]
  have e1 : (r ^^^ x) / 256 = r / 256 := by
    have h := Nat.shiftRight_xor_distrib (a := r) (b := x) (i := 8)
    simp only [Nat.shiftRight_eq_div_pow] at h
    rw [show (2 : Nat) ^ 8 = 256 from rfl, Nat.div_eq_of_lt hx, Nat.xor_zero] at h
    exact h
  have e2 : (r ^^^ x) % 256 = r % 256 ^^^ x := by
    have h := Nat.xor_mod_two_pow (a := r) (b := x) (n := 8)
    rw [show (2 : Nat) ^ 8 = 256 from rfl, Nat.mod_eq_of_lt hx] at h
    exact h
  rw [e1, e2]

theorem crcMore_ok : MoreSpec := by
  intro A c zs s w hr hz hc hm hs
  have HZ := Lib.hid hz
  have HS := Lib.hid hs
  have HR := Lib.hid hr
  have hs1 : s ≤ 4294967295 := by omega
  have hib := inv_bits s hs
  have hil := inv32_lt s
  obtain ⟨t, ht⟩ : ∃ t, t = inv32 s := ⟨_, rfl⟩
  rw [← ht] at hib hil
  have HT := Lib.hid ht
  obtain ⟨cs, hcs⟩ : ∃ cs, cs = U tab := ⟨_, rfl⟩
  obtain ⟨c0, hc0⟩ : ∃ c0, c0 = U none256 := ⟨_, rfl⟩
  have HC := Lib.hid changes_any
  have hz0 := (zero_of_info (P := Try.prog) (t := 37) (v := .agg (U none256)) (n := 256) (by kernel_rfl)).1
  have HI : Hid ((Try.prog.info? 37).map (·.size) = some cs.size) := by unfold Hid; rw [hcs, U_size]; kernel_rfl
  have HO : Hid (c0.size = cs.size) := by unfold Hid; rw [hcs, hc0, U_size, U_size]; kernel_rfl
  have H1 : Hid (cs.all (·.oneCell') = true) := by unfold Hid; rw [hcs]; exact U_one tab
  rw [← hcs] at HC
  rw [← hc0] at hz0
  have HT0 : Hid (∀ (w : World) (g : Nat) (t : TypeId), w.heap[g]? = some (.cells cs t (0, 0)) → Row w g t tab) := fun w g t h => by rw [hcs] at h; exact h
  clear hz hs ht hr hcs hc0
  go_enter Try.func14, Try.ntmps14
  go_wp2_with (first
    | (go_at_call 19; refine Calls.mono (HC.out _) ?_; rintro e w' ⟨rfl, hb⟩)
    | (refine wpList_store_row rfl 37 _ _ rfl w'.heap.size _ rfl rfl 37 c0 (heap_alloc_new _ _) HI.out HO.out H1.out ?_))
  have hrow := HT0.out _ _ _ (setRow_heap (w'.alloc (.cells c0 37)) w'.heap.size c0 cs 37 (0, 0) (heap_alloc_new _ _))
  have hbel := below_setRow (hb.alloc hb.size (.cells c0 37)) hb.size cs
  generalize (w'.alloc (.cells c0 37)).setRow w'.heap.size cs = W at hrow hbel ⊢
  have hints := HR.out.below hbel
  have HB := Lib.hid hbel
  clear hbel hz0
  go_loop [6, 14] (fun r i => ∃ k : Nat, k ≤ zs.length ∧ i = .int .i64 k ∧ r = .int .u32 (regs t (nb (zs.take k)) : Nat)) (fun _ i => zs.length - (intOf i).toNat)
  case atStart => exact ⟨0, Nat.zero_le _, rfl, rfl⟩
  case round =>
    obtain ⟨k, hk, rfl, rfl⟩ := hrel
    have hrl : regs t (nb (zs.take k)) < 2 ^ 32 := regs_lt _ hil (nb_lt fun z hz => HZ.out z (List.mem_of_mem_take hz))
    by_cases hlt : k < zs.length
    · obtain ⟨b, off, rfl, _, hcell⟩ := hints k hlt
      have hx := HZ.out _ (getD_mem hlt)
      have HN : Hid (regs t (nb (zs.take (k + 1))) = byteStep (regs t (nb (zs.take k)) ^^^ (zs.getD k 0).toNat)) := by rw [nb_take_snoc zs k hlt]; exact regs_snoc _ _ _
      obtain ⟨x, hx'⟩ : ∃ x : Nat, (x : Int) = zs.getD k 0 := ⟨(zs.getD k 0).toNat, by omega⟩
      have hxn : (zs.getD k 0).toNat = x := by omega
      rw [hxn] at HN
      rw [← hx'] at hcell hx
      obtain ⟨r, hr'⟩ : ∃ r, r = regs t (nb (zs.take k)) := ⟨_, rfl⟩
      rw [← hr'] at hrl HN ⊢
      have hx256 : x < 256 := by omega
      have HN2 := Lib.hid (HN.out.trans (table_step r x hx256))
      have hql : r % 256 ^^^ x < 256 := Nat.xor_lt_two_pow (n := 8) (by omega) hx256
      have hb8 := u8_xor_nat (r % 256) x (by omega) hx256
      rw [Int.natCast_emod] at hb8
      have hb8' : bits .xor .u8 ((r : Int) % 256) (x : Int) = ((r % 256 ^^^ x : Nat) : Int) := hb8
      have hct := tab_cell hrow hql
      obtain ⟨q, hq⟩ : ∃ q, q = r % 256 ^^^ x := ⟨_, rfl⟩
      rw [← hq] at HN2 hql hb8' hct
      have hyl : byteStep q < 2 ^ 32 := byteStep_lt (by omega)
      obtain ⟨y, hy⟩ : ∃ y, y = byteStep q := ⟨_, rfl⟩
      rw [← hy] at HN2 hyl hct
      have hxr := u32_x (r / 256) y (by omega) hyl
      rw [Int.natCast_ediv] at hxr
      have hxr' : bits .xor .u32 ((r : Int) / 256) (y : Int) = ((r / 256 ^^^ y : Nat) : Int) := hxr
      clear hx' hxn hr' HN hx hb8 hq hy hxr hrow
      go_wp2
      go_round
      case rel => exact ⟨k + 1, by omega, by go_num, by rw [HN2.out]⟩
      case measure => simp [intOf]; omega
    · have hkl : k = zs.length := by omega
      subst hkl
      rw [List.take_length] at hrl ⊢
      have hie := inv_bits _ hrl
      have HM : Hid (inv32 (regs t (nb zs)) = moreN s (nb zs)) := by unfold Hid moreN; rw [← HT.out]
      go_wp2
      go_ret
      rw [← HM.out]
      exact ⟨rfl, HB.out⟩


theorem crcZeros_ok : ZerosSpec := by
  intro s n w hs h1 h2
  have HC := Lib.hid oneZero_any
  have HO := Lib.hid of_mat
  have HW := Lib.hid twice_any
  have hib := inv_bits s hs
  have hil := inv32_lt s
  obtain ⟨t, ht⟩ : ∃ t, t = inv32 s := ⟨_, rfl⟩
  rw [← ht] at hib hil
  have HT := Lib.hid ht
  clear hs ht
  go_enter Try.func16, Try.ntmps16
  have HI : Hid (∀ m, (Try.prog.info? 41).map (·.size) = some (U (mat m)).size) := fun m => by rw [U_size, mat_length]; rfl
  have HN : Hid (∀ m, (U none32).size = (U (mat m)).size) := fun m => by rw [U_size, U_size, mat_length]; rfl
  have HM : Hid (∀ k m, (U (mat k)).size = (U (mat m)).size) := fun k m => by rw [U_size, U_size, mat_length, mat_length]
  go_wp2_with (first
    | (go_at_call 20; refine Calls.mono (HC.out _) ?_; rintro e w' ⟨rfl, hb⟩)
    | (refine wpList_store_row rfl 41 _ _ rfl w'.heap.size _ rfl rfl 41 _ (Row.new' w' _ _ none32 rfl rfl) (HI.out _) (HN.out _) (U_one _) ?_))
  have hu := Try.underlying41
  have HB : Hid (Below w.heap.size w (w'.alloc (Obj.cells (U (mat 8)) 41))) := hb.alloc hb.size _
  have hg := hb.size
  go_loopw [1, 5] (fun i v wr => ∃ (k : Int) (m r : Nat), -9223372036854775808 ≤ k ∧ k ≤ 9223372036854775807 ∧ r < 2 ^ 32 ∧ i = .int .i64 k ∧ v = .int .u32 (r : Int) ∧ Below w.heap.size w wr ∧ Row wr w'.heap.size 41 (mat m) ∧ bitsN (m * k.toNat) r = bitsN (8 * n.toNat) t) (fun i _ _ => (intOf i).toNat)
  case atStart =>
    exact ⟨n, 8, t, h1, h2, hil, rfl, rfl, below_setRow (hb.alloc hb.size _) hg _, (Row.new' w' 41 _ none32 rfl rfl).laid _, rfl⟩
  case round =>
    obtain ⟨k, m, r, hk1, hk2, hr, rfl, rfl, hbel, hrow, hval⟩ := hrel
    by_cases hk0 : 0 < k
    · have H1 := Lib.hid (fun w => HO.out m r w hr)
      have hr2 : bitsN m r < 2 ^ 32 := bitsN_lt hr
      have HV := Lib.hid hval
      obtain ⟨q, hq⟩ : ∃ q, q = bitsN m r := ⟨_, rfl⟩
      rw [← hq] at H1 hr2
      clear hval
      have hlt := hrow.lt
      have hk4 : (k / 2).toNat = k.toNat / 2 := by omega
      rcases Int.emod_two_eq k with hm | hm
      · have hmod : (k % 2 == 1) = false := by rw [hm]; rfl
        clear hq
        go_wp2_with (first
          | (refine wpList_load_row rfl 41 _ rfl w'.heap.size rfl 41 _ (0, 0) _ hrow hu rfl (HI.out _) ?_)
          | (go_at_call 22; refine Calls.mono (HW.out _ _) ?_; rintro e w2 ⟨rfl, hb2⟩)
          | (refine wpList_store_row rfl 41 _ _ rfl w'.heap.size _ rfl rfl 41 _ (hrow.below hb2 hlt) (HI.out _) (HM.out _ _) (U_one _) ?_))
        go_roundw
        case rel =>
          refine ⟨k / 2, m + m, r, by omega, by omega, hr, rfl, rfl, below_setRow (chain hbel hb2) hg _, (hrow.below hb2 hlt).laid _, ?_⟩
          rw [hk4, show (m + m) * (k.toNat / 2) = m * k.toNat by rw [show k.toNat = 2 * (k.toNat / 2) by omega, ← Nat.two_mul, Nat.mul_comm 2 m, Nat.mul_assoc]; congr 2; omega]
          exact HV.out
        case measure => simp only [intOf]; omega
      · have hmod : (k % 2 == 1) = true := by rw [hm]; rfl
        have HQ := Lib.hid hq
        clear hq
        go_wp2_with (first
          | (refine wpList_load_row rfl 41 _ rfl w'.heap.size rfl 41 _ (0, 0) _ hrow hu rfl (HI.out _) ?_)
          | (refine wpList_load_row rfl 41 _ rfl w'.heap.size rfl 41 _ (0, 0) _ (hrow.below hb1 hlt) hu rfl (HI.out _) ?_)
          | (go_at_call 21; refine Calls.mono (H1.out _) ?_; rintro e w1 ⟨rfl, hb1⟩)
          | (go_at_call 22; refine Calls.mono (HW.out _ _) ?_; rintro e w2 ⟨rfl, hb2⟩)
          | (refine wpList_store_row rfl 41 _ _ rfl w'.heap.size _ rfl rfl 41 _ ((hrow.below hb1 hlt).below hb2 (hrow.below hb1 hlt).lt) (HI.out _) (HM.out _ _) (U_one _) ?_))
        go_roundw
        case rel =>
          refine ⟨k / 2, m + m, q, by omega, by omega, hr2, rfl, rfl, below_setRow (chain (chain hbel hb1) hb2) hg _, ((hrow.below hb1 hlt).below hb2 (hrow.below hb1 hlt).lt).laid _, ?_⟩
          rw [hk4, HQ.out, ← bitsN_add, show (m + m) * (k.toNat / 2) + m = m * k.toNat by rw [show k.toNat = 2 * (k.toNat / 2) + 1 by omega, Nat.mul_add, Nat.mul_one, ← Nat.two_mul, Nat.mul_comm 2 m, Nat.mul_assoc]; congr 3; omega]
          exact HV.out
        case measure => simp only [intOf]; omega
    · have hkz : k.toNat = 0 := by omega
      rw [hkz, Nat.mul_zero] at hval
      have hie := inv_bits r hr
      have HV : Hid (inv32 r = zerosN s n.toNat) := by
        unfold Hid zerosN moreN
        rw [regs_zeros, ← HT.out, ← hval]
        rfl
      clear hval
      go_wp2
      go_ret
      rw [← HV.out]
      exact ⟨rfl, hbel⟩

theorem crcSum_ok : SumSpec := by
  intro A c zs w hr hz hc hm
  have HM := Lib.hid (crcMore_ok A c zs 0 w hr hz hc hm (by decide))
  clear hz hr
  go_enter Try.func12, Try.ntmps12
  go_wp2_with (go_at_call 14; refine Calls.mono HM.out ?_; rintro e w' ⟨rfl, hb⟩)
  go_ret
  exact ⟨rfl, hb⟩

theorem crcJoin_ok : JoinSpec := by
  intro a b n w ha hb hn1 hn2
  have H1 := Lib.hid (fun w => crcZeros_ok a n w ha hn1 hn2)
  have H2 := Lib.hid (fun w => crcZeros_ok 0 n w (by decide) hn1 hn2)
  have hp := zerosN_lt a n.toNat
  have hq := zerosN_lt 0 n.toNat
  have HJ : Hid (zerosN a n.toNat ^^^ zerosN 0 n.toNat ^^^ b = joinN a b n.toNat) := rfl
  obtain ⟨p, hpe⟩ : ∃ p, p = zerosN a n.toNat := ⟨_, rfl⟩
  obtain ⟨q, hqe⟩ : ∃ q, q = zerosN 0 n.toNat := ⟨_, rfl⟩
  rw [← hpe] at H1 HJ hp
  rw [← hqe] at H2 HJ hq
  have e1 := u32_x p q hp hq
  have e2 := u32_x (p ^^^ q) b (Nat.xor_lt_two_pow hp hq) hb
  rw [← HJ.out]
  clear hpe hqe hp hq ha hb HJ
  go_enter Try.func18, Try.ntmps18
  go_wp2_with (first
    | (go_at_call_of 16 (Value.int .u32 (a : Int)); refine Calls.mono (H1.out _) ?_; rintro e w1 ⟨rfl, hb1⟩)
    | (go_at_call 16; refine Calls.mono (H2.out _) ?_; rintro e w2 ⟨rfl, hb2⟩))
  go_ret
  exact ⟨rfl, chain hb1 hb2⟩

end Go.Proofs.Ytkikigpdcjkneaa
