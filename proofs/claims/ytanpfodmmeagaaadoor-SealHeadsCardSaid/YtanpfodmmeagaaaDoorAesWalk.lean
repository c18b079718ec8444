/-
  The document's own block as a walk.
-/
import Derived.Test.YtanpfodmmeagaaaDoorAesBlockG
namespace Go.Proofs.YtanpfodmmeagaaaDoor
open Go.RowKit

/-- The block ahead of round r. -/
def bR (key b : List Nat) : Nat → List Nat
  | 0 => b
  | r + 1 => encTo key b r
theorem bR_ok {key b : List Nat} (hk : ∀ x ∈ key, x < 256) (h : Ok16 b) (r : Nat) : Ok16 (bR key b r) := by
  cases r with
  | zero => exact h
  | succ r => exact encTo_ok hk h r
def b1 (l : List Nat) (r : Nat) : List Nat := if r = 0 then l else subL l
def b2 (l : List Nat) (r : Nat) : List Nat := if 0 < r ∧ r < 10 then mixL l else l
theorem b1_zero {base : Nat} {w : World} {v : Value} {l : List Nat} {r : Nat} (h0 : r = 0) (h : Blk base w v l) : Blk base w v (b1 l r) := by rw [b1, if_pos h0]; exact h
theorem subTo_lt (b : List Nat) (n : Nat) : ∀ x ∈ subTo b n, x < 256 := fun x hx => by
  obtain ⟨i, _, rfl⟩ := List.mem_map.1 hx
  exact sbox_lt _

theorem Keys.at_ {base gk ck : Nat} {w W : World} {key : List Nat} {ps : List Part} (h : Keys base w key (.slice (some ⟨gk, 0, none⟩) 44 ck) ps) (hp : ps.length = 44) (hb : Below w.heap.size w W) {j : Nat} (hj : j < 44) :
    ∃ blk off c, W.cell? ⟨gk, j, none⟩ = some (.slice (some ⟨blk, off, none⟩) 4 c) ∧ ∀ k, k < 4 → W.cell? ⟨blk, off + k, none⟩ = some (.int .u8 (kb key (4 * j + k) : Nat)) := by
  have h' := h.to hb
  rw [← hp] at h'
  obtain ⟨g', e, hrow⟩ := h'.row (by omega)
  injection e with e
  injection e with e
  subst e
  obtain ⟨_, blk, off, hA, _, _, hc⟩ := h'.word j (by omega)
  have hr := hrow j (by omega)
  rw [hA] at hr
  exact ⟨blk, off, _, hr, hc⟩
theorem x4 {a b c d : Nat} (ha : a < 256) (hb : b < 256) (hc : c < 256) (hd : d < 256) : bits .xor .u8 (bits .xor .u8 (bits .xor .u8 (a : Int) (b : Int)) (c : Int)) (d : Int) = ((a ^^^ b ^^^ c ^^^ d : Nat) : Int) := by
  rw [b8_x a b ha hb, b8_x _ c (xor_lt8 ha hb) hc, b8_x _ d (xor_lt8 (xor_lt8 ha hb) hc) hd]
theorem mix_b (a b c d : Nat) : a ^^^ timesN 2 b ^^^ timesN 3 c ^^^ d = mix1 b c d a := by unfold mix1; ac_rfl
theorem mix_c (a b c d : Nat) : a ^^^ b ^^^ timesN 2 c ^^^ timesN 3 d = mix1 c d a b := by unfold mix1; ac_rfl
theorem mix_d (a b c d : Nat) : timesN 3 a ^^^ b ^^^ c ^^^ timesN 2 d = mix1 d a b c := by unfold mix1; ac_rfl
theorem mixTo_lt {b : List Nat} (hb : ∀ x ∈ b, x < 256) (n : Nat) : ∀ x ∈ mixTo b n, x < 256 := fun x hx => by
  obtain ⟨i, _, rfl⟩ := List.mem_map.1 hx
  exact mix1_lt (getD_lt' (by decide) hb _) (getD_lt' (by decide) hb _)
theorem bR_next (key b : List Nat) (r : Nat) : addK key (b2 (b1 (bR key b r) r) r) r = bR key b (r + 1) := by
  cases r with
  | zero => simp [b1, b2, bR, encTo]
  | succ r => 
    simp only [b1, b2, bR, encTo, roundA, Nat.succ_ne_zero, if_false, Nat.succ_pos, true_and]

set_option maxHeartbeats 1600000 in
set_option maxRecDepth 20000 in
theorem refBlock_new (A0 A1 A2 : Option Addr) (c0 c1 c2 : Nat) (key b : List Nat) (w : World) (h0 : Ints w w.heap.size .u8 A0 (up key)) (h1 : Ints w w.heap.size .u8 A1 (up b)) (h2 : Ints w w.heap.size .u8 A2 (up sbox)) (hk : ∀ x ∈ key, x < 256) (hb : ∀ x ∈ b, x < 256) (hl : key.length = 16) (hlb : b.length = 16) (hc0 : 16 ≤ c0) :
    Calls Tryd.prog 41 #[.slice A0 16 c0, .slice A1 16 c1, .slice A2 256 c2] w fun e w' => ∃ g c, e = .returned (.slice (some ⟨g, 0, none⟩) 16 c) ∧ 16 ≤ c ∧ w.heap.size ≤ g ∧ Ints w' w'.heap.size .u8 (some ⟨g, 0, none⟩) (up (encN key b)) ∧ Below w.heap.size w w' := by
  obtain ⟨i0, hi, hz0, hz1, hz2⟩ := info_parts Tryd.infoU8a
  have HKS := Lib.hid (refKeys_any A0 A2 c0 c2 key w h0 h2 hk hl hc0)
  have HN1 := nil_of_ints (c := c1) h1 (by rw [up_len, hlb]; decide)
  have H1 := Lib.hid h1
  obtain ⟨bs, os, es, hbs, hcs⟩ := h2.at_ (by rw [up_len, sbox_len]; decide)
  subst es
  have HCS : Hid (∀ (W : World) (j : Nat), Below w.heap.size w W → j < 256 → W.cell? ⟨bs, os + j, none⟩ = some (.int .u8 (sbox.getD j 0 : Nat))) := fun W j hb hj => by
    rw [hb.cell (p := ⟨bs, os + j, none⟩) hbs, hcs j (by rw [up_len, sbox_len]; exact hj), up_getD]
  have HLB := Lib.hid hlb
  have HB := Lib.hid hb
  have HK := Lib.hid hk
  clear h0 h1 h2 hk hb hl hlb hbs hcs
  go_enter Tryd.func41, Tryd.ntmps41
  go_wp2_with (first
    | (go_at_call 63; with_reducible (refine Calls.mono HKS.out ?_); rintro e w1 ⟨kv, ps, rfl, hpl, hks, hb1⟩)
    | (at_builtin; refine wpList_append_when _ rfl _ _ 24 rfl w1.heap.size 5 i0 (.int .u8 0) 1 Tryd.underlying24 hi hz0 hz1 hz2 rfl .u8 (.slice (some ⟨w1.heap.size, 0, none⟩) 0 0) [] (up b) w.heap.size c1 16 A1 (by rw [up_len]; exact HLB.out) rfl rfl (World.ownsRow_made w1 #[] 0 (Nat.le_refl _) (Nat.zero_le _) rfl) ((H1.out.below hb1).alloc hb1.size _) HN1 ?d1 ?d2 ?d3 ?_))
  case d1 => rw [up_len, HLB.out]; decide
  case d2 => rw [up_len, HLB.out]; decide
  case d3 => simp
  intro v3 w3 hown3 hg3 _
  obtain ⟨v3, w3, rfl, rfl⟩ : ∃ a c, a = v3 ∧ c = w3 := ⟨_, _, rfl, rfl⟩
  have hks' := hks
  have R0 : Blk w1.heap.size w3 v3 (bR key b 0) ∧ Below w1.heap.size w1 w3 := by
    refine ⟨⟨HLB.out, HB.out, ?_⟩, (((Below.refl w1.heap.size w1).alloc (Nat.le_refl _) _)).grown hg3 (by simp) fun q hq => by simp [Value.ownBlock] at hq; omega⟩
    have h16 : (up b).length = 16 := by rw [up_len, HLB.out]
    rw [h16] at hown3
    obtain ⟨g, cap, hv, hge, hlt⟩ := hown3.form (by decide)
    subst hv
    exact ⟨_, g, cap, rfl, Nat.le_refl _, hge, hlt, hown3⟩
  obtain ⟨gk, ck, hkv, _, _⟩ := hks.own.form (by omega)
  rw [hpl] at hkv
  subst hkv
  have HROW := Lib.hid (fun (W : World) (j : Nat) (hb : Below w1.heap.size w1 W) (hj : j < 44) => hks.at_ hpl hb hj)
  have HB1 := Lib.hid hb1
  clear hown3 hg3 hks hb1 hks' HKS HN1 H1 hpl
  go_wp2
  go_loopw [8, 9] (fun v i wr => ∃ r : Nat, r ≤ 11 ∧ i = .int .i64 r ∧ Blk w1.heap.size wr v (bR key b r) ∧ Below w1.heap.size w1 wr) (fun _ i _ => 11 - (intOf i).toNat)
  case atStart => exact ⟨0, by omega, rfl, R0.1, R0.2⟩
  case round =>
    obtain ⟨r, hr11, rfl, hblk, hbel⟩ := hrel
    clear R0
    obtain ⟨wo, hwo⟩ : ∃ x, x = wr := ⟨_, rfl⟩
    subst hwo
    by_cases hr : r < 11
    · have hri : (r : Int) ≤ 10 := by omega
      go_upto_if 31 with fail
      go_cut [8] (fun v wx => Blk w1.heap.size wx v (b1 (bR key b r) r) ∧ Below wo.heap.size wo wx)
      case first =>
        by_cases h0 : r = 0
        · have hr0 : (r : Int) = 0 := by omega
          have R1 := And.intro (b1_zero h0 hblk) (Below.refl wo.heap.size wo)
          clear hblk hbel h0
          go_wp2
          go_meet
          exact R1
        · have hr0 : (0 : Int) < r := by omega
          rw [show decide (0 < r) = true from decide_eq_true (by omega)]
          obtain ⟨l, hl⟩ : ∃ l, l = bR key b r := ⟨_, rfl⟩
          have hb1e : b1 (bR key b r) r = subTo l 16 := by unfold b1; rw [if_neg h0, ← hl, subTo_all]
          have HB1E := Lib.hid hb1e
          rw [← hl] at hblk
          have HBK := Lib.hid hblk
          have HBE := Lib.hid hbel
          have hblk2 := hblk
          obtain ⟨hl16, hll, B, g, cap, rfl, h3, h4, h5, h6⟩ := hblk2
          have HL := Lib.hid hll
          have HWS : Hid (w.heap.size ≤ wo.heap.size) := Nat.le_trans HB1.out.size hbel.size
          have HBW := HB1
          have HC := Lib.hid (fun (W : World) (i : Nat) (hb : Below wo.heap.size wo W) (hi : i < 16) => (hb.cell (p := ⟨g, i, none⟩) h5).trans (HBK.out.cells i hi))
          clear h0 hl hb1e hblk hbel hl16 hll h3 h4 h6
          go_wp2
          clear hr0
          go_loopw [10, 11] (fun v c wx => ∃ k : Nat, k ≤ 4 ∧ c = .int .i64 k ∧ wx.ownsRow wo.heap.size 5 1 v (4 * k) ((up (subTo l (4 * k))).map (Value.int .u8)) ∧ Below wo.heap.size wo wx) (fun _ c _ => 4 - (intOf c).toNat)
          case atStart => exact ⟨0, by omega, rfl, World.ownsRow_made _ #[] 0 (Nat.le_refl _) (Nat.zero_le _) rfl, (Below.refl _ _).alloc (Nat.le_refl _) _⟩
          case round =>
            obtain ⟨k, hk4, rfl, hown, hbx⟩ := hrel
            by_cases hk : k < 4
            · have hki : (k : Int) < 4 := by omega
              go_wp2
              go_loopw [10, 12] (fun v c wx => ∃ j : Nat, j ≤ 4 ∧ c = .int .i64 j ∧ wx.ownsRow wo.heap.size 5 1 v (4 * k + j) ((up (subTo l (4 * k + j))).map (Value.int .u8)) ∧ Below wo.heap.size wo wx) (fun _ c _ => 4 - (intOf c).toNat)
              case atStart => exact ⟨0, by omega, rfl, hown, hbx⟩
              case round =>
                clear hown hbx
                obtain ⟨j, hj4, rfl, hown, hbx⟩ := hrel
                by_cases hj : j < 4
                · have hji : (j : Int) < 4 := by omega
                  obtain ⟨m, hm⟩ : ∃ m, m = (k + j) % 4 := ⟨_, rfl⟩
                  have HM := Lib.hid hm
                  have hmt : ((k : Int) + (j : Int)).tmod 4 = (m : Int) := by rw [Int.tmod_eq_emod_of_nonneg (by omega)]; omega
                  have hme : ((k : Int) + (j : Int)) % 4 = (m : Int) := by omega
                  have hm4 : (m : Int) ≤ 3 := by omega
                  have hx1 : (4 * (m : Int) + (j : Int)).toNat = 4 * m + j := by omega
                  have hx2 : (0 : Int) ≤ 4 * (m : Int) + (j : Int) := by omega
                  have hx3 : 4 * (m : Int) + (j : Int) < 16 := by omega
                  clear hm
                  have hq1 := HC.out wr (4 * m + j) hbx (by omega)
                  have hyl : l.getD (4 * m + j) 0 < 256 := getD_lt' (by decide) HL.out _
                  have hsx := subTo_succ l (4 * k + j)
                  rw [show (4 * k + j) / 4 = k by omega, show (4 * k + j) % 4 = j by omega, ← HM.out] at hsx
                  obtain ⟨y, hy⟩ : ∃ y, y = l.getD (4 * m + j) 0 := ⟨_, rfl⟩
                  rw [← hy] at hq1 hyl hsx
                  have hq2 := HCS.out wr y ((HBW.out.trans (HBE.out.mono HBW.out.size)).trans (hbx.mono HWS.out)) hyl
                  have hzl := sbox_lt y
                  obtain ⟨z, hz⟩ : ∃ z, z = sbox.getD y 0 := ⟨_, rfl⟩
                  rw [← hz] at hq2 hzl hsx
                  have HSX := Lib.hid hsx
                  have hyi : (y : Int) < 256 := by omega
                  have hsz := hbx.size
                  clear hy hz hsx
                  go_wp2_with (at_builtin; refine wpList_append_own_at _ rfl (.tmp 41) (.tmp 55) 24 rfl wo.heap.size 5 i0 (.int .u8 0) 1 1 Tryd.underlying24 hi hz0 hz1 hz2 rfl (by decide) _ _ _ rfl (hown.alloc _) ⟨wr.heap.size, 0, none⟩ 1 1 [_] rfl rfl (cell_one_new _ _ _) ?d1 ?d2 ?d3 ?d4 ?_)
                  case d1 => intro u hu; simp at hu; subst hu; rfl
                  case d2 => unfold maxLen; omega
                  case d3 => omega
                  case d4 => simp; omega
                  intro v4 w4 hown4 hg4 _ _
                  have R2 : w4.ownsRow wo.heap.size 5 1 v4 (4 * k + (j + 1)) ((up (subTo l (4 * k + (j + 1)))).map (Value.int .u8)) ∧ Below wo.heap.size wo w4 := by
                    refine ⟨?_, (hbx.trans (((Below.refl _ _).alloc (Nat.le_refl _) _).mono hsz)).grown hg4 (by simp; omega) fun q hq => (hown.lt q hq).1⟩
                    rw [show 4 * k + (j + 1) = 4 * k + j + 1 from rfl, HSX.out, up_append, List.map_append]
                    exact hown4
                  clear hown4 hg4 hown hbx hq1 hq2
                  go_wp2
                  go_roundw
                  case rel => first | exact ⟨j + 1, by omega, by go_num, R2.1, R2.2⟩ | ((repeat apply Exists.intro); exact ⟨⟨j + 1, by omega, by go_num, R2.1, R2.2⟩, rfl⟩)
                  case measure => simp [intOf]; omega
                · have hj' : j = 4 := by omega
                  subst hj'
                  have R3 := And.intro hown hbx
                  clear hown hbx
                  go_wp2
                  go_roundw
                  case rel => first | exact ⟨k + 1, by omega, by go_num, R3.1, R3.2⟩ | ((repeat apply Exists.intro); exact ⟨⟨k + 1, by omega, by go_num, R3.1, R3.2⟩, rfl⟩)
                  case measure => simp [intOf]; omega
            · have hk' : k = 4 := by omega
              subst hk'
              have R4 := And.intro (blk_of_own (base := w1.heap.size) (subTo_len l 16) (subTo_lt l 16) HBE.out.size hown) hbx
              clear hown hbx
              go_wp2
              go_meet
              rw [HB1E.out]
              exact R4
      case rest =>
        obtain ⟨hblk1, hbel1⟩ := hcut
        have HBE := Lib.hid hbel
        have hsw := hbel.size
        obtain ⟨l, hl⟩ : ∃ l, l = b1 (bR key b r) r := ⟨_, rfl⟩
        rw [← hl] at hblk1
        obtain ⟨wm, hwm⟩ : ∃ x, x = wc := ⟨_, rfl⟩
        subst hwm
        clear hblk hbel
        have HLL := Lib.hid hl
        clear hl
        rcases (show r = 0 ∨ (0 < r ∧ r < 10) ∨ r = 10 by omega) with hc | hc | hc
        · have hd : decide (0 < r) = false := decide_eq_false (by omega)
          have hz : ¬ (0 : Int) < r := by omega
          have HBN : Hid (addK key l r = bR key b (r + 1)) := by unfold Hid; rw [← bR_next, b2, if_neg (by omega), ← HLL.out]
          clear hc
          go_upto_if 63 with fail
          obtain ⟨g, cap, hv⟩ := hblk1.slice
          subst hv
          have HB1K := Lib.hid hblk1
          have HBW1 := Lib.hid (HBE.out.trans (hbel1.mono hsw))
          clear hblk1 hbel1
          go_wp2
          go_loopw [19] (fun i wx => ∃ n : Nat, n ≤ 16 ∧ i = .int .i64 n ∧ Blk w1.heap.size wx (.slice (some ⟨g, 0, none⟩) 16 cap) (addTo' key l r n) ∧ Below w1.heap.size w1 wx) (fun i _ => 16 - (intOf i).toNat)
          case atStart => exact ⟨0, by omega, rfl, by rw [addTo'_zero HB1K.out.1]; exact HB1K.out, HBW1.out⟩
          case round =>
            obtain ⟨n, hn16, rfl, hblk, hbx⟩ := hrel
            by_cases hn : n < 16
            · have hni : (n : Int) < 16 := by omega
              obtain ⟨q, hq⟩ : ∃ q, q = n / 4 := ⟨_, rfl⟩
              obtain ⟨m, hm⟩ : ∃ m, m = n % 4 := ⟨_, rfl⟩
              have hqt : (n : Int).tdiv 4 = (q : Int) := by rw [Int.tdiv_eq_ediv_of_nonneg (by omega)]; omega
              have hqe : (n : Int) / 4 = (q : Int) := by omega
              have hmt : (n : Int).tmod 4 = (m : Int) := by rw [Int.tmod_eq_emod_of_nonneg (by omega)]; omega
              have hme : (n : Int) % 4 = (m : Int) := by omega
              have hql : (q : Int) ≤ 3 := by omega
              have hml : (m : Int) ≤ 3 := by omega
              have hsum : 4 * (4 * r + q) + m = 16 * r + n := by omega
              obtain ⟨blk, off, cc, hrow, hcl⟩ := HROW.out wr (4 * r + q) hbx (by omega)
              have hkc := hcl m (by omega)
              rw [hsum] at hkc
              have hbc := hblk.cells n hn
              rw [addTo'_at key l r n n hn, if_neg (Nat.lt_irrefl n)] at hbc
              have hfz := hblk.thaw n
              have hkl := kb_lt HK.out (16 * r + n)
              have hll := getD_lt' (by decide) HB1K.out.2.1 n
              have hnx := addTo'_next key l r n
              obtain ⟨y, hy⟩ : ∃ y, y = l.getD n 0 := ⟨_, rfl⟩
              obtain ⟨z, hz'⟩ : ∃ z, z = kb key (16 * r + n) := ⟨_, rfl⟩
              rw [← hy] at hbc hll hnx
              rw [← hz'] at hkc hkl hnx
              have hxx := b8_x y z hll hkl
              have hxl := xor_lt8 hll hkl
              obtain ⟨x, hx⟩ : ∃ x, x = y ^^^ z := ⟨_, rfl⟩
              rw [← hx] at hxx hxl hnx
              have HNX := Lib.hid hnx
              have HST := Lib.hid (hblk.store (n := n) hxl)
              have HSB := Lib.hid (hbx.setCell (p := ⟨g, n, none⟩) hblk.base (.int .u8 (x : Nat)))
              have i1 : (4 * (r : Int) + (q : Int)).toNat = 4 * r + q := by omega
              have i2 : (0 : Int) ≤ 4 * (r : Int) + (q : Int) := by omega
              have i3 : 4 * (r : Int) + (q : Int) < 44 := by omega
              clear hq hm hsum hcl hy hz' hx hnx hblk hbx hkl hll hxl
              go_wp2
              go_region
              all_goals
                go_wp2
                go_roundw
                case rel => first | exact ⟨n + 1, by omega, by go_num, by rw [← HNX.out]; exact HST.out, HSB.out.drew⟩ | ((repeat apply Exists.intro); exact ⟨⟨n + 1, by omega, by go_num, by rw [← HNX.out]; exact HST.out, HSB.out.drew⟩, rfl⟩)
                case measure => simp [intOf]; omega
            · have hn' : n = 16 := by omega
              subst hn'
              rw [addTo'_all, HBN.out] at hblk
              have R5 := And.intro hblk hbx
              clear hblk hbx
              go_wp2
              go_roundw
              case rel => first | exact ⟨r + 1, by omega, by go_num, R5.1, R5.2⟩ | ((repeat apply Exists.intro); exact ⟨⟨r + 1, by omega, by go_num, R5.1, R5.2⟩, rfl⟩)
              case measure => simp [intOf]; omega
        · have hz : (0 : Int) < r := by omega
          have hz3 : (r : Int) < 10 := by omega
          have hd : decide (0 < r) = true := decide_eq_true (by omega)
          have HBN : Hid (addK key (mixL l) r = bR key b (r + 1)) := by unfold Hid; rw [← bR_next, b2, if_pos (by omega), ← HLL.out]
          clear hc
          go_upto_if 63 with fail
          go_cut [8] (fun v wx => Blk w1.heap.size wx v (mixL l) ∧ Below wm.heap.size wm wx)
          case first =>
            obtain ⟨g, cap, hv⟩ := hblk1.slice
            subst hv
            have HB1K := Lib.hid hblk1
            have HC := Lib.hid (fun (W : World) (i : Nat) (hb : Below wm.heap.size wm W) (hi : i < 16) => (hblk1.to hb).cells i hi)
            have HSO : Hid (w1.heap.size ≤ wm.heap.size) := Nat.le_trans HBE.out.size hbel1.size
            clear hblk1 hbel1
            have HT2 := Lib.hid (fun (W : World) (a : Nat) (ha : a < 256) => refTimes_any 2 a W (by decide) ha)
            have HT3 := Lib.hid (fun (W : World) (a : Nat) (ha : a < 256) => refTimes_any 3 a W (by decide) ha)
            go_wp2
            go_loopw [13, 14] (fun v c wx => ∃ k : Nat, k ≤ 4 ∧ c = .int .i64 (4 * k : Nat) ∧ wx.ownsRow wm.heap.size 5 1 v (4 * k) ((up (mixTo l (4 * k))).map (Value.int .u8)) ∧ Below wm.heap.size wm wx) (fun _ c _ => 16 - (intOf c).toNat)
            case atStart => exact ⟨0, by omega, rfl, World.ownsRow_made _ #[] 0 (Nat.le_refl _) (Nat.zero_le _) rfl, (Below.refl _ _).alloc (Nat.le_refl _) _⟩
            case round =>
              obtain ⟨k, hk4, rfl, hown, hbx⟩ := hrel
              by_cases hk : k < 4
              · have q0 := HC.out wr (4 * k) hbx (by omega)
                have q1 := HC.out wr (4 * k + 1) hbx (by omega)
                have q2 := HC.out wr (4 * k + 2) hbx (by omega)
                have q3 := HC.out wr (4 * k + 3) hbx (by omega)
                have l0 := getD_lt' (by decide) HB1K.out.2.1 (4 * k)
                have l1 := getD_lt' (by decide) HB1K.out.2.1 (4 * k + 1)
                have l2 := getD_lt' (by decide) HB1K.out.2.1 (4 * k + 2)
                have l3 := getD_lt' (by decide) HB1K.out.2.1 (4 * k + 3)
                have HMX := mixTo_four l k
                obtain ⟨a0, e0⟩ : ∃ y, y = l.getD (4 * k) 0 := ⟨_, rfl⟩
                obtain ⟨a1, e1⟩ : ∃ y, y = l.getD (4 * k + 1) 0 := ⟨_, rfl⟩
                obtain ⟨a2, e2⟩ : ∃ y, y = l.getD (4 * k + 2) 0 := ⟨_, rfl⟩
                obtain ⟨a3, e3⟩ : ∃ y, y = l.getD (4 * k + 3) 0 := ⟨_, rfl⟩
                rw [← e0] at q0 l0 HMX
                rw [← e1] at q1 l1 HMX
                rw [← e2] at q2 l2 HMX
                rw [← e3] at q3 l3 HMX
                replace HMX := Lib.hid HMX
                obtain ⟨n, hn⟩ : ∃ n, n = 4 * k := ⟨_, rfl⟩
                have HN := Lib.hid hn
                have hn16 : n + 3 < 16 := by omega
                rw [← hn] at hown q0 q1 q2 q3 HMX ⊢
                have n1 : ((n : Int) + 1).toNat = n + 1 := by omega
                have n2 : ((n : Int) + 2).toNat = n + 2 := by omega
                have n3 : ((n : Int) + 3).toNat = n + 3 := by omega
                have hnl : (n : Int) ≤ 12 := by omega
                clear e0 e1 e2 e3 hn
                go_wp2
                go_quiet (fail)
                clear q0 q1 q2 q3
                obtain ⟨W, hW⟩ : ∃ W, W = wr.drewN nq := ⟨_, rfl⟩
                rw [← hW]
                have hownW : W.ownsRow wm.heap.size 5 1 u13 n ((up (mixTo l n)).map (Value.int .u8)) := by rw [hW]; exact hown
                have hbW : Below wm.heap.size wm W := by rw [hW]; exact below_drewN hbx nq
                clear hW hown hbx
                go_wp2_with (first
                  | (go_at_call 64; with_reducible (refine Calls.mono (HT2.out _ _ ?hb) ?_); (case hb => assumption); rintro e w' ⟨rfl, rfl⟩)
                  | (go_at_call 64; with_reducible (refine Calls.mono (HT3.out _ _ ?hb) ?_); (case hb => assumption); rintro e w' ⟨rfl, rfl⟩)
                  | (at_builtin; refine wpList_append_own_at _ rfl (.tmp 88) (.tmp 125) 24 rfl wm.heap.size 5 i0 (.int .u8 0) 1 1 Tryd.underlying24 hi hz0 hz1 hz2 rfl (by decide) _ _ _ rfl (hownW.alloc _) ⟨W.heap.size, 0, none⟩ 4 4 [_, _, _, _] rfl rfl (cell_row_new _ _ _ _ rfl) ?d1 ?d2 ?d3 ?d4 ?_))
                case d1 => intro u hu; simp at hu; rcases hu with rfl | rfl | rfl | rfl <;> rfl
                case d2 => unfold maxLen; omega
                case d3 => omega
                case d4 => simp; have := hbW.size; omega
                intro v4 w4 hown4 hg4 _ _
                have R2 : w4.ownsRow wm.heap.size 5 1 v4 (n + 4) ((up (mixTo l (n + 4))).map (Value.int .u8)) ∧ Below wm.heap.size wm w4 := by
                  refine ⟨?_, (hbW.trans (((Below.refl _ _).alloc (Nat.le_refl _) _).mono hbW.size)).grown hg4 (by have := hbW.size; simp; omega) fun q hq => (hownW.lt q hq).1⟩
                  have hm := HMX.out
                  rw [hm, up_append, List.map_append]
                  rw [x4 (timesN_lt _ _) (timesN_lt _ _) l2 l3, x4 l0 (timesN_lt _ _) (timesN_lt _ _) l3, x4 l0 l1 (timesN_lt _ _) (timesN_lt _ _), x4 (timesN_lt _ _) l1 l2 (timesN_lt _ _), mix_b, mix_c, mix_d] at hown4
                  exact hown4
                clear hown4 hg4 hownW hbW
                rw [HN.out] at R2
                have hnk : (n : Int) + 4 = ((4 * (k + 1) : Nat) : Int) := by have := HN.out; omega
                have R3 := Lib.hid R2
                clear R2
                go_wp2
                go_roundw
                case rel => first | exact ⟨k + 1, by omega, by first | exact congrArg (Value.int .i64) hnk | go_num, R3.out.1, R3.out.2⟩ | ((repeat apply Exists.intro); exact ⟨⟨k + 1, by omega, by first | exact congrArg (Value.int .i64) hnk | go_num, R3.out.1, R3.out.2⟩, rfl⟩)
                case measure => simp [intOf]; omega
              · have hk' : k = 4 := by omega
                subst hk'
                have R4 := And.intro (blk_of_own (base := w1.heap.size) (mixTo_len l 16) (mixTo_lt HB1K.out.2.1 16) HSO.out hown) hbx
                clear hown hbx
                go_wp2
                go_meet
                exact R4
          case rest =>
            obtain ⟨hblk2, hbel2⟩ := hcut
            have HBE2 := HBE.out.trans (hbel1.mono hsw)
            clear hblk1 hbel1
            replace hsw := HBE2.size
            replace HBE := Lib.hid HBE2
            clear HBE2
            have hblk1 := hblk2
            have hbel1 := hbel2
            clear hblk2 hbel2
            obtain ⟨lm, hlm⟩ : ∃ x, x = mixL l := ⟨_, rfl⟩
            rw [← hlm] at hblk1 HBN
            clear hlm
            obtain ⟨g, cap, hv⟩ := hblk1.slice
            subst hv
            have HB1K := Lib.hid hblk1
            have HBW1 := Lib.hid (HBE.out.trans (hbel1.mono hsw))
            clear hblk1 hbel1
            go_wp2
            go_loopw [19] (fun i wx => ∃ n : Nat, n ≤ 16 ∧ i = .int .i64 n ∧ Blk w1.heap.size wx (.slice (some ⟨g, 0, none⟩) 16 cap) (addTo' key lm r n) ∧ Below w1.heap.size w1 wx) (fun i _ => 16 - (intOf i).toNat)
            case atStart => exact ⟨0, by omega, rfl, by rw [addTo'_zero HB1K.out.1]; exact HB1K.out, HBW1.out⟩
            case round =>
              obtain ⟨n, hn16, rfl, hblk, hbx⟩ := hrel
              by_cases hn : n < 16
              · have hni : (n : Int) < 16 := by omega
                obtain ⟨q, hq⟩ : ∃ q, q = n / 4 := ⟨_, rfl⟩
                obtain ⟨m, hm⟩ : ∃ m, m = n % 4 := ⟨_, rfl⟩
                have hqt : (n : Int).tdiv 4 = (q : Int) := by rw [Int.tdiv_eq_ediv_of_nonneg (by omega)]; omega
                have hqe : (n : Int) / 4 = (q : Int) := by omega
                have hmt : (n : Int).tmod 4 = (m : Int) := by rw [Int.tmod_eq_emod_of_nonneg (by omega)]; omega
                have hme : (n : Int) % 4 = (m : Int) := by omega
                have hql : (q : Int) ≤ 3 := by omega
                have hml : (m : Int) ≤ 3 := by omega
                have hsum : 4 * (4 * r + q) + m = 16 * r + n := by omega
                obtain ⟨blk, off, cc, hrow, hcl⟩ := HROW.out wr (4 * r + q) hbx (by omega)
                have hkc := hcl m (by omega)
                rw [hsum] at hkc
                have hbc := hblk.cells n hn
                rw [addTo'_at key lm r n n hn, if_neg (Nat.lt_irrefl n)] at hbc
                have hfz := hblk.thaw n
                have hkl := kb_lt HK.out (16 * r + n)
                have hll := getD_lt' (by decide) HB1K.out.2.1 n
                have hnx := addTo'_next key lm r n
                obtain ⟨y, hy⟩ : ∃ y, y = lm.getD n 0 := ⟨_, rfl⟩
                obtain ⟨z, hz'⟩ : ∃ z, z = kb key (16 * r + n) := ⟨_, rfl⟩
                rw [← hy] at hbc hll hnx
                rw [← hz'] at hkc hkl hnx
                have hxx := b8_x y z hll hkl
                have hxl := xor_lt8 hll hkl
                obtain ⟨x, hx⟩ : ∃ x, x = y ^^^ z := ⟨_, rfl⟩
                rw [← hx] at hxx hxl hnx
                have HNX := Lib.hid hnx
                have HST := Lib.hid (hblk.store (n := n) hxl)
                have HSB := Lib.hid (hbx.setCell (p := ⟨g, n, none⟩) hblk.base (.int .u8 (x : Nat)))
                have i1 : (4 * (r : Int) + (q : Int)).toNat = 4 * r + q := by omega
                have i2 : (0 : Int) ≤ 4 * (r : Int) + (q : Int) := by omega
                have i3 : 4 * (r : Int) + (q : Int) < 44 := by omega
                clear hq hm hsum hcl hy hz' hx hnx hblk hbx hkl hll hxl
                go_wp2
                go_region
                all_goals
                  go_wp2
                  go_roundw
                  case rel => first | exact ⟨n + 1, by omega, by go_num, by rw [← HNX.out]; exact HST.out, HSB.out.drew⟩ | ((repeat apply Exists.intro); exact ⟨⟨n + 1, by omega, by go_num, by rw [← HNX.out]; exact HST.out, HSB.out.drew⟩, rfl⟩)
                  case measure => simp [intOf]; omega
              · have hn' : n = 16 := by omega
                subst hn'
                rw [addTo'_all, HBN.out] at hblk
                have R5 := And.intro hblk hbx
                clear hblk hbx
                go_wp2
                go_roundw
                case rel => first | exact ⟨r + 1, by omega, by go_num, R5.1, R5.2⟩ | ((repeat apply Exists.intro); exact ⟨⟨r + 1, by omega, by go_num, R5.1, R5.2⟩, rfl⟩)
                case measure => simp [intOf]; omega
        · have hd : decide (0 < r) = true := decide_eq_true (by omega)
          have hz : (0 : Int) < r := by omega
          have hz2 : ¬ (r : Int) < 10 := by omega
          have HBN : Hid (addK key l r = bR key b (r + 1)) := by unfold Hid; rw [← bR_next, b2, if_neg (by omega), ← HLL.out]
          clear hc
          go_upto_if 63 with fail
          obtain ⟨g, cap, hv⟩ := hblk1.slice
          subst hv
          have HB1K := Lib.hid hblk1
          have HBW1 := Lib.hid (HBE.out.trans (hbel1.mono hsw))
          clear hblk1 hbel1
          go_wp2
          go_loopw [19] (fun i wx => ∃ n : Nat, n ≤ 16 ∧ i = .int .i64 n ∧ Blk w1.heap.size wx (.slice (some ⟨g, 0, none⟩) 16 cap) (addTo' key l r n) ∧ Below w1.heap.size w1 wx) (fun i _ => 16 - (intOf i).toNat)
          case atStart => exact ⟨0, by omega, rfl, by rw [addTo'_zero HB1K.out.1]; exact HB1K.out, HBW1.out⟩
          case round =>
            obtain ⟨n, hn16, rfl, hblk, hbx⟩ := hrel
            by_cases hn : n < 16
            · have hni : (n : Int) < 16 := by omega
              obtain ⟨q, hq⟩ : ∃ q, q = n / 4 := ⟨_, rfl⟩
              obtain ⟨m, hm⟩ : ∃ m, m = n % 4 := ⟨_, rfl⟩
              have hqt : (n : Int).tdiv 4 = (q : Int) := by rw [Int.tdiv_eq_ediv_of_nonneg (by omega)]; omega
              have hqe : (n : Int) / 4 = (q : Int) := by omega
              have hmt : (n : Int).tmod 4 = (m : Int) := by rw [Int.tmod_eq_emod_of_nonneg (by omega)]; omega
              have hme : (n : Int) % 4 = (m : Int) := by omega
              have hql : (q : Int) ≤ 3 := by omega
              have hml : (m : Int) ≤ 3 := by omega
              have hsum : 4 * (4 * r + q) + m = 16 * r + n := by omega
              obtain ⟨blk, off, cc, hrow, hcl⟩ := HROW.out wr (4 * r + q) hbx (by omega)
              have hkc := hcl m (by omega)
              rw [hsum] at hkc
              have hbc := hblk.cells n hn
              rw [addTo'_at key l r n n hn, if_neg (Nat.lt_irrefl n)] at hbc
              have hfz := hblk.thaw n
              have hkl := kb_lt HK.out (16 * r + n)
              have hll := getD_lt' (by decide) HB1K.out.2.1 n
              have hnx := addTo'_next key l r n
              obtain ⟨y, hy⟩ : ∃ y, y = l.getD n 0 := ⟨_, rfl⟩
              obtain ⟨z, hz'⟩ : ∃ z, z = kb key (16 * r + n) := ⟨_, rfl⟩
              rw [← hy] at hbc hll hnx
              rw [← hz'] at hkc hkl hnx
              have hxx := b8_x y z hll hkl
              have hxl := xor_lt8 hll hkl
              obtain ⟨x, hx⟩ : ∃ x, x = y ^^^ z := ⟨_, rfl⟩
              rw [← hx] at hxx hxl hnx
              have HNX := Lib.hid hnx
              have HST := Lib.hid (hblk.store (n := n) hxl)
              have HSB := Lib.hid (hbx.setCell (p := ⟨g, n, none⟩) hblk.base (.int .u8 (x : Nat)))
              have i1 : (4 * (r : Int) + (q : Int)).toNat = 4 * r + q := by omega
              have i2 : (0 : Int) ≤ 4 * (r : Int) + (q : Int) := by omega
              have i3 : 4 * (r : Int) + (q : Int) < 44 := by omega
              clear hq hm hsum hcl hy hz' hx hnx hblk hbx hkl hll hxl
              go_wp2
              go_region
              all_goals
                go_wp2
                go_roundw
                case rel => first | exact ⟨n + 1, by omega, by go_num, by rw [← HNX.out]; exact HST.out, HSB.out.drew⟩ | ((repeat apply Exists.intro); exact ⟨⟨n + 1, by omega, by go_num, by rw [← HNX.out]; exact HST.out, HSB.out.drew⟩, rfl⟩)
                case measure => simp [intOf]; omega
            · have hn' : n = 16 := by omega
              subst hn'
              rw [addTo'_all, HBN.out] at hblk
              have R5 := And.intro hblk hbx
              clear hblk hbx
              go_wp2
              go_roundw
              case rel => first | exact ⟨r + 1, by omega, by go_num, R5.1, R5.2⟩ | ((repeat apply Exists.intro); exact ⟨⟨r + 1, by omega, by go_num, R5.1, R5.2⟩, rfl⟩)
              case measure => simp [intOf]; omega
    · have hr' : r = 11 := by omega
      subst hr'
      obtain ⟨h16, _, B, g, cap, rfl, hbB, hBg, _, hown⟩ := hblk
      have hcap := own_le hown
      have hgw := HB1.out.size
      have HIN : Hid (Ints wo wo.heap.size .u8 (some ⟨g, 0, none⟩) (up (encN key b))) := Ints.of_own (c := cap) (n := 16) (by rw [up_len, show encN key b = bR key b 11 from rfl, h16]; exact hown)
      have HBW1 := Lib.hid (HB1.out.trans (hbel.mono HB1.out.size))
      clear hown hbel h16
      go_wp2
      go_ret
      first | exact ⟨_, _, rfl, hcap, by omega, HIN.out, HBW1.out⟩ | exact ⟨_, _, hcap, by omega, HIN.out, HBW1.out⟩
theorem refBlock_any (A0 A1 A2 : Option Addr) (c0 c1 c2 : Nat) (key b : List Nat) (w : World) (h0 : Ints w w.heap.size .u8 A0 (up key)) (h1 : Ints w w.heap.size .u8 A1 (up b)) (h2 : Ints w w.heap.size .u8 A2 (up sbox)) (hk : ∀ x ∈ key, x < 256) (hb : ∀ x ∈ b, x < 256) (hl : key.length = 16) (hlb : b.length = 16) (hc0 : 16 ≤ c0) :
    Calls Tryd.prog 41 #[.slice A0 16 c0, .slice A1 16 c1, .slice A2 256 c2] w fun e w' => ∃ A c, e = .returned (.slice A 16 c) ∧ Ints w' w'.heap.size .u8 A (up (encN key b)) ∧ Below w.heap.size w w' :=
  (refBlock_new A0 A1 A2 c0 c1 c2 key b w h0 h1 h2 hk hb hl hlb hc0).mono fun _ _ ⟨g, c, h, _, _, h1, h2⟩ => ⟨some ⟨g, 0, none⟩, c, h, h1, h2⟩
end Go.Proofs.YtanpfodmmeagaaaDoor
