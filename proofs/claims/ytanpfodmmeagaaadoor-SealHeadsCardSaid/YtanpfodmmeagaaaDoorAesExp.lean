/-
  The document's own round keys: what they answer; nothing that was there is changed.
-/
import Derived.Test.YtanpfodmmeagaaaDoorAesRefG
import Derived.Test.YtanpfodmmeagaaaDoorKept
namespace Go.Proofs.YtanpfodmmeagaaaDoor
open Go.RowKit

/-- The words that were made. -/
structure Keys (base : Nat) (w : World) (key : List Nat) (v : Value) (ps : List Part) : Prop where
  own : w.ownsRow base 24 1 v ps.length (ps.map fun p => Value.slice p.A 4 p.c)
  word : ∀ j (h : j < ps.length), 4 ≤ ps[j].c ∧ ∃ blk off, ps[j].A = some ⟨blk, off, none⟩ ∧ blk < w.heap.size ∧ some blk ≠ v.ownBlock ∧ ∀ k, k < 4 → w.cell? ⟨blk, off + k, none⟩ = some (.int .u8 (kb key (4 * j + k) : Nat))
section
variable {base : Nat} {w w' : World} {key : List Nat} {v v' : Value} {ps : List Part}
theorem Keys.cells (h : Keys base w key v ps) {j : Nat} (hj : j < ps.length) : ∃ b o, (some b ≠ v.ownBlock ∧ b < w.heap.size) ∧ ps[j].A = some ⟨b, o, none⟩ ∧ w.cell? ⟨b, o, none⟩ = some (.int .u8 (kb key (4 * j) : Nat)) ∧ w.cell? ⟨b, o + 1, none⟩ = some (.int .u8 (kb key (4 * j + 1) : Nat)) ∧
    w.cell? ⟨b, o + 2, none⟩ = some (.int .u8 (kb key (4 * j + 2) : Nat)) ∧ w.cell? ⟨b, o + 3, none⟩ = some (.int .u8 (kb key (4 * j + 3) : Nat)) := by
  obtain ⟨_, b, o, e, hl, hn, hc⟩ := h.word j hj
  exact ⟨b, o, ⟨hn, hl⟩, e, hc 0 (by decide), hc 1 (by decide), hc 2 (by decide), hc 3 (by decide)⟩
theorem Keys.row {A : Option Addr} {cap : Nat} (h : Keys base w key (.slice A ps.length cap) ps) (h0 : 0 < ps.length) : ∃ g, A = some ⟨g, 0, none⟩ ∧ ∀ j (hj : j < ps.length), w.cell? ⟨g, j, none⟩ = some (.slice ps[j].A 4 ps[j].c) := by
  obtain ⟨g', cap', hv, _, _⟩ := h.own.form (by omega)
  injection hv with hA _ hc
  subst hA hc
  refine ⟨g', rfl, fun j hj => ?_⟩
  rw [h.own.cellAt j (by omega), List.getElem?_map, List.getElem?_eq_getElem hj]
  rfl
theorem Keys.to (h : Keys base w key v ps) (hb : Below w.heap.size w w') : Keys base w' key v ps := by
  refine ⟨own_same h.own fun g hg => hb.block g (h.own.lt g hg).2, fun j hj => ?_⟩
  obtain ⟨h1, b, o, h2, h3, h4, h5⟩ := h.word j hj
  exact ⟨h1, b, o, h2, Nat.lt_of_lt_of_le h3 hb.size, h4, fun k hk => (hb.cell (p := ⟨b, o + k, none⟩) h3).trans (h5 k hk)⟩
/-- One word more. -/
theorem Keys.add (h : Keys base w key v ps) (p : Part) (hc : 4 ≤ p.c) {blk off : Nat} (hA : p.A = some ⟨blk, off, none⟩) (hblk : blk < w.heap.size) (hne : some blk ≠ v.ownBlock) (hcell : ∀ k, k < 4 → w.cell? ⟨blk, off + k, none⟩ = some (.int .u8 (kb key (4 * ps.length + k) : Nat)))
    (ho : w'.ownsRow base 24 1 v' (ps.length + 1) ((ps.map fun p => Value.slice p.A 4 p.c) ++ [Value.slice p.A 4 p.c])) (hg : w.grownBy w' v.ownBlock) (hv : v'.ownBlock = v.ownBlock ∨ v'.ownBlock = some w.heap.size) : Keys base w' key v' (ps ++ [p]) := by
  have key' : ∀ b, b < w.heap.size → some b ≠ v.ownBlock → some b ≠ v'.ownBlock := fun b hb hn => by
    rcases hv with hv | hv
    · rw [hv]; exact hn
    · rw [hv]; intro e; injection e with e; omega
  refine ⟨by simpa using ho, fun j hj => ?_⟩
  rcases Nat.lt_or_ge j ps.length with hlt | hge
  · obtain ⟨h1, b, o, h2, h3, h4, h5⟩ := h.word j hlt
    rw [List.getElem_append_left hlt]
    exact ⟨h1, b, o, h2, Nat.lt_of_lt_of_le h3 hg.size, key' b h3 h4, fun k hk => (World.cell?_of_block (a := ⟨b, o + k, none⟩) (hg.block b h3 h4)).trans (h5 k hk)⟩
  · have hj2 : j = ps.length := by simp at hj; omega
    subst hj2
    rw [List.getElem_append_right (Nat.le_refl _)]
    simp only [Nat.sub_self, List.getElem_cons_zero]
    exact ⟨hc, blk, off, hA, Nat.lt_of_lt_of_le hblk hg.size, key' blk hblk hne, fun k hk => (World.cell?_of_block (a := ⟨blk, off + k, none⟩) (hg.block blk hblk hne)).trans (hcell k hk)⟩
end

theorem cell_last (W : World) (o : Obj) (v : Value) (e : TypeId) : ∀ j u, [v][j]? = some u → ((W.alloc o).alloc (.cells #[v] e)).cell? ((⟨W.heap.size + 1, 0, none⟩ : Addr).add j) = some u := by
  intro j u hu
  have hj : j = 0 := by
    rcases j with _ | j
    · rfl
    · simp at hu
  subst hj
  simp at hu
  subst hu
  rw [Addr.add_mid, Nat.add_zero, cell_of_row _ _ 0 _ _ _ (heap_alloc_new' (W.alloc o) (.cells #[v] e) (W.heap.size + 1) (by simp))]
  rfl

theorem late_cells {W w3 : World} {o o2 : Obj} {g n b1 o1 b4 o4 : Nat} {r z0 z1 z2 z3 y0 y1 y2 y3 : Value} (h1 : b1 ≠ g) (h4 : b4 ≠ g) (l1 : b1 < W.heap.size) (l4 : b4 < W.heap.size) (hg : ((W.drew.alloc o).alloc o2).grownBy w3 (some g)) (hk : ∀ k, k < n → w3.cell? ⟨g, k, none⟩ = ((W.drew.alloc o).alloc o2).cell? ⟨g, k, none⟩) (hn : n - 4 < n)
    (c : W.cell? ⟨g, n - 4, none⟩ = some r) (u0 : W.cell? ⟨b4, o4, none⟩ = some z0) (u1 : W.cell? ⟨b4, o4 + 1, none⟩ = some z1) (u2 : W.cell? ⟨b4, o4 + 2, none⟩ = some z2) (u3 : W.cell? ⟨b4, o4 + 3, none⟩ = some z3)
    (t0 : W.cell? ⟨b1, o1, none⟩ = some y0) (t1 : W.cell? ⟨b1, o1 + 1, none⟩ = some y1) (t2 : W.cell? ⟨b1, o1 + 2, none⟩ = some y2) (t3 : W.cell? ⟨b1, o1 + 3, none⟩ = some y3) :
    w3.cell? ⟨g, n - 4, none⟩ = some r ∧ w3.cell? ⟨b4, o4, none⟩ = some z0 ∧ w3.cell? ⟨b4, o4 + 1, none⟩ = some z1 ∧ w3.cell? ⟨b4, o4 + 2, none⟩ = some z2 ∧ w3.cell? ⟨b4, o4 + 3, none⟩ = some z3 ∧
      w3.cell? ⟨b1, o1, none⟩ = some y0 ∧ w3.cell? ⟨b1, o1 + 1, none⟩ = some y1 ∧ w3.cell? ⟨b1, o1 + 2, none⟩ = some y2 ∧ w3.cell? ⟨b1, o1 + 3, none⟩ = some y3 := by
  have hb : Below W.heap.size W ((W.drew.alloc o).alloc o2) := (((Below.refl _ _).drew).alloc (Nat.le_refl _) _).alloc (by simp) _
  have far : ∀ b off v, b ≠ g → b < W.heap.size → W.cell? ⟨b, off, none⟩ = some v → w3.cell? ⟨b, off, none⟩ = some v := fun b off v hbg hlt hv =>
    (World.cell?_of_block (a := ⟨b, off, none⟩) (hg.block b (by simp; omega) (fun e => hbg (by injection e)))).trans ((hb.cell (p := ⟨b, off, none⟩) hlt).trans hv)
  exact ⟨(hk _ hn).trans ((hb.cell (p := ⟨g, n - 4, none⟩) (World.block_lt_of_cell? W _ c)).trans c), far _ _ _ h4 l4 u0, far _ _ _ h4 l4 u1, far _ _ _ h4 l4 u2, far _ _ _ h4 l4 u3, far _ _ _ h1 l1 t0, far _ _ _ h1 l1 t1, far _ _ _ h1 l1 t2, far _ _ _ h1 l1 t3⟩

/-- A word made of four bytes is put behind. -/
theorem keys_more {w W w3 : World} {key : List Nat} {g n c p0 p1 p2 p3 : Nat} {ps : List Part} {v3 : Value} {t1 t2 : TypeId} (hk : Keys w.heap.size W key (.slice (some ⟨g, 0, none⟩) n c) ps) (hb : Below w.heap.size w W) (hn : n = ps.length)
    (hkb : kb key (4 * n) = p0 ∧ kb key (4 * n + 1) = p1 ∧ kb key (4 * n + 2) = p2 ∧ kb key (4 * n + 3) = p3)
    (ho : w3.ownsRow w.heap.size 24 1 v3 (n + 1) ((ps.map fun p => Value.slice p.A 4 p.c) ++ [Value.slice (some ⟨W.heap.size, 0, none⟩) 4 4]))
    (hg : ((W.drew.alloc (.cells #[.int .u8 (p0 : Int), .int .u8 (p1 : Int), .int .u8 (p2 : Int), .int .u8 (p3 : Int)] t1)).alloc (.cells #[.slice (some ⟨W.heap.size, 0, none⟩) 4 4] t2)).grownBy w3 (Value.slice (some ⟨g, 0, none⟩) n c).ownBlock)
    (hv : v3.ownBlock = (Value.slice (some ⟨g, 0, none⟩) n c).ownBlock ∨ v3.ownBlock = some ((W.drew.alloc (.cells #[.int .u8 (p0 : Int), .int .u8 (p1 : Int), .int .u8 (p2 : Int), .int .u8 (p3 : Int)] t1)).alloc (.cells #[.slice (some ⟨W.heap.size, 0, none⟩) 4 4] t2)).heap.size) :
    Keys w.heap.size w3 key v3 (ps ++ [⟨some ⟨W.heap.size, 0, none⟩, 4, kw key n⟩]) ∧ Below w.heap.size w w3 := by
  have hba : Below W.heap.size W ((W.drew.alloc (.cells #[.int .u8 (p0 : Int), .int .u8 (p1 : Int), .int .u8 (p2 : Int), .int .u8 (p3 : Int)] t1)).alloc (.cells #[.slice (some ⟨W.heap.size, 0, none⟩) 4 4] t2)) := (((Below.refl _ _).drew).alloc (Nat.le_refl _) _).alloc (by simp) _
  have hlt : ∀ q, (Value.slice (some ⟨g, 0, none⟩) n c).ownBlock = some q → w.heap.size ≤ q ∧ q < W.heap.size := fun q hq => hk.own.lt q hq
  refine ⟨(hk.to hba).add _ (Nat.le_refl _) rfl (by simp; omega) (fun e => by have := (hlt _ e.symm).2; omega) (fun k hk4 => ?_) (by rw [← hn]; exact ho) hg hv, (hb.trans (hba.mono hb.size)).grown hg (by have := hb.size; simp; omega) fun q hq => (hlt q hq).1⟩
  rw [← hn, Nat.zero_add]
  have hcell : ((W.drew.alloc (.cells #[.int .u8 (p0 : Int), .int .u8 (p1 : Int), .int .u8 (p2 : Int), .int .u8 (p3 : Int)] t1)).alloc (.cells #[.slice (some ⟨W.heap.size, 0, none⟩) 4 4] t2)).heap[W.heap.size]? = some (.cells #[.int .u8 (p0 : Int), .int .u8 (p1 : Int), .int .u8 (p2 : Int), .int .u8 (p3 : Int)] t1 (0, 0)) := heap_alloc2_old W.drew _ _
  rw [cell_of_row _ _ k _ _ _ hcell]
  have : k = 0 ∨ k = 1 ∨ k = 2 ∨ k = 3 := by omega
  rcases this with rfl | rfl | rfl | rfl
  · rw [Nat.add_zero, hkb.1]; rfl
  · rw [hkb.2.1]; rfl
  · rw [hkb.2.2.1]; rfl
  · rw [hkb.2.2.2]; rfl

set_option maxHeartbeats 3200000 in
set_option maxRecDepth 100000 in
/-- 'keys'. -/
theorem refKeys_any (A0 A1 : Option Addr) (c0 c1 : Nat) (key : List Nat) (w : World) (h0 : Ints w w.heap.size .u8 A0 (up key)) (h1 : Ints w w.heap.size .u8 A1 (up sbox)) (hk : ∀ x ∈ key, x < 256) (hl : key.length = 16) (hc0 : 16 ≤ c0) :
    Calls Tryd.prog 63 #[.slice A0 16 c0, .slice A1 256 c1] w fun e w' => ∃ v ps, e = .returned v ∧ ps.length = 44 ∧ Keys w.heap.size w' key v ps ∧ Below w.heap.size w w' := by
  obtain ⟨i0, hi, hz0, hz1, hz2⟩ := info_parts Tryd.infoSla
  obtain ⟨bk, ok, ek, hbk, hck⟩ := h0.at_ (by rw [up_len, hl]; decide)
  subst ek
  obtain ⟨bs, os, es, hbs, hcs⟩ := h1.at_ (by rw [up_len, sbox_len]; decide)
  subst es
  have HK := Lib.hid hk
  have H0 := Lib.hid h0
  have HCS : Hid (∀ (W : World) (j : Nat), Below w.heap.size w W → j < 256 → W.cell? ⟨bs, os + j, none⟩ = some (.int .u8 (sbox.getD j 0 : Nat))) := fun W j hb hj => by
    rw [hb.cell (p := ⟨bs, os + j, none⟩) hbs, hcs j (by rw [up_len, sbox_len]; exact hj), up_getD]
  have HLN := Lib.hid hl
  obtain ⟨sb, hsb⟩ : ∃ sb, sb = sbox := ⟨_, rfl⟩
  have HSL : Hid (∀ j, sb.getD j 0 < 256) := fun j => by rw [hsb]; exact sbox_lt j
  have HK4 := Lib.hid (fun i h4 hi hm => kw_four key (i := i) h4 hi hm)
  rw [← hsb] at HCS HK4
  clear hk hck hcs h0 h1 hsb hl
  go_enter Tryd.func63, Tryd.ntmps63
  go_wp2
  go_loopw [5, 6, 7] (fun v x i wr => ∃ (ps : List Part), ps.length ≤ 44 ∧ i = .int .i64 ps.length ∧ x = .int .u8 (xpow ((ps.length - 1) / 4) : Nat) ∧ (∃ A c, v = .slice A ps.length c) ∧ Keys w.heap.size wr key v ps ∧ Below w.heap.size w wr) (fun _ _ i _ => 44 - (intOf i).toNat)
  case atStart => exact ⟨[], by simp, rfl, rfl, ⟨_, _, rfl⟩, ⟨World.ownsRow_made w #[] 0 (Nat.le_refl _) (Nat.zero_le _) rfl, fun j h => absurd h (by simp)⟩, (Below.refl _ _).alloc (Nat.le_refl _) _⟩
  case round =>
    obtain ⟨ps, hp44, rfl, rfl, ⟨A, c, rfl⟩, hkeys, hbel⟩ := hrel
    have hsz := hbel.size
    obtain ⟨n, hn⟩ : ∃ n, n = ps.length := ⟨_, rfl⟩
    by_cases h4 : ps.length < 4
    · have hown := hkeys.own
      have hkf := kw_first key h4
      rw [← hn] at hown hp44 h4 hkf hkeys ⊢
      have HKE := Lib.hid hkeys
      have HNN := Lib.hid hn
      have n0 : (4 * (n : Int)).toNat = 4 * n := by omega
      have n1 : (4 * (n : Int) + 4).toNat = 4 * n + 4 := by omega
      have z0 : (0 : Int) ≤ 4 * (n : Int) := by omega
      have y0 : 4 * (n : Int) ≤ 4 * (n : Int) + 4 := by omega
      have y1 : 4 * (n : Int) + 4 ≤ (c0 : Int) := by omega
      have v1 : IntKind.i64.wrap (4 * (n : Int)) = 4 * (n : Int) := IntWalk.i64_in _ (by omega)
      have v2 : IntKind.i64.wrap (4 * (n : Int) + 4) = 4 * (n : Int) + 4 := IntWalk.i64_in _ (by omega)
      have hn4 : (n : Int) < 4 := by omega
      have hne : ¬ c0 = 4 * n := by omega
      have hxp : xpow ((n - 1) / 4) = 1 := by rw [show (n - 1) / 4 = 0 by omega]; rfl
      have hxp2 : xpow ((n + 1 - 1) / 4) = 1 := by rw [show (n + 1 - 1) / 4 = 0 by omega]; rfl
      rw [hxp]
      clear hkeys hn hkf hxp
      go_wp2_with (at_builtin; refine wpList_append_own_at _ rfl (.tmp 16) (.tmp 24) 63 rfl w.heap.size 24 i0 (.slice none 0 0) 1 24 Tryd.underlying63 hi hz0 hz1 hz2 rfl (by decide) _ _ _ rfl (hown.alloc _) ⟨wr.heap.size, 0, none⟩ 1 1 [_] rfl rfl (cell_one_new _ _ _) ?d1 ?d2 ?d3 ?d4 ?_)
      case d1 => intro u hu; simp at hu; subst hu; rfl
      case d2 => unfold maxLen; omega
      case d3 => omega
      case d4 => simp; omega
      intro v3 w3 hown3 hg3 _ hv3
      have hba : Below wr.heap.size wr (wr.alloc (.cells #[.slice (some ⟨bk, ok + 4 * n, none⟩) 4 (c0 - 4 * n)] 24)) := (Below.refl _ _).alloc (Nat.le_refl _) _
      have R : Keys w.heap.size w3 key v3 (ps ++ [⟨some ⟨bk, ok + 4 * n, none⟩, c0 - 4 * n, kw key n⟩]) ∧ Below w.heap.size w w3 := by
        refine ⟨?_, (hbel.trans (hba.mono hsz)).grown hg3 (by simp; omega) fun q hq => (hown.lt q hq).1⟩
        refine (HKE.out.to hba).add _ (by simp only []; omega) rfl (by simp; omega) (own_ne hown hbk) (fun k hk => ?_) (by rw [← HNN.out]; exact hown3) hg3 (by simpa using hv3)
        have hc1' : wr.cell? ⟨bk, ok + 4 * n + k, none⟩ = some (.int .u8 ((up key).getD (4 * n + k) 0)) := by
          have h := (H0.out.below hbel).cell (i := 4 * n + k) (by rw [up_len, HLN.out]; omega)
          rw [← Nat.add_assoc] at h
          exact h
        have hcx := (hba.cell (p := ⟨bk, ok + 4 * n + k, none⟩) (by simp only []; omega)).trans hc1'
        rw [hcx, up_getD, ← HNN.out, kb_at key (by omega), if_pos (by omega)]
      have hlen : (ps ++ [(⟨some ⟨bk, ok + 4 * n, none⟩, c0 - 4 * n, kw key n⟩ : Part)]).length = n + 1 := by simp [HNN.out]
      obtain ⟨A3, q3, hv4⟩ := own_slice hown3
      subst hv4
      have HL3 := Lib.hid hlen
      clear hown3 hg3 hown hbel hv3 hba hlen
      go_wp2
      go_roundw
      case rel => first | exact ⟨ps ++ [⟨some ⟨bk, ok + 4 * n, none⟩, c0 - 4 * n, kw key n⟩], by rw [HL3.out]; omega, by rw [HL3.out]; go_num, by rw [HL3.out, hxp2]; rfl, ⟨A3, q3, by rw [HL3.out]⟩, R.1, R.2⟩ | ((repeat apply Exists.intro); exact ⟨⟨ps ++ [⟨some ⟨bk, ok + 4 * n, none⟩, c0 - 4 * n, kw key n⟩], by rw [HL3.out]; omega, by rw [HL3.out]; go_num, by rw [HL3.out, hxp2]; rfl, ⟨A3, q3, by rw [HL3.out]⟩, R.1, R.2⟩, rfl⟩)
      case measure => simp [intOf]; omega
    · have hown := hkeys.own
      obtain ⟨g, rfl, hrow⟩ := hkeys.row (by omega)
      have r1 := hrow (ps.length - 1) (by omega)
      have r4 := hrow (ps.length - 4) (by omega)
      obtain ⟨b1, o1, B1, e1, t0, t1, t2, t3⟩ := hkeys.cells (j := ps.length - 1) (by omega)
      obtain ⟨b4, o4, B4, e4, u0, u1, u2, u3⟩ := hkeys.cells (j := ps.length - 4) (by omega)
      rw [e1] at r1
      rw [e4] at r4
      replace B1 : b1 ≠ g ∧ b1 < wr.heap.size := ⟨fun e => B1.1 (by rw [e]; rfl), B1.2⟩
      replace B4 : b4 ≠ g ∧ b4 < wr.heap.size := ⟨fun e => B4.1 (by rw [e]; rfl), B4.2⟩
      obtain ⟨q1, hq1⟩ : ∃ q, q = ps[ps.length - 1].c := ⟨_, rfl⟩
      obtain ⟨q4, hq4⟩ : ∃ q, q = ps[ps.length - 4].c := ⟨_, rfl⟩
      rw [← hq1] at r1
      rw [← hq4] at r4
      have hkl := fun j => kb_lt HK.out j
      rw [← hn] at hown hp44 h4 hkeys r1 r4 t0 t1 t2 t3 u0 u1 u2 u3 ⊢
      have HNN := Lib.hid hn
      clear hn hq1 hq4 e1 e4 hrow
      obtain ⟨y0, e0⟩ : ∃ y, y = kb key (4 * (n - 1)) := ⟨_, rfl⟩
      obtain ⟨y1, e1⟩ : ∃ y, y = kb key (4 * (n - 1) + 1) := ⟨_, rfl⟩
      obtain ⟨y2, e2⟩ : ∃ y, y = kb key (4 * (n - 1) + 2) := ⟨_, rfl⟩
      obtain ⟨y3, e3⟩ : ∃ y, y = kb key (4 * (n - 1) + 3) := ⟨_, rfl⟩
      obtain ⟨z0, f0⟩ : ∃ y, y = kb key (4 * (n - 4)) := ⟨_, rfl⟩
      obtain ⟨z1, f1⟩ : ∃ y, y = kb key (4 * (n - 4) + 1) := ⟨_, rfl⟩
      obtain ⟨z2, f2⟩ : ∃ y, y = kb key (4 * (n - 4) + 2) := ⟨_, rfl⟩
      obtain ⟨z3, f3⟩ : ∃ y, y = kb key (4 * (n - 4) + 3) := ⟨_, rfl⟩
      have ly0 := hkl (4 * (n - 1))
      have ly1 := hkl (4 * (n - 1) + 1)
      have ly2 := hkl (4 * (n - 1) + 2)
      have ly3 := hkl (4 * (n - 1) + 3)
      have lz0 := hkl (4 * (n - 4))
      have lz1 := hkl (4 * (n - 4) + 1)
      have lz2 := hkl (4 * (n - 4) + 2)
      have lz3 := hkl (4 * (n - 4) + 3)
      rw [← e0] at t0 ly0
      rw [← e1] at t1 ly1
      rw [← e2] at t2 ly2
      rw [← e3] at t3 ly3
      rw [← f0] at u0 lz0
      rw [← f1] at u1 lz1
      rw [← f2] at u2 lz2
      rw [← f3] at u3 lz3
      have n1 : ((n : Int) - 1).toNat = n - 1 := by omega
      have n4 : ((n : Int) - 4).toNat = n - 4 := by omega
      have s1 : (0 : Int) ≤ (n : Int) - 1 := by omega
      have s4 : (0 : Int) ≤ (n : Int) - 4 := by omega
      have g1 : (1 : Int) ≤ (n : Int) := by omega
      have g4 : (4 : Int) ≤ (n : Int) := by omega
      have y1' : (n : Int) - 1 < (n : Int) := by omega
      have y4' : (n : Int) - 4 < (n : Int) := by omega
      have v1 : IntKind.i64.wrap ((n : Int) - 1) = (n : Int) - 1 := IntWalk.i64_in _ (by omega)
      have v4 : IntKind.i64.wrap ((n : Int) - 4) = (n : Int) - 4 := IntWalk.i64_in _ (by omega)
      have hnlt : ¬ ((n : Int) < 4) := by omega
      have h44 : (n : Int) < 44 ∨ n = 44 := by omega
      rcases h44 with h44 | h44
      · by_cases hm : n % 4 = 0
        · have hkw := HK4.out n (by omega) (by omega) hm
          unfold kw at hkw
          rw [← e0, ← e1, ← e2, ← e3, ← f0, ← f1, ← f2, ← f3] at hkw
          simp only [List.cons.injEq, and_true] at hkw
          have hxl := xpow_lt ((n - 1) / 4)
          have hXP : xpow ((n + 1 - 1) / 4) = timesN (xpow ((n - 1) / 4)) 2 := by
            rw [show (n + 1 - 1) / 4 = (n - 1) / 4 + 1 by omega]; rfl
          obtain ⟨xp, hxp⟩ : ∃ x, x = xpow ((n - 1) / 4) := ⟨_, rfl⟩
          rw [← hxp] at hkw hxl hXP ⊢
          have HTI := Lib.hid (fun W => refTimes_any xp 2 W hxl (by decide))
          obtain ⟨xq, hxq⟩ : ∃ x, x = timesN xp 2 := ⟨_, rfl⟩
          rw [← hxq] at hXP HTI
          have HXP := Lib.hid hXP
          have a0 := HCS.out wr y1 hbel ly1
          have a1 := HCS.out wr y2 hbel ly2
          have a2 := HCS.out wr y3 hbel ly3
          have a3 := HCS.out wr y0 hbel ly0
          have la0 := HSL.out y1
          have la1 := HSL.out y2
          have la2 := HSL.out y3
          have la3 := HSL.out y0
          obtain ⟨sA, hsA⟩ : ∃ s, s = sb.getD y1 0 := ⟨_, rfl⟩
          obtain ⟨s1x, hs1⟩ : ∃ s, s = sb.getD y2 0 := ⟨_, rfl⟩
          obtain ⟨s2, hs2⟩ : ∃ s, s = sb.getD y3 0 := ⟨_, rfl⟩
          obtain ⟨s3, hs3⟩ : ∃ s, s = sb.getD y0 0 := ⟨_, rfl⟩
          rw [← hsA] at a0 la0 hkw
          rw [← hs1] at a1 la1 hkw
          rw [← hs2] at a2 la2 hkw
          rw [← hs3] at a3 la3 hkw
          have xa := b8_x sA xp la0 hxl
          have ls0 := xor_lt8 la0 hxl
          obtain ⟨s0, hs0⟩ : ∃ s, s = sA ^^^ xp := ⟨_, rfl⟩
          rw [← hs0] at xa ls0 hkw
          have x0 := b8_x z0 s0 lz0 ls0
          have x1 := b8_x z1 s1x lz1 la1
          have x2 := b8_x z2 s2 lz2 la2
          have x3 := b8_x z3 s3 lz3 la3
          obtain ⟨p0, i0'⟩ : ∃ p, p = z0 ^^^ s0 := ⟨_, rfl⟩
          obtain ⟨p1, i1'⟩ : ∃ p, p = z1 ^^^ s1x := ⟨_, rfl⟩
          obtain ⟨p2, i2'⟩ : ∃ p, p = z2 ^^^ s2 := ⟨_, rfl⟩
          obtain ⟨p3, i3'⟩ : ∃ p, p = z3 ^^^ s3 := ⟨_, rfl⟩
          rw [← i0'] at hkw x0
          rw [← i1'] at hkw x1
          rw [← i2'] at hkw x2
          rw [← i3'] at hkw x3
          have HKB := Lib.hid hkw
          have hmt : (n : Int).tmod 4 = 0 := by rw [Int.tmod_eq_emod_of_nonneg (by omega)]; omega
          have hme : (n : Int) % 4 = 0 := by omega
          have my0 : (y0 : Int) < 256 := by omega
          have my1 : (y1 : Int) < 256 := by omega
          have my2 : (y2 : Int) < 256 := by omega
          have my3 : (y3 : Int) < 256 := by omega
          have hba : Below wr.heap.size wr ((wr.alloc (.cells #[.int .u8 (s0 : Int), .int .u8 (s1x : Int), .int .u8 (s2 : Int), .int .u8 (s3 : Int)] 5)).drew) := ((Below.refl _ _).alloc (Nat.le_refl _) _).drew
          have HKX := Lib.hid (hkeys.to hba)
          have HBX := Lib.hid (hbel.trans (hba.mono hsz))
          have hcn : ((wr.alloc (.cells #[.int .u8 (s0 : Int), .int .u8 (s1x : Int), .int .u8 (s2 : Int), .int .u8 (s3 : Int)] 5)).drew).heap[wr.heap.size]? = some (.cells #[.int .u8 (s0 : Int), .int .u8 (s1x : Int), .int .u8 (s2 : Int), .int .u8 (s3 : Int)] 5 (0, 0)) := heap_alloc_new wr _
          have HCN := Lib.hid hcn
          have HBA := Lib.hid hba
          have HB4 := Lib.hid B4
          have HGL : Hid (g < wr.heap.size) := World.block_lt_of_cell? wr _ r4
          have HSZ := Lib.hid hsz
          clear hxp hxq hsA hs1 hs2 hs3 hs0 e0 e1 e2 e3 f0 f1 f2 f3 i0' i1' i2' i3' hkw hkl hown hkeys hbel ly0 ly1 ly2 ly3 lz0 lz1 lz2 lz3 hsz la0 la1 la2 la3 ls0 hxl hXP hba hcn B1 B4
          go_wp2
          go_region_held3 (fun w' => w'.cell? ⟨b1, o1, none⟩ = some (.int .u8 (y0 : Nat)) ∧ w'.cell? ⟨b1, o1 + 1, none⟩ = some (.int .u8 (y1 : Nat)) ∧ w'.cell? ⟨b1, o1 + 2, none⟩ = some (.int .u8 (y2 : Nat)) ∧ w'.cell? ⟨b1, o1 + 3, none⟩ = some (.int .u8 (y3 : Nat)) ∧
              w'.cell? ⟨bs, os + y1, none⟩ = some (.int .u8 (sA : Nat)) ∧ w'.cell? ⟨bs, os + y2, none⟩ = some (.int .u8 (s1x : Nat)) ∧ w'.cell? ⟨bs, os + y3, none⟩ = some (.int .u8 (s2 : Nat)) ∧ w'.cell? ⟨bs, os + y0, none⟩ = some (.int .u8 (s3 : Nat)))
            (first
              | exact ⟨t0, t1, t2, t3, a0, a1, a2, a3⟩
              | go_keep)
            (first
              | fail)
          go_wp2_with (go_at_call 64; with_reducible (refine Calls.mono (HTI.out _) ?_); rintro e w' ⟨rfl, rfl⟩)
          obtain ⟨W, hW⟩ : ∃ W, W = (wr.alloc (.cells #[.int .u8 (s0 : Int), .int .u8 (s1x : Int), .int .u8 (s2 : Int), .int .u8 (s3 : Int)] 5)).drew := ⟨_, rfl⟩
          rw [← hW]
          obtain ⟨bn, hbn⟩ : ∃ b, b = wr.heap.size := ⟨_, rfl⟩
          rw [← hbn]
          have HKW : Hid (Keys w.heap.size W key (.slice (some ⟨g, 0, none⟩) n c) ps) := by unfold Hid; rw [hW]; exact HKX.out
          have HBW : Hid (Below w.heap.size w W) := by unfold Hid; rw [hW]; exact HBX.out
          have far : ∀ b off v, b < wr.heap.size → wr.cell? ⟨b, off, none⟩ = some v → W.cell? ⟨b, off, none⟩ = some v := fun b off v hlt hv => by rw [hW]; exact (HBA.out.cell (p := ⟨b, off, none⟩) hlt).trans hv
          replace r4 := far _ _ _ HGL.out r4
          replace u0 := far _ _ _ HB4.out.2 u0
          replace u1 := far _ _ _ HB4.out.2 u1
          replace u2 := far _ _ _ HB4.out.2 u2
          replace u3 := far _ _ _ HB4.out.2 u3
          have hcW : W.heap[bn]? = some (.cells #[.int .u8 (s0 : Int), .int .u8 (s1x : Int), .int .u8 (s2 : Int), .int .u8 (s3 : Int)] 5 (0, 0)) := by rw [hW, hbn]; exact HCN.out
          have c0' : W.cell? ⟨bn, 0, none⟩ = some (.int .u8 (s0 : Nat)) := by rw [cell_of_row _ _ 0 _ _ _ hcW]; rfl
          have c1' : W.cell? ⟨bn, 1, none⟩ = some (.int .u8 (s1x : Nat)) := by rw [cell_of_row _ _ 1 _ _ _ hcW]; rfl
          have c2' : W.cell? ⟨bn, 2, none⟩ = some (.int .u8 (s2 : Nat)) := by rw [cell_of_row _ _ 2 _ _ _ hcW]; rfl
          have c3' : W.cell? ⟨bn, 3, none⟩ = some (.int .u8 (s3 : Nat)) := by rw [cell_of_row _ _ 3 _ _ _ hcW]; rfl
          have hWs : W.heap.size = wr.heap.size + 1 := by rw [hW]; simp
          have B1 : bn ≠ g ∧ bn < W.heap.size := ⟨by have := HGL.out; omega, by omega⟩
          have B4 : b4 ≠ g ∧ b4 < W.heap.size := ⟨HB4.out.1, by have := HB4.out.2; omega⟩
          clear hW hbn far hcW hWs t0 t1 t2 t3 a0 a1 a2 a3 r1
          have hownW := HKW.out.own
          have hszW := HBW.out.size
          rw [← HNN.out] at hownW
          have hgb : bn ≠ g ∧ b4 ≠ g ∧ bn < W.heap.size ∧ b4 < W.heap.size := ⟨B1.1, B4.1, B1.2, B4.2⟩
          have HGB := Lib.hid hgb
          clear hgb B1 B4
          go_region_held3 (fun w' => w'.cell? ⟨g, n - 4, none⟩ = some (.slice (some ⟨b4, o4, none⟩) 4 q4) ∧ w'.cell? ⟨b4, o4, none⟩ = some (.int .u8 (z0 : Nat)) ∧ w'.cell? ⟨b4, o4 + 1, none⟩ = some (.int .u8 (z1 : Nat)) ∧ w'.cell? ⟨b4, o4 + 2, none⟩ = some (.int .u8 (z2 : Nat)) ∧ w'.cell? ⟨b4, o4 + 3, none⟩ = some (.int .u8 (z3 : Nat)) ∧
              w'.cell? ⟨bn, 0, none⟩ = some (.int .u8 (s0 : Nat)) ∧ w'.cell? ⟨bn, 1, none⟩ = some (.int .u8 (s1x : Nat)) ∧ w'.cell? ⟨bn, 2, none⟩ = some (.int .u8 (s2 : Nat)) ∧ w'.cell? ⟨bn, 3, none⟩ = some (.int .u8 (s3 : Nat)))
            (first
              | exact HLATE.out
              | exact ⟨r4, u0, u1, u2, u3, c0', c1', c2', c3'⟩
              | go_keep)
            (first
              | (refine step_append_kept _ (by rfl) _ _ 63 (by rfl) w.heap.size 24 i0 (.slice none 0 0) 24 Tryd.underlying63 hi hz0 hz1 hz2 rfl g n c _ (by rfl) (((show W.drew.ownsRow _ _ _ _ _ _ from hownW).alloc _).alloc _) ⟨W.heap.size + 1, 0, none⟩ 1 1 [.slice (some ⟨W.heap.size, 0, none⟩) 4 4] (by rfl) (by rfl) (cell_last W.drew _ _ _) (by intro u hu; simp at hu; subst hu; rfl) (by omega) (by unfold maxLen; omega) (by omega) (by simp; omega) (W.heap.size + 1 + 1) (by simp) ?_; intro gg cap w3 hown3 hg3 hv3 hkept; have HLATE := Lib.hid (late_cells (o1 := 0) HGB.out.1 HGB.out.2.1 HGB.out.2.2.1 HGB.out.2.2.2 hg3 hkept (by omega) r4 u0 u1 u2 u3 c0' c1' c2' c3'); clear hkept))
          obtain ⟨R1, R2⟩ := keys_more (v3 := .slice (some ⟨gg, 0, none⟩) (n + 1) cap) HKW.out HBW.out HNN.out HKB.out hown3 hg3 (hv3.elim (fun e => Or.inl (by rw [e]; rfl)) (fun e => Or.inr (by rw [e]; simp [Value.ownBlock])))
          have hlen : (ps ++ [(⟨some ⟨W.heap.size, 0, none⟩, 4, kw key n⟩ : Part)]).length = n + 1 := by simp [HNN.out]
          have HL3 := Lib.hid hlen
          clear hown3 hg3 hownW hv3 hlen r4 c0' c1' c2' c3' u0 u1 u2 u3
          go_wp2
          go_roundw
          case rel => first | exact ⟨ps ++ [⟨some ⟨W.heap.size, 0, none⟩, 4, kw key n⟩], by rw [HL3.out]; omega, by rw [HL3.out]; go_num, by rw [HL3.out, HXP.out], ⟨_, cap, by rw [HL3.out]⟩, R1, R2⟩ | ((repeat apply Exists.intro); exact ⟨⟨ps ++ [⟨some ⟨W.heap.size, 0, none⟩, 4, kw key n⟩], by rw [HL3.out]; omega, by rw [HL3.out]; go_num, by rw [HL3.out, HXP.out], ⟨_, cap, by rw [HL3.out]⟩, R1, R2⟩, rfl⟩)
          case measure => simp [intOf]; omega
        · have hkw := kw_else key (i := n) (by omega) (by omega) hm
          unfold kw at hkw
          rw [← e0, ← e1, ← e2, ← e3, ← f0, ← f1, ← f2, ← f3] at hkw
          simp only [List.cons.injEq, and_true] at hkw
          have x0 := b8_x z0 y0 lz0 ly0
          have x1 := b8_x z1 y1 lz1 ly1
          have x2 := b8_x z2 y2 lz2 ly2
          have x3 := b8_x z3 y3 lz3 ly3
          obtain ⟨p0, i0'⟩ : ∃ p, p = z0 ^^^ y0 := ⟨_, rfl⟩
          obtain ⟨p1, i1'⟩ : ∃ p, p = z1 ^^^ y1 := ⟨_, rfl⟩
          obtain ⟨p2, i2'⟩ : ∃ p, p = z2 ^^^ y2 := ⟨_, rfl⟩
          obtain ⟨p3, i3'⟩ : ∃ p, p = z3 ^^^ y3 := ⟨_, rfl⟩
          rw [← i0'] at hkw x0
          rw [← i1'] at hkw x1
          rw [← i2'] at hkw x2
          rw [← i3'] at hkw x3
          have HKB := Lib.hid hkw
          have hmt : (n : Int).tmod 4 = ((n % 4 : Nat) : Int) := by rw [Int.tmod_eq_emod_of_nonneg (by omega)]; omega
          obtain ⟨r, hr⟩ : ∃ r, r = n % 4 := ⟨_, rfl⟩
          rw [← hr] at hmt hm
          have hme : (n : Int) % 4 = (r : Int) := by omega
          have hr0 : ¬ ((r : Int) = 0) := by omega
          have hrb : ((r : Int) == 0) = false := by simp; omega
          have hr4 : (r : Int) ≤ 3 := by omega
          have HXP : Hid (xpow ((n + 1 - 1) / 4) = xpow ((n - 1) / 4)) := by unfold Hid; rw [show (n + 1 - 1) / 4 = (n - 1) / 4 by omega]
          obtain ⟨xp, hxp⟩ : ∃ x, x = xpow ((n - 1) / 4) := ⟨_, rfl⟩
          rw [← hxp] at HXP ⊢
          obtain ⟨W, hW⟩ : ∃ W, W = wr := ⟨_, rfl⟩
          rw [← hW] at hkeys hbel B1 B4 r1 r4 t0 t1 t2 t3 u0 u1 u2 u3 ⊢
          have HKW := Lib.hid hkeys
          have HBW := Lib.hid hbel
          clear hW hxp hr e0 e1 e2 e3 f0 f1 f2 f3 i0' i1' i2' i3' hkw hkl hown hkeys hbel ly0 ly1 ly2 ly3 lz0 lz1 lz2 lz3 hsz
          go_wp2
          have hownW := HKW.out.own
          have hszW := HBW.out.size
          rw [← HNN.out] at hownW
          have hgb : b1 ≠ g ∧ b4 ≠ g ∧ b1 < W.heap.size ∧ b4 < W.heap.size := ⟨B1.1, B4.1, B1.2, B4.2⟩
          have HGB := Lib.hid hgb
          clear hgb B1 B4
          go_region_held3 (fun w' => w'.cell? ⟨g, n - 4, none⟩ = some (.slice (some ⟨b4, o4, none⟩) 4 q4) ∧ w'.cell? ⟨b4, o4, none⟩ = some (.int .u8 (z0 : Nat)) ∧ w'.cell? ⟨b4, o4 + 1, none⟩ = some (.int .u8 (z1 : Nat)) ∧ w'.cell? ⟨b4, o4 + 2, none⟩ = some (.int .u8 (z2 : Nat)) ∧ w'.cell? ⟨b4, o4 + 3, none⟩ = some (.int .u8 (z3 : Nat)) ∧
              w'.cell? ⟨b1, o1, none⟩ = some (.int .u8 (y0 : Nat)) ∧ w'.cell? ⟨b1, o1 + 1, none⟩ = some (.int .u8 (y1 : Nat)) ∧ w'.cell? ⟨b1, o1 + 2, none⟩ = some (.int .u8 (y2 : Nat)) ∧ w'.cell? ⟨b1, o1 + 3, none⟩ = some (.int .u8 (y3 : Nat)))
            (first
              | exact HLATE.out
              | exact ⟨r4, u0, u1, u2, u3, t0, t1, t2, t3⟩
              | go_keep)
            (first
              | (refine step_append_kept _ (by rfl) _ _ 63 (by rfl) w.heap.size 24 i0 (.slice none 0 0) 24 Tryd.underlying63 hi hz0 hz1 hz2 rfl g n c _ (by rfl) (((show W.drew.ownsRow _ _ _ _ _ _ from hownW).alloc _).alloc _) ⟨W.heap.size + 1, 0, none⟩ 1 1 [.slice (some ⟨W.heap.size, 0, none⟩) 4 4] (by rfl) (by rfl) (cell_last W.drew _ _ _) (by intro u hu; simp at hu; subst hu; rfl) (by omega) (by unfold maxLen; omega) (by omega) (by simp; omega) (W.heap.size + 1 + 1) (by simp) ?_; intro gg cap w3 hown3 hg3 hv3 hkept; have HLATE := Lib.hid (late_cells HGB.out.1 HGB.out.2.1 HGB.out.2.2.1 HGB.out.2.2.2 hg3 hkept (by omega) r4 u0 u1 u2 u3 t0 t1 t2 t3); clear hkept))
          obtain ⟨R1, R2⟩ := keys_more (v3 := .slice (some ⟨gg, 0, none⟩) (n + 1) cap) HKW.out HBW.out HNN.out HKB.out hown3 hg3 (hv3.elim (fun e => Or.inl (by rw [e]; rfl)) (fun e => Or.inr (by rw [e]; simp [Value.ownBlock])))
          have hlen : (ps ++ [(⟨some ⟨W.heap.size, 0, none⟩, 4, kw key n⟩ : Part)]).length = n + 1 := by simp [HNN.out]
          have HL3 := Lib.hid hlen
          clear hown3 hg3 hownW hv3 hlen r1 r4 t0 t1 t2 t3 u0 u1 u2 u3
          go_wp2
          go_roundw
          case rel => first | exact ⟨ps ++ [⟨some ⟨W.heap.size, 0, none⟩, 4, kw key n⟩], by rw [HL3.out]; omega, by rw [HL3.out]; go_num, by rw [HL3.out, HXP.out], ⟨_, cap, by rw [HL3.out]⟩, R1, R2⟩ | ((repeat apply Exists.intro); exact ⟨⟨ps ++ [⟨some ⟨W.heap.size, 0, none⟩, 4, kw key n⟩], by rw [HL3.out]; omega, by rw [HL3.out]; go_num, by rw [HL3.out, HXP.out], ⟨_, cap, by rw [HL3.out]⟩, R1, R2⟩, rfl⟩)
          case measure => simp [intOf]; omega
      · subst h44
        have R := And.intro HNN.out.symm (And.intro hkeys hbel)
        have HRR := Lib.hid R
        clear R r1 r4 t0 t1 t2 t3 u0 u1 u2 u3 hkeys hbel hown
        go_wp2
        go_ret
        first | exact ⟨_, rfl, ps, HRR.out.1, HRR.out.2.1, HRR.out.2.2⟩ | exact ⟨_, ps, rfl, HRR.out.1, HRR.out.2.1, HRR.out.2.2⟩

end Go.Proofs.YtanpfodmmeagaaaDoor
