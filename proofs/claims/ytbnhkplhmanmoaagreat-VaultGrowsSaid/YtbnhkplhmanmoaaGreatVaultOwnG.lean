/-
  The law VaultOwn as a walk. The law VaultGrows as a walk.
-/
import Derived.Test.YtbnhkplhmanmoaaGreatVaultLawsG
import Derived.Test.YtbnhkplhmanmoaaGreatVaultHoldG
namespace Go.Proofs.YtbnhkplhmanmoaaGreat
open Go.RowKit

theorem Tryz.infoTenV : (Tryz.prog.info? 52).map (fun i => (i.zero, i.size, i.bytes)) = some (some (.agg #[.int .i64 0, .int .i64 0, .int .i64 0, .int .i64 0, .string ⟨#[]⟩, .bool false]), 6, 56) := by kernel_rfl
/-- What a new vault's Table answers lies in rows of its own, whole. -/
structure OwT (w W : World) (A1 : Option Addr) (c1 g c3 : Nat) : Prop where
  below : Below w.heap.size w W
  ten : W.ownsRow w.heap.size 52 6 (.slice A1 0 c1) 0 []
  slot : ∀ i, i < 10 → W.cell? ⟨g, i, none⟩ = some (.int .i64 0) ∧ W.frozen? ⟨g, i, none⟩ = false
  hg : w.heap.size ≤ g
  ne : ob A1 ≠ some g
section
variable {Rep : World → Nat → (Nat → Prop) → Dk → Prop}
set_option maxHeartbeats 1600000 in
theorem table_own {w : World} {p q : Nat} {F : Nat → Prop} {s : Dk} {d : Option Addr} {V : TabW} {v : Vt} (h : VtAt Rep w p q F s d V v) (hv : v.t = newR 10) :
    Calls Tryz.prog 15 #[.pointer (some ⟨q, 0, none⟩)] w fun e w' => ∃ A1 c1 A2 c2 g c3, e = .returned (.agg #[.slice A1 0 c1, .slice A2 0 c2, .slice (some ⟨g, 0, none⟩) 10 c3]) ∧ OwT w w' A1 c1 g c3 := by
  have hs : v.t.sound := by rw [hv]; exact new_sound (by decide) (by decide)
  have hb0 : Below w.heap.size w (w.alloc (.cells #[.slice none 0 0, .slice none 0 0, .slice none 0 0] 35)) := (Below.refl _ _).alloc (Nat.le_refl _) _
  have hg0 := heap_alloc_new w (.cells #[.slice none 0 0, .slice none 0 0, .slice none 0 0] 35)
  obtain ⟨W0, hW0⟩ : ∃ W, W = w.alloc (.cells #[.slice none 0 0, .slice none 0 0, .slice none 0 0] 35) := ⟨_, rfl⟩
  rw [← hW0] at hb0 hg0
  have HA : Hid (Calls Tryz.prog 24 #[.agg #[.slice V.A1 v.t.ts.length V.c1, .slice V.A2 v.t.vs.length V.c2, .slice V.A3 v.t.os.length V.c3], .slice none 0 0] W0 fun e w' => ∃ V' : TabW, e = .returned (.tuple #[.agg #[.slice V'.A1 v.t.ts.length V'.c1, .slice V'.A2 v.t.vs.length V'.c2, .slice V'.A3 v.t.os.length V'.c3], .int .i64 0]) ∧ RowsOwn W0.heap.size w' V' v.t ∧ Below W0.heap.size W0 w') := by
    have := apply_own V v.t none 0 [] W0 ((h.tab.below hb0).more hb0.size) (RecsAt.nil _ _ _) hs (by decide)
    exact this.mono fun e w' ⟨V', q1, _, _, q4, q5⟩ => ⟨V', q1, q5 rfl, q4⟩
  have hc := (hb0.block _ (Array.getElem?_eq_some_iff.1 h.cells).1).trans h.cells
  unfold vtC at hc
  obtain ⟨_, c1, c2, c3, _⟩ := cells7 hc
  have HG : Hid (∀ X, Below W0.heap.size W0 X → X.heap[w.heap.size]? = some (.cells #[.slice none 0 0, .slice none 0 0, .slice none 0 0] 35 (0, 0))) := fun X hb => (hb.block _ (Array.getElem?_eq_some_iff.1 hg0).1).trans hg0
  have HB0 := Lib.hid hb0
  have HW0 := Lib.hid hW0
  have hs0 : W0.heap.size = w.heap.size + 1 := by rw [hW0]; simp
  have HS0 := Lib.hid hs0
  have HV := Lib.hid hv
  rw [hW0] at c1 c2 c3
  clear hc hb0 hg0 h hs hs0 hW0 hv
  go_enter Tryz.func15, Tryz.ntmps15
  go_wp2_with (go_at_call 24; rw [← HW0.out]; with_reducible (refine Calls.mono HA.out ?_); rintro e w2 ⟨V2, rfl, hT, hb⟩
               have hba := (Below.refl w2.heap.size w2).alloc (Nat.le_refl _) (.cells #[.slice V2.A1 v.t.ts.length V2.c1, .slice V2.A2 v.t.vs.length V2.c2, .slice V2.A3 v.t.os.length V2.c3] 35)
               have hg := HG.out _ (chain hb hba)
               have HG2 := Lib.hid hg
               obtain ⟨z0, z1, z2⟩ := cells3 hg
               have z3 := frozen_of_row _ _ 0 _ _ hg
               have z4 := frozen_of_row _ _ 1 _ _ hg
               have z5 := frozen_of_row _ _ 2 _ _ hg
               have HB2 := Lib.hid (chain HB0.out (chain hb hba))
               have HT := Lib.hid (hT.below hba)
               clear hb hba hg hT c1 c2 c3)
  have hs := set3 (.slice V2.A1 v.t.ts.length V2.c1) (.slice V2.A2 v.t.vs.length V2.c2) (.slice V2.A3 v.t.os.length V2.c3) HG2.out
  refine bodyPost_ret (results_cell_row rfl _ _ w.heap.size 35 _ (0, 0) _ rfl hs.1 Tryz.underlying35 rfl (by kernel_rfl)) rfl ?_
  have hbel := grown_below HB2.out hs.2 HB2.out.size (Nat.le_refl _)
  have hlo : ∀ b, ob V2.A1 = some b ∨ ob V2.A2 = some b ∨ ob V2.A3 = some b → some w.heap.size ≠ some b := fun b hb e => by
    injection e with e
    have h2 := HS0.out
    rcases hb with hb | hb | hb
    · have := (row_lt HT.out.ts b hb).1; omega
    · have := (row_lt HT.out.vs b hb).1; omega
    · have := (row_lt HT.out.os b hb).1; omega
  have hr := (HT.out.grown hs.2 (fun b hb => hlo b (.inl hb)) (fun b hb => hlo b (.inr (.inl hb))) (fun b hb => hlo b (.inr (.inr hb)))).lower (lo' := w.heap.size) (by rw [HS0.out]; omega)
  obtain ⟨Y, hY⟩ : ∃ Y, Y = ((((w2.alloc (.cells #[.slice V2.A1 v.t.ts.length V2.c1, .slice V2.A2 v.t.vs.length V2.c2, .slice V2.A3 v.t.os.length V2.c3] 35)).setCell ⟨w.heap.size, 0, none⟩ (.slice V2.A1 v.t.ts.length V2.c1)).setCell ⟨w.heap.size, 1, none⟩ (.slice V2.A2 v.t.vs.length V2.c2)).setCell ⟨w.heap.size, 2, none⟩ (.slice V2.A3 v.t.os.length V2.c3)) := ⟨_, rfl⟩
  rw [← hY] at hr hbel ⊢
  clear hY hs
  have hv := HV.out
  rw [hv] at hr
  rw [hv]
  have hz : ∀ i, (hi : i < (newR 10).os.length) → (newR 10).os[i] = 0 := fun i hi => List.eq_of_mem_replicate (List.getElem_mem hi)
  obtain ⟨g, hA, hlt, _, _, _, hfr⟩ := own_at intC_len hr.os rfl (k := 0) (by decide)
  have hcell : ∀ i, i < 10 → Y.cell? ⟨g, i, none⟩ = some (.int .i64 0) := fun i hi => by
    have hi' : i < (newR 10).os.length := by simp [newR]; omega
    obtain ⟨g', hA', _, _, _, hc, _⟩ := own_at intC_len hr.os rfl (k := i) hi'
    rw [hA] at hA'
    injection hA' with hA'
    injection hA' with hg' _
    subst hg'
    have := hc 0 (.int .i64 0) (by rw [hz i hi']; rfl)
    rwa [Nat.mul_one, Nat.add_zero] at this
  refine ⟨V2.A1, V2.c1, V2.A2, V2.c2, g, V2.c3, ?_, hbel, hr.ts, fun i hi => ⟨hcell i hi, hfr i⟩, hlt, fun e => ?_⟩
  · rw [hA]; rfl
  · have := hr.a13 g e
    rw [hA] at this
    exact this rfl
end

theorem nw_at {W : World} {n : Nat} (C : Array Value) (T : TypeId) (h : W.heap.size = n) : (W.alloc (.cells C T)).heap[n]? = some (.cells C T (0, 0)) := h ▸ heap_alloc_new W (.cells C T)
/-- A slot is written. -/
theorem OwT.put {w W : World} {A1 : Option Addr} {c1 g c3 k : Nat} (h : OwT w W A1 c1 g c3) (hg : g < W.heap.size) (C : Array Value) (x : Value) : 
    Below w.heap.size w ((W.alloc (.cells C 35)).setCell ⟨g, k, none⟩ x) ∧ ((W.alloc (.cells C 35)).setCell ⟨g, k, none⟩ x).ownsRow w.heap.size 52 6 (.slice A1 0 c1) 0 [] ∧ ((W.alloc (.cells C 35)).setCell ⟨g, k, none⟩ x).heap[W.heap.size]? = some (.cells C 35 (0, 0)) := by
  have hba : Below W.heap.size W (W.alloc (.cells C 35)) := (Below.refl _ _).alloc (Nat.le_refl _) _
  refine ⟨(h.below.trans (hba.mono h.below.size)).setCell h.hg _, ?_, (setc_other _ _ _ _ _ (by omega)).trans (heap_alloc_new W _)⟩
  refine own_away (F := fun b => b = g) (own_keep h.ten hba) ((Away.refl (fun b => b = g) _).set (g := g) (show g = g from rfl) k x) fun q hq e => ?_
  have e : q = g := e
  subst e
  apply h.ne
  cases A1 with
  | none => cases hq
  | some a => exact hq
section
variable {Rep : World → Nat → (Nat → Prop) → Dk → Prop} (L : Lows Rep)
include L
set_option maxHeartbeats 3200000 in
set_option maxRecDepth 20000 in
/-- VaultOwn. -/
theorem vaultOwn_go (a0 a1 : Int) (w : World) (h0 : 0 ≤ a0 ∧ a0 ≤ 255) (h1 : 0 ≤ a1 ∧ a1 ≤ 255) : Calls Tryz.prog 5 #[.int .u8 a0, .int .u8 a1] w fun e w' => e = .returned (.bool true) ∧ Below w.heap.size w w' := by
  obtain ⟨i6, hi, hz0, hz1, hz2⟩ := info_parts Tryz.infoTenV
  have H1 := Lib.hid (own_disk L (Below.refl w.heap.size w) (N := 384) (by decide) (by decide))
  have H2 : Hid (∀ p W, OwnD Rep w W p (newD 384) → Calls Tryz.prog 8 #[.pointer (some ⟨p, 0, none⟩), .int .i64 10] W fun e w' => ∃ q, e = .returned (.tuple #[.pointer (some ⟨q, 0, none⟩), .int .i64 0]) ∧ OwnV Rep w w' p q (newD 384) (some ⟨p, 0, none⟩) ⟨newR 10, 1, 0, 192⟩) := fun p W h =>
    own_open L (n := 10) h rfl rfl (by simp [newD]) (by decide) (by decide) (new_holds (Nat.le_refl _))
  have HA := Lib.hid (vaultAwake L)
  have HO : Hid (∀ p q W X, OwnV Rep w W p q (newD 384) (some ⟨p, 0, none⟩) ⟨newR 10, 1, 0, 192⟩ → Below W.heap.size W X → Calls Tryz.prog 15 #[.pointer (some ⟨q, 0, none⟩)] X fun e w' => ∃ A1 c1 A2 c2 g c3, e = .returned (.agg #[.slice A1 0 c1, .slice A2 0 c2, .slice (some ⟨g, 0, none⟩) 10 c3]) ∧ OwT X w' A1 c1 g c3 ∧ g < w'.heap.size) := fun p q W X h hb => by
    obtain ⟨F, V, hv, _⟩ := (h.later L hb).vt
    refine (table_own hv rfl).mono fun e w' ⟨A1, c1, A2, c2, g, c3, q1, q2⟩ => ⟨A1, c1, A2, c2, g, c3, q1, q2, ?_⟩
    have hc := (q2.slot 0 (by decide)).1
    unfold World.cell? at hc
    rcases Nat.lt_or_ge g w'.heap.size with hlt | hge
    · exact hlt
    · simp [Array.getElem?_eq_none hge] at hc
  have hns := new_sound (n := 10) (by decide) (by decide)
  have HTB : Hid (∀ p q W X, OwnV Rep w W p q (newD 384) (some ⟨p, 0, none⟩) ⟨newR 10, 1, 0, 192⟩ → Below W.heap.size W X → Calls Tryz.prog 15 #[.pointer (some ⟨q, 0, none⟩)] X fun e w' => ∃ V' : TabW, e = .returned (.agg #[.slice V'.A1 0 V'.c1, .slice V'.A2 0 V'.c2, .slice V'.A3 10 V'.c3]) ∧ Ints w' w'.heap.size .i64 V'.A3 (List.replicate 10 0) ∧ Below X.heap.size X w') := fun p q W X h hb => by
    refine (own_table L (h.later L hb) hns).mono fun e w' ⟨V', q1, q2, _, q4⟩ => ⟨V', ?_, q2.os, q4⟩
    simp only [newR, List.length_nil, List.length_replicate] at q1
    exact q1
  have hmk : ∀ W : World, (Instr.makeSlice 31 (.int .i64 10) (.int .i64 10)).run Tryz.prog W = .ok (.slice (some ⟨W.heap.size, 0, none⟩) 10 10) (W.alloc (.cells (madeCells #[Value.int .i64 0] 10) 3)) := fun W => run_make_row' (P := Tryz.prog) 31 3 (.int .i64 0) 8 Tryz.underlying31 Tryz.infoI64v rfl .i64 .i64 10 (by omega) (by omega) W
  have hZl : (madeCells #[Value.int .i64 0] 10).toList = (List.replicate 10 (0 : Int)).map (Value.int .i64) := by rw [toList_madeCells_one, List.map_replicate]
  obtain ⟨Z, hZ⟩ : ∃ Z, Z = madeCells #[Value.int .i64 0] 10 := ⟨_, rfl⟩
  rw [← hZ] at hmk hZl
  have HIN : Hid (∀ W : World, Ints (W.alloc (.cells Z 3)) (W.alloc (.cells Z 3)).heap.size .i64 (some ⟨W.heap.size, 0, none⟩) (List.replicate 10 0)) := fun W => (Ints.new W 3 .i64 (List.replicate 10 0) Z hZl).more (by simp)
  have HSI : Hid (∀ (A0 A1 : Option Addr) (c0 c1 : Nat) (W : World), Ints W W.heap.size .i64 A0 (List.replicate 10 0) → Ints W W.heap.size .i64 A1 (List.replicate 10 0) → Calls Tryz.prog 17 #[.slice A0 10 c0, .slice A1 10 c1] W fun e w' => e = .returned (.bool true) ∧ Below W.heap.size W w') := fun A0 A1 c0 c1 W q1 q2 =>
    (sameInts_any A0 A1 c0 c1 (List.replicate 10 0) W q1 q2 (by rw [List.length_replicate]; omega)).mono fun e w' ⟨q1, m, q2⟩ => ⟨q1, by rw [q2]; exact below_drawn W m⟩
  obtain ⟨k, hk⟩ : ∃ k : Nat, a0 % 10 = (k : Int) := ⟨(a0 % 10).toNat, by omega⟩
  have hk10 : k < 10 := by omega
  have hkm : Int.tmod a0 10 = (k : Int) := by rw [Int.tmod_eq_emod_of_nonneg h0.1]; exact hk
  have k0 : (0 : Int) ≤ (k : Int) := by omega
  have k1 : (k : Int) < 10 := by omega
  have hf0 := fieldT0
  have hf2 := fieldT2
  have hnot : ∀ (x : Bool) (w : World), (Op.unary .not (.bool x)).run Tryz.prog w = .ok (.bool (!x)) w := fun _ _ => rfl
  have HLV : Hid (∀ p q W X, OwnV Rep w W p q (newD 384) (some ⟨p, 0, none⟩) ⟨newR 10, 1, 0, 192⟩ → Below W.heap.size W X → OwnV Rep w X p q (newD 384) (some ⟨p, 0, none⟩) ⟨newR 10, 1, 0, 192⟩) := fun p q W X h hb => h.later L hb
  have a10 := h1.1
  have a11 := h1.2
  clear L hZ hZl hns hk h0 h1
  go_enter Tryz.func5, Tryz.ntmps5
  go_wp2_with (first
    | (go_at_call 7; with_reducible (refine Calls.mono H1.out ?_); rintro e w1 ⟨p, rfl, ho1⟩)
    | (go_at_call 8; with_reducible (refine Calls.mono (H2.out _ _ ho1) ?_); rintro e w2 ⟨q, rfl, ho2⟩; have HO2 := Lib.hid ho2; clear ho1 ho2)
    | (go_at_call 9; with_reducible (refine Calls.mono (HA.out _) ?_); rintro e w3 ⟨rfl, hb3⟩; have HO3 := Lib.hid (HLV.out _ _ _ _ HO2.out hb3); clear hb3)
    | (go_at_call 15; with_reducible (refine Calls.mono (HO.out _ _ _ _ HO3.out (Below.refl _ _)) ?_); rintro e w4 ⟨A1, c1, A2, c2, g, c3, rfl, hT4, hg4⟩
       have hba := (Below.refl w4.heap.size w4).alloc (Nat.le_refl _) (.cells #[.slice A1 0 c1, .slice A2 0 c2, .slice (some ⟨g, 0, none⟩) 10 c3] 35)
       have HT4 := Lib.hid hT4
       have HG4 := Lib.hid hg4
       obtain ⟨y0, y1, y2⟩ := cells3 (heap_alloc_new w4 (.cells #[.slice A1 0 c1, .slice A2 0 c2, .slice (some ⟨g, 0, none⟩) 10 c3] 35))
       have hsl := hT4.slot k hk10
       have s1 := (hba.cell (p := ⟨g, k, none⟩) hg4).trans hsl.1
       have s2 : (w4.alloc (.cells #[.slice A1 0 c1, .slice A2 0 c2, .slice (some ⟨g, 0, none⟩) 10 c3] 35)).frozen? ⟨g, k, none⟩ = false := (hba.frozen (p := ⟨g, k, none⟩) hg4).trans hsl.2
       have HP := Lib.hid (hT4.put (k := k) hg4 #[.slice A1 0 c1, .slice A2 0 c2, .slice (some ⟨g, 0, none⟩) 10 c3] (.int .i64 a1))
       obtain ⟨z0, z1, z2⟩ := cells3 HP.out.2.2
       have z3 := frozen_of_row _ _ 0 _ _ HP.out.2.2
       have hown := HP.out.2.1
       have hsz := HP.out.1.size
       have hnw : (((w4.alloc (.cells #[.slice A1 0 c1, .slice A2 0 c2, .slice (some ⟨g, 0, none⟩) 10 c3] 35)).setCell ⟨g, k, none⟩ (.int .i64 a1)).alloc (.cells #[.int .i64 3, .int .i64 0, .int .i64 0, .int .i64 0, .string ⟨#[]⟩, .bool false] 52)).heap[w4.heap.size + 1]? = some (.cells #[.int .i64 3, .int .i64 0, .int .i64 0, .int .i64 0, .string ⟨#[]⟩, .bool false] 52 (0, 0)) := nw_at _ _ (by simp [World.setCell])
       clear hT4 hba hsl hg4)
    | (at_builtin; refine wpList_append_own_at _ rfl _ _ 32 rfl w3.heap.size 52 i6 (.agg #[.int .i64 0, .int .i64 0, .int .i64 0, .int .i64 0, .string ⟨#[]⟩, .bool false]) 6 56 Tryz.underlying32 hi hz0 hz1 hz2 rfl (by decide) _ _ _ rfl (hown.alloc _) ⟨w4.heap.size + 1, 0, none⟩ 1 1 [.int .i64 3, .int .i64 0, .int .i64 0, .int .i64 0, .string ⟨#[]⟩, .bool false] rfl rfl (World.news_of_block hnw) ?d1 ?d2 ?d3 ?d4 ?_))
  case d1 =>
    intro u hu
    simp only [List.mem_cons, List.not_mem_nil, or_false] at hu
    rcases hu with rfl | rfl | rfl | rfl | rfl | rfl <;> rfl
  case d2 => unfold maxLen; omega
  case d3 => omega
  case d4 => exact Nat.le_trans hsz (by simp)
  intro v5 w5 hown5 hg5 _ _
  obtain ⟨A5, c5, rfl⟩ := own_A hown5
  have hba := HP.out.1.alloc hsz (.cells #[.int .i64 3, .int .i64 0, .int .i64 0, .int .i64 0, .string ⟨#[]⟩, .bool false] 52)
  have hb5 : Below w3.heap.size w3 w5 := hba.grown hg5 hba.size fun b hb => (hown.lt b hb).1
  have h9 : w5.heap[w4.heap.size]? = some (.cells #[.slice A1 0 c1, .slice A2 0 c2, .slice (some ⟨g, 0, none⟩) 10 c3] 35 (0, 0)) := by
    have hlt : w4.heap.size < ((w4.alloc (.cells #[.slice A1 0 c1, .slice A2 0 c2, .slice (some ⟨g, 0, none⟩) 10 c3] 35)).setCell ⟨g, k, none⟩ (.int .i64 a1)).heap.size := by simp [World.setCell]
    rw [hg5.block _ (by simp [World.setCell]; omega) (fun e => ?_), Below.heap_alloc _ _ _ hlt]
    · exact HP.out.2.2
    · have := (HT4.out.ten.lt _ e.symm).2
      omega
  obtain ⟨x0, x1, x2⟩ := cells3 h9
  have x3 := frozen_of_row _ _ 0 _ _ h9
  have HB6 : Hid (Below w3.heap.size w3 (w5.setCell ⟨w4.heap.size, 0, none⟩ (.slice A5 1 c5))) := hb5.setCell (p := ⟨w4.heap.size, 0, none⟩) HT4.out.below.size _
  clear hown5 hg5 hba hb5 h9 hown hnw HP HT4 hsz y0 y1 y2 z0 z1 z2 z3 s1 s2
  go_wp2
  obtain ⟨X6, hX6⟩ : ∃ X, X = w5.setCell ⟨w4.heap.size, 0, none⟩ (.slice A5 1 c5) := ⟨_, rfl⟩
  rw [← hX6] at HB6
  rw [← hX6]
  have hbx : Below w3.heap.size w3 X6.drew := HB6.out.drew
  clear x0 x1 x2 x3 hX6
  go_region_held3 (fun X => Below w3.heap.size w3 X)
    (first | exact hbx | exact hbx.alloc hbx.size _ | exact (HB6.out.alloc HB6.out.size _).drew)
    (first
      | (go_at_call 15; with_reducible (refine Calls.mono (HTB.out _ _ _ _ HO3.out ?hb) ?_); (case hb => first | exact hbx | exact hbx.alloc hbx.size _ | exact (HB6.out.alloc HB6.out.size _).drew); rintro e w7 ⟨V7, rfl, hin7, hb7⟩; have hbx : Below w3.heap.size w3 w7 := (by first | exact chain hbx hb7 | exact chain (hbx.alloc hbx.size _) hb7 | exact chain ((HB6.out.alloc HB6.out.size _).drew) hb7))
      | (go_at_call 17; with_reducible (refine Calls.mono (HSI.out _ _ _ _ _ ?i1 ?i2) ?_); (case i1 => first | exact hin7 | exact (hin7.below ((Below.refl _ _).alloc (Nat.le_refl _) _)).more (by simp)); (case i2 => first | exact HIN.out _ | exact ((HIN.out _).below hb7).more hb7.size | exact Ints.more (Ints.below (Ints.below (HIN.out X6) (show Below (X6.alloc (.cells Z 3)).heap.size (X6.alloc (.cells Z 3)) (X6.alloc (.cells Z 3)).drew from (Below.refl _ _).drew)) hb7) hb7.size); rintro e w8 ⟨rfl, hb8⟩; have hbx : Below w3.heap.size w3 w8 := (by first | exact chain hbx hb8 | exact chain (hbx.alloc hbx.size _) hb8))
      | (go_at_call 17; have hi1 := HIN.out X6; have hi2 := Ints.drew hi1; have hi3 := Ints.below hi2 hb7; have hi4 := hi3.more hb7.size; with_reducible (refine Calls.mono (HSI.out _ _ _ _ _ hin7 hi4) ?_); rintro e w8 ⟨rfl, hb8⟩; have hbx : Below w3.heap.size w3 w8 := chain hbx hb8))
  all_goals (go_wp2; go_ret; exact ⟨rfl, chain HO3.out.below hbx⟩)
end

end Go.Proofs.YtbnhkplhmanmoaaGreat

namespace Go.Proofs.YtbnhkplhmanmoaaGreat
open Go.RowKit

/-- A quota that is changed. -/
def recQ (y : Int) : Rc := ⟨2, 1, y, 0, 0, ⟨#[]⟩⟩
theorem recQ_ok {y : Int} (h : inR y 1 64) : (recQ y).ok := by
  unfold inR at h
  refine ⟨show I64n 2 from ⟨by decide, by decide⟩, show I64n 1 from ⟨by decide, by decide⟩, ?_, show I64n 0 from ⟨by decide, by decide⟩, show I64n 0 from ⟨by decide, by decide⟩, show ByteArray.size ⟨#[]⟩ ≤ _ from by decide +kernel⟩
  show -9223372036854775808 ≤ y ∧ y ≤ 9223372036854775807
  omega
theorem applyQ {x y : Int} (hs : (tabT 1 x 64).sound) (hy : inR y 1 64) : applyR (tabT 1 x 64) [recQ y] = (0, tabT 1 y 64) := by
  have hf : formR (recQ y) := by
    unfold formR recQ
    dsimp only
    rw [if_neg (by decide), if_neg (by rintro (h | h | h); exact h rfl; exact h (by decide +kernel); exact h.1 rfl), if_neg (by decide), if_pos rfl]
    exact ⟨by decide, hy⟩
  have ho : oneR (tabT 1 x 64) (recQ y) = (0, tabT 1 y 64) := by
    unfold oneR recQ
    dsimp only
    rw [if_neg (by decide), if_pos rfl]
    unfold one2 tabT
    simp only [tenAt, List.find?_cons, decide_true]
    have hown : ownN (List.replicate 64 0) 1 = 0 := by decide +kernel
    unfold inR at hy
    rw [if_neg (by rw [hown]; simp; omega), if_neg (by simp [sumQ]; omega)]
    simp [updK]
  rw [apply_one hs, run_cons (t' := tabT 1 y 64) hf ho]
  rfl
section
variable {Rep : World → Nat → (Nat → Prop) → Dk → Prop}
/-- A vault with one tenant, and its disk. -/
def GrowI (Rep : World → Nat → (Nat → Prop) → Dk → Prop) (w W : World) (p q : Nat) (y : Int) (j : Nat) : Prop :=
  ∃ s v x, OwnV Rep w W p q s (some ⟨p, 0, none⟩) v ∧ Alive s 64 v ((j : Int) + 1) ∧ s.lim = none ∧ v.t = tabT 1 x 64 ∧ v.g = y
/-- Its disk, behind a crash. -/
def GrowD (Rep : World → Nat → (Nat → Prop) → Dk → Prop) (w W : World) (p : Nat) (y : Int) (j : Nat) : Prop :=
  ∃ s v x, OwnD Rep w W p (crashS s []) ∧ Alive s 64 v ((j : Int) + 1) ∧ v.t = tabT 1 x 64 ∧ v.g = y
theorem GrowI.later (L : Lows Rep) {w W X : World} {p q j : Nat} {y : Int} (h : GrowI Rep w W p q y j) (hb : Below W.heap.size W X) : GrowI Rep w X p q y j := by
  obtain ⟨s, v, x, h1, h2⟩ := h
  exact ⟨s, v, x, h1.later L hb, h2⟩
theorem GrowI.below {w W : World} {p q j : Nat} {y : Int} (h : GrowI Rep w W p q y j) : Below w.heap.size w W := by
  obtain ⟨s, v, x, h1, h2⟩ := h
  exact h1.below
theorem GrowI.g0 {w W : World} {p q j : Nat} {y : Int} (h : GrowI Rep w W p q y j) : 0 ≤ y := by
  obtain ⟨s, v, x, h1, h2, _, _, e⟩ := h
  rw [← e]; exact h2.hold.g0
theorem grow_gen {w W : World} {p q j : Nat} {y : Int} (h : GrowI Rep w W p q y j) : Calls Tryz.prog 16 #[.pointer (some ⟨q, 0, none⟩)] W fun e w' => e = .returned (.int .i64 y) ∧ w' = W := by
  obtain ⟨s, v, x, h1, _, _, _, e⟩ := h
  rw [← e]; exact own_gen h1
theorem grow_crash (L : Lows Rep) {w W : World} {p q j : Nat} {y : Int} (h : GrowI Rep w W p q y j) : Calls Tryz.prog 13 #[.pointer (some ⟨p, 0, none⟩), .slice none 0 0] W fun e w' => e = .returned (.tuple #[]) ∧ GrowD Rep w w' p y j := by
  obtain ⟨s, v, x, h1, h2, _, h3, h4⟩ := h
  obtain ⟨F, V, hv, hF, hq⟩ := h1.vt
  refine (L.crash (A := none) (c := 0) (l := []) (Bools.none _ _ _) (Nat.le_refl _) (by decide) (fun h => absurd h (Nat.not_lt_zero _)) hv.rep).mono fun e w' ⟨F', q1, q2, q3, q4⟩ => ⟨q1, s, v, x, ⟨F', q2, fun b hb => (q3 b hb).elim (hF b) fun hb => Nat.le_trans h1.below.size hb, q4.below hF h1.below h1.below.size⟩, h2, h3, h4⟩
theorem grow_open (L : Lows Rep) {w W : World} {p j : Nat} {y : Int} (h : GrowD Rep w W p y j) : Calls Tryz.prog 8 #[.pointer (some ⟨p, 0, none⟩), .int .i64 64] W fun e w' => ∃ q, e = .returned (.tuple #[.pointer (some ⟨q, 0, none⟩), .int .i64 0]) ∧ GrowI Rep w w' p q y j := by
  obtain ⟨s, v, x, h1, h2, h3, h4⟩ := h
  have hl := crash_alive h2 []
  have hH : Holds (crashS s []).last 64 v.t v.a v.g ((j : Int) + 1) := by rw [hl]; exact h2.hold
  have hn : 384 ≤ (crashS s []).last.length := by rw [hl]; exact h2.len
  exact (own_open L (n := 64) h1 rfl rfl hn (by decide) (by decide) hH).mono fun e w' ⟨q, q1, q2⟩ => ⟨q, q1, crashS s [], _, x, q2, open_alive (crash_ok h2.ok []) rfl rfl hn (by decide) (by decide) hH, rfl, h3, h4⟩
theorem grow_commit (L : Lows Rep) {w W : World} {p q j : Nat} {y z : Int} (h : GrowI Rep w W p q y j) (hj : j ≤ 100) (hz : inR z 1 64) :
    Calls Tryz.prog 10 #[.pointer (some ⟨q, 0, none⟩), .slice (some ⟨W.heap.size, 0, none⟩) 1 1] (W.alloc (.cells #[.int .i64 2, .int .i64 1, .int .i64 z, .int .i64 0, .int .i64 0, .string ⟨#[]⟩] 56)) fun e w' => ∃ y', e = .returned (.int .i64 0) ∧ GrowI Rep w w' p q y' (j + 1) ∧ y ≤ y' := by
  obtain ⟨s, v, x, h1, h2, h3, h4, h5⟩ := h
  have hs := h2.sound.1
  exact (own_one L (r := recQ z) (T := tabT 1 z 64) h1 h2 (by omega) h3 (recQ_ok hz) (by rw [h4]; exact applyQ (h4 ▸ hs) hz)).mono fun e w' ⟨s', v', q1, q2, q3, q4, q5, q6⟩ =>
    ⟨v'.g, q1, ⟨s', v', z, q2, by have : ((j + 1 : Nat) : Int) + 1 = (j : Int) + 1 + 1 := by omega
                                  rw [this]; exact q4, q6, q3, rfl⟩, h5 ▸ q5⟩
theorem grow_table (L : Lows Rep) {w W : World} {p q j : Nat} {y : Int} (h : GrowI Rep w W p q y j) : Calls Tryz.prog 15 #[.pointer (some ⟨q, 0, none⟩)] W fun e w' => ∃ V' : TabW, e = .returned (.agg #[.slice V'.A1 1 V'.c1, .slice V'.A2 0 V'.c2, .slice V'.A3 64 V'.c3]) ∧ Below W.heap.size W w' := by
  obtain ⟨s, v, x, h1, h2, _, h4, _⟩ := h
  refine (own_table L h1 h2.sound.1).mono fun e w' ⟨V', q1, _, _, q4⟩ => ⟨V', ?_, q4⟩
  rw [h4] at q1
  exact q1
theorem grow_first (L : Lows Rep) {w W : World} {p q : Nat} (h : OwnV Rep w W p q (newD 384) (some ⟨p, 0, none⟩) ⟨newR 64, 1, 0, 192⟩) :
    Calls Tryz.prog 10 #[.pointer (some ⟨q, 0, none⟩), .slice (some ⟨W.heap.size, 0, none⟩) 1 1] (W.alloc (.cells #[.int .i64 1, .int .i64 1, .int .i64 1, .int .i64 0, .int .i64 1, .string ⟨#[48, 49, 50, 51, 52, 53, 54, 55, 56, 57, 97, 98, 99, 100, 101, 102]⟩] 56)) fun e w' => ∃ y, e = .returned (.int .i64 0) ∧ GrowI Rep w w' p q y 0 :=
  (own_one L (r := recT 1 1) h (alive_new (Nat.le_refl _) (by decide) (by decide) (by decide)) (by decide) rfl (recT_ok ⟨by decide, by decide⟩ ⟨by decide, by decide⟩) (applyT (n := 64) ⟨by decide, by decide⟩ ⟨by decide, by decide⟩ (by decide) (by decide) (by decide))).mono fun e w' ⟨s', v', q1, q2, q3, q4, _, q6⟩ =>
    ⟨v'.g, q1, s', v', 1, q2, q4, q6, q3, rfl⟩
end
section
variable {Rep : World → Nat → (Nat → Prop) → Dk → Prop} (L : Lows Rep)
include L
set_option maxHeartbeats 3200000 in
set_option maxRecDepth 20000 in
/-- VaultGrows. -/
theorem vaultGrows_go (A : Option Addr) (c : Nat) (l : List Int) (a1 : Int) (w : World) (hI : Ints w w.heap.size .u8 A l) (hz : ∀ z ∈ l, 0 ≤ z ∧ z ≤ 255) (h1 : 0 ≤ a1 ∧ a1 ≤ 255) :
    Calls Tryz.prog 6 #[.slice A l.length c, .int .u8 a1] w fun e w' => e = .returned (.bool true) ∧ Below w.heap.size w w' := by
  have H1 := Lib.hid (own_disk L (Below.refl w.heap.size w) (N := 384) (by decide) (by decide))
  have H2 : Hid (∀ p W, OwnD Rep w W p (newD 384) → Calls Tryz.prog 8 #[.pointer (some ⟨p, 0, none⟩), .int .i64 64] W fun e w' => ∃ q, e = .returned (.tuple #[.pointer (some ⟨q, 0, none⟩), .int .i64 0]) ∧ OwnV Rep w w' p q (newD 384) (some ⟨p, 0, none⟩) ⟨newR 64, 1, 0, 192⟩) := fun p W h =>
    own_open L (n := 64) h rfl rfl (by simp [newD]) (by decide) (by decide) (new_holds (Nat.le_refl _))
  have HA := Lib.hid (vaultAwake L)
  have HLV : Hid (∀ p q W X, OwnV Rep w W p q (newD 384) (some ⟨p, 0, none⟩) ⟨newR 64, 1, 0, 192⟩ → Below W.heap.size W X → OwnV Rep w X p q (newD 384) (some ⟨p, 0, none⟩) ⟨newR 64, 1, 0, 192⟩) := fun p q W X h hb => h.later L hb
  have HNO : Hid (∀ p q W, OwnV Rep w W p q (newD 384) (some ⟨p, 0, none⟩) ⟨newR 64, 1, 0, 192⟩ → Calls Tryz.prog 10 #[.pointer (some ⟨q, 0, none⟩), .slice none 0 0] W fun e w' => e = .returned (.int .i64 0) ∧ Below W.heap.size W w') := fun p q W h => own_none L h (new_sound (by decide) (by decide)) none 0
  have HNG : Hid (∀ p q W, OwnV Rep w W p q (newD 384) (some ⟨p, 0, none⟩) ⟨newR 64, 1, 0, 192⟩ → Calls Tryz.prog 16 #[.pointer (some ⟨q, 0, none⟩)] W fun e w' => e = .returned (.int .i64 0) ∧ w' = W) := fun p q W h => own_gen h
  have HNP : Hid (∀ p q W, OwnV Rep w W p q (newD 384) (some ⟨p, 0, none⟩) ⟨newR 64, 1, 0, 192⟩ → Calls Tryz.prog 18 #[.pointer (some ⟨p, 0, none⟩)] W fun e w' => e = .returned (.int .i64 0) ∧ Below W.heap.size W w') := fun p q W h => by
    obtain ⟨F, V, hv, hF, _⟩ := h.vt
    exact (L.d (bare W)).pending p F (newD 384) W (below_bare W) hv.rep (fun b _ => Nat.zero_le _)
  have HF : Hid (∀ p q W, OwnV Rep w W p q (newD 384) (some ⟨p, 0, none⟩) ⟨newR 64, 1, 0, 192⟩ → _) := fun p q W h => grow_first L h
  have HGL : Hid (∀ p q y j W X, GrowI Rep w W p q y j → Below W.heap.size W X → GrowI Rep w X p q y j) := fun p q y j W X h hb => h.later L hb
  have HG : Hid (∀ p q y j W, GrowI Rep w W p q y j → _) := fun p q y j W h => grow_gen h
  have HC : Hid (∀ p q y j W, GrowI Rep w W p q y j → _) := fun p q y j W h => grow_crash L h
  have HO : Hid (∀ p y j W, GrowD Rep w W p y j → _) := fun p y j W h => grow_open L h
  have HCM : Hid (∀ p q y j W z, GrowI Rep w W p q y j → j ≤ 100 → inR z 1 64 → _) := fun p q y j W z h hj hz => grow_commit L h hj hz
  have HT : Hid (∀ p q y j W, GrowI Rep w W p q y j → _) := fun p q y j W h => grow_table L h
  have HI := Lib.hid hI
  have HZ := Lib.hid hz
  obtain ⟨N, hN⟩ : ∃ N, N = l.length := ⟨_, rfl⟩
  have HN := Lib.hid hN
  rw [← hN]
  obtain ⟨r, hr⟩ : ∃ r : Nat, a1 % 60 = (r : Int) := ⟨(a1 % 60).toNat, by omega⟩
  have hrm : Int.tmod a1 60 = (r : Int) := by rw [Int.tmod_eq_emod_of_nonneg h1.1]; exact hr
  have r0 : (0 : Int) ≤ (r : Int) := by omega
  have r1 : (r : Int) < 60 := by omega
  have hf0 := fieldT0
  clear L hI hz hN hr h1
  go_enter Tryz.func6, Tryz.ntmps6
  go_wp2_with (first
    | (go_at_call 7; with_reducible (refine Calls.mono H1.out ?_); rintro e w1 ⟨p, rfl, ho1⟩)
    | (go_at_call 8; with_reducible (refine Calls.mono (H2.out _ _ ho1) ?_); rintro e w2 ⟨q, rfl, ho2⟩; have HO2 := Lib.hid ho2; clear ho1 ho2)
    | (go_at_call 9; with_reducible (refine Calls.mono (HA.out _) ?_); rintro e w3 ⟨rfl, hb3⟩; have HO3 := Lib.hid (HLV.out _ _ _ _ HO2.out hb3); clear hb3)
    | (go_at_call 10; with_reducible (refine Calls.mono (HNO.out _ _ _ HO3.out) ?_); rintro e w4 ⟨rfl, hb4⟩; have HO4 := Lib.hid (HLV.out _ _ _ _ HO3.out hb4); clear hb4)
    | (go_at_call 10; with_reducible (refine Calls.mono (HF.out _ _ _ HO5.out) ?_); rintro e w6 ⟨y, rfl, hg6⟩; have HG6 := Lib.hid hg6; clear hg6)
    | (go_at_call 16; with_reducible (refine Calls.mono (HNG.out _ _ _ HO4.out) ?_); rintro e w5 ⟨rfl, rfl⟩)
    | (go_at_call 18; with_reducible (refine Calls.mono (HNP.out _ _ _ HO4.out) ?_); rintro e w5 ⟨rfl, hb5⟩; have HO5 := Lib.hid (HLV.out _ _ _ _ HO4.out hb5); clear hb5)
    | (go_at_call 16; with_reducible (refine Calls.mono (HG.out _ _ _ _ _ HG6.out) ?_); rintro e w7 ⟨rfl, rfl⟩))
  clear H1 H2 HA HLV HNO HNG HNP HF HO2 HO3 HO4 HO5
  go_loopw [7, 8, 9, 10] (fun v f y i wx => ∃ (q : Nat) (g : Int) (j : Nat), j ≤ N ∧ j ≤ 60 ∧ v = .pointer (some ⟨q, 0, none⟩) ∧ f = .int .i64 0 ∧ y = .int .i64 g ∧ i = .int .i64 j ∧ Hid (GrowI Rep w wx p q g j)) (fun _ _ _ i _ => 60 - (intOf i).toNat)
  case atStart => exact ⟨q, y, 0, Nat.zero_le _, Nat.zero_le _, rfl, rfl, rfl, rfl, HG6.out⟩
  case round =>
    clear HG6
    obtain ⟨q, g, j, hjN, hj6, rfl, rfl, rfl, rfl, hR⟩ := hrel
    have j0 : (0 : Int) ≤ (j : Int) := by omega
    have g0 := hR.out.g0
    by_cases hj : j < N
    · have k1 : (j : Int) < (N : Int) := by omega
      by_cases hj2 : j < 60
      · have k2 : (j : Int) < 60 := by omega
        obtain ⟨b, o, rfl, hlt, hc⟩ := HI.out j (by have := HN.out; omega)
        have hzj := HZ.out (l.getD j 0) (by rw [List.getD_eq_getElem?_getD, List.getElem?_eq_getElem (by have := HN.out; omega)]; exact List.getElem_mem _)
        obtain ⟨z, hz⟩ : ∃ z, z = l.getD j 0 := ⟨_, rfl⟩
        rw [← hz] at hc hzj
        obtain ⟨m, hm⟩ : ∃ m : Nat, z % 64 = (m : Int) := ⟨(z % 64).toNat, by omega⟩
        have hzm : Int.tmod z 64 = (m : Int) := by rw [Int.tmod_eq_emod_of_nonneg hzj.1]; exact hm
        have m0 : (0 : Int) ≤ (m : Int) := by omega
        have m1 : (m : Int) < 64 := by omega
        have HCL : Hid (∀ p q g i W, GrowI Rep w W p q g i → W.cell? ⟨b, o + j, none⟩ = some (.int .u8 z)) := fun p q g i W h => (h.below.cell (p := ⟨b, o + j, none⟩) hlt).trans hc
        have HCN : Hid (∀ q g W, GrowI Rep w W p q g j → Calls Tryz.prog 10 #[.pointer (some ⟨q, 0, none⟩), .slice (some ⟨W.heap.size, 0, none⟩) 1 1] (W.alloc (.cells #[.int .i64 2, .int .i64 1, .int .i64 ((m : Int) + 1), .int .i64 0, .int .i64 0, .string ⟨#[]⟩] 56)) fun e w' => ∃ y', e = .returned (.int .i64 0) ∧ GrowI Rep w w' p q y' (j + 1) ∧ ¬ y' < g) := fun q g W h => (HCM.out p q g j W _ h (by omega) ⟨by omega, by omega⟩).mono fun e w' ⟨y', q1, q2, q3⟩ => ⟨y', q1, q2, by omega⟩
        clear HCM HT hz hc hzj hm
        by_cases hjr : j = r
        · subst hjr
          go_wp2_with (first
            | (go_at_call 13; with_reducible (refine Calls.mono (HC.out _ _ _ _ _ hR.out) ?_); rintro e w8 ⟨rfl, hd8⟩)
            | (go_at_call 8; with_reducible (refine Calls.mono (HO.out _ _ _ _ hd8) ?_); rintro e w9 ⟨q9, rfl, hg9⟩; have HG9 := Lib.hid hg9; have hc9 := HCL.out _ _ _ _ _ hg9; clear hd8 hg9)
            | (go_at_call 10; with_reducible (refine Calls.mono (HCN.out _ _ _ HG9.out) ?_); rintro e w10 ⟨g', rfl, hgC, hle⟩; have HGC := Lib.hid hgC; clear hgC)
            | (go_at_call 16; with_reducible (refine Calls.mono (HG.out _ _ _ _ _ HGC.out) ?_); rintro e w11 ⟨rfl, rfl⟩)
            | (go_at_call 16; with_reducible (refine Calls.mono (HG.out _ _ _ _ _ HG9.out) ?_); rintro e w11 ⟨rfl, rfl⟩))
          go_roundw
          case rel => exact ⟨q9, g', j + 1, by omega, by omega, rfl, rfl, rfl, by go_num, HGC.out⟩
          case measure => simp [intOf]; omega
        · have k3 : ¬ ((j : Int) = (r : Int)) := by omega
          have HG9 := hR
          have hc9 := HCL.out _ _ _ _ _ hR.out
          go_wp2_with (first
            | (go_at_call 10; with_reducible (refine Calls.mono (HCN.out _ _ _ HG9.out) ?_); rintro e w10 ⟨g', rfl, hgC, hle⟩; have HGC := Lib.hid hgC; clear hgC)
            | (go_at_call 16; with_reducible (refine Calls.mono (HG.out _ _ _ _ _ HGC.out) ?_); rintro e w11 ⟨rfl, rfl⟩)
            | (go_at_call 16; with_reducible (refine Calls.mono (HG.out _ _ _ _ _ HG9.out) ?_); rintro e w11 ⟨rfl, rfl⟩))
          go_roundw
          case rel => exact ⟨q, g', j + 1, by omega, by omega, rfl, rfl, rfl, by go_num, HGC.out⟩
          case measure => simp [intOf]; omega
      · have k2 : ¬ (j : Int) < 60 := by omega
        clear HCM HC HO HG HI HZ
        go_wp2_with (go_at_call 15; with_reducible (refine Calls.mono (HT.out _ _ _ _ _ hR.out) ?_); rintro e w8 ⟨V8, rfl, hb8⟩; have HB8 := Lib.hid (chain hR.out.below hb8); clear hb8)
        go_ret
        exact ⟨rfl, HB8.out⟩
    · have k1 : ¬ (j : Int) < (N : Int) := by omega
      clear HCM HC HO HG HI HZ
      go_wp2_with (go_at_call 15; with_reducible (refine Calls.mono (HT.out _ _ _ _ _ hR.out) ?_); rintro e w8 ⟨V8, rfl, hb8⟩; have HB8 := Lib.hid (chain hR.out.below hb8); clear hb8)
      go_ret
      exact ⟨rfl, HB8.out⟩
end

end Go.Proofs.YtbnhkplhmanmoaaGreat
