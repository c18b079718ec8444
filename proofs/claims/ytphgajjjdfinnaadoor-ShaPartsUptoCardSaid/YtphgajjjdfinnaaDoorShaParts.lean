/-
  ShaParts as a walk, from what is asked of the layer's calls.
-/
import Derived.Test.YtphgajjjdfinnaaDoorShaTwo
import Derived.Test.YtphgajjjdfinnaaDoorRows2
namespace Go.Proofs.YtphgajjjdfinnaaDoor
open Go.RowKit

/-- A hash made since w0, and a slice of bytes of one's own, not among the hash's blocks. -/
structure Took (R : World → (Nat → Prop) → Addr → List Nat → Prop) (w0 w : World) (a : Addr) (v : Value) (s t : List Nat) : Prop where
  bel : Below w0.heap.size w0 w
  both : ∃ F : Nat → Prop, R w F a s ∧ (∀ k, F k → w0.heap.size ≤ k ∧ k < w.heap.size) ∧ w.ownsRow w0.heap.size 5 1 v t.length ((up t).map (Value.int .u8)) ∧ ∀ g, v.ownBlock = some g → ¬ F g
section
variable {R : World → (Nat → Prop) → Addr → List Nat → Prop} {w0 w : World} {a : Addr} {v : Value} {s t : List Nat}
theorem Took.any (HH : HashSpec w0 R) (h : Took R w0 w a v s t) {w' : World} (hb : Below w.heap.size w w') : Took R w0 w' a v s t := by
  obtain ⟨hb0, F, h1, h2, h3, h4⟩ := h
  exact ⟨chain hb0 hb, F, HH.keep _ _ _ _ _ h1 fun k hk => hb.block k (h2 k hk).2, fun k hk => ⟨(h2 k hk).1, Nat.lt_of_lt_of_le (h2 k hk).2 hb.size⟩, own_same h3 fun g hg => hb.block g (h3.lt g hg).2, h4⟩
theorem Took.after {F F' : Nat → Prop} {s' : List Nat} {w' : World} (hb : Below w0.heap.size w0 w) (h2 : ∀ k, F k → w0.heap.size ≤ k ∧ k < w.heap.size) (h3 : w.ownsRow w0.heap.size 5 1 v t.length ((up t).map (Value.int .u8))) (h4 : ∀ g, v.ownBlock = some g → ¬ F g)
    (r1 : R w' F' a s') (r2 : ∀ k, F' k → (F k ∨ w.heap.size ≤ k) ∧ k < w'.heap.size) (r3 : Off F w w') : Took R w0 w' a v s' t :=
  ⟨r3.below hb fun k hk => (h2 k hk).1, F', r1, fun k hk => ⟨(r2 k hk).1.elim (fun h => (h2 k h).1) (Nat.le_trans hb.size), (r2 k hk).2⟩,
    own_same h3 fun g hg => r3.block g (h3.lt g hg).2 (h4 g hg), fun g hg hf => (r2 g hf).1.elim (h4 g hg) fun h => by have := (h3.lt g hg).2; omega⟩
theorem Took.write (HH : HashSpec w0 R) (h : Took R w0 w a v s t) {p : Part} (hp : p.ok w0 w0.heap.size) (hm : s.length + p.b.length ≤ 140737488355000) :
    Calls Tryd.prog 11 #[.pointer (some a), .slice p.A p.b.length p.c] w fun e w' => e = .returned (.tuple #[]) ∧ Took R w0 w' a v (s ++ p.b) t := by
  obtain ⟨hb, F, h1, h2, h3, h4⟩ := h
  refine Calls.mono (HH.write w F a s p.A p.c w0.heap.size p.b hb h1 h2 hb.size (hp.ints.below hb) hp.nil hp.byte hp.le hm) ?_
  rintro e w' ⟨rfl, F', r1, r2, r3⟩
  exact ⟨rfl, Took.after hb h2 h3 h4 r1 r2 r3⟩
theorem Took.sum (HH : HashSpec w0 R) (h : Took R w0 w a v s t) (hs : ∀ x ∈ s, x < 256) (hm : s.length ≤ 140737488355000) :
    Calls Tryd.prog 12 #[.pointer (some a)] w fun e w' => e = .returned (.agg (BA (digestN s))) ∧ Took R w0 w' a v s t := by
  obtain ⟨hb, F, h1, h2, h3, h4⟩ := h
  refine Calls.mono (HH.sum w F a s hb h1 (fun k hk => (h2 k hk).2) hs hm) ?_
  rintro e w' ⟨rfl, F', r1, r2, r3⟩
  exact ⟨rfl, Took.after hb h2 h3 h4 r1 r2 r3⟩
theorem Took.own (h : Took R w0 w a v s t) : w.ownsRow w0.heap.size 5 1 v t.length ((up t).map (Value.int .u8)) := by
  obtain ⟨_, F, _, _, h3, _⟩ := h
  exact h3
theorem Took.grown (HH : HashSpec w0 R) (h : Took R w0 w a v s t) {w' : World} {v' : Value} {t' : List Nat} (h1 : w'.ownsRow w0.heap.size 5 1 v' t'.length ((up t').map (Value.int .u8))) (h2 : w.grownBy w' v.ownBlock) (h3 : v'.ownBlock = v.ownBlock ∨ v'.ownBlock = some w.heap.size) : Took R w0 w' a v' s t' := by
  obtain ⟨hb, F, g1, g2, g3, g4⟩ := h
  refine ⟨hb.grown h2 hb.size fun q hq => (g3.lt q hq).1, F, HH.keep _ _ _ _ _ g1 fun k hk => h2.block k (g2 k hk).2 fun e => g4 k e.symm hk, fun k hk => ⟨(g2 k hk).1, Nat.lt_of_lt_of_le (g2 k hk).2 h2.size⟩, h1, fun g hg hf => ?_⟩
  rcases h3 with h3 | h3
  · exact g4 g (h3 ▸ hg) hf
  · rw [h3] at hg
    cases hg
    have := (g2 _ hf).2
    omega
theorem Took.start (HH : HashSpec w0 R) {w1 : World} {F : Nat → Prop} (h1 : R w1 F a []) (f1 : ∀ k, F k → w0.heap.size ≤ k ∧ k < w1.heap.size) (b1 : Below w0.heap.size w0 w1) : Took R w0 (w1.alloc (.cells #[] 5)) a (.slice (some ⟨w1.heap.size, 0, none⟩) 0 0) [] [] :=
  ⟨b1.alloc b1.size _, F, HH.keep _ _ _ _ _ h1 fun k hk => Below.heap_alloc w1 _ k (f1 k hk).2, fun k hk => ⟨(f1 k hk).1, by have := (f1 k hk).2; simp; omega⟩, World.ownsRow_made w1 #[] 0 b1.size (Nat.zero_le _) rfl, fun g hg hf => by simp [Value.ownBlock] at hg; have := (f1 g hf).2; omega⟩
end

set_option maxHeartbeats 800000 in
theorem shaParts_go {R : World → (Nat → Prop) → Addr → List Nat → Prop} (A : Option Addr) (c : Nat) (ps : List Part) (w : World) (HH : HashSpec w R) (HD : DigestSpec w) (HR : RefSpec) (hr : Parts w w.heap.size A ps) (hc : ps.length ≤ c) (hm : ∀ k, (catTo ps k).length ≤ 1048576) :
    Calls Tryd.prog 4 #[.slice A ps.length c] w fun e w' => e = .returned (.bool true) ∧ Below w.heap.size w w' := by
  obtain ⟨i0, hi, hz0, hz1, hz2⟩ := info_parts Tryd.infoU8'
  have HA := Lib.hid (shaAwake HD)
  have HN := Lib.hid HH.new
  have HM := Lib.hid hm
  have HP := Lib.hid hr
  clear hm hr
  go_enter Tryd.func4, Tryd.ntmps4
  go_upto_if 10 with fail
  go_cut [0] (fun s wx => (∃ n : Nat, s = .slice A n c ∧ n ≤ ps.length ∧ n ≤ 40) ∧ wx = w)
  case first =>
    by_cases h4 : (40 : Int) < ps.length
    · go_wp2
      go_meet
      exact ⟨⟨40, rfl, by omega, Nat.le_refl _⟩, rfl⟩
    · go_wp2
      go_meet
      exact ⟨⟨ps.length, rfl, Nat.le_refl _, by omega⟩, rfl⟩
  case rest =>
    obtain ⟨⟨n, rfl, hn, hn40⟩, hw⟩ := hcut
    have hw' := hw.symm
    subst hw'
    go_wp2_with (first
      | (go_at_call 10; with_reducible (refine Calls.mono (HN.out _ (Below.refl _ _)) ?_); rintro e w1 ⟨a, F, rfl, hR, hF, hb1⟩))
    have t0 := Took.start HH hR hF hb1
    clear hR hF hb1
    go_loopw [4, 5] (fun v i wr => ∃ k : Nat, k ≤ n ∧ i = .int .i64 k ∧ Took R w wr a v (catTo ps k) (catTo ps k)) (fun _ i _ => n - (intOf i).toNat)
    case atStart => exact ⟨0, Nat.zero_le _, rfl, t0⟩
    case round =>
      clear t0
      obtain ⟨k, hk, rfl, t1⟩ := hrel
      by_cases hlt : k < n
      · have hkp : k < ps.length := by omega
        obtain ⟨b0, off, e1, hblk, hcell, hpok⟩ := HP.out k hkp
        have hcat := catTo_next ps k hkp
        have hlen : (catTo ps k).length + (ps[k].b).length ≤ 1048576 := by have := HM.out (k + 1); rw [hcat, List.length_append] at this; exact this
        have H1 := t1.write HH hpok (by omega)
        have HX : ∀ x ∈ catTo ps (k + 1), x < 256 := fun x hx => by
          simp only [catTo, List.mem_flatten, List.mem_map] at hx
          obtain ⟨l, ⟨p, hp, rfl⟩, hx⟩ := hx
          obtain ⟨i, hi2, rfl⟩ := List.getElem_of_mem hp
          have hi3 : i < ps.length := by rw [List.length_take] at hi2; omega
          obtain ⟨_, _, _, _, _, hq⟩ := HP.out i hi3
          rw [List.getElem_take] at hx
          exact hq.byte x hx
        have HL : (catTo ps (k + 1)).length ≤ 140737488355000 := by have := HM.out (k + 1); omega
        rw [← hcat] at H1
        have HS := Lib.hid (fun (w' : World) (v : Value) (t : List Nat) (h : Took R w w' a v (catTo ps (k + 1)) t) => h.sum HH HX HL)
        have HRF := Lib.hid (fun (w' : World) (A : Option Addr) (c : Nat) (h1 : Ints w' w'.heap.size .u8 A (up (catTo ps (k + 1)))) (h2 : A = none → c = 0) => HR A c (catTo ps (k + 1)) w' h1 h2 HX HL)
        have HW := Lib.hid H1
        have HPX := Lib.hid hpok
        have HCE := Lib.hid (fun (w' : World) (hb : Below w.heap.size w w') => (hb.cell (p := ⟨b0, off + k, none⟩) hblk).trans hcell)
        have HCT := Lib.hid hcat
        obtain ⟨PA, hPA⟩ : ∃ x, x = ps[k].A := ⟨_, rfl⟩
        obtain ⟨pc, hpc⟩ : ∃ x, x = ps[k].c := ⟨_, rfl⟩
        obtain ⟨pb, hpb⟩ : ∃ x, x = ps[k].b := ⟨_, rfl⟩
        obtain ⟨nx, hnx⟩ : ∃ x, x = catTo ps (k + 1) := ⟨_, rfl⟩
        rw [← hPA, ← hpc, ← hpb] at HW HCE
        rw [← hpb] at HCT hlen
        rw [← hnx] at HS HRF HW HCT
        have hints : Ints w w.heap.size .u8 PA (up pb) := by rw [hPA, hpb]; exact hpok.ints
        have HNil : Hid (PA = none → pc = 0) := by unfold Hid; rw [hPA, hpc]; exact hpok.nil
        have HNX := Lib.hid hnx
        have hc1 := HCE.out _ t1.bel
        obtain rfl := e1
        have hkc : (k : Int) < (n : Int) := by omega
        clear hcat H1 HX HL hpok hcell hPA hpc hpb hnx
        go_wp2_with (first
          | (go_at_call 11; with_reducible (refine Calls.mono HW.out ?_); rintro e w2 ⟨rfl, t2⟩; have hc2 := HCE.out _ t2.bel)
          | (at_builtin; refine wpList_append_when _ rfl (.tmp 29) (.tmp 33) 22 rfl w.heap.size 5 i0 (.int .u8 0) 1 Tryd.underlying22 hi hz0 hz1 hz2 rfl .u8 _ (up (catTo ps k)) (up pb) w.heap.size pc pb.length PA (up_len pb) rfl rfl (by rw [up_len]; exact t2.own) (hints.below t2.bel) HNil.out ?d1 ?d2 t2.bel.size ?_))
        case d1 => rw [up_len, up_len]; unfold maxLen; omega
        case d2 => rw [up_len, up_len]; omega
        intro v3 w3 hown3 hg3 hb3
        have hw3 : w3.ownsRow w.heap.size 5 1 v3 nx.length ((up nx).map (Value.int .u8)) := by
          rw [HCT.out, up_append, List.map_append, List.length_append, ← up_len (catTo ps k), ← up_len pb]; exact hown3
        have t3 := t2.grown HH hw3 hg3 hb3
        obtain ⟨A3, c3, hv⟩ := own_slice hw3
        subst hv
        have HO3 := Lib.hid hw3
        clear hown3 hg3 hb3 hw3 t2 t1 hc1 hc2
        have HI : Hid ((Tryd.prog.info? 23).map (·.size) = some (BA (digestN nx)).size) := by unfold Hid; rw [BA_size, digest_len]; kernel_rfl
        have HOO : Hid (zero32.size = (BA (digestN nx)).size) := by unfold Hid; rw [BA_size, digest_len]; rfl
        have H1' : Hid ((BA (digestN nx)).all (·.oneCell') = true) := BA_one _
        go_wp2_with (first
          | (go_at_call 12; with_reducible (refine Calls.mono (HS.out _ _ _ t3) ?_); rintro e w4 ⟨rfl, t4⟩)
          | (refine wpList_store_fresh rfl 23 _ _ rfl w4.heap.size _ rfl rfl 23 zero32 (heap_alloc_new _ _) HI.out HOO.out H1'.out ((Below.refl w4.heap.size w4).alloc (Nat.le_refl _) _) (Nat.le_refl _) ?_; intro W hW hbW hkW hsW; clear hkW))
        have t5 := t4.any HH hbW
        have hgW : w4.heap.size < W.heap.size := by rw [hsW]; simp
        obtain ⟨d, hd⟩ : ∃ d, d = up (digestN nx) := ⟨_, rfl⟩
        have hdl : d.length = 32 := by rw [hd, up_len, digest_len]
        have hiW : Ints W W.heap.size .u8 (some ⟨w4.heap.size, 0, none⟩) d := by rw [hd]; exact ints_of_BA hW hgW
        rw [← hd] at HRF
        obtain ⟨tx, htx⟩ : ∃ tx, strOfNums d = tx := ⟨_, rfl⟩
        have HDL := Lib.hid hdl
        have HTX := Lib.hid htx
        have HS5 : Hid (∀ w' : World, Below W.heap.size W w' → (convert 22 9 (.slice (some ⟨w4.heap.size, 0, none⟩) 32 32)).run Tryd.prog w' = .ok (.string tx) w') := fun w' hb' =>
          (hiW.below hb').textAs Tryd.underlying22 Tryd.underlying5 Tryd.underlying9 HDL.out HTX.out 32
        have hown5 := t5.own
        have HR5 := Lib.hid (fun (w' : World) (hb' : Below W.heap.size W w') => HRF.out w' A3 c3 (((Ints.of_own (c := c3) (n := nx.length) (zs := up nx) (by rw [up_len]; exact hown5)).below hb').more hb'.size) (own_nil hown5))
        have T5 := Lib.hid t5
        simp only [Act.put]
        clear hbW hW hsW hd hdl htx hiW hown5 t5 t4 t3
        have hb0 : Below W.heap.size W W.drew := (Below.refl _ _).drew
        have hk0 := HS5.out _ hb0
        go_region_with (go_at_call 9; refine Calls.mono (HR5.out _ hb0) ?_; rintro e w6 ⟨A6, c6, rfl, hc6, hi6, hb6⟩; have hb7 := chain hb0 hb6; have hk6 := HS5.out _ hb7; have hk7 := hi6.textAs (P := Tryd.prog) (n := 32) (t := tx) Tryd.underlying22 Tryd.underlying5 Tryd.underlying9 HDL.out HTX.out c6)
        all_goals
          have t6 : Took R w w6 a (.slice A3 nx.length c3) (catTo ps (k + 1)) (catTo ps (k + 1)) := by
            have h := T5.out.any HH hb7
            rw [← HNX.out]
            exact h
          go_wp2
          go_roundw
          case rel => exact ⟨k + 1, by omega, by go_num, t6⟩
          case measure => simp [intOf]; omega
      · have hkn : k = n := by omega
        subst hkn
        have hown := t1.own
        obtain ⟨A3, c3, hv⟩ := own_slice hown
        subst hv
        have HW := Lib.hid HH.nilWrite
        have HS := Lib.hid HH.nilSum
        have T1 := Lib.hid t1
        have heq : ∀ w : World, (Op.equalIn 10000 23 (.agg zero32) (.agg #[.int .u8 0, .int .u8 0, .int .u8 0, .int .u8 0, .int .u8 0, .int .u8 0, .int .u8 0, .int .u8 0, .int .u8 0, .int .u8 0, .int .u8 0, .int .u8 0, .int .u8 0, .int .u8 0, .int .u8 0, .int .u8 0, .int .u8 0, .int .u8 0, .int .u8 0, .int .u8 0, .int .u8 0, .int .u8 0, .int .u8 0, .int .u8 0, .int .u8 0, .int .u8 0, .int .u8 0, .int .u8 0, .int .u8 0, .int .u8 0, .int .u8 0, .int .u8 0])).run Tryd.prog w = .ok true w := fun w => by
          have := run_eqArrays (P := Tryd.prog) (t := 23) (e := 5) (n := 32) (i := i0) (by kernel_rfl) Tryd.underlying5 Tryd.underlying23 hi hz1 (List.replicate 32 0) (List.replicate 32 0) rfl rfl w
          rw [beq_self_eq_true] at this
          exact this
        clear hown t1
        go_wp2_with (first
          | (go_at_call 11; with_reducible (refine Calls.mono (HW.out _ _ _ _) ?_); rintro e w2 ⟨rfl, hb2⟩; have t2 := T1.out.any HH hb2)
          | (go_at_call 8; with_reducible (refine Calls.mono (HA.out _ t2.bel) ?_); rintro e w3 ⟨rfl, hb3⟩; have t3 := t2.any HH hb3)
          | (go_at_call 12; with_reducible (refine Calls.mono (HS.out _) ?_); rintro e w4 ⟨rfl, hb4⟩; have t4 := t3.any HH hb4))
        go_ret
        exact ⟨rfl, t4.bel⟩

end Go.Proofs.YtphgajjjdfinnaaDoor
