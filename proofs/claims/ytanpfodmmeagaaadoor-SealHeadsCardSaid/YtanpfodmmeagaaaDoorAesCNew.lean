/-
  The program's making of a cipher.
-/
import Derived.Test.YtanpfodmmeagaaaDoorAesC2G
import Derived.Test.YtanpfodmmeagaaaDoorAesC4
import Derived.Test.YtanpfodmmeagaaaDoorAesCZero
namespace Go.Proofs.YtanpfodmmeagaaaDoor
open Go.RowKit

theorem vals_is (l : List Nat) : BA l = (vals l).toArray := rfl
theorem rk_len (key : List Nat) (r : Nat) : (rk key r).length = 16 := L16_len _

theorem run_store_cells {P : Program} (w : World) (b o : Nat) (vs : List Value) (ht : w.there b o vs.length) (h1 : ∀ v ∈ vs, v.oneCell' = true) : (storeCells ⟨b, o, none⟩ vs).run P w = .ok () (w.setCells b o vs) := by
  have := run_storeCells_cells (P := P) b o vs 0 w (fun j hj => by simpa using (ht j hj).1) (fun j hj => by simpa using (ht j hj).2) h1
  simpa using this
/-- A struct is built of values. -/
theorem wpList_built {P : Program} {w : World} {ops : Array Oper} {rest : List Oper} {o : Oper} {a : Act} {Q : Exit → Act → World → Prop} (hgd : o.guard = none) (t : TypeId) (parts : Array (Nat × Operand)) (ho : o.op = .build t parts)
    (vs : Array (Nat × Value)) (hv : parts.map (fun (i, x) => (i, a.eval x)) = vs) (cells : Array Value) (hb : (Instr.build t vs).run P w = .ok (.agg cells) w) (h : wpList P ops Q rest (a.put o.dst (.agg cells)) w) : wpList P ops Q (o :: rest) a w := by
  refine wpList_plain hgd fun K hK => ?_
  unfold Oper.wp execOp
  simp only [ho, hv, hb, Sem.run_bind, Sem.run_pure, Result.andThen_ok]
  exact hK _ _ h

set_option maxHeartbeats 3200000 in
set_option maxRecDepth 20000 in
/-- 'New', of a key of 16 bytes. -/
theorem aesNew_any (A : Option Addr) (c : Nat) (key : List Nat) (w : World) (hr : Ints w w.heap.size .u8 A (up key)) (hk : ∀ x ∈ key, x < 256) (hl : key.length = 16) (hc : 16 ≤ c) :
    Calls Tryd.prog 31 #[.slice A 16 c] w fun e w' => ∃ a, e = .returned (.tuple #[.pointer (some a), .int .i64 0]) ∧ Ciph w' a key ∧ Below w.heap.size w w' := by
  have hbd := fun (W : World) => run_build (P := Tryd.prog) W 83 #[(0, .agg (BA (sbox ++ ibox)))] (BA (ciph key 0)) (by rw [ciph_zero]; exact built_zero)
  have hAI := fun (W : World) => allImages_any W
  have hBO := fun (W : World) (hb : Below w.heap.size w W) => blockOf_any A c key W ((hr.below hb).more hb.size) ⟨hl, hk⟩ hc
  have HNK := Lib.hid (fun (g r : Nat) (W : World) (t : TypeId) (fr : Nat × Nat) (n : Nat) (hr10 : r < 10) (hg : W.heap[g]? = some (.cells (BA (ciph key n)) t fr)) =>
    nextKey_any g (rk key r) (xpow r) W (rk_ok hk r) (xpow_lt r) (lt_heap hg) fun i hi => by rw [BA_cell hg (i := i) (by rw [ciph_len]; omega), ciph_sbox key n hi])
  have HNI := Lib.hid (fun r (h : r < 10) => next_is key h)
  have HPUT := Lib.hid (fun n => ciph_put key n)
  have HKEY := Lib.hid (fun r n (h1 : r < n) (h2 : n ≤ 11) => ciph_key key h1 h2)
  have HLEN := Lib.hid (ciph_len key)
  have HRL := Lib.hid (rk_len key)
  have HDB := Lib.hid (fun (b : Nat) (W : World) (hb : b < 256) => double_any b W hb)
  have hz0 : rk key 0 = key := rk_zero hl
  rw [← hz0] at hBO
  have hKL := Lib.hid (And.intro hl hk)
  obtain ⟨I, hI⟩ : ∃ I, I = sbox ++ ibox := ⟨_, rfl⟩
  simp only [← hI] at hbd hAI
  have HAI := Lib.hid hAI
  have HBD := Lib.hid hbd
  obtain ⟨M, hM⟩ : ∃ M, M = vals (rk key 0) := ⟨_, rfl⟩
  have hMl : M.length = 16 := by rw [hM, vals_len, rk_len]
  have h1M : ∀ v ∈ M, v.oneCell' = true := by rw [hM]; exact vals_one _
  simp only [hz0, vals_is key] at hBO
  rw [hz0] at hM
  simp only [← hM] at hBO
  have hu := Tryd.underlying80
  have hlM : (Tryd.prog.info? 80).map (·.size) = some M.length := by rw [hMl]; kernel_rfl
  have HBO := Lib.hid hBO
  have HM : Hid (M = vals (rk key 0)) := by unfold Hid; rw [hz0]; exact hM
  clear hbd hM hBO hAI hI hz0 hr hk hl
  go_enter Tryd.func31, Tryd.ntmps31
  go_wp2_with (first
    | (go_at_call 45; with_reducible (refine Calls.mono (HAI.out _) ?_); rintro e w1 ⟨rfl, hb1⟩)
    | (refine wpList_built rfl 83 _ rfl #[(0, .agg (BA I))] (by simp; rfl) (BA (ciph key 0)) (HBD.out w1) ?_))
  obtain ⟨W1, hW1⟩ : ∃ W, W = w1.alloc (.cells (BA (ciph key 0)) 83) := ⟨_, rfl⟩
  obtain ⟨g, hg⟩ : ∃ g, g = w1.heap.size := ⟨_, rfl⟩
  have hc1 : W1.heap[g]? = some (.cells (BA (ciph key 0)) 83 (0, 0)) := by rw [hW1, hg]; exact heap_alloc_new _ _
  have hgw : w.heap.size ≤ g := by rw [hg]; exact hb1.size
  have hbW : Below w.heap.size w W1 := by rw [hW1]; exact hb1.alloc hb1.size _
  rw [← hW1, ← hg]
  clear hW1 hg hb1 HAI HBD
  have hgl := lt_heap hc1
  have HSS : Hid (∀ W' : World, Below W1.heap.size W1 W' → W'.there g 512 M.length ∧ Below w.heap.size w W') := fun W' hb =>
    ⟨by rw [hMl]; exact there_BA ((hb.block _ hgl).trans hc1) (by rw [HLEN.out]; decide), hbW.trans (hb.mono hbW.size)⟩
  have HS2 : Hid (∀ W' : World, W'.there g 512 M.length ∧ Below w.heap.size w W' → (W'.setCells g 512 M).there g 512 M.length ∧ Below w.heap.size w (W'.setCells g 512 M)) := fun W' h =>
    ⟨World.there_setCells h.1 _ _ _, below_setCs h.2 hgw _ _⟩
  have hbx : Below W1.heap.size W1 W1.drew := (Below.refl _ _).drew
  have HC1 := Lib.hid (And.intro hc1 hgl)
  clear hc1 hbW hgl
  go_region_held3 (fun W' => W'.there g 512 M.length ∧ Below w.heap.size w W')
    (first
      | exact HSS.out _ hbx
      | exact HS2.out _ (HSS.out _ hbx))
    (first
      | (go_at_call 46; with_reducible (refine Calls.mono (HBO.out _ (HSS.out _ hbx).2) ?_); rintro e wq ⟨rfl, hbq⟩; have hbx : Below W1.heap.size W1 wq := chain hbx hbq; have hst := run_store_cells (P := Tryd.prog) wq g 512 M (HSS.out _ hbx).1 h1M)
      | fail)
  have hc1 := HC1.out.1
  have hgl := HC1.out.2
  have r1 : (wq.setCells g 512 M).heap[g]? = some (.cells (BA (ciph key 1)) 83 (0, 0)) := by
    rw [HM.out, ← HPUT.out 0]
    exact put_BA ((hbx.block _ hgl).trans hc1) 512 (rk key 0)
  have r2 := (HS2.out _ (HSS.out _ hbx)).2
  have R0 := Lib.hid (And.intro r1 r2)
  have HX0 : Hid (xpow 0 = 1) := rfl
  clear r1 r2 hc1 hgl HC1 HSS HS2 HM hst hlM h1M hMl hbq hbx HBO
  go_wp2
  go_loopw [5, 19] (fun v i wr => ∃ r : Nat, r ≤ 10 ∧ i = .int .i64 r ∧ v = .int .u8 (xpow r : Nat) ∧ wr.heap[g]? = some (.cells (BA (ciph key (r + 1))) 83 (0, 0)) ∧ Below w.heap.size w wr) (fun _ i _ => 10 - (intOf i).toNat)
  case atStart => exact ⟨0, by omega, rfl, by rw [HX0.out]; rfl, R0.out⟩
  case round =>
    clear R0
    obtain ⟨r, hr, rfl, rfl, r1, rb⟩ := hrel
    by_cases hlt : r < 10
    · obtain ⟨o1, ho1⟩ : ∃ o, o = 512 + 16 * r := ⟨_, rfl⟩
      obtain ⟨o2, ho2⟩ : ∃ o, o = 512 + 16 * (r + 1) := ⟨_, rfl⟩
      have hap : o2 = o1 + 16 := by omega
      have ho1l : o1 + 16 ≤ 688 := by omega
      have ho2l : o2 + 16 ≤ 688 := by omega
      have hgl := lt_heap r1
      have hkey := HKEY.out r (r + 1) (by omega) (by omega)
      have hput := HPUT.out (r + 1)
      rw [← ho1] at hkey
      rw [← ho2] at hput
      have hNK := fun (W : World) (hg : W.heap[g]? = some (.cells (BA (ciph key (r + 1))) 83 (0, 0))) => HNK.out g r W _ _ _ hlt hg
      rw [HNI.out r hlt] at hNK
      have hD := fun W => HDB.out (xpow r) W (xpow_lt r)
      rw [xpow_step r (by omega)] at hD
      have hLl := HRL.out r
      have hMl := HRL.out (r + 1)
      obtain ⟨l, hL⟩ : ∃ l, l = rk key r := ⟨_, rfl⟩
      obtain ⟨m, hM'⟩ : ∃ m, m = rk key (r + 1) := ⟨_, rfl⟩
      rw [← hL] at hLl hkey
      rw [← hM'] at hMl hput
      simp only [← hL, ← hM'] at hNK
      have hlL : (Tryd.prog.info? 80).map (·.size) = some l.length := by rw [hLl]; kernel_rfl
      have hlM : (Tryd.prog.info? 80).map (·.size) = some m.length := by rw [hMl]; kernel_rfl
      have HSS : Hid (∀ W' : World, Below wr.heap.size wr W' → W'.rangeAt g o1 (vals l) ∧ W'.there g o2 m.length ∧ Below w.heap.size w W') := fun W' hb => by
        have hq := (hb.block _ hgl).trans r1
        refine ⟨?_, by rw [hMl]; exact there_BA hq (by rw [HLEN.out]; exact ho2l), rb.trans (hb.mono rb.size)⟩
        have := range_BA hq (o := o1) (n := 16) (by rw [HLEN.out]; exact ho1l)
        rw [hkey] at this
        exact this
      have HS2 : Hid (∀ W' : World, W'.rangeAt g o1 (vals l) ∧ W'.there g o2 m.length ∧ Below w.heap.size w W' → (W'.setCells g o2 (vals m)).rangeAt g o1 (vals l) ∧ (W'.setCells g o2 (vals m)).there g o2 m.length ∧ Below w.heap.size w (W'.setCells g o2 (vals m))) := fun W' h =>
        ⟨World.rangeAt_setCells_apart h.1 _ _ _ (Or.inr (Or.inl (by rw [vals_len, hLl, hap]; exact Nat.le_refl _))), World.there_setCells h.2.1 _ _ _, below_setCs h.2.2 hgw _ _⟩
      have HR : Hid (∀ W' : World, Below wr.heap.size wr W' → (W'.setCells g o2 (vals m)).heap[g]? = some (.cells (BA (ciph key (r + 2))) 83 (0, 0))) := fun W' hb => by
        have := put_BA ((hb.block _ hgl).trans r1) o2 m
        rw [hput] at this
        exact this
      have HR1 : Hid (∀ W' : World, Below wr.heap.size wr W' → W'.heap[g]? = some (.cells (BA (ciph key (r + 1))) 83 (0, 0))) := fun W' hb => (hb.block _ hgl).trans r1
      obtain ⟨x, hx⟩ : ∃ x, x = xpow r := ⟨_, rfl⟩
      simp only [← hx] at hNK hD ⊢
      obtain ⟨y, hy⟩ : ∃ y, y = xpow (r + 1) := ⟨_, rfl⟩
      simp only [← hy] at hD
      have HNK1 := Lib.hid hNK
      have HD1 := Lib.hid hD
      have HY := Lib.hid hy
      have hbx : Below wr.heap.size wr wr.drew := (Below.refl _ _).drew
      have v1 : IntKind.i64.wrap ((r : Int) + 1) = (r : Int) + 1 := IntWalk.i64_in _ (by omega)
      have e1 : 512 + r * 16 = o1 := by omega
      have e2 : 512 + (r + 1) * 16 = o2 := by omega
      have k1 : (r : Int) < 10 := by omega
      have k5 : (r : Int) < 11 := by omega
      have k0 : (0 : Int) ≤ (r : Int) := by omega
      have k2 : (0 : Int) ≤ (r : Int) + 1 := by omega
      have k3 : (r : Int) + 1 < 11 := by omega
      have k4 : ((r : Int) + 1).toNat = r + 1 := by omega
      clear r1 rb hgl hL hM' hMl hLl hkey hput hNK hD hx hy ho1 ho2 hap ho1l ho2l
      go_wp2
      refine wp_region_held_drew (S := (fun W' => W'.rangeAt g o1 (vals l) ∧ W'.there g o2 m.length ∧ Below w.heap.size w W')) (by kernel_rfl) (HSS.out _ hbx) (fun hHeld => ?_)
      refine wpAnyH_take (i := 0) (oi := _) (v := ?_) rfl (by kernel_rfl) (by kernel_rfl) (by kernel_rfl) (fun _ _ _ h => h) (Or.inl ⟨by rfl, ?_⟩) (by assumption) ?_
      rotate_left 1
      · intro w hSw; clear hSw; first | (go_simp; done) | (go_simp; with_reducible rfl)
      change wpAnyH _ _ _ _ _ _ _ (Act.put _ (some 22) _) _
      (try simp only [Act.put, List.setIfInBounds_toArray, List.set_cons_zero, List.set_cons_succ])
      refine wpAnyH_take (i := 1) (oi := _) (v := ?_) rfl (by kernel_rfl) (by kernel_rfl) (by kernel_rfl) (fun _ _ _ h => h) (Or.inl ⟨by rfl, ?_⟩) (by assumption) ?_
      rotate_left 1
      · intro w hSw; clear hSw; first | (go_simp; done) | (go_simp; with_reducible rfl)
      change wpAnyH _ _ _ _ _ _ _ (Act.put _ (some 23) _) _
      (try simp only [Act.put, List.setIfInBounds_toArray, List.set_cons_zero, List.set_cons_succ])
      refine wpAnyH_take (i := 2) (oi := _) (v := ?_) rfl (by kernel_rfl) (by kernel_rfl) (by kernel_rfl) (fun _ _ _ h => h) (Or.inl ⟨by rfl, ?_⟩) (by assumption) ?_
      rotate_left 1
      · intro w hSw; clear hSw; first | (go_simp; done) | (go_simp; with_reducible rfl)
      change wpAnyH _ _ _ _ _ _ _ (Act.put _ (some 24) _) _
      (try simp only [Act.put, List.setIfInBounds_toArray, List.set_cons_zero, List.set_cons_succ])
      refine wpAnyH_take (i := 3) (oi := _) (v := ?_) rfl (by kernel_rfl) (by kernel_rfl) (by kernel_rfl) (fun _ _ _ h => h) (Or.inl ⟨by rfl, ?_⟩) (by assumption) ?_
      rotate_left 1
      · intro w hSw; clear hSw; first | (go_simp; done) | (go_simp; with_reducible rfl)
      change wpAnyH _ _ _ _ _ _ _ (Act.put _ (some 25) _) _
      (try simp only [Act.put, List.setIfInBounds_toArray, List.set_cons_zero, List.set_cons_succ])
      refine wpAnyH_take (i := 4) (oi := _) (v := ?_) rfl (by kernel_rfl) (by kernel_rfl) (by kernel_rfl) (fun _ _ _ h => h) (Or.inl ⟨by rfl, ?_⟩) (by assumption) ?_
      rotate_left 1
      · intro w hSw; clear hSw; first | (go_simp; done) | (go_simp; with_reducible rfl)
      change wpAnyH _ _ _ _ _ _ _ (Act.put _ (some 26) _) _
      (try simp only [Act.put, List.setIfInBounds_toArray, List.set_cons_zero, List.set_cons_succ])
      refine wpAnyH_take (i := 5) (oi := _) (v := ?_) rfl (by kernel_rfl) (by kernel_rfl) (by kernel_rfl) (fun _ _ _ h => h) (Or.inl ⟨by rfl, ?_⟩) (by assumption) ?_
      rotate_left 1
      · intro w hSw; clear hSw; first | (go_simp; done) | (go_simp; with_reducible rfl)
      change wpAnyH _ _ _ _ _ _ _ (Act.put _ (some 27) _) _
      (try simp only [Act.put, List.setIfInBounds_toArray, List.set_cons_zero, List.set_cons_succ])
      refine wpAnyH_take (i := 6) (oi := _) (v := ?_) rfl (by kernel_rfl) (by kernel_rfl) (by kernel_rfl) (fun _ _ _ h => h) (Or.inl ⟨by rfl, ?_⟩) (by assumption) ?_
      rotate_left 1
      · intro w hSw; clear hSw; first | (go_simp; done) | (go_simp; with_reducible rfl)
      change wpAnyH _ _ _ _ _ _ _ (Act.put _ (some 28) _) _
      (try simp only [Act.put, List.setIfInBounds_toArray, List.set_cons_zero, List.set_cons_succ])
      refine wpAnyH_take (i := 7) (oi := _) (v := ?_) rfl (by kernel_rfl) (by kernel_rfl) (by kernel_rfl) (fun _ _ _ h => h) (Or.inl ⟨by rfl, ?_⟩) (by assumption) ?_
      rotate_left 1
      · intro w hSw; clear hSw; first | (go_simp; done) | (go_simp; with_reducible rfl)
      change wpAnyH _ _ _ _ _ _ _ (Act.put _ (some 29) _) _
      (try simp only [Act.put, List.setIfInBounds_toArray, List.set_cons_zero, List.set_cons_succ])
      refine wpAnyH_take (i := 8) (oi := _) (v := ?_) rfl (by kernel_rfl) (by kernel_rfl) (by kernel_rfl) (fun _ _ _ h => h) (Or.inl ⟨by rfl, ?_⟩) (by assumption) ?_
      rotate_left 1
      · intro w hSw; clear hSw; first | (go_simp; done) | (go_simp; with_reducible rfl)
      change wpAnyH _ _ _ _ _ _ _ (Act.put _ (some 30) _) _
      (try simp only [Act.put, List.setIfInBounds_toArray, List.set_cons_zero, List.set_cons_succ])
      refine wpAnyH_take (i := 9) (oi := _) (v := ?_) rfl (by kernel_rfl) (by kernel_rfl) (by kernel_rfl) (fun _ _ _ h => h) (Or.inl ⟨by rfl, ?_⟩) (by assumption) ?_
      rotate_left 1
      · intro w hSw; clear hSw; first | (go_simp; done) | (go_simp; with_reducible rfl)
      change wpAnyH _ _ _ _ _ _ _ (Act.put _ (some 31) _) _
      (try simp only [Act.put, List.setIfInBounds_toArray, List.set_cons_zero, List.set_cons_succ])
      refine wpAnyH_take (i := 10) (oi := _) (v := ?_) rfl (by kernel_rfl) (by kernel_rfl) (by kernel_rfl) (fun _ _ _ h => h) (Or.inl ⟨by rfl, ?_⟩) (by assumption) ?_
      rotate_left 1
      · intro w hSw; clear hSw; first | (go_simp; done) | (go_simp; with_reducible rfl)
      change wpAnyH _ _ _ _ _ _ _ (Act.put _ (some 32) _) _
      (try simp only [Act.put, List.setIfInBounds_toArray, List.set_cons_zero, List.set_cons_succ])
      refine wpAnyH_take (i := 11) (oi := _) rfl (by kernel_rfl) (by kernel_rfl) (by kernel_rfl) (fun _ _ _ h => h) (yields_load_BA (by rfl) 80 _ rfl g o1 rfl l _ (fun _ h => h.1) hu rfl hlL) (by assumption) ?_
      change wpAnyH _ _ _ _ _ _ _ (Act.put _ (some 33) _) _
      (try simp only [Act.put, List.setIfInBounds_toArray, List.set_cons_zero, List.set_cons_succ])
      refine wpAnyH_take (i := 12) (oi := _) (v := ?_) rfl (by kernel_rfl) (by kernel_rfl) (by kernel_rfl) (fun _ _ _ h => h) (Or.inl ⟨by rfl, ?_⟩) (by assumption) ?_
      rotate_left 1
      · intro w hSw; clear hSw; first | (go_simp; done) | (go_simp; with_reducible rfl)
      change wpAnyH _ _ _ _ _ _ _ (Act.put _ (some 34) _) _
      (try simp only [Act.put, List.setIfInBounds_toArray, List.set_cons_zero, List.set_cons_succ])
      refine wpAnyH_take (i := 14) (oi := _) (v := ?_) rfl (by kernel_rfl) (by kernel_rfl) (by kernel_rfl) (fun _ _ _ h => h) (Or.inl ⟨by rfl, ?_⟩) (by assumption) ?_
      rotate_left 1
      · intro w hSw; clear hSw; first | (go_simp; done) | (go_simp; with_reducible rfl)
      change wpAnyH _ _ _ _ _ _ _ (Act.put _ (some 36) _) _
      (try simp only [Act.put, List.setIfInBounds_toArray, List.set_cons_zero, List.set_cons_succ])
      refine wpAnyH_take (i := 15) (oi := _) (v := ?_) rfl (by kernel_rfl) (by kernel_rfl) (by kernel_rfl) (fun _ _ _ h => h) (Or.inl ⟨by rfl, ?_⟩) (by assumption) ?_
      rotate_left 1
      · intro w hSw; clear hSw; first | (go_simp; done) | (go_simp; with_reducible rfl)
      change wpAnyH _ _ _ _ _ _ _ (Act.put _ (some 37) _) _
      (try simp only [Act.put, List.setIfInBounds_toArray, List.set_cons_zero, List.set_cons_succ])
      refine wpAnyH_ready (rs := [13]) (by kernel_rfl) (by simp) ?_
      refine AllReadyH.cons (o := _) rfl (fun K hK => ?_) AllReadyH.nil
      go_simp
      (go_at_call 47; with_reducible (refine Calls.mono (HNK1.out _ (HR1.out _ hbx)) ?_); rintro e wq ⟨rfl, hbq⟩; have hbx : Below wr.heap.size wr wq := chain hbx hbq)
      refine hK.out _ _ (HSS.out _ hbx) (fun hHeld13 => ?_)
      (try simp only [Act.put, List.setIfInBounds_toArray, List.set_cons_zero, List.set_cons_succ])
      clear hK K
      refine wpAnyH_take (i := 16) (oi := _) (v := ?_) rfl (by kernel_rfl) (by kernel_rfl) (by kernel_rfl) (fun _ _ _ h => h) (Or.inl ⟨by rfl, ?_⟩) (by assumption) ?_
      rotate_left 1
      · intro w hSw; clear hSw; first | (go_simp; done) | (go_simp; with_reducible rfl)
      change wpAnyH _ _ _ _ _ _ _ (Act.put _ (some 38) _) _
      (try simp only [Act.put, List.setIfInBounds_toArray, List.set_cons_zero, List.set_cons_succ])
      refine wpAnyH_ready (rs := [17]) (by kernel_rfl) (by simp) ?_
      refine AllReadyH.cons (o := _) rfl (fun K hK => ?_) AllReadyH.nil
      refine step_store_BA (by rfl) 80 _ _ rfl g o2 m rfl rfl (HSS.out _ hbx).2.1 hlM ?_
      refine hK.out _ _ (HS2.out _ (HSS.out _ hbx)) (fun hHeld17 => ?_)
      clear hK K
      refine wpAnyH_done (by kernel_rfl) ?_ _
      have R := Lib.hid (And.intro (HR.out _ hbx) (HS2.out _ (HSS.out _ hbx)).2.2)
      clear HR HR1 HS2 HSS hbq hbx hlM hlL
      go_wp2_with (go_at_call 48; with_reducible (refine Calls.mono (HD1.out _) ?_); rintro e w' ⟨rfl, rfl⟩)
      go_roundw
      case rel => first | exact ⟨r + 1, by omega, by go_num, by rw [← HY.out], R.out⟩ | ((repeat apply Exists.intro); exact ⟨⟨r + 1, by omega, by go_num, by rw [← HY.out], R.out⟩, rfl⟩)
      case measure => simp [intOf]; omega
    · have hr' : r = 10 := by omega
      subst hr'
      have HRC : Hid (Ciph wr ⟨g, 0, none⟩ key) := ⟨hKL.out.1, hKL.out.2, g, _, _, rfl, r1⟩
      clear r1
      go_wp2
      go_ret2
      exact ⟨_, rfl, HRC.out, rb⟩

end Go.Proofs.YtanpfodmmeagaaaDoor
