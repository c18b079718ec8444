/-
  The program's Apply. The program's stream is as it is asked to be.
-/
import Derived.Test.YtanpfodmmeagaaaDoorStrC1G
import Derived.Test.YtanpfodmmeagaaaDoorStrRangeG
import Derived.Test.YtanpfodmmeagaaaDoorAesCBlk
import Derived.Test.YtanpfodmmeagaaaDoorAesCNew
import Derived.Test.YtanpfodmmeagaaaDoorAesBlkG
namespace Go.Proofs.YtanpfodmmeagaaaDoor
open Go.RowKit Go.Shelf
attribute [local go_sem] Oper.semAt_some

/-- Some blocks hold what is listed. -/
def Has (l : List (Nat × Obj)) (W : World) : Prop := ∀ p ∈ l, W.heap[p.1]? = some p.2
theorem Has.lt {l : List (Nat × Obj)} {W : World} (h : Has l W) {p : Nat × Obj} (hp : p ∈ l) : p.1 < W.heap.size := lt_heap (h p hp)
theorem Has.below {l : List (Nat × Obj)} {W W' : World} (h : Has l W) (hb : Below W.heap.size W W') : Has l W' := fun p hp => (hb.block _ (h.lt hp)).trans (h p hp)
theorem Has.other {l : List (Nat × Obj)} {W W' : World} {g : Nat} (h : Has l W) (hg : ∀ p ∈ l, p.1 ≠ g) (hk : ∀ k, k ≠ g → W'.heap[k]? = W.heap[k]?) : Has l W' := fun p hp => (hk _ (hg p hp)).trans (h p hp)

theorem new_no (A : Option Addr) (n c : Nat) (w : World) (hn : n ≠ 16) : Calls Tryd.prog 31 #[.slice A n c] w fun e w' => e = .returned (.tuple #[.pointer none, .int .i64 1]) ∧ w = w' := by
  have h1 : ¬ (n : Int) = 16 := by omega
  go_enter Tryd.func31, Tryd.ntmps31
  go_wp2
  go_ret2
  exact ⟨rfl, rfl⟩

/-- What the rounds keep: nothing that was there ahead has turned; the blocks hold what they should. -/
def AppI (n0 : Nat) (w : World) (l : Nat → List (Nat × Obj)) (k : Nat) (W : World) : Prop := Below n0 w W ∧ Has (l k) W
section
variable {n0 : Nat} {w : World} {l : Nat → List (Nat × Obj)} {k : Nat} {W W' : World}
theorem AppI.below (h : AppI n0 w l k W) (hn : n0 ≤ w.heap.size) (hb : Below W.heap.size W W') : AppI n0 w l k W' := ⟨h.1.trans (hb.mono (Nat.le_trans hn h.1.size)), h.2.below hb⟩
theorem AppI.put (h : AppI n0 w l k W) {b : Nat} (hn : n0 ≤ b) (hl : ∀ p ∈ l k, p.1 ≠ b) (o : Obj) : AppI n0 w l k (W.putObj b o) :=
  ⟨⟨h.1.os, h.1.tape, h.1.output, by rw [World.putObj_size]; exact h.1.size, fun j hj => (World.putObj_heap_other (by omega)).trans (h.1.block j hj)⟩, h.2.other hl fun j hj => World.putObj_heap_other hj⟩
theorem AppI.cell (h : AppI n0 w l k W) {b : Nat} (hn : n0 ≤ b) (hl : ∀ p ∈ l k, p.1 ≠ b) (i : Nat) (v : Value) : AppI n0 w l k (W.setCell ⟨b, i, none⟩ v) :=
  ⟨h.1.setCell (p := ⟨b, i, none⟩) hn v, h.2.other hl fun j hj => heap_cell_other W b i j v hj⟩
end

/-- 'make([]byte, 0, L)'. -/
theorem make_room (L : Nat) (hL : L ≤ 1048576) (W : World) : (Instr.makeSlice 24 (.int .i64 0) (.int .i64 (L : Int))).run Tryd.prog W = .ok (.slice (some ⟨W.heap.size, 0, none⟩) 0 L) (W.alloc (.cells (BA (zeros L)) 5)) := by
  obtain ⟨i0, hi, hz0, hz1, hz2⟩ := info_parts Tryd.infoU8s
  have hr := run_make (P := Tryd.prog) W 24 5 i0 (.int .u8 0) Tryd.underlying24 hi hz0 .i64 .i64 0 L (Int.le_refl _) (by omega) (by rw [hz2]; omega) (by omega)
  have hm : madeCells (Value.int .u8 0).cells (((L : Int)).toNat * i0.size) = BA (zeros L) := by
    rw [hz1, Nat.mul_one, Int.toNat_natCast]
    apply Array.toList_inj.1
    rw [show (Value.int IntKind.u8 0).cells = #[Value.int .u8 0] from rfl, toList_madeCells_one]
    simp [BA, zeros]
  rw [hm, Int.toNat_natCast, Int.toNat_zero] at hr
  exact hr
/-- append of one byte, with room. -/
theorem append_one (br m L tb x : Nat) (l : List Nat) (t : TypeId) (W : World) (hm : m < L) (hlen : l.length = L) (hb : W.heap[br]? = some (.cells (BA l) t (0, 0))) (ht : W.cell? ⟨tb, 0, none⟩ = some (.int .u8 (x : Int))) (ty : TypeId) :
    (Builtin.append_ #[24, 24] ty #[.slice (some ⟨br, 0, none⟩) m L, .slice (some ⟨tb, 0, none⟩) 1 1]).run Tryd.prog W = .ok (.slice (some ⟨br, 0, none⟩) (m + 1) L) (W.setCell ⟨br, m, none⟩ (.int .u8 (x : Int))) := by
  obtain ⟨i0, hi, hz0, hz1, hz2⟩ := info_parts Tryd.infoU8s
  have h := run_append_room_cells (P := Tryd.prog) W 24 ty 5 i0 Tryd.underlying24 hi br 0 m L ⟨tb, 0, none⟩ 1 1 [.int .u8 (x : Int)] (by rw [hz1]; rfl)
    (fun j u hj => by
      rcases j with _ | j
      · simp at hj; subst hj; exact ht
      · simp at hj) (by intro u hu; simp at hu; subst hu; rfl) (by omega)
    (fun j hj => by
      have : j = 0 := by simpa using hj
      subst this
      rw [hz1, Nat.mul_one, Nat.zero_add, Nat.add_zero, BA_cell hb (i := m) (by omega)]; rfl)
    (fun j hj => frozen_of_row _ _ _ _ _ hb)
  rw [hz1, Nat.mul_one, Nat.zero_add] at h
  exact h

/-- The text so far. -/
def outL (X : List Nat) (L m : Nat) : List Nat := X.take m ++ zeros (L - m)
theorem outL_len {X : List Nat} {L m : Nat} (hX : X.length = L) (hm : m ≤ L) : (outL X L m).length = L := by
  unfold outL
  rw [List.length_append, List.length_take, zeros_len, hX]; omega
theorem outL_set {X : List Nat} {L m : Nat} (hX : X.length = L) (hm : m < L) : (outL X L m).set m (X.getD m 0) = outL X L (m + 1) := by
  unfold outL
  have h1 : (X.take m).length = m := by rw [List.length_take, hX]; omega
  have h2 : zeros (L - m) = 0 :: zeros (L - (m + 1)) := by
    unfold zeros
    rw [show L - m = (L - (m + 1)) + 1 by omega, List.replicate_succ]
  rw [List.set_append_right _ _ (by omega), h1, Nat.sub_self, h2, List.set_cons_zero, List.take_succ_eq_append_getElem (by omega), List.append_assoc]
  simp [List.getD_eq_getElem?_getD, show m < X.length by omega]
theorem outL_all {X : List Nat} {L : Nat} (hX : X.length = L) : outL X L L = X := by
  unfold outL
  rw [List.take_of_length_le (by omega), Nat.sub_self]
  simp [zeros]

/-- The blocks of Apply when m bytes are enciphered. -/
def appL (cg s B L V c2 : Nat) (ct : TypeId) (cf : Nat × Nat) (A2 : Option Addr) (key X : List Nat) (m : Nat) : List (Nat × Obj) :=
  [(cg, .cells (BA (ciph key 11)) ct cf), (s, .cells #[.pointer (some ⟨cg, 0, none⟩)] 49 (0, 0)), (s + 1, .cells (BA (outL X L m)) 5 (0, 0)),
   (s + 1 + 1, .cells #[.slice (some ⟨s + 1, 0, none⟩) m L] 24 (0, 0)), (B, .cells #[.int .u64 (hiN V : Nat), .int .u64 (loN V : Nat)] 56 (0, 0)), (B + 1, .cells #[.slice A2 L c2] 24 (0, 0))]
theorem appL_lt {cg s B L V c2 D : Nat} {ct : TypeId} {cf : Nat × Nat} {A2 : Option Addr} {key X : List Nat} {m : Nat} (h1 : cg < D) (h2 : s + 1 + 1 < D) (h3 : B + 1 < D) : ∀ p ∈ appL cg s B L V c2 ct cf A2 key X m, p.1 < D := by
  intro p hp
  simp only [appL, List.mem_cons, List.not_mem_nil, or_false] at hp
  rcases hp with rfl | rfl | rfl | rfl | rfl | rfl <;> simp only [] <;> omega

set_option maxRecDepth 20000 in
set_option maxHeartbeats 3200000 in
theorem apply_go (A0 A1 A2 : Option Addr) (c0 c1 c2 : Nat) (key ctr text : List Nat) (w : World) (h0 : Ints w w.heap.size .u8 A0 (up key)) (h1 : Ints w w.heap.size .u8 A1 (up ctr)) (h2 : Ints w w.heap.size .u8 A2 (up text))
    (hk : ∀ x ∈ key, x < 256) (hc : ∀ x ∈ ctr, x < 256) (ht : ∀ x ∈ text, x < 256) (hkl : key.length = 16) (hcl : ctr.length = 16) (hc0 : 16 ≤ c0) (hc1 : 16 ≤ c1) (hc2 : text.length ≤ c2) (htl : text.length ≤ 1048576) :
    Calls Tryd.prog 21 #[.slice A0 16 c0, .slice A1 16 c1, .slice A2 text.length c2] w fun e w' => ∃ A c, e = .returned (.tuple #[.slice A text.length c, .int .i64 0]) ∧ text.length ≤ c ∧ (A = none → c = 0) ∧ Ints w' w'.heap.size .u8 A (up (applyN key ctr text)) ∧ Below w.heap.size w w' := by
  obtain ⟨L, hL⟩ : ∃ L, L = text.length := ⟨_, rfl⟩
  rw [← hL] at hc2 htl ⊢
  obtain ⟨V, hV⟩ : ∃ V, V = valB ctr := ⟨_, rfl⟩
  have H1 : Hid (Calls Tryd.prog 31 #[.slice A0 16 c0] w fun e w' => ∃ cg ct cf, e = .returned (.tuple #[.pointer (some ⟨cg, 0, none⟩), .int .i64 0]) ∧ w'.heap[cg]? = some (.cells (BA (ciph key 11)) ct cf) ∧ Below w.heap.size w w') :=
    (aesNew_any A0 c0 key w h0 hk hkl hc0).mono fun e w' ⟨a, q1, ⟨_, _, cg, ct, cf, q2, q3⟩, q4⟩ => ⟨cg, ct, cf, q2 ▸ q1, q3, q4⟩
  have H2 := Lib.hid (fun (W : World) (hb : Below w.heap.size w W) => numberOf_any A1 c1 ctr W ((h1.below hb).more hb.size) hcl hc hc1)
  have H3 := Lib.hid (pieces_any V A2 L c2)
  rw [← hV] at H2
  have hmk := make_room L htl
  obtain ⟨Z, hZ⟩ : ∃ Z, Z = BA (zeros L) := ⟨_, rfl⟩
  rw [← hZ] at hmk
  have HZ := Lib.hid hZ
  have hb0 : Below w.heap.size w w := Below.refl _ _
  have HT := Lib.hid (And.intro h2 (And.intro hk (And.intro ht (And.intro hkl (And.intro hL (And.intro hV (And.intro hc hcl)))))))
  clear hZ h0 h1 h2 hk hc ht hkl hcl hL hV
  refine callsIn_wide.1 (callsIn_of_wp_marks (n := 7) Tryd.func21 rfl trivial ?_ rfl)
  refine wpIn_wide.2 ?_
  simp only [Tryd.ntmps21, List.size_toArray, List.length_cons, List.length_nil, Nat.reduceAdd, Nat.reduceSub, Array.replicate_succ, Array.replicate_zero, List.push_toArray, List.append_toArray, List.nil_append, List.cons_append]
  go_wp2_with (first
    | (go_at_call 31; with_reducible (refine Calls.mono H1.out ?_); rintro e w1 ⟨cg, ct, cf, rfl, hcg, hb1⟩)
    | (go_at_call 33; with_reducible (refine Calls.mono (H2.out _ ?hb) ?_); (case hb => exact ((hb1.alloc hb1.size _).alloc (by have := hb1.size; simp; omega) _).alloc (by have := hb1.size; simp; omega) _); rintro e w2 ⟨rfl, hb2⟩)
    | (go_at_call 32; with_reducible (refine Calls.mono (H3.out _) ?_); rintro e w3 ⟨rfl, rfl⟩))
  have hn1 := hb1.size
  have hn2 : w1.heap.size + 1 + 1 + 1 ≤ w2.heap.size := by have := hb2.size; simpa using this
  have hcl := lt_heap hcg
  have hC2 : w2.heap[cg]? = some (.cells (BA (ciph key 11)) ct cf) := (hb2.block cg (by simp; omega)).trans ((Below.heap_alloc _ _ _ (by simp; omega)).trans ((Below.heap_alloc _ _ _ (by simp; omega)).trans ((Below.heap_alloc _ _ _ hcl).trans hcg)))
  have hP2 : w2.heap[w1.heap.size]? = some (.cells #[.pointer (some ⟨cg, 0, none⟩)] 49 (0, 0)) := (hb2.block _ (by simp; omega)).trans ((Below.heap_alloc _ _ _ (by simp; omega)).trans ((Below.heap_alloc _ _ _ (by simp)).trans (heap_alloc_new _ _)))
  have hR2 : w2.heap[w1.heap.size + 1]? = some (.cells Z 5 (0, 0)) := (hb2.block _ (by simp)).trans ((Below.heap_alloc _ _ _ (by simp)).trans (heap_alloc_new' _ _ _ (by simp)))
  have hO2 : w2.heap[w1.heap.size + 1 + 1]? = some (.cells #[.slice (some ⟨w1.heap.size + 1, 0, none⟩) 0 L] 24 (0, 0)) := (hb2.block _ (by simp)).trans (heap_alloc_new' _ _ _ (by simp))
  have hB2 : Below w.heap.size w w2 := (((hb1.alloc hn1 _).alloc (by simp; omega) _).alloc (by simp; omega) _).trans (hb2.mono (by simp; omega))
  clear hb2 hcg hmk H1 H2 H3
  obtain ⟨X, hX⟩ : ∃ X, X = applyN key ctr text := ⟨_, rfl⟩
  have hXL : X.length = L := by rw [hX, applyN_len]; exact HT.out.2.2.2.2.1.symm
  rw [HZ.out] at hR2
  obtain ⟨W0, hW0⟩ : ∃ W0, W0 = (w2.alloc (.cells #[.int .u64 (hiN V : Nat), .int .u64 (loN V : Nat)] 56)).alloc (.cells #[.slice A2 L c2] 24) := ⟨_, rfl⟩
  rw [← hW0]
  have hs0 : W0.heap.size = w2.heap.size + 2 := by rw [hW0]; simp
  have hb20 : Below w2.heap.size w2 W0 := by rw [hW0]; exact ((Below.refl _ _).alloc (Nat.le_refl _) _).alloc (by simp) _
  have hcl2 := lt_heap hC2
  have HLT : Hid (∀ m, ∀ p ∈ appL cg w1.heap.size w2.heap.size L V c2 ct cf A2 key X m, p.1 < W0.heap.size) := fun m => appL_lt (by omega) (by omega) (by omega)
  have hI0 : AppI w.heap.size w (fun k => appL cg w1.heap.size w2.heap.size L V c2 ct cf A2 key X (min (16 * k) L)) 0 W0 := by
    refine ⟨hB2.trans (hb20.mono (by omega)), fun p hp => ?_⟩
    simp only [appL, List.mem_cons, List.not_mem_nil, or_false] at hp
    rcases hp with rfl | rfl | rfl | rfl | rfl | rfl
    · exact (hb20.block _ (by omega)).trans hC2
    · exact (hb20.block _ (by omega)).trans hP2
    · refine (hb20.block _ (by simp only []; omega)).trans ?_
      rw [hR2]; simp [outL]
    · refine (hb20.block _ (by simp only []; omega)).trans ?_
      rw [hO2]; simp
    · rw [hW0]; exact (Below.heap_alloc _ _ _ (by simp)).trans (heap_alloc_new _ _)
    · rw [hW0]; exact heap_alloc_new' _ _ _ (by simp)
  have hHA : ∃ b o, 0 < L → A2 = some ⟨b, o, none⟩ := by
    by_cases h : 0 < L
    · obtain ⟨b, o, h1, _⟩ := HT.out.1.at_ (by rw [up_len, ← HT.out.2.2.2.2.1]; exact h)
      exact ⟨b, o, fun _ => h1⟩
    · exact ⟨0, 0, fun h' => absurd h' h⟩
  obtain ⟨b, o, hA2⟩ := hHA
  have hn0 : w.heap.size ≤ W0.heap.size := by omega
  have HS0 := Lib.hid hs0
  have HXL := Lib.hid hXL
  have HX := Lib.hid hX
  have HCL := Lib.hid (And.intro hcl hn2)
  clear hX
  clear hs0 hC2 hP2 hR2 hO2 hB2 HZ hb20 hW0
  refine wp_range_own (w := W0) (lb := #[.pointer (some ⟨w2.heap.size, 0, none⟩), .pointer (some ⟨w2.heap.size + 1, 0, none⟩)]) rfl (enters_of Tryd.func49 (by kernel_rfl) rfl) (encsP V b o L c2) (fun _ => rfl) (piecesN L)
    (AppI w.heap.size w (fun k => appL cg w1.heap.size w2.heap.size L V c2 ct cf A2 key X (min (16 * k) L)))
    (fun k A B h hb => h.below (Nat.le_refl _) hb)
    (fun k A g ob hg h => h.put (by omega) (fun p hp => by have := HLT.out _ p hp; omega) ob)
    (fun k A i u h => h.cell (by omega) (fun p hp => by have := HLT.out _ p hp; omega) i u)
    hI0 ?seq ?round ?done
  case seq =>
    intro l J W hs hJb hJs hJI hY h0
    refine pieces1_in l w2.heap.size (w2.heap.size + 1) V b o L c2 A2 hA2 htl hc2 J W hJb hJs (fun k A h => (hJI k A h).2 (w2.heap.size, .cells #[.int .u64 (hiN V : Nat), .int .u64 (loN V : Nat)] 56 (0, 0)) (by simp [appL])) (fun k A h => (hJI k A h).2 (w2.heap.size + 1, .cells #[.slice A2 L c2] 24 (0, 0)) (by simp [appL])) hY h0
  case round =>
    intro l k W hkN hI hG
    have hkL : 16 * k < L := by unfold piecesN at hkN; omega
    obtain rfl := hA2 (by omega)
    simp only [encsP]
    obtain ⟨n, hn⟩ : ∃ n, n = min (16 * k + 16) L - 16 * k := ⟨_, rfl⟩
    rw [← hn]
    have hnL : 16 * k + n ≤ L := by omega
    have hn16 : n ≤ 16 := by omega
    have HNN : Hid (16 * k + n = min (16 * (k + 1)) L) := by unfold Hid; omega
    clear hn
    gi_wp2
    refine ⟨fun b hb => Below.heap_alloc _ _ _ hb, fun ob => ?_⟩
    obtain ⟨Wb, hWb⟩ : ∃ Wb, Wb = (W.alloc (.cells #[.int .u64 (hiN (V + k) : Nat), .int .u64 (loN (V + k) : Nat)] 56)).putObj (W0.heap.size + 1) ob := ⟨_, rfl⟩
    rw [← hWb]
    have hWbs : Wb.heap.size = W.heap.size + 1 := by rw [hWb, World.putObj_size]; simp
    have hs0 := HS0.out
    have hIb : AppI w.heap.size w (fun k => appL cg w1.heap.size w2.heap.size L V c2 ct cf (some ⟨b, o, none⟩) key X (min (16 * k) L)) k Wb := by
      rw [hWb]
      exact AppI.put (AppI.below hI (Nat.le_refl _) ((Below.refl _ _).alloc (Nat.le_refl _) _)) (by omega) (fun p hp => by have := HLT.out _ p hp; omega) ob
    have hat : Wb.heap[W.heap.size]? = some (.cells #[.int .u64 (hiN (V + k) : Nat), .int .u64 (loN (V + k) : Nat)] 56 (0, 0)) := by
      rw [hWb]; exact (World.putObj_heap_other (by omega)).trans (heap_alloc_new _ _)
    obtain ⟨hBb, hHb⟩ := hIb
    have hHb : Has (appL cg w1.heap.size w2.heap.size L V c2 ct cf (some ⟨b, o, none⟩) key X (16 * k)) Wb := by
      have h := hHb
      simp only [] at h
      rwa [show min (16 * k) L = 16 * k by omega] at h
    have hcp := cell_of_row Wb w1.heap.size 0 _ _ _ (hHb (w1.heap.size, .cells #[.pointer (some ⟨cg, 0, none⟩)] 49 (0, 0)) (by simp [appL]))
    have hci := hHb (cg, .cells (BA (ciph key 11)) ct cf) (by simp [appL])
    have hq0 := cell_of_row Wb W.heap.size 0 _ _ _ hat
    have hq1 := cell_of_row Wb W.heap.size 1 _ _ _ hat
    have HSS : Hid (∀ W', Below Wb.heap.size Wb W' → W'.cell? ⟨w1.heap.size, 0, none⟩ = some (.pointer (some ⟨cg, 0, none⟩)) ∧ W'.cell? ⟨W.heap.size, 0, none⟩ = some (.int .u64 (hiN (V + k) : Nat)) ∧ W'.cell? ⟨W.heap.size, 1, none⟩ = some (.int .u64 (loN (V + k) : Nat))) := fun W' hb =>
      ⟨(hb.cell (p := ⟨_, 0, none⟩) (by simp only []; omega)).trans hcp, (hb.cell (p := ⟨_, 0, none⟩) (by simp only []; omega)).trans hq0, (hb.cell (p := ⟨_, 1, none⟩) (by simp only []; omega)).trans hq1⟩
    have H2 := Lib.hid (fun W' => numBytes_any (V + k) W')
    obtain ⟨M, hM⟩ : ∃ M, M = encN key (be16 (V + k)) := ⟨_, rfl⟩
    have H3 : Hid (∀ (W' : World) (A : Option Addr) (c : Nat), Below Wb.heap.size Wb W' → 16 ≤ c → Ints W' W'.heap.size .u8 A (up (be16 (V + k))) → Calls Tryd.prog 34 #[.pointer (some ⟨cg, 0, none⟩), .slice A 16 c] W' fun e w' => ∃ g, e = .returned (.tuple #[.slice (some ⟨g, 0, none⟩) 16 16, .int .i64 0]) ∧ w'.heap[g]? = some (.cells (BA M) 5 (0, 0)) ∧ Below W'.heap.size W' w' ∧ W'.heap.size ≤ g) := fun W' A c hb hc hi => by
      rw [hM]
      exact aesBlock_new ⟨cg, 0, none⟩ key A c _ W' ⟨HT.out.2.2.2.1, HT.out.2.1, cg, ct, cf, rfl, (hb.block cg (by omega)).trans hci⟩ hi (be16_ok _).lt (be16_ok _).len hc
    have hbx : Below Wb.heap.size Wb Wb.drew := (Below.refl _ _).drew
    have HHB := Lib.hid hHb
    have HBB := Lib.hid hBb
    have HM : Hid (M.length = 16 ∧ (∀ j, M.getD j 0 < 256) ∧ ∀ j, j < n → X.getD (16 * k + j) 0 = text.getD (16 * k + j) 0 ^^^ M.getD j 0) := by
      have hkk := HT.out.2.1
      have hok := encN_ok hkk (be16_ok (V + k))
      refine ⟨by rw [hM]; exact hok.len, fun j => by rw [hM]; exact hok.at_ j, fun j hj => ?_⟩
      rw [HX.out, applyN_at _ _ _ _ (by rw [← HT.out.2.2.2.2.1]; omega), ← maskN_step key ctr k j (by omega), hM]
      unfold ctrAdd
      rw [HT.out.2.2.2.2.2.1]
    have HSZ := Lib.hid (And.intro hWbs (And.intro hG (And.intro hs0 (And.intro HCL.out.1 HCL.out.2))))
    clear hcp hci hq0 hq1 hat hI hHb hBb hWb hM hWbs hs0
    gi_wp2
    refine wpIn_round_held (S := (fun W' => W'.cell? ⟨w1.heap.size, 0, none⟩ = some (.pointer (some ⟨cg, 0, none⟩)) ∧ W'.cell? ⟨W.heap.size, 0, none⟩ = some (.int .u64 (hiN (V + k) : Nat)) ∧ W'.cell? ⟨W.heap.size, 1, none⟩ = some (.int .u64 (loN (V + k) : Nat)))) (by rintro ⟨_, _, h⟩; have h' : Exit.outgrown = Exit.normal ∧ _ := h; exact absurd h'.1 (by simp)) (by kernel_rfl) (by kernel_rfl) (HSS.out _ hbx) (fun hHeld => ?_)
    refine wpAnyH_take (i := 0) (oi := _) (v := ?_) rfl (by kernel_rfl) (by kernel_rfl) (by kernel_rfl) (fun _ _ _ h => h) (Or.inl ⟨by rfl, ?_⟩) (by assumption) ?_
    rotate_left 1
    · intro w hSw; obtain ⟨h1, h2, h3⟩ := hSw; first | (go_simp; done) | (go_simp; with_reducible rfl)
    change wpAnyH _ _ _ _ _ _ _ (Act.put _ (some 42) _) _
    (try simp only [Act.put, List.setIfInBounds_toArray, List.set_cons_zero, List.set_cons_succ])
    refine wpAnyH_take (i := 1) (oi := _) (v := ?_) rfl (by kernel_rfl) (by kernel_rfl) (by kernel_rfl) (fun _ _ _ h => h) (Or.inl ⟨by rfl, ?_⟩) (by assumption) ?_
    rotate_left 1
    · intro w hSw; obtain ⟨h1, h2, h3⟩ := hSw; first | (go_simp; done) | (go_simp; with_reducible rfl)
    change wpAnyH _ _ _ _ _ _ _ (Act.put _ (some 43) _) _
    (try simp only [Act.put, List.setIfInBounds_toArray, List.set_cons_zero, List.set_cons_succ])
    refine wpAnyH_ready (rs := [2]) (by kernel_rfl) (by simp) ?_
    refine AllReadyH.cons (o := _) rfl (fun K hK => ?_) AllReadyH.nil
    go_simp
    (go_at_call 35; with_reducible (refine Calls.mono (H2.out _) ?_); rintro e w3 ⟨A3, c3, rfl, hc3, hi3, hb3⟩; replace hbx := chain hbx hb3)
    refine hK.out _ _ (HSS.out _ hbx) (fun hHeld2 => ?_)
    (try simp only [Act.put, List.setIfInBounds_toArray, List.set_cons_zero, List.set_cons_succ])
    clear hK K
    refine wpAnyH_ready (rs := [3]) (by kernel_rfl) (by simp) ?_
    refine AllReadyH.cons (o := _) rfl (fun K hK => ?_) AllReadyH.nil
    go_simp
    (go_at_call 34; with_reducible (refine Calls.mono (H3.out _ _ _ hbx hc3 hi3) ?_); rintro e w4 ⟨mg, rfl, hmg, hb4, hn4⟩; have hn5 := Nat.le_trans hbx.size hn4; replace hbx := chain hbx hb4)
    refine hK.out _ _ (HSS.out _ hbx) (fun hHeld3 => ?_)
    (try simp only [Act.put, List.setIfInBounds_toArray, List.set_cons_zero, List.set_cons_succ])
    clear hK K
    refine wpAnyH_take (i := 4) (oi := _) (v := ?_) rfl (by kernel_rfl) (by kernel_rfl) (by kernel_rfl) (fun _ _ _ h => h) (Or.inl ⟨by rfl, ?_⟩) (by assumption) ?_
    rotate_left 1
    · intro w hSw; clear hSw; first | (go_simp; done) | (go_simp; with_reducible rfl)
    change wpAnyH _ _ _ _ _ _ _ (Act.put _ (some 41) _) _
    (try simp only [Act.put, List.setIfInBounds_toArray, List.set_cons_zero, List.set_cons_succ])
    refine wpAnyH_take (i := 5) (oi := _) (v := ?_) rfl (by kernel_rfl) (by kernel_rfl) (by kernel_rfl) (fun _ _ _ h => h) (Or.inl ⟨by rfl, ?_⟩) (by assumption) ?_
    rotate_left 1
    · intro w hSw; clear hSw; first | (go_simp; done) | (go_simp; with_reducible rfl)
    change wpAnyH _ _ _ _ _ _ _ (Act.put _ (some 46) _) _
    (try simp only [Act.put, List.setIfInBounds_toArray, List.set_cons_zero, List.set_cons_succ])
    refine wpAnyH_take (i := 7) (oi := _) (v := ?_) rfl (by kernel_rfl) (by kernel_rfl) (by kernel_rfl) (fun _ _ _ h => h) (Or.inl ⟨by rfl, ?_⟩) (by assumption) ?_
    rotate_left 1
    · intro w hSw; clear hSw; first | (go_simp; done) | (go_simp; with_reducible rfl)
    change wpAnyH _ _ _ _ _ _ _ (Act.put _ (some 13) _) _
    (try simp only [Act.put, List.setIfInBounds_toArray, List.set_cons_zero, List.set_cons_succ])
    refine wpAnyH_take (i := 6) (oi := _) (v := ?_) rfl (by kernel_rfl) (by kernel_rfl) (by kernel_rfl) (fun _ _ _ h => h) (Or.inl ⟨by rfl, ?_⟩) (by assumption) ?_
    rotate_left 1
    · intro w hSw; clear hSw; first | (go_simp; done) | (go_simp; with_reducible rfl)
    change wpAnyH _ _ _ _ _ _ _ (Act.put _ (some 47) _) _
    (try simp only [Act.put, List.setIfInBounds_toArray, List.set_cons_zero, List.set_cons_succ])
    refine wpAnyH_take (i := 8) (oi := _) (v := ?_) rfl (by kernel_rfl) (by kernel_rfl) (by kernel_rfl) (fun _ _ _ h => h) (Or.inl ⟨by rfl, ?_⟩) (by assumption) ?_
    rotate_left 1
    · intro w hSw; clear hSw; first | (go_simp; done) | (go_simp; with_reducible rfl)
    change wpAnyH _ _ _ _ _ _ _ (Act.put _ (some 14) _) _
    (try simp only [Act.put, List.setIfInBounds_toArray, List.set_cons_zero, List.set_cons_succ])
    refine wpAnyH_done (by kernel_rfl) ?_ _
    obtain ⟨hWbs, hG, hs0, hcl, hn2⟩ := HSZ.out
    have hn3 := hb3.size
    have HG := Lib.hid (And.intro hWbs (And.intro hG (And.intro hs0 (And.intro hn5 (And.intro hn3 (And.intro hcl hn2))))))
    have HC0 : Hid (Below w.heap.size w w4 ∧ Has (appL cg w1.heap.size w2.heap.size L V c2 ct cf (some ⟨b, o, none⟩) key X (16 * k + 0)) w4 ∧ w4.heap[mg]? = some (.cells (BA M) 5 (0, 0)) ∧ w4.heap.size ≤ w4.heap.size ∧ ∀ d, W0.heap.size ≤ d → d ≤ W0.heap.size + 2 → w4.heap[d]? = Wb.heap[d]?) := by
      refine ⟨HBB.out.trans (hbx.mono (by have := HBB.out.size; omega)), HHB.out.below hbx, hmg, Nat.le_refl _, fun d h1 h2 => hbx.block d (by omega)⟩
    have hgm4 := lt_heap hmg
    have HGM := Lib.hid hgm4
    clear HSS hbx hmg hb3 hb4 hn4 hn5 hn3 hgm4 hi3 H2 H3 HHB HBB hs0 hG hWbs HSZ hcl hn2
    gi_wp2
    gi_loopw [50] (fun iv wr => ∃ i : Nat, iv = .int .i64 (i : Int) ∧ i ≤ n ∧ Hid (Below w.heap.size w wr ∧ Has (appL cg w1.heap.size w2.heap.size L V c2 ct cf (some ⟨b, o, none⟩) key X (16 * k + i)) wr ∧ wr.heap[mg]? = some (.cells (BA M) 5 (0, 0)) ∧ w4.heap.size ≤ wr.heap.size ∧ ∀ d, W0.heap.size ≤ d → d ≤ W0.heap.size + 2 → wr.heap[d]? = Wb.heap[d]?)) (fun iv _ => n - (intOf iv).toNat)
    case atStart => exact ⟨0, rfl, Nat.zero_le _, HC0.out⟩
    case round =>
      obtain ⟨i, rfl, hin, hS⟩ := hrel
      clear HC0
      by_cases hlt : i < n
      · obtain ⟨hB, hH, hm, hsz, hD⟩ := hS.out
        obtain ⟨hWbs, hG, hs0, hn5, hn3, hcl, hn2⟩ := HG.out
        have hgm4 := HGM.out
        obtain ⟨hMl, hMb, hMX⟩ := HM.out
        obtain ⟨x, hx⟩ : ∃ x, x = text.getD (16 * k + i) 0 := ⟨_, rfl⟩
        obtain ⟨mk, hmk⟩ : ∃ mk, mk = M.getD i 0 := ⟨_, rfl⟩
        obtain ⟨y, hy⟩ : ∃ y, y = x ^^^ mk := ⟨_, rfl⟩
        have hLt := HT.out.2.2.2.2.1
        have hxl : x < 256 := by rw [hx]; exact getD_lt' (by decide) HT.out.2.2.1 _
        have hml : mk < 256 := by rw [hmk]; exact hMb i
        have hxx := b8_x x mk hxl hml
        rw [← hy] at hxx
        have hXy : X.getD (16 * k + i) 0 = y := by rw [hMX i hlt, ← hx, ← hmk, hy]
        have htc : wr.cell? ⟨b, o + 16 * k + i, none⟩ = some (.int .u8 (x : Int)) := by
          have h := (HT.out.1.below hB).cell (i := 16 * k + i) (by rw [up_len]; omega)
          rw [up_getD, ← hx] at h
          rw [Nat.add_assoc]
          exact h
        have hmc : wr.cell? ⟨mg, i, none⟩ = some (.int .u8 (mk : Int)) := by
          rw [hmk]; exact BA_cell hm (i := i) (by omega)
        have hro := hH (w1.heap.size + 1, .cells (BA (outL X L (16 * k + i))) 5 (0, 0)) (by simp [appL])
        have hbo' := hH (w1.heap.size + 1 + 1, .cells #[.slice (some ⟨w1.heap.size + 1, 0, none⟩) (16 * k + i) L] 24 (0, 0)) (by simp [appL])
        have hbo := cell_of_row _ _ 0 _ _ _ hbo'
        have hba : Below wr.heap.size wr (wr.alloc (.cells #[.int .u8 (y : Int)] 5)).drew := ((Below.refl _ wr).alloc (Nat.le_refl _) _).drew
        have hrs : w1.heap.size + 1 + 1 < wr.heap.size := lt_heap hbo'
        have hbo3 : (wr.alloc (.cells #[.int .u8 (y : Int)] 5)).drew.cell? ⟨w1.heap.size + 1 + 1, 0, none⟩ = some (.slice (some ⟨w1.heap.size + 1, 0, none⟩) (16 * k + i) L) := (hba.cell (p := ⟨_, 0, none⟩) (by simp only []; omega)).trans hbo
        have hbo4 : ((wr.alloc (.cells #[.int .u8 (y : Int)] 5)).setCell ⟨w1.heap.size + 1, 16 * k + i, none⟩ (.int .u8 (y : Int))).cell? ⟨w1.heap.size + 1 + 1, 0, none⟩ = some (.slice (some ⟨w1.heap.size + 1, 0, none⟩) (16 * k + i) L) := (World.cell?_setCell_far _ _ _ _ (by simp)).trans hbo3
        have hf3 : (wr.alloc (.cells #[.int .u8 (y : Int)] 5)).drew.frozen? ⟨w1.heap.size + 1 + 1, 0, none⟩ = false := (hba.frozen (p := ⟨_, 0, none⟩) (by simp only []; omega)).trans (frozen_of_row _ _ _ _ _ hbo')
        have hf4 : (wr.alloc (.cells #[.int .u8 (y : Int)] 5)).frozen? ⟨w1.heap.size + 1 + 1, 0, none⟩ = false := hf3
        have hra := (hba.block _ (show w1.heap.size + 1 < wr.heap.size by omega)).trans hro
        have hta : (wr.alloc (.cells #[.int .u8 (y : Int)] 5)).drew.cell? ⟨wr.heap.size, 0, none⟩ = some (.int .u8 (y : Int)) := cell_of_row _ _ 0 _ _ _ (heap_alloc_new wr (.cells #[.int .u8 (y : Int)] 5))
        have hap := append_one (w1.heap.size + 1) (16 * k + i) L wr.heap.size y (outL X L (16 * k + i)) 5 (wr.alloc (.cells #[.int .u8 (y : Int)] 5)).drew (by omega) (outL_len HXL.out (by omega)) hra hta 24
        have hra2 := set_BA hra (16 * k + i) y
        rw [← hXy, outL_set HXL.out (by omega), hXy] at hra2
        have hmne1 : mg ≠ w1.heap.size + 1 := by omega
        have hmne2 : mg ≠ w1.heap.size + 1 + 1 := by omega
        have HS1 : Hid (wr.drew.cell? ⟨mg, i, none⟩ = some (.int .u8 (mk : Int))) := hmc
        have HS3 : Hid ((wr.alloc (.cells #[.int .u8 (y : Int)] 5)).drew.cell? ⟨mg, i, none⟩ = some (.int .u8 (mk : Int))) := (hba.cell (p := ⟨mg, i, none⟩) (by simp only []; omega)).trans hmc
        have HS4 : Hid (((wr.alloc (.cells #[.int .u8 (y : Int)] 5)).drew.setCell ⟨w1.heap.size + 1, 16 * k + i, none⟩ (.int .u8 (y : Int))).cell? ⟨mg, i, none⟩ = some (.int .u8 (mk : Int))) := (World.cell?_setCell_far _ _ _ _ (by simp only []; omega)).trans HS3.out
        have HS5 : Hid ((((wr.alloc (.cells #[.int .u8 (y : Int)] 5)).drew.setCell ⟨w1.heap.size + 1, 16 * k + i, none⟩ (.int .u8 (y : Int))).setCell ⟨w1.heap.size + 1 + 1, 0, none⟩ (.slice (some ⟨w1.heap.size + 1, 0, none⟩) (16 * k + i + 1) L)).cell? ⟨mg, i, none⟩ = some (.int .u8 (mk : Int))) := (World.cell?_setCell_far _ _ _ _ (by simp only []; omega)).trans HS4.out
        have hoth : ∀ d, d < wr.heap.size → d ≠ w1.heap.size + 1 → d ≠ w1.heap.size + 1 + 1 → (((wr.alloc (.cells #[.int .u8 (y : Int)] 5)).drew.setCell ⟨w1.heap.size + 1, 16 * k + i, none⟩ (.int .u8 (y : Int))).setCell ⟨w1.heap.size + 1 + 1, 0, none⟩ (.slice (some ⟨w1.heap.size + 1, 0, none⟩) (16 * k + i + 1) L)).heap[d]? = wr.heap[d]? := fun d h1 h2 h3 =>
          (heap_cell_other _ _ _ _ _ h3).trans ((heap_cell_other _ _ _ _ _ h2).trans (hba.block d h1))
        have hszf : (((wr.alloc (.cells #[.int .u8 (y : Int)] 5)).drew.setCell ⟨w1.heap.size + 1, 16 * k + i, none⟩ (.int .u8 (y : Int))).setCell ⟨w1.heap.size + 1 + 1, 0, none⟩ (.slice (some ⟨w1.heap.size + 1, 0, none⟩) (16 * k + i + 1) L)).heap.size = wr.heap.size + 1 := by simp
        have R : Hid (Below w.heap.size w (((wr.alloc (.cells #[.int .u8 (y : Int)] 5)).drew.setCell ⟨w1.heap.size + 1, 16 * k + i, none⟩ (.int .u8 (y : Int))).setCell ⟨w1.heap.size + 1 + 1, 0, none⟩ (.slice (some ⟨w1.heap.size + 1, 0, none⟩) (16 * k + i + 1) L)) ∧ Has (appL cg w1.heap.size w2.heap.size L V c2 ct cf (some ⟨b, o, none⟩) key X (16 * k + (i + 1))) (((wr.alloc (.cells #[.int .u8 (y : Int)] 5)).drew.setCell ⟨w1.heap.size + 1, 16 * k + i, none⟩ (.int .u8 (y : Int))).setCell ⟨w1.heap.size + 1 + 1, 0, none⟩ (.slice (some ⟨w1.heap.size + 1, 0, none⟩) (16 * k + i + 1) L)) ∧ (((wr.alloc (.cells #[.int .u8 (y : Int)] 5)).drew.setCell ⟨w1.heap.size + 1, 16 * k + i, none⟩ (.int .u8 (y : Int))).setCell ⟨w1.heap.size + 1 + 1, 0, none⟩ (.slice (some ⟨w1.heap.size + 1, 0, none⟩) (16 * k + i + 1) L)).heap[mg]? = some (.cells (BA M) 5 (0, 0)) ∧ w4.heap.size ≤ (((wr.alloc (.cells #[.int .u8 (y : Int)] 5)).drew.setCell ⟨w1.heap.size + 1, 16 * k + i, none⟩ (.int .u8 (y : Int))).setCell ⟨w1.heap.size + 1 + 1, 0, none⟩ (.slice (some ⟨w1.heap.size + 1, 0, none⟩) (16 * k + i + 1) L)).heap.size ∧ ∀ d, W0.heap.size ≤ d → d ≤ W0.heap.size + 2 → (((wr.alloc (.cells #[.int .u8 (y : Int)] 5)).drew.setCell ⟨w1.heap.size + 1, 16 * k + i, none⟩ (.int .u8 (y : Int))).setCell ⟨w1.heap.size + 1 + 1, 0, none⟩ (.slice (some ⟨w1.heap.size + 1, 0, none⟩) (16 * k + i + 1) L)).heap[d]? = Wb.heap[d]?) := by
          refine ⟨((hB.trans (hba.mono hB.size)).setCell (p := ⟨w1.heap.size + 1, 16 * k + i, none⟩) (by simp only []; omega) _).setCell (p := ⟨w1.heap.size + 1 + 1, 0, none⟩) (by simp only []; omega) _, fun p hp => ?_, (hoth mg (by omega) hmne1 hmne2).trans hm, by rw [hszf]; omega, fun d h1 h2 => (hoth d (by omega) (by omega) (by omega)).trans (hD d h1 h2)⟩
          have hpl := HLT.out (16 * k + i)
          simp only [appL, List.mem_cons, List.not_mem_nil, or_false] at hp
          rcases hp with rfl | rfl | rfl | rfl | rfl | rfl
          · exact (hoth _ (by have := hpl (cg, .cells (BA (ciph key 11)) ct cf) (by simp [appL]); simp only [] at this ⊢; omega) (by simp only []; omega) (by simp only []; omega)).trans (hH _ (by simp [appL]))
          · exact (hoth _ (by simp only []; omega) (by simp) (by simp only []; omega)).trans (hH _ (by simp [appL]))
          · exact (heap_cell_other _ _ _ _ _ (by simp)).trans hra2
          · exact heap_setCell_same _ _ 0 _ _ _ _ ((heap_cell_other _ _ _ _ _ (by simp)).trans ((hba.block _ hrs).trans hbo'))
          · exact (hoth _ (by simp only []; omega) (by simp only []; omega) (by simp only []; omega)).trans (hH _ (by simp [appL]))
          · exact (hoth _ (by simp only []; omega) (by simp only []; omega) (by simp only []; omega)).trans (hH _ (by simp [appL]))
        have h16 : (i : Int) < 16 := by omega
        have hni : (i : Int) < (n : Int) := by omega
        clear hB hH hm hsz hD hWbs hG hs0 hn5 hn3 hcl hn2 hgm4 hMl hMb hMX hx hmk hy hLt hXy hro hbo' hba hrs hra hta hra2 hmne1 hmne2 hoth hszf hS hmc
        gi_wp2
        refine wpIn_round_held (S := (fun W' => W'.cell? ⟨mg, i, none⟩ = some (.int .u8 (mk : Nat)))) (by rintro ⟨_, _, h⟩; have h' : Exit.outgrown = Exit.normal ∧ _ := h; exact absurd h'.1 (by simp)) (by kernel_rfl) (by kernel_rfl) HS1.out (fun hHeld => ?_)
        refine wpAnyH_take (i := 1) (oi := _) (v := ?_) rfl (by kernel_rfl) (by kernel_rfl) (by kernel_rfl) (fun _ _ _ h => h) (Or.inl ⟨by rfl, ?_⟩) (by assumption) ?_
        rotate_left 1
        · intro w hSw; clear hSw; first | (go_simp; done) | (go_simp; with_reducible rfl)
        change wpAnyH _ _ _ _ _ _ _ (Act.put _ (some 56) _) _
        (try simp only [Act.put, List.setIfInBounds_toArray, List.set_cons_zero, List.set_cons_succ])
        refine wpAnyH_take (i := 2) (oi := _) (v := ?_) rfl (by kernel_rfl) (by kernel_rfl) (by kernel_rfl) (fun _ _ _ h => h) (Or.inl ⟨by rfl, ?_⟩) (by assumption) ?_
        rotate_left 1
        · intro w hSw; clear hSw; first | (go_simp; done) | (go_simp; with_reducible rfl)
        change wpAnyH _ _ _ _ _ _ _ (Act.put _ (some 57) _) _
        (try simp only [Act.put, List.setIfInBounds_toArray, List.set_cons_zero, List.set_cons_succ])
        refine wpAnyH_take (i := 3) (oi := _) (v := ?_) rfl (by kernel_rfl) (by kernel_rfl) (by kernel_rfl) (fun _ _ _ h => h) (Or.inl ⟨by rfl, ?_⟩) (by assumption) ?_
        rotate_left 1
        · intro w hSw; clear hSw; first | (go_simp; done) | (go_simp; with_reducible rfl)
        change wpAnyH _ _ _ _ _ _ _ (Act.put _ (some 58) _) _
        (try simp only [Act.put, List.setIfInBounds_toArray, List.set_cons_zero, List.set_cons_succ])
        refine wpAnyH_take (i := 4) (oi := _) (v := ?_) rfl (by kernel_rfl) (by kernel_rfl) (by kernel_rfl) (fun _ _ _ h => h) (Or.inl ⟨by rfl, ?_⟩) (by assumption) ?_
        rotate_left 1
        · intro w hSw; clear hSw; first | (go_simp; done) | (go_simp; with_reducible rfl)
        change wpAnyH _ _ _ _ _ _ _ (Act.put _ (some 59) _) _
        (try simp only [Act.put, List.setIfInBounds_toArray, List.set_cons_zero, List.set_cons_succ])
        refine wpAnyH_take (i := 5) (oi := _) (v := ?_) rfl (by kernel_rfl) (by kernel_rfl) (by kernel_rfl) (fun _ _ _ h => h) (Or.inl ⟨by rfl, ?_⟩) (by assumption) ?_
        rotate_left 1
        · intro w hSw; skip; first | (go_simp; done) | (go_simp; with_reducible rfl)
        change wpAnyH _ _ _ _ _ _ _ (Act.put _ (some 60) _) _
        (try simp only [Act.put, List.setIfInBounds_toArray, List.set_cons_zero, List.set_cons_succ])
        refine wpAnyH_take (i := 6) (oi := _) (v := ?_) rfl (by kernel_rfl) (by kernel_rfl) (by kernel_rfl) (fun _ _ _ h => h) (Or.inl ⟨by rfl, ?_⟩) (by assumption) ?_
        rotate_left 1
        · intro w hSw; clear hSw; first | (go_simp; done) | (go_simp; with_reducible rfl)
        change wpAnyH _ _ _ _ _ _ _ (Act.put _ (some 61) _) _
        (try simp only [Act.put, List.setIfInBounds_toArray, List.set_cons_zero, List.set_cons_succ])
        refine wpAnyH_ready (rs := [0, 7]) (by kernel_rfl) (by simp) ?_
        refine AllReadyH.cons (o := _) rfl (fun K hK => ?_) (AllReadyH.cons (o := _) rfl (fun K hK => ?_) (AllReadyH.nil))
        · go_simp
          refine hK.out _ _ (HS1.out) (fun hHeld0 => ?_)
          (try simp only [Act.put, List.setIfInBounds_toArray, List.set_cons_zero, List.set_cons_succ])
          clear hK K
          refine wpAnyH_ready (rs := [7]) (by kernel_rfl) (by simp) ?_
          refine AllReadyH.cons (o := _) rfl (fun K hK => ?_) AllReadyH.nil
          go_simp
          refine hK.out _ _ (HS3.out) (fun hHeld7 => ?_)
          (try simp only [Act.put, List.setIfInBounds_toArray, List.set_cons_zero, List.set_cons_succ])
          clear hK K
          refine wpAnyH_ready (rs := [8]) (by kernel_rfl) (by simp) ?_
          refine AllReadyH.cons (o := _) rfl (fun K hK => ?_) AllReadyH.nil
          refine step_append_run (by rfl) _ _ _ (by rfl) _ _ _ (by rfl) (by rfl) hap ?_
          refine hK.out _ _ (HS4.out) (fun hHeld8 => ?_)
          change wpAnyH _ _ _ _ _ _ _ (Act.put _ (some 63) _) _
          (try simp only [Act.put, List.setIfInBounds_toArray, List.set_cons_zero, List.set_cons_succ])
          clear hK K
          refine wpAnyH_ready (rs := [9]) (by kernel_rfl) (by simp) ?_
          refine AllReadyH.cons (o := _) rfl (fun K hK => ?_) AllReadyH.nil
          go_simp
          refine hK.out _ _ (HS5.out) (fun hHeld9 => ?_)
          clear hK K
          refine wpAnyH_done (by kernel_rfl) ?_ _
          clear HS1 HS3 HS4 HS5 hap hbo hbo3 hbo4 hf4 htc hxx
          gi_wp2
          go_roundw
          case rel => exact ⟨i + 1, by go_num, by omega, R.out⟩
          case measure => simp [intOf]; omega
        · go_simp
          refine hK.out _ _ (HS3.out) (fun hHeld7 => ?_)
          (try simp only [Act.put, List.setIfInBounds_toArray, List.set_cons_zero, List.set_cons_succ])
          clear hK K
          refine wpAnyH_ready (rs := [0]) (by kernel_rfl) (by simp) ?_
          refine AllReadyH.cons (o := _) rfl (fun K hK => ?_) AllReadyH.nil
          go_simp
          refine hK.out _ _ (HS3.out) (fun hHeld0 => ?_)
          (try simp only [Act.put, List.setIfInBounds_toArray, List.set_cons_zero, List.set_cons_succ])
          clear hK K
          refine wpAnyH_ready (rs := [8]) (by kernel_rfl) (by simp) ?_
          refine AllReadyH.cons (o := _) rfl (fun K hK => ?_) AllReadyH.nil
          refine step_append_run (by rfl) _ _ _ (by rfl) _ _ _ (by rfl) (by rfl) hap ?_
          refine hK.out _ _ (HS4.out) (fun hHeld8 => ?_)
          change wpAnyH _ _ _ _ _ _ _ (Act.put _ (some 63) _) _
          (try simp only [Act.put, List.setIfInBounds_toArray, List.set_cons_zero, List.set_cons_succ])
          clear hK K
          refine wpAnyH_ready (rs := [9]) (by kernel_rfl) (by simp) ?_
          refine AllReadyH.cons (o := _) rfl (fun K hK => ?_) AllReadyH.nil
          go_simp
          refine hK.out _ _ (HS5.out) (fun hHeld9 => ?_)
          clear hK K
          refine wpAnyH_done (by kernel_rfl) ?_ _
          clear HS1 HS3 HS4 HS5 hap hbo hbo3 hbo4 hf4 htc hxx
          gi_wp2
          go_roundw
          case rel => exact ⟨i + 1, by go_num, by omega, R.out⟩
          case measure => simp [intOf]; omega
      · have hni : i = n := by omega
        subst hni
        obtain ⟨hS1, hS2, _, hS4, hS5⟩ := hS.out
        rw [HNN.out] at hS2
        have HE := Lib.hid (And.intro (show AppI w.heap.size w (fun k => appL cg w1.heap.size w2.heap.size L V c2 ct cf (some ⟨b, o, none⟩) key X (min (16 * k) L)) (k + 1) wr from ⟨hS1, hS2⟩) (And.intro (show W.heap.size + 1 ≤ wr.heap.size by have := HG.out; have := HGM.out; omega) hS5))
        clear hS1 hS2 hS4 hS5 hS
        gi_wp2
        exact HE.out
  case done =>
    intro W hI hD
    have hs0 := HS0.out
    have hbo := hI.2 (w1.heap.size + 1 + 1, .cells #[.slice (some ⟨w1.heap.size + 1, 0, none⟩) (min (16 * piecesN L) L) L] 24 (0, 0)) (by simp [appL])
    have hbr := hI.2 (w1.heap.size + 1, .cells (BA (outL X L (min (16 * piecesN L) L))) 5 (0, 0)) (by simp [appL])
    rw [show min (16 * piecesN L) L = L by unfold piecesN; omega] at hbo hbr
    rw [outL_all hXL] at hbr
    have hbc := cell_of_row _ _ 0 _ _ _ hbo
    have hF := hI.put (b := W0.heap.size) hn0 (fun p hp => by have := HLT.out _ p hp; omega) (.deferred none)
    have hbr' := (World.putObj_heap_other (w := W) (o := .deferred none) (show w1.heap.size + 1 ≠ W0.heap.size by omega)).trans hbr
    have hTD := run_takeDeferred (P := Tryd.prog) hD
    have hlb : w1.heap.size + 1 < W0.heap.size := by omega
    have hwl : (W.putObj W0.heap.size (.deferred none)).heap.size = W.heap.size := World.putObj_size
    have hbl := lt_heap hbr
    have hFB := hF.1
    rw [HX.out] at hbr'
    clear hI hbo hF hbr hD hs0
    go_wp2
    refine ⟨by simp, .inl ⟨_, _, rfl, hTD, ?_⟩⟩
    exact ⟨_, results_tmp2 rfl _ _ _, ⟨some ⟨w1.heap.size + 1, 0, none⟩, L, rfl, Nat.le_refl _, (fun h => by cases h), ints_of_BA hbr' (Nat.lt_of_lt_of_le hbl (Nat.le_of_eq hwl.symm)), hFB⟩⟩

end Go.Proofs.YtanpfodmmeagaaaDoor

namespace Go.Proofs.YtanpfodmmeagaaaDoor
open Go.RowKit

set_option maxRecDepth 20000 in
set_option maxHeartbeats 1600000 in
theorem apply_key (A0 A1 A2 : Option Addr) (n m L c0 c1 c2 : Nat) (w : World) (hn : n ≠ 16) :
    Calls Tryd.prog 21 #[.slice A0 n c0, .slice A1 m c1, .slice A2 L c2] w fun e w' => ∃ A c, e = .returned (.tuple #[.slice A 0 c, .int .i64 1]) ∧ Below w.heap.size w w' := by
  have H1 := Lib.hid (new_no A0 n c0 w hn)
  have hb : Below w.heap.size w (w.alloc (.cells #[.pointer none] 49)) := (Below.refl _ _).alloc (Nat.le_refl _) _
  have HB := Lib.hid hb
  clear hn hb
  go_enter Tryd.func21, Tryd.ntmps21
  go_wp2_with (go_at_call 31; with_reducible (refine Calls.mono H1.out ?_); rintro e w1 ⟨rfl, rfl⟩)
  go_ret2
  exact ⟨none, 0, rfl, HB.out⟩

set_option maxRecDepth 20000 in
set_option maxHeartbeats 1600000 in
theorem apply_ctr (A0 A1 A2 : Option Addr) (c0 c1 c2 m L : Nat) (key : List Nat) (w : World) (h0 : Ints w w.heap.size .u8 A0 (up key)) (hk : ∀ x ∈ key, x < 256) (hkl : key.length = 16) (hc0 : 16 ≤ c0) (hm : m ≠ 16) :
    Calls Tryd.prog 21 #[.slice A0 16 c0, .slice A1 m c1, .slice A2 L c2] w fun e w' => ∃ A c, e = .returned (.tuple #[.slice A 0 c, .int .i64 1]) ∧ Below w.heap.size w w' := by
  have H1 := Lib.hid (aesNew_any A0 c0 key w h0 hk hkl hc0)
  have h1 : ¬ (m : Int) = 16 := by omega
  clear h0 hk hkl hc0 hm
  go_enter Tryd.func21, Tryd.ntmps21
  go_wp2_with (go_at_call 31; with_reducible (refine Calls.mono H1.out ?_); rintro e w1 ⟨a, rfl, _, hb1⟩; have hb2 := hb1.alloc hb1.size (.cells #[.pointer (some a)] 49))
  go_ret2
  exact ⟨none, 0, rfl, hb2⟩

set_option maxRecDepth 20000 in
set_option maxHeartbeats 1600000 in
theorem apply_long (A0 A1 A2 : Option Addr) (c0 c1 c2 L : Nat) (key : List Nat) (w : World) (h0 : Ints w w.heap.size .u8 A0 (up key)) (hk : ∀ x ∈ key, x < 256) (hkl : key.length = 16) (hc0 : 16 ≤ c0) (hL : 1048576 < L) :
    Calls Tryd.prog 21 #[.slice A0 16 c0, .slice A1 16 c1, .slice A2 L c2] w fun e w' => ∃ A c, e = .returned (.tuple #[.slice A 0 c, .int .i64 7]) ∧ Below w.heap.size w w' := by
  have H1 := Lib.hid (aesNew_any A0 c0 key w h0 hk hkl hc0)
  have h1 : (1048576 : Int) < (L : Int) := by omega
  clear h0 hk hkl hc0 hL
  go_enter Tryd.func21, Tryd.ntmps21
  go_wp2_with (go_at_call 31; with_reducible (refine Calls.mono H1.out ?_); rintro e w1 ⟨a, rfl, _, hb1⟩; have hb2 := hb1.alloc hb1.size (.cells #[.pointer (some a)] 49))
  go_ret2
  exact ⟨none, 0, rfl, hb2⟩

theorem str_spec (w0 : World) : StrSpec w0 where
  apply := fun A0 A1 A2 c0 c1 c2 key ctr text w _ h0 h1 h2 _ hk hc ht hkl hcl hc0 hc1 hc2 htl => apply_go A0 A1 A2 c0 c1 c2 key ctr text w h0 h1 h2 hk hc ht hkl hcl hc0 hc1 hc2 htl
  applyArg := fun A0 A1 A2 c0 c1 c2 key ctr text w _ h0 _ _ hk _ hn hc0 _ _ _ _ _ => by
    by_cases hkl : key.length = 16
    · have hcl : ctr.length ≠ 16 := fun h => hn ⟨hkl, h⟩
      rw [hkl] at hc0 ⊢
      exact apply_ctr A0 A1 A2 c0 c1 c2 ctr.length text.length key w h0 hk hkl hc0 hcl
    · exact apply_key A0 A1 A2 key.length ctr.length text.length c0 c1 c2 w hkl
  applyLong := fun A0 A1 A2 c0 c1 c2 key ctr text w _ h0 _ _ hk _ hkl _ hc0 _ _ hl _ => apply_long A0 A1 A2 c0 c1 c2 text.length key w h0 hk hkl hc0 hl
  counter := fun s v w _ _ _ _ _ => counter_any s v w

end Go.Proofs.YtanpfodmmeagaaaDoor
