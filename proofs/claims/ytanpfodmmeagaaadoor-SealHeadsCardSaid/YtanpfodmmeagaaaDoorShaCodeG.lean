/-
  The layer sha: all its calls. What a row lists of the package's two variables, as the walks want it; a world in which they hold it.
-/
import Derived.Test.YtanpfodmmeagaaaDoorShaC7G
import Derived.Test.YtanpfodmmeagaaaDoorRows
import Derived.Lib.LaidTab
import Derived.Stop.LaidErr
namespace Go.Proofs.YtanpfodmmeagaaaDoor
open Go.RowKit

def zeroHash : List Value := ((List.replicate 8 0).map fun z : Nat => Value.int .u32 (z : Int)) ++ HK (List.replicate 64 0) 0
theorem zero_st : eightOf (sumTo (List.replicate 8 0) 8) = blocksTo shaH [] 0 := rfl

set_option maxRecDepth 100000 in
set_option maxHeartbeats 800000 in
/-- 'New'. -/
theorem new_any (w : World) : Calls Tryd.prog 59 #[] w fun e w' => e = .returned (.pointer (some ⟨w.heap.size, 0, none⟩)) ∧ St w' w.heap.size [] ∧ w'.heap.size = w.heap.size + 1 ∧ Below w.heap.size w w' := by
  have HS : Hid (∀ w' : World, w'.heap[w.heap.size]? = some (.cells zeroHash.toArray 124 (0, 0)) → St w' w.heap.size []) := fun w' h =>
    ⟨List.replicate 8 0, List.replicate 64 0, ⟨rfl, h⟩, rfl, (fun x hx => by have := (List.mem_replicate.1 hx).2; omega), rfl, zero_st⟩
  have hbu := (zero_of_info (P := Tryd.prog) (t := 124) (v := .agg zeroHash.toArray) (n := 73) (by kernel_rfl)).1
  obtain ⟨Z, hZ⟩ : ∃ Z, Z = zeroHash.toArray := ⟨_, rfl⟩
  rw [← hZ] at HS hbu
  clear hZ
  go_enter Tryd.func59, Tryd.ntmps59
  go_wp2
  go_ret
  refine ⟨rfl, HS.out _ ?_, by simp, (Below.refl _ _).alloc (Nat.le_refl _) _⟩
  exact heap_alloc_new' _ _ _ rfl

theorem St.sum {w : World} {g : Nat} {t : List Nat} (h : St w g (t ++ endN t.length)) : ∃ l, l.length = 8 ∧ (∀ i, i < 8 → w.cell? ⟨g, i, none⟩ = some (.int .u32 (l.getD i 0 : Nat))) ∧ (sumTo l 8).flatMap be4s = digestN t := by
  obtain ⟨l, beg, h1, _, _, _, h5⟩ := h
  refine ⟨l, h1.len, h1.cell, ?_⟩
  have hp : t ++ endN t.length = padded t := by simp [endN, padded]
  rw [hp] at h5
  rw [← eightOf_list (sumTo_len l 8), h5]
  rfl

theorem near_of_ints {w : World} {g B : Nat} {A : Option Addr} {b : List Nat} (h : Ints w w.heap.size .u8 A (up b)) (hb : ∀ a, A = some a → B ≤ a.block) (hg : g < B) : Near w g A b := fun i hi => by
  obtain ⟨blk, off, e, h1, h2⟩ := h i (by rw [up_len]; exact hi)
  have := hb _ e
  refine ⟨blk, off, e, by simp only [] at this; omega, h1, ?_⟩
  rw [h2, up_getD]

set_option maxHeartbeats 1600000 in
set_option maxRecDepth 100000 in
/-- 'Sum'. -/
theorem sum_any (g : Nat) (t : List Nat) (w : World) (hL : Laid w) (hs : St w g t) (ht : t.length ≤ 140737488355000) :
    Calls Tryd.prog 61 #[.pointer (some ⟨g, 0, none⟩)] w fun e w' => e = .returned (.agg (BA (digestN t))) ∧ Below w.heap.size w w' := by
  obtain ⟨l, beg, h1, h2, h3, h4, h5⟩ := hs
  have hgl := h1.lt
  have hlt := hL.lt
  have hz := (zero_of_info (P := Tryd.prog) (t := 41) (v := .agg (BA (List.replicate 32 0))) (n := 32) (by kernel_rfl)).1
  have hzh := (zero_of_info (P := Tryd.prog) (t := 124) (v := .agg zeroHash.toArray) (n := 73) (by kernel_rfl)).1
  have hu := Tryd.underlying41
  have huh := Tryd.underlying124
  have c72 := h1.at72 h2
  obtain ⟨C, hC⟩ : ∃ C, C = ((l.map fun z : Nat => Value.int .u32 (z : Int)) ++ HK beg t.length).toArray := ⟨_, rfl⟩
  have hrow := h1.row
  rw [← hC] at hrow
  have hCs : C.size = 73 := by rw [hC]; simp [HK, h1.len, h2]
  have hC1 : C.all (·.oneCell') = true := by
    rw [Array.all_eq_true_iff_forall_mem, hC]
    intro v hv
    simp only [HK, List.mem_toArray, List.mem_append, List.mem_map, List.mem_singleton] at hv
    rcases hv with ⟨z, _, rfl⟩ | ⟨z, _, rfl⟩ | rfl <;> rfl
  have hih : (Tryd.prog.info? 124).map (·.size) = some C.size := by rw [hCs]; kernel_rfl
  have hzs : zeroHash.toArray.size = C.size := by rw [hCs]; rfl
  have hdl : (BA (digestN t)).size = 32 := by rw [BA_size, digest_len]
  have hid : (Tryd.prog.info? 41).map (·.size) = some (BA (digestN t)).size := by rw [hdl]; kernel_rfl
  have hzd : (BA (List.replicate 32 0)).size = (BA (digestN t)).size := by rw [hdl]; rfl
  have HSTT : Hid (∀ W : World, W.heap[w.heap.size + 1]? = some (.cells C 124 (0, 0)) → St W (w.heap.size + 1) t) := fun W hW => ⟨l, beg, ⟨h1.len, by rw [← hC]; exact hW⟩, h2, h3, h4, h5⟩
  have HROW : Hid (∀ W : World, Below w.heap.size w W → W.heap[g]? = some (.cells C 124 (0, 0)) ∧ W.cell? ⟨g, 72, none⟩ = some (.int .u64 (t.length : Int))) := fun W hb => ⟨(hb.block g hgl).trans hrow, (hb.cell (p := ⟨g, 72, none⟩) hgl).trans c72⟩
  have HLA := Lib.hid (fun (W : World) (hb : Below w.heap.size w W) => hL.to hb)
  have HEN := Lib.hid (fun (W : World) => ending_any t.length W (by omega))
  have hel : (endN t.length).length ≤ 72 := by simp [endN, lenBytes_len]; have := padZ_le t.length; omega
  have heb : ∀ x ∈ endN t.length, x < 256 := by
    intro x hx
    simp only [endN, List.mem_append, List.mem_singleton] at hx
    rcases hx with (hx | hx) | hx
    · omega
    · have := (List.mem_replicate.1 hx).2; omega
    · exact lenBytes_lt _ x hx
  have HWR := Lib.hid (fun (W : World) (A : Option Addr) (c : Nat) (hb : Below w.heap.size w W) (hst : St W (w.heap.size + 1) t) (hn : Near W (w.heap.size + 1) A (endN t.length)) (hA : A = none → c = 0) (hc : (endN t.length).length ≤ c) =>
    write_any (w.heap.size + 1) t (endN t.length) A c W (hL.to hb) ⟨by omega, by omega⟩ hst hn hA heb hc (by omega))
  have HDG := Lib.hid (fun (W : World) (hb : Below w.heap.size w W) (hst : St W (w.heap.size + 1) (t ++ endN t.length)) => by
    obtain ⟨l', e1, e2, e3⟩ := hst.sum
    have h := stateDigest_any (w.heap.size + 1) l' W (hL.to hb) e1 e2
    rw [e3] at h
    exact h)
  obtain ⟨n, hn⟩ : ∃ n, n = (endN t.length).length := ⟨_, rfl⟩
  obtain ⟨E, hE⟩ : ∃ E, E = endN t.length := ⟨_, rfl⟩
  obtain ⟨tn, htn⟩ : ∃ tn, tn = t.length := ⟨_, rfl⟩
  rw [← hn, ← hE, ← htn] at HEN
  rw [← hn, ← hE] at HWR
  rw [← hE] at HDG
  rw [← htn] at HROW
  obtain ⟨D, hD⟩ : ∃ D, D = BA (digestN t) := ⟨_, rfl⟩
  rw [← hD] at HDG hid hzd ⊢
  have hD1 : D.all (·.oneCell') = true := by rw [hD]; exact BA_one _
  have HNE : Hid (n = E.length) := by unfold Hid; rw [hn, hE]
  clear h1 h2 h3 h4 h5 hC hrow hCs hdl hel heb hn hE htn hD hL hlt c72
  go_enter Tryd.func61, Tryd.ntmps61
  go_wp2_with (first
    | (with_reducible (refine wpList_load_row rfl 124 _ rfl g rfl 124 C (0, 0) _ (HROW.out _ ?hb).1 huh rfl hih ?_); (case hb => exact (Below.refl _ _).alloc (Nat.le_refl _) _))
    | (refine wpList_store_fresh rfl 124 _ _ rfl (w.heap.size + 1) C rfl rfl 124 zeroHash.toArray (heap_alloc_new' _ _ _ (by simp)) hih hzs hC1 (((Below.refl w.heap.size w).alloc (Nat.le_refl _) _).alloc (by simp) _) (by omega) ?_; intro W hW hbW hkW hsW; have hcW := (HROW.out _ hbW).2; have hST := HSTT.out _ hW; have hzW := (hkW w.heap.size (by omega)).trans ((((Below.refl (w.heap.size + 1) (w.alloc (.cells (BA (List.replicate 32 0)) 41))).alloc (by simp) _).block w.heap.size (by omega)).trans (heap_alloc_new _ _)); have hgW : w.heap.size + 1 < W.heap.size := by rw [hsW]; simp)
    | (go_at_call 77; with_reducible (refine Calls.mono (HEN.out _) ?_); rintro e w1 ⟨A, c, rfl, hc, hi, hnil, hbig, hb1⟩; have hn1 := near_of_ints hi hbig hgW; have st1 := hST.keep (hb1.block _ hgW); have hbw1 := hbW.trans (hb1.mono hbW.size); have hz1 := (hb1.block w.heap.size (by omega)).trans hzW; have hs1 := hb1.size)
    | (go_at_call 60; with_reducible (refine Calls.mono (HWR.out _ _ _ hbw1 st1 hn1 hnil hc) ?_); rintro e w2 ⟨rfl, hS2, hO2⟩; have hbw2 := hO2.below hbw1 (by intro k hk; omega); have hz2 := (hO2.block w.heap.size (by omega) (by omega)).trans hz1; have hs2 := hO2.size)
    | (go_at_call 78; with_reducible (refine Calls.mono (HDG.out _ hbw2 hS2) ?_); rintro e w3 ⟨rfl, hb3⟩; have hbw3 := hbw2.trans (hb3.mono hbw2.size); have hz3 := (hb3.block w.heap.size (by omega)).trans hz2)
    | (with_reducible (refine wpList_store_row rfl 41 _ _ rfl w.heap.size _ rfl rfl 41 _ hz3 hid hzd hD1 ?_)))
  refine bodyPost_ret (v := .agg D) ?_ rfl ⟨rfl, below_setRow hbw3 (Nat.le_refl _) _⟩
  exact results_cell_row rfl _ _ w.heap.size 41 _ (0, 0) _ rfl (setRow_heap _ _ _ _ _ _ hz3) hu rfl hid

theorem nilWrite_any (w : World) (A : Option Addr) (n c : Nat) : Calls Tryd.prog 60 #[.pointer none, .slice A n c] w fun e w' => e = .returned (.tuple #[]) ∧ Below w.heap.size w w' := by
  go_enter Tryd.func60, Tryd.ntmps60
  go_wp2
  exact bodyPost_ret (results_none rfl _ _ _) rfl ⟨rfl, Below.refl _ _⟩

set_option maxRecDepth 100000 in
theorem nilSum_any (w : World) : Calls Tryd.prog 61 #[.pointer none] w fun e w' => e = .returned (.agg zero32) ∧ Below w.heap.size w w' := by
  have hz := (zero_of_info (P := Tryd.prog) (t := 41) (v := .agg zero32) (n := 32) (by kernel_rfl)).1
  have hu := Tryd.underlying41
  have hid : (Tryd.prog.info? 41).map (·.size) = some zero32.size := by kernel_rfl
  have h1 : zero32.all (·.oneCell') = true := BA_one _
  have hr : (w.alloc (.cells zero32 41)).heap[w.heap.size]? = some (.cells zero32 41 (0, 0)) := heap_alloc_new _ _
  have HR := Lib.hid hr
  obtain ⟨Z, hZ⟩ : ∃ Z, Z = zero32 := ⟨_, rfl⟩
  rw [← hZ] at hz hid h1 HR ⊢
  clear hZ hr
  go_enter Tryd.func61, Tryd.ntmps61
  go_wp2_with (with_reducible (refine wpList_store_row rfl 41 _ _ rfl w.heap.size _ rfl rfl 41 _ HR.out hid rfl h1 ?_))
  refine bodyPost_ret (v := .agg Z) ?_ rfl ⟨rfl, below_setRow ((Below.refl _ _).alloc (Nat.le_refl _) _) (Nat.le_refl _) _⟩
  exact results_cell_row rfl _ _ w.heap.size 41 _ (0, 0) _ rfl (setRow_heap _ _ _ _ _ _ HR.out) hu rfl hid

theorem near_below {w : World} {g B : Nat} {A : Option Addr} {b : List Nat} (h : Ints w B .u8 A (up b)) (hB : B ≤ g) (hw : B ≤ w.heap.size) : Near w g A b := fun i hi => by
  obtain ⟨blk, off, e, h1, h2⟩ := h i (by rw [up_len]; exact hi)
  exact ⟨blk, off, e, by omega, by omega, by rw [h2, up_getD]⟩

set_option maxHeartbeats 800000 in
set_option maxRecDepth 100000 in
/-- 'Digest'. -/
theorem digest_any (A : Option Addr) (c : Nat) (b : List Nat) (w : World) (hL : Laid w) (hr : Ints w w.heap.size .u8 A (up b)) (hA : A = none → c = 0) (hb : ∀ x ∈ b, x < 256) (hc : b.length ≤ c) (hm : b.length ≤ 140737488355000) :
    Calls Tryd.prog 58 #[.slice A b.length c] w fun e w' => e = .returned (.agg (BA (digestN b))) ∧ Below w.heap.size w w' := by
  have hz := (zero_of_info (P := Tryd.prog) (t := 41) (v := .agg zero32) (n := 32) (by kernel_rfl)).1
  have hu := Tryd.underlying41
  have hlt := hL.lt
  have hdl : (BA (digestN b)).size = 32 := by rw [BA_size, digest_len]
  have hid : (Tryd.prog.info? 41).map (·.size) = some (BA (digestN b)).size := by rw [hdl]; kernel_rfl
  have hzd : zero32.size = (BA (digestN b)).size := by rw [hdl]; rfl
  have hr0 : (w.alloc (.cells zero32 41)).heap[w.heap.size]? = some (.cells zero32 41 (0, 0)) := heap_alloc_new _ _
  have hb0 : Below w.heap.size w (w.alloc (.cells zero32 41)) := (Below.refl _ _).alloc (Nat.le_refl _) _
  have HN := Lib.hid new_any
  have HW := Lib.hid (fun (W : World) (g : Nat) (hbw : Below w.heap.size w W) (hg : w.heap.size < g) (hst : St W g []) =>
    write_any g [] b A c W (hL.to hbw) ⟨by omega, by omega⟩ hst (near_below (hr.below hbw) (by omega) hbw.size) hA hb hc (by simp; omega))
  have HS := Lib.hid (fun (W : World) (g : Nat) (hbw : Below w.heap.size w W) (hst : St W g ([] ++ b)) => sum_any g ([] ++ b) W (hL.to hbw) hst (by simpa using hm))
  simp only [List.nil_append] at HW HS
  have HR0 := Lib.hid hr0
  have HB0 := Lib.hid hb0
  obtain ⟨D, hD⟩ : ∃ D, D = BA (digestN b) := ⟨_, rfl⟩
  rw [← hD] at HS hid hzd ⊢
  have hD1 : D.all (·.oneCell') = true := by rw [hD]; exact BA_one _
  obtain ⟨Z, hZ⟩ : ∃ Z, Z = zero32 := ⟨_, rfl⟩
  rw [← hZ] at hz hzd HR0 HB0
  obtain ⟨n, hn⟩ : ∃ n, n = b.length := ⟨_, rfl⟩
  rw [← hn] at HW ⊢
  clear hZ hD hdl hr hA hb hc hm hr0 hb0 hlt hL hn
  go_enter Tryd.func58, Tryd.ntmps58
  go_wp2_with (first
    | (go_at_call 59; with_reducible (refine Calls.mono (HN.out _) ?_); rintro e w1 ⟨rfl, hst1, hs1, hb1⟩; simp only [World.size_alloc] at hst1 hs1 hb1; have hbw1 := HB0.out.trans (hb1.mono (Nat.le_succ _)); have hz1 := (hb1.block w.heap.size (by omega)).trans HR0.out)
    | (go_at_call 60; with_reducible (refine Calls.mono (HW.out w1 (w.heap.size + 1) hbw1 (Nat.lt_succ_self _) hst1) ?_); rintro e w2 ⟨rfl, hst2, ho2⟩; have hbw2 := ho2.below hbw1 (by intro k hk; omega); have hz2 := (ho2.block w.heap.size (by omega) (by omega)).trans hz1; have hs2 := ho2.size)
    | (go_at_call 61; with_reducible (refine Calls.mono (HS.out w2 (w.heap.size + 1) hbw2 hst2) ?_); rintro e w3 ⟨rfl, hb3⟩; have hbw3 := hbw2.trans (hb3.mono hbw2.size); have hz3 := (hb3.block w.heap.size (by omega)).trans hz2)
    | (with_reducible (refine wpList_store_row rfl 41 _ _ rfl w.heap.size _ rfl rfl 41 _ hz3 hid hzd hD1 ?_)))
  refine bodyPost_ret (v := .agg D) ?_ rfl ⟨rfl, below_setRow hbw3 (Nat.le_refl _) _⟩
  exact results_cell_row rfl _ _ w.heap.size 41 _ (0, 0) _ rfl (setRow_heap _ _ _ _ _ _ hz3) hu rfl hid

theorem sha_ref : RefSpec := refDigest_any
theorem sha_digest {w0 : World} (h : Laid w0) : DigestSpec w0 := fun A c b w hw hr hA hb hc hm => digest_any A c b w (h.to hw) hr hA hb hc hm
/-- What is kept of a landed hash: one block, made since w0. -/
def hashR (w0 w : World) (F : Nat → Prop) (a : Addr) (t : List Nat) : Prop := ∃ g, a = ⟨g, 0, none⟩ ∧ F g ∧ (∀ k, F k → k = g) ∧ w0.heap.size ≤ g ∧ St w g t
theorem sha_hash {w0 : World} (h : Laid w0) : HashSpec w0 (hashR w0) where
  new w hw := (new_any w).mono fun e w' ⟨he, h1, h2, h3⟩ => ⟨_, (· = w.heap.size), he, ⟨_, rfl, rfl, fun _ hk => hk, hw.size, h1⟩, fun k hk => ⟨by omega, by omega⟩, h3⟩
  write w F a t A c B b hw hR hF hB hr hA hb hc hm := by
    obtain ⟨g, rfl, h1, h2, h3, h4⟩ := hR
    have hlt := h.lt
    refine (write_any g t b A c w (h.to hw) ⟨by omega, by omega⟩ h4 (near_below hr (hF g h1).1 hB) hA hb hc (by omega)).mono fun e w' ⟨he, h5, h6⟩ => ⟨he, (· = g), ⟨g, rfl, rfl, fun _ hk => hk, h3, h5⟩, fun k hk => ?_, ?_⟩
    · subst hk
      exact ⟨Or.inl h1, h5.lt⟩
    · exact ⟨h6.os, h6.tape, h6.output, h6.size, fun k hk hf => h6.block k hk fun e => hf (e ▸ h1)⟩
  sum w F a t hw hR hF hb hm := by
    obtain ⟨g, rfl, h1, h2, h3, h4⟩ := hR
    refine (sum_any g t w (h.to hw) h4 hm).mono fun e w' ⟨he, h5⟩ => ⟨he, (· = g), ⟨g, rfl, rfl, fun _ hk => hk, h3, h4.keep (h5.block g h4.lt)⟩, fun k hk => ?_, Off.of_below h5⟩
    subst hk
    exact ⟨Or.inl h1, Nat.lt_of_lt_of_le h4.lt h5.size⟩
  keep w w' F a t hR hk := by
    obtain ⟨g, rfl, h1, h2, h3, h4⟩ := hR
    exact ⟨g, rfl, h1, h2, h3, h4.keep (hk g h1)⟩
  nilWrite := nilWrite_any
  nilSum := nilSum_any

end Go.Proofs.YtanpfodmmeagaaaDoor

namespace Go.Proofs.YtanpfodmmeagaaaDoor
open Go.RowKit

theorem laid_of {W : World} (h : laidMetH Tryd.prog [("stowage/sha.first", Rows.laid_stowage_sha_first), ("stowage/sha.roots", Rows.laid_stowage_sha_roots)] W) : Laid W := by
  have h1 : laidMet Tryd.prog [("stowage/sha.first", Rows.laid_stowage_sha_first), ("stowage/sha.roots", Rows.laid_stowage_sha_roots)] W := h
  have g1 : Tryd.prog.globalNamed "stowage/sha.first" = some 1 := by kernel_rfl
  have g2 : Tryd.prog.globalNamed "stowage/sha.roots" = some 0 := by kernel_rfl
  have t1 : Lib.TabIs Tryd.prog W "stowage/sha.first" .u32 (up shaH.list) :=
    Lib.tabIs_of_head (n := 8) (t := 120) (e := 61) (rest := [("stowage/sha.roots", Rows.laid_stowage_sha_roots)]) g1 (by kernel_rfl) Tryd.underlying120 Tryd.underlying61 (by kernel_rfl) (by kernel_rfl) h1
  have t2 : Lib.TabIs Tryd.prog W "stowage/sha.roots" .u32 (up shaK) :=
    Lib.tabIs_of_head (n := 64) (t := 131) (e := 61) (rest := []) g2 (by kernel_rfl) Tryd.underlying131 Tryd.underlying61 (by kernel_rfl) (by kernel_rfl) h1.tail
  refine ⟨fun i hi => ?_, fun i hi => ?_⟩
  · rw [t2.cell g2 i (by rw [up_len]; exact hi), up_getD]
  · rw [t1.cell g1 i (by rw [up_len]; exact hi), up_getD]

def layRow (l : List Nat) : Obj → Obj
  | .cells _ t frozen => .cells (U l) t frozen
  | o => o
/-- A world for the witness: the settled one, the two variables holding what their initialisers lay. -/
noncomputable def laidWorld (os : Os) : World :=
  { World.holding Tryd.prog os ⟨#[], #[], []⟩ with heap := ((World.holding Tryd.prog os ⟨#[], #[], []⟩).heap.modify 0 (layRow shaK)).modify 1 (layRow shaH.list) }

end Go.Proofs.YtanpfodmmeagaaaDoor
