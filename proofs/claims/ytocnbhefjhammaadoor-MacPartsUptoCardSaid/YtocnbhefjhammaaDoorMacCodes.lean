/-
  MacCodes as a walk, from what is asked of the layer's calls.
-/
import Derived.Test.YtocnbhefjhammaaDoorMacLong
namespace Go.Proofs.YtocnbhefjhammaaDoor
open Go.RowKit

theorem Parts.take {w : World} {B : Nat} {A : Option Addr} {ps : List Part} (h : Parts w B A ps) (n : Nat) : Parts w B A (ps.take n) := fun i hi => by
  have hi' : i < ps.length := by rw [List.length_take] at hi; omega
  obtain ⟨b, off, h1, h2, h3, h4⟩ := h i hi'
  simp only [List.getElem_take]
  exact ⟨b, off, h1, h2, h3, h4⟩

set_option maxHeartbeats 1600000 in
theorem macCodes_go (A0 A1 : Option Addr) (c0 c1 : Nat) (key : List Nat) (ps : List Part) (w : World) (HC : CodeSpec w) (HS : SameSpec) (HR : RefSpec) (h0 : Ints w w.heap.size .u8 A0 (up key)) (hA0 : A0 = none → c0 = 0) (hb0 : ∀ b ∈ key, b < 256) (hc0 : key.length ≤ c0) (hm0 : key.length ≤ 140737488354000)
    (hp : Parts w w.heap.size A1 ps) (hc1 : ps.length ≤ c1) (hm : ∀ k, (catTo ps k).length ≤ 1048576) :
    Calls Tryd.prog 3 #[.slice A0 key.length c0, .slice A1 ps.length c1] w fun e w' => e = .returned (.bool true) ∧ Below w.heap.size w w' := by
  obtain ⟨i0, hi, hz0, hz1, hz2⟩ := info_parts Tryd.infoU8'
  have HA := Lib.hid (macAwake HC HS)
  have HM := Lib.hid hm
  have HP := Lib.hid hp
  have hX : ∀ k, ∀ x ∈ catTo ps k, x < 256 := fun k x hx => by
    simp only [catTo, List.mem_flatten, List.mem_map] at hx
    obtain ⟨l, ⟨p, hp2, rfl⟩, hx⟩ := hx
    obtain ⟨i, hi2, rfl⟩ := List.getElem_of_mem hp2
    have hi3 : i < ps.length := by rw [List.length_take] at hi2; omega
    obtain ⟨_, _, _, _, _, hq⟩ := hp i hi3
    rw [List.getElem_take] at hx
    exact hq.byte x hx
  have HXX := Lib.hid hX
  have HB0 := Lib.hid hb0
  have H0 := Lib.hid h0
  have HA0 := Lib.hid hA0
  clear hm hp hX hb0 h0 hA0
  go_enter Tryd.func3, Tryd.ntmps3
  go_upto_if 10 with fail
  go_cut [1] (fun s wx => (∃ n : Nat, s = .slice A1 n c1 ∧ n ≤ ps.length ∧ n ≤ 40) ∧ wx = w)
  case first =>
    by_cases h4 : (40 : Int) < ps.length
    · go_wp2
      go_meet
      exact ⟨⟨40, rfl, by omega, Nat.le_refl _⟩, rfl⟩
    · go_wp2
      go_meet
      exact ⟨⟨ps.length, rfl, Nat.le_refl _, by omega⟩, rfl⟩
  case rest =>
    obtain ⟨⟨n, rfl, hn, hn40⟩, hw⟩ := hcut
    have hw' := hw.symm
    subst hw'
    go_wp2
    go_loopw [5, 6] (fun v i wr => ∃ k : Nat, k ≤ n ∧ i = .int .i64 k ∧ (∃ A c, v = .slice A (catTo ps k).length c) ∧ wr.ownsRow w.heap.size 5 1 v (catTo ps k).length ((up (catTo ps k)).map (Value.int .u8)) ∧ Below w.heap.size w wr) (fun _ i _ => n - (intOf i).toNat)
    case atStart => exact ⟨0, Nat.zero_le _, rfl, ⟨_, _, rfl⟩, World.ownsRow_made w #[] 0 (Nat.le_refl _) (Nat.zero_le _) rfl, (Below.refl _ _).alloc (Nat.le_refl _) _⟩
    case round =>
      obtain ⟨k, hk, rfl, ⟨A, c, rfl⟩, hown, hbel⟩ := hrel
      by_cases hlt : k < n
      · have hkp : k < ps.length := by omega
        obtain ⟨b0, off, e1, hblk, hcell, hpok⟩ := HP.out k hkp
        have hcat := catTo_next ps k hkp
        have hlen : (catTo ps k).length + (ps[k].b).length ≤ 1048576 := by have := HM.out (k + 1); rw [hcat, List.length_append] at this; exact this
        have hc := (hbel.cell (p := ⟨b0, off + k, none⟩) hblk).trans hcell
        have HCT := Lib.hid hcat
        obtain ⟨PA, hPA⟩ : ∃ x, x = ps[k].A := ⟨_, rfl⟩
        obtain ⟨pc, hpc⟩ : ∃ x, x = ps[k].c := ⟨_, rfl⟩
        obtain ⟨pb, hpb⟩ : ∃ x, x = ps[k].b := ⟨_, rfl⟩
        rw [← hPA, ← hpc, ← hpb] at hc
        rw [← hpb] at HCT hlen
        have hints : Ints wr w.heap.size .u8 PA (up pb) := by rw [hPA, hpb]; exact hpok.ints.below hbel
        have HNil : Hid (PA = none → pc = 0) := by unfold Hid; rw [hPA, hpc]; exact hpok.nil
        obtain rfl := e1
        have hkc : (k : Int) < (n : Int) := by omega
        have hsz := hbel.size
        obtain ⟨T, hT⟩ : ∃ T, T = catTo ps k := ⟨_, rfl⟩
        rw [← hT] at hown hlen HCT ⊢
        clear hcat hpok hcell hPA hpc hpb hT
        go_wp2_with (at_builtin; refine wpList_append_when _ rfl _ _ 22 rfl w.heap.size 5 i0 (.int .u8 0) 1 Tryd.underlying22 hi hz0 hz1 hz2 rfl .u8 _ (up T) (up pb) w.heap.size pc pb.length PA (up_len pb) rfl rfl (by rw [up_len]; exact hown) hints HNil.out ?d1 ?d2 hsz ?_)
        case d1 => rw [up_len, up_len]; unfold maxLen; omega
        case d2 => rw [up_len, up_len]; omega
        intro v3 w3 hown3 hg3 _
        have R : w3.ownsRow w.heap.size 5 1 v3 (catTo ps (k + 1)).length ((up (catTo ps (k + 1))).map (Value.int .u8)) ∧ Below w.heap.size w w3 := by
          refine ⟨?_, hbel.grown hg3 hsz fun q hq => (hown.lt q hq).1⟩
          rw [HCT.out, up_append, List.map_append, List.length_append, ← up_len T, ← up_len pb]
          exact hown3
        obtain ⟨A3, q3, hv3⟩ := own_slice R.1
        subst hv3
        clear hown3 hg3 hown hbel
        go_wp2
        go_roundw
        case rel => first | exact ⟨k + 1, by omega, by go_num, ⟨A3, q3, rfl⟩, R.1, R.2⟩ | ((repeat apply Exists.intro); exact ⟨⟨k + 1, by omega, by go_num, ⟨A3, q3, rfl⟩, R.1, R.2⟩, rfl⟩)
        case measure => simp [intOf]; omega
      · have hkn : k = n := by omega
        subst hkn
        have hTl := HM.out k
        have hTx := HXX.out k
        have hnl := own_nil hown
        have hik : Ints wr wr.heap.size .u8 A (up (catTo ps k)) := Ints.of_own (c := c) (n := (catTo ps k).length) (by rw [up_len]; exact hown)
        have hpl : (ps.take k).length = k := by rw [List.length_take]; omega
        have HCODE := HC A0 c0 key A1 c1 (ps.take k) wr hbel ((H0.out.below hbel).more hbel.size) HA0.out HB0.out hc0 (by omega) (((HP.out.below hbel).more hbel.size).take k) (by omega) (by omega) (by show (catTo ps k).length ≤ _; omega)
        rw [hpl, show cat (ps.take k) = catTo ps k from rfl] at HCODE
        obtain ⟨T, hT⟩ : ∃ T, T = catTo ps k := ⟨_, rfl⟩
        rw [← hT] at HCODE hTl hTx hik ⊢
        have HCD := Lib.hid HCODE
        have HRF := Lib.hid (fun (w' : World) (hb : Below wr.heap.size wr w') => refCode_any HR A0 A c0 c key T w' ((H0.out.below (chain hbel hb)).more (chain hbel hb).size) ((hik.below hb).more hb.size) HA0.out (fun h => hnl h) HB0.out hTx (by omega) (by omega))
        have HI : Hid ((Tryd.prog.info? 24).map (·.size) = some (BA (macN key T)).size) := by unfold Hid; rw [BA_size, macN_len]; kernel_rfl
        have HO : Hid (zero32.size = (BA (macN key T)).size) := by unfold Hid; rw [BA_size, macN_len]; rfl
        have H1' : Hid ((BA (macN key T)).all (·.oneCell') = true) := BA_one _
        have HBE := Lib.hid hbel
        obtain ⟨d, hd⟩ : ∃ d, d = up (macN key T) := ⟨_, rfl⟩
        have hdl : d.length = 32 := by rw [hd, up_len, macN_len]
        obtain ⟨tx, htx⟩ : ∃ tx, strOfNums d = tx := ⟨_, rfl⟩
        have HDL := Lib.hid hdl
        have HTX := Lib.hid htx
        have HQ : Hid (∀ (W : World) (g B : Nat) (t : TypeId) (fr : Nat × Nat), W.heap[g]? = some (.cells (BA (macN key T)) t fr) → g < B → Ints W B .u8 (some ⟨g, 0, none⟩) d) := fun W g B t fr h hg => by rw [hd]; exact ints_of_BA h hg
        rw [← hd] at HRF
        obtain ⟨D, hD⟩ : ∃ D, D = BA (macN key T) := ⟨_, rfl⟩
        rw [← hD] at HCD HI HO H1' HQ
        clear hD hd hdl htx hbel hik hnl hown hTl hTx HCODE hT hpl
        go_wp2_with (first
          | (go_at_call 8; with_reducible (refine Calls.mono HCD.out ?_); rintro e w4 ⟨rfl, hb4⟩)
          | (refine wpList_store_fresh rfl 24 _ _ rfl w4.heap.size _ rfl rfl 24 zero32 (heap_alloc_new _ _) HI.out HO.out H1'.out (hb4.alloc hb4.size _) hb4.size ?_; intro W hW hbW hkW hsW; have hgW : w4.heap.size < W.heap.size := (by rw [hsW]; simp); have hiW := HQ.out W _ _ _ _ hW hgW; clear hkW hsW hW))
        have HS5 : Hid (∀ w' : World, Below W.heap.size W w' → (convert 22 9 (.slice (some ⟨w4.heap.size, 0, none⟩) 32 32)).run Tryd.prog w' = .ok (.string tx) w') := fun w' hb' =>
          (hiW.below hb').textAs Tryd.underlying22 Tryd.underlying5 Tryd.underlying9 HDL.out HTX.out 32
        simp only [Act.put]
        clear hiW
        have hbx : Below W.heap.size W W.drew := (Below.refl _ _).drew
        have hk0 := HS5.out _ hbx
        go_region_with (first
          | (go_at_call 9; with_reducible (refine Calls.mono (HA.out _ (chain (chain HBE.out hbW) hbx)) ?_); rintro e w5 ⟨rfl, hb5⟩; have hbx := chain hbx hb5; have hk5 := HS5.out _ hbx)
          | (go_at_call 10; with_reducible (refine Calls.mono (HRF.out _ (chain hbW hbx)) ?_); rintro e w6 ⟨A6, c6, rfl, hc6, hi6, hb6⟩; have hbx := chain hbx hb6; have hk6 := HS5.out _ hbx; have hk7 := hi6.textAs (P := Tryd.prog) (n := 32) (t := tx) Tryd.underlying22 Tryd.underlying5 Tryd.underlying9 HDL.out HTX.out c6))
        all_goals (go_wp2; go_ret; exact ⟨rfl, chain (chain HBE.out hbW) hbx⟩)

end Go.Proofs.YtocnbhefjhammaaDoor
