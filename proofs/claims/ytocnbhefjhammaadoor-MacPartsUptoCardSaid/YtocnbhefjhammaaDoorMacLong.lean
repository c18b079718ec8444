/-
  MacLong as a walk, from what is asked of the layer's calls.
-/
import Derived.Test.YtocnbhefjhammaaDoorMacLaws
namespace Go.Proofs.YtocnbhefjhammaaDoor
open Go.RowKit

/-- A key that was made longer. -/
def ext (key : List Nat) (j : Nat) : List Nat := key ++ (List.range j).map fun i => (key.length + i) % 256
theorem ext_len (key : List Nat) (j : Nat) : (ext key j).length = key.length + j := by simp [ext]
theorem ext_succ (key : List Nat) (j : Nat) : ext key (j + 1) = ext key j ++ [(key.length + j) % 256] := by simp [ext, List.range_succ]
theorem ext_lt {key : List Nat} (hk : ∀ b ∈ key, b < 256) (j : Nat) : ∀ b ∈ ext key j, b < 256 := by
  intro b hb
  rcases List.mem_append.1 hb with h | h
  · exact hk b h
  · obtain ⟨i, _, rfl⟩ := List.mem_map.1 h
    omega

theorem below_one {W w w' : World} {o : Obj} (h : Below W.heap.size W w) (h2 : Below (w.alloc o).heap.size (w.alloc o) w') : Below W.heap.size W w' := (h.alloc h.size _).trans (h2.mono (by have := h.size; simp; omega))
theorem below_two {W w w' : World} {o o2 : Obj} (h : Below W.heap.size W w) (h2 : Below ((w.alloc o).alloc o2).heap.size ((w.alloc o).alloc o2) w') : Below W.heap.size W w' := ((h.alloc h.size _).alloc (by have := h.size; simp; omega) _).trans (h2.mono (by have := h.size; simp; omega))
section
variable {w w' : World} {v : Value} {t : TypeId} {o : Obj}
theorem cn1 : (w.alloc (.cells #[v] t)).cell? ⟨w.heap.size, 0, none⟩ = some v := by rw [cell_of_row _ _ 0 _ _ _ (heap_alloc_new w (.cells #[v] t))]; rfl
theorem cn2 : ((w.alloc (.cells #[v] t)).alloc o).cell? ⟨w.heap.size, 0, none⟩ = some v := by rw [World.cell?_alloc_lt _ _ _ (by simp)]; exact cn1
theorem cn3 : ((w.alloc o).alloc (.cells #[v] t)).cell? ⟨w.heap.size + 1, 0, none⟩ = some v := by have := cn1 (w := w.alloc o) (v := v) (t := t); rwa [World.size_alloc] at this
theorem ca2 (h : Below ((w.alloc (.cells #[v] t)).alloc o).heap.size ((w.alloc (.cells #[v] t)).alloc o) w') : w'.cell? ⟨w.heap.size, 0, none⟩ = some v := (h.cell (p := ⟨w.heap.size, 0, none⟩) (by simp; omega)).trans cn2
theorem ca3 (h : Below ((w.alloc o).alloc (.cells #[v] t)).heap.size ((w.alloc o).alloc (.cells #[v] t)) w') : w'.cell? ⟨w.heap.size + 1, 0, none⟩ = some v := (h.cell (p := ⟨w.heap.size + 1, 0, none⟩) (by simp)).trans cn3
end
def lenW : Value → Nat
  | .slice _ n _ => n
  | _ => 0

set_option maxHeartbeats 800000 in
theorem macLong_go (A0 A1 : Option Addr) (c0 c1 n : Nat) (key text : List Nat) (w : World) (HC : CodeSpec w) (HS : SameSpec) (HD : DigestSpec w) (h0 : Ints w w.heap.size .u8 A0 (up key)) (h1 : Ints w w.heap.size .u8 A1 (up text)) (hA0 : A0 = none → c0 = 0) (hA1 : A1 = none → c1 = 0) (hb0 : ∀ b ∈ key, b < 256) (hb1 : ∀ b ∈ text, b < 256)
    (hc1 : text.length ≤ c1) (hm0 : key.length ≤ 140737488354000) (hm1 : text.length ≤ 140737488354000) (hn : n < 256) :
    Calls Tryd.prog 7 #[.slice A0 key.length c0, .slice A1 text.length c1, .int .u8 (n : Int)] w fun e w' => e = .returned (.bool true) ∧ Below w.heap.size w w' := by
  obtain ⟨i0, hi, hz0, hz1, hz2⟩ := info_parts Tryd.infoU8'
  have HA := Lib.hid (macAwake HC HS)
  have HB0 := Lib.hid hb0
  clear hb0
  go_enter Tryd.func7, Tryd.ntmps7
  go_wp2_with (at_builtin; refine wpList_append_when _ rfl _ _ 22 rfl w.heap.size 5 i0 (.int .u8 0) 1 Tryd.underlying22 hi hz0 hz1 hz2 rfl .u8 _ [] (up key) w.heap.size c0 key.length A0 (up_len key) rfl rfl (World.ownsRow_made w #[] 0 (Nat.le_refl _) (Nat.zero_le _) rfl) (h0.alloc (Nat.le_refl _) _) hA0 ?d1 ?d2 ?d3 ?_)
  case d1 => rw [List.length_nil, up_len]; unfold maxLen; omega
  case d2 => rw [List.length_nil, up_len]; omega
  case d3 => simp
  intro v1 w1 hown1 hg1 _
  have hbel1 : Below w.heap.size w w1 := ((Below.refl _ _).alloc (Nat.le_refl _) _).grown hg1 (by simp) fun q hq => by simp [Value.ownBlock] at hq; omega
  have hw1 : w1.ownsRow w.heap.size 5 1 v1 (key.length + 0) ((up (ext key 0)).map (Value.int .u8)) := by
    rw [show ext key 0 = key by simp [ext], Nat.add_zero, ← up_len key]
    exact hown1
  obtain ⟨A2, c2, hv⟩ := own_slice hw1
  subst hv
  clear hown1 hg1
  go_wp2
  have hn1 : (0 : Int) ≤ n := by omega
  have hn2 : (n : Int) ≤ 255 := by omega
  go_loopw [7] (fun v wr => ∃ j : Nat, j ≤ 321 ∧ (∃ A c, v = .slice A (key.length + j) c) ∧ wr.ownsRow w.heap.size 5 1 v (key.length + j) ((up (ext key j)).map (Value.int .u8)) ∧ Below w.heap.size w wr ∧ (0 < j → key.length + j ≤ 321)) (fun v _ => 321 - lenW v)
  case atStart => exact ⟨0, by omega, ⟨A2, c2, rfl⟩, hw1, hbel1, fun h => by omega⟩
  case round =>
    clear hw1 hbel1
    obtain ⟨j, hj, ⟨A, c, rfl⟩, hown, hbel, hj2⟩ := hrel
    by_cases hlt : key.length + j ≤ 64 + n
    · have hlti : ((key.length + j : Nat) : Int) ≤ 64 + (n : Int) := by omega
      have hsz := hbel.size
      have HS2 := Lib.hid (ext_succ key j)
      obtain ⟨L, hL⟩ : ∃ L, L = key.length + j := ⟨_, rfl⟩
      rw [← hL] at hown hlti ⊢
      have HLL := Lib.hid hL
      have hLb : L ≤ 320 := by omega
      clear hL
      go_wp2_with (at_builtin; refine wpList_append_own_at _ rfl _ _ 22 rfl w.heap.size 5 i0 (.int .u8 0) 1 1 Tryd.underlying22 hi hz0 hz1 hz2 rfl (by decide) _ _ _ rfl (hown.alloc _) ⟨wr.heap.size, 0, none⟩ 1 1 [_] rfl rfl (cell_one_new _ _ _) ?d1 ?d2 ?d3 ?d4 ?_)
      case d1 => intro u hu; simp at hu; subst hu; rfl
      case d2 => unfold maxLen; omega
      case d3 => omega
      case d4 => simp; omega
      intro v3 w3 hown3 hg3 _ _
      have R : w3.ownsRow w.heap.size 5 1 v3 (key.length + (j + 1)) ((up (ext key (j + 1))).map (Value.int .u8)) ∧ Below w.heap.size w w3 := by
        refine ⟨?_, (hbel.alloc hsz _).grown hg3 (by simp; omega) fun q hq => (hown.lt q hq).1⟩
        rw [HS2.out, up_append, List.map_append, ← Nat.add_assoc, ← HLL.out]
        have e : (L : Int) % 256 = ((L % 256 : Nat) : Int) := by rw [Int.natCast_emod]; rfl
        have h := hown3
        rw [e] at h
        exact h
      obtain ⟨A3, q3, hv3⟩ := own_slice R.1
      subst hv3
      have hjn : key.length + (j + 1) ≤ 321 := by have := HLL.out; omega
      clear hown3 hg3 hown hbel
      go_wp2
      go_roundw
      case rel => first | exact ⟨j + 1, by omega, ⟨A3, q3, rfl⟩, R.1, R.2, fun _ => hjn⟩ | ((repeat apply Exists.intro); exact ⟨⟨j + 1, by omega, ⟨A3, q3, rfl⟩, R.1, R.2, fun _ => hjn⟩, rfl⟩)
      case measure => have := HLL.out; simp [lenW]; omega
    · have hlti : ¬ ((key.length + j : Nat) : Int) ≤ 64 + (n : Int) := by omega
      have hlen := ext_len key j
      have hK := ext_lt HB0.out j
      have hnl := own_nil hown
      have hle := own_le hown
      have hik : Ints wr wr.heap.size .u8 (A) (up (ext key j)) := Ints.of_own (c := c) (n := key.length + j) (by rw [up_len, hlen]; exact hown)
      have hLm : key.length + j ≤ 140737488354000 := by omega
      obtain ⟨K, hKe⟩ : ∃ K, K = ext key j := ⟨_, rfl⟩
      rw [← hKe] at hlen hK hik
      have HDG := Lib.hid (HD A c K wr hbel hik (fun h => hnl h) hK (by rw [hlen]; exact hle) (by omega))
      have HIK := Lib.hid (hik)
      have HI : Hid ((Tryd.prog.info? 24).map (·.size) = some (BA (digestN K)).size) := by unfold Hid; rw [BA_size, digest_len]; kernel_rfl
      have HO : Hid (zero32.size = (BA (digestN K)).size) := by unfold Hid; rw [BA_size, digest_len]; rfl
      have H1' : Hid ((BA (digestN K)).all (·.oneCell') = true) := BA_one _
      have hone : ∀ (w' : World) (g : Nat), w'.cell? ⟨g, 0, none⟩ = some (.slice A1 text.length c1) → Below w.heap.size w w' → Parts w' w'.heap.size (some ⟨g, 0, none⟩) [⟨A1, c1, text⟩] := fun w' g hc hb i hi => by
        have h0 : i = 0 := by simp at hi; omega
        subst h0
        exact ⟨g, 0, rfl, World.block_lt_of_cell? w' _ hc, hc, ⟨(h1.below hb).more hb.size, hA1, hb1, hc1⟩⟩
      have ecat : cat [⟨A1, c1, text⟩] = text := by simp [cat]
      have HC1 : Hid (∀ (w' : World) (g : Nat), Below wr.heap.size wr w' → w'.cell? ⟨g, 0, none⟩ = some (.slice A1 text.length c1) →
          Calls Tryd.prog 8 #[.slice A K.length c, .slice (some ⟨g, 0, none⟩) 1 1] w' fun e w2 => e = .returned (.agg (BA (macN K text))) ∧ Below w'.heap.size w' w2) := fun w' g hb hc => by
        have h := HC A c K (some ⟨g, 0, none⟩) 1 [⟨A1, c1, text⟩] w' (chain hbel hb) ((hik.below hb).more hb.size) (fun h => hnl h) hK (by rw [hlen]; exact hle) (by omega) (hone w' g hc (chain hbel hb)) (by simp) (by simp) (by rw [ecat]; omega)
        rw [ecat] at h
        exact h
      have HC2 : Hid (∀ (w' : World) (g q : Nat), Below wr.heap.size wr w' → w'.cell? ⟨g, 0, none⟩ = some (.slice A1 text.length c1) → Ints w' w'.heap.size .u8 (some ⟨q, 0, none⟩) (up (digestN K)) →
          Calls Tryd.prog 8 #[.slice (some ⟨q, 0, none⟩) 32 32, .slice (some ⟨g, 0, none⟩) 1 1] w' fun e w2 => e = .returned (.agg (BA (macN K text))) ∧ Below w'.heap.size w' w2) := fun w' g q hb hc hq => by
        have h := HC (some ⟨q, 0, none⟩) 32 (digestN K) (some ⟨g, 0, none⟩) 1 [⟨A1, c1, text⟩] w' (chain hbel hb) hq (fun h => by cases h) (digestN_lt K) (by rw [digestN_len]; omega) (by rw [digestN_len]; omega) (hone w' g hc (chain hbel hb)) (by simp) (by simp) (by rw [ecat]; omega)
        rw [ecat, digestN_len, macN_long K text (by rw [hlen]; omega)] at h
        exact h
      have HDI : Hid (∀ (w' : World) (q : Nat) (t : TypeId), w'.heap[q]? = some (.cells (BA (digestN K)) t (0, 0)) → q < w'.heap.size → Ints w' w'.heap.size .u8 (some ⟨q, 0, none⟩) (up (digestN K))) := fun w' q t h hq => ints_of_BA h hq
      have heq : ∀ w : World, (Op.equalIn 10000 24 (.agg (BA (macN K text))) (.agg (BA (macN K text)))).run Tryd.prog w = .ok true w := fun w => by
        have := run_eqArrays (P := Tryd.prog) (t := 24) (e := 5) (n := 32) (i := i0) (by kernel_rfl) Tryd.underlying5 Tryd.underlying24 hi hz1 (macN K text) (macN K text) rfl rfl w
        rw [this, beq_self_eq_true]
      rw [hlen] at HDG HC1
      obtain ⟨D, hD⟩ : ∃ D, D = BA (digestN K) := ⟨_, rfl⟩
      rw [← hD] at HDG HI HO H1' HDI
      obtain ⟨M, hM⟩ : ∃ M, M = BA (macN K text) := ⟨_, rfl⟩
      rw [← hM] at HC1 HC2 heq
      obtain ⟨L, hL⟩ : ∃ L, L = key.length + j := ⟨_, rfl⟩
      rw [← hL] at HDG HC1 hlti ⊢
      have HBE := Lib.hid hbel
      clear hKe hD hM hone ecat hik hown hK hlen hnl hle hbel hL hLm hj2 h0 h1 hA0 hA1 hb1
      go_wp2_with (first
        | (go_at_call 14; with_reducible (refine Calls.mono HDG.out ?_); rintro e w4 ⟨rfl, hb4⟩)
        | (refine wpList_store_fresh rfl 24 _ _ rfl w4.heap.size _ rfl rfl 24 zero32 (heap_alloc_new _ _) HI.out HO.out H1'.out (hb4.alloc hb4.size _) hb4.size ?_; intro W hW hbW hkW hsW; have hgW : w4.heap.size < W.heap.size := (by rw [hsW]; simp); have HQ := Lib.hid (fun (w' : World) (hb : Below W.heap.size W w') => HDI.out w' _ _ (row_keep hW hb hgW) (Nat.lt_of_lt_of_le hgW hb.size)); clear hkW hsW hW))
      simp only [Act.put]
      have hbx : Below W.heap.size W W.drew := (Below.refl _ _).drew
      go_region_with (first
        | (go_at_call 9; with_reducible (refine Calls.mono (HA.out _ (chain (chain HBE.out hbW) hbx)) ?_); rintro e w5 ⟨rfl, hb5⟩; have hbx := chain hbx hb5)
        | (go_at_call_of 8 (Value.slice A L c); with_reducible (refine Calls.mono (HC1.out _ _ (chain hbW ?hb) ?hc) ?_); (case hb => first | with_reducible exact hbx | with_reducible exact hbx.alloc hbx.size _ | exact (hbx.alloc hbx.size _).alloc (by have := hbx.size; simp; omega) _); (case hc => first | with_reducible exact cn1 | with_reducible exact cn2 | with_reducible exact cn3 | with_reducible exact ca2 hb6 | with_reducible exact ca3 hb6); rintro e w6 ⟨rfl, hb6⟩; have hbx : Below W.heap.size W w6 := (by first | with_reducible exact chain hbx hb6 | with_reducible exact below_one hbx hb6 | with_reducible exact below_two hbx hb6))
        | (go_at_call 8; with_reducible (refine Calls.mono (HC2.out _ _ _ (chain hbW ?hb) ?hc (HQ.out _ ?hq)) ?_); (case hb => first | with_reducible exact hbx | with_reducible exact hbx.alloc hbx.size _ | exact (hbx.alloc hbx.size _).alloc (by have := hbx.size; simp; omega) _); (case hc => first | with_reducible exact cn1 | with_reducible exact cn2 | with_reducible exact cn3 | with_reducible exact ca2 hb6 | with_reducible exact ca3 hb6); (case hq => first | with_reducible exact hbx | with_reducible exact hbx.alloc hbx.size _ | exact (hbx.alloc hbx.size _).alloc (by have := hbx.size; simp; omega) _); rintro e w7 ⟨rfl, hb7⟩; have hbx : Below W.heap.size W w7 := (by first | with_reducible exact chain hbx hb7 | with_reducible exact below_one hbx hb7 | with_reducible exact below_two hbx hb7)))
      all_goals (go_wp2; go_ret; exact ⟨rfl, chain (chain HBE.out hbW) hbx⟩)

end Go.Proofs.YtocnbhefjhammaaDoor
