/-
  The law TableOrder as a walk.
-/
import Derived.Test.YtnenpafofplbhaaTableBack
import Derived.Test.YtnenpafofplbhaaTableC21
namespace Go.Proofs.Ytnenpafofplbhaa
open Go.RowKit

/-! ### Plain -/
def idStep (l : List Int) (b : Int) : List Int := if b % 7 + 1 ∈ l then l else l ++ [b % 7 + 1]
def idsR (bs : List Int) : List Int := bs.foldl idStep []
theorem ids_next {bs : List Int} {k : Nat} (h : k < bs.length) : idsR (bs.take (k + 1)) = idStep (idsR (bs.take k)) (bs.getD k 0) := by
  unfold idsR
  rw [take_snoc bs k h, List.foldl_append]; rfl
theorem ids_fold : ∀ (bs l : List Int), l.Nodup → (∀ i ∈ l, 1 ≤ i ∧ i ≤ 7) → (bs.foldl idStep l).Nodup ∧ (∀ i ∈ bs.foldl idStep l, 1 ≤ i ∧ i ≤ 7) ∧ (bs.foldl idStep l).length ≤ l.length + bs.length
  | [], l, h1, h2 => ⟨h1, h2, Nat.le_refl _⟩
  | b :: bs, l, h1, h2 => by
    have key : (idStep l b).Nodup ∧ (∀ i ∈ idStep l b, 1 ≤ i ∧ i ≤ 7) ∧ (idStep l b).length ≤ l.length + 1 := by
      unfold idStep
      by_cases h : b % 7 + 1 ∈ l
      · rw [if_pos h]; exact ⟨h1, h2, by omega⟩
      · rw [if_neg h]
        refine ⟨List.pairwise_append.2 ⟨h1, by simp, fun x hx y hy e => ?_⟩, fun i hi => ?_, by simp⟩
        · rw [List.mem_singleton] at hy; subst hy; exact h (e ▸ hx)
        · rcases List.mem_append.1 hi with hi | hi
          · exact h2 i hi
          · rw [List.mem_singleton] at hi; subst hi; omega
    obtain ⟨k1, k2, k3⟩ := key
    obtain ⟨q1, q2, q3⟩ := ids_fold bs (idStep l b) k1 k2
    refine ⟨q1, q2, ?_⟩
    rw [List.foldl_cons, List.length_cons]
    omega
theorem ids_ok (bs : List Int) (k : Nat) : (idsR (bs.take k)).Nodup ∧ (∀ i ∈ idsR (bs.take k), 1 ≤ i ∧ i ≤ 7) ∧ (idsR (bs.take k)).length ≤ k := by
  obtain ⟨q1, q2, q3⟩ := ids_fold (bs.take k) [] List.nodup_nil (by simp)
  refine ⟨q1, q2, ?_⟩
  have : (bs.take k).length ≤ k := by rw [List.length_take]; omega
  unfold idsR
  simp only [List.length_nil] at q3
  omega
theorem back_next {ids : List Int} {p : Nat} (h : p < ids.length) : (ids.drop p).reverse = (ids.drop (p + 1)).reverse ++ [ids[p]] := by
  rw [List.drop_eq_getElem_cons h, List.reverse_cons]
theorem ten_okR {i : Int} (h : 1 ≤ i ∧ i ≤ 7) : (tenR key1 i).ok := by
  have one : I64n 1 := by unfold I64n; omega
  have hi : I64n i := by unfold I64n; omega
  exact ⟨one, hi, one, hi, one, show key1.size ≤ 9223372036854775807 by decide +kernel⟩
theorem not_mem_take {l : List Int} {b : Int} {j : Nat} (h : j < l.length) : (b ∉ l.take (j + 1)) ↔ (b ∉ l.take j ∧ l[j] ≠ b) := by
  rw [List.take_succ_eq_append_getElem h, List.mem_append, List.mem_singleton]
  constructor
  · intro q; exact ⟨fun x => q (.inl x), fun x => q (.inr x.symm)⟩
  · rintro ⟨q1, q2⟩ (x | x)
    · exact q1 x
    · exact q2 x.symm
theorem recs_of_own {w : World} {lo n c : Nat} {A : Option Addr} {rs : List Rc} (h : w.ownsRow lo 42 6 (.slice A n c) n (flat recC rs)) (hn : n = rs.length) : RecsAt w w.heap.size A rs := by
  subst hn; exact recs_of_row h
theorem ten_rows {W0 w : World} {c : Nat} {A : Option Addr} {ids : List Int} (h : ImR W0 (ids.map (tenR key1)) (.slice A ids.length c) w) : RecsAt w w.heap.size A (ids.map (tenR key1)) := by
  have q := h.own
  rw [List.length_map] at q
  exact recs_of_own q (by rw [List.length_map])
theorem ten_rec {W : World} {B b off j : Nat} {A : Option Addr} {ids : List Int} (h : RecsAt W B A (ids.map (tenR key1))) (hA : A = some ⟨b, off, none⟩) (hj : j < ids.length) : W.cell? ⟨b, off + j * 6, none⟩ = some (.int .i64 1) ∧ W.cell? ⟨b, off + j * 6 + 1, none⟩ = some (.int .i64 ids[j]) ∧ W.cell? ⟨b, off + j * 6 + 2, none⟩ = some (.int .i64 1) ∧ W.cell? ⟨b, off + j * 6 + 3, none⟩ = some (.int .i64 ids[j]) ∧ W.cell? ⟨b, off + j * 6 + 4, none⟩ = some (.int .i64 1) ∧ W.cell? ⟨b, off + j * 6 + 5, none⟩ = some (.string key1) := by
  obtain ⟨b2, off2, e, _, c0, c1, c2, c3, c4, c5⟩ := rec_at6 h (k := j) (by rw [List.length_map]; exact hj)
  rw [hA] at e
  injection e with e
  injection e with e1 e2
  subst e1 e2
  rw [List.getElem_map] at c0 c1 c2 c3 c4 c5
  exact ⟨c0, c1, c2, c3, c4, c5⟩
theorem ten_adr {W : World} {B : Nat} {A : Option Addr} {ids : List Int} (h : RecsAt W B A (ids.map (tenR key1))) (hj : 0 < ids.length) : ∃ b off, A = some ⟨b, off, none⟩ := by
  obtain ⟨b, off, e, _⟩ := h 0 (by rw [List.length_map]; exact hj)
  exact ⟨b, off, e⟩

set_option maxHeartbeats 6400000 in
set_option maxRecDepth 20000 in
/-- TableOrder. -/
theorem tableOrder_go (A : Option Addr) (c : Nat) (bs : List Int) (s : Int) (w : World) (HS : TableSpec w) (hi : Ints w w.heap.size .u8 A bs) (hbs : ∀ z ∈ bs, 0 ≤ z ∧ z ≤ 255) (hs : 0 ≤ s ∧ s ≤ 255) :
    Calls Try.prog 9 #[.slice A bs.length c, .int .u8 s] w fun e w' => e = .returned (.bool true) ∧ Below w.heap.size w w' := by
  obtain ⟨i0, hi0, hz0, hz1, hz2⟩ := info_parts Try.infoRecD
  obtain ⟨m, hm⟩ : ∃ m : Nat, (m : Int) = s % 64 + 1 := ⟨(s % 64 + 1).toNat, by omega⟩
  have hm1 : 1 ≤ m := by omega
  have hm2 : m ≤ 64 := by omega
  have e1 := hm.symm
  have e7 : ∀ V7 : TabW, tabV V7 (newR m) = #[.slice V7.A1 0 V7.c1, .slice V7.A2 0 V7.c2, .slice V7.A3 m V7.c3] := fun V7 => by
    unfold tabV newR
    simp only [List.length_nil, List.length_replicate]
  have A1 := HS.new m w (Below.refl _ _) hm1 hm2
  have HAW := Lib.hid (fun X (hb : Below w.heap.size w X) => tableAwake HS X hb)
  have HAPP : ∀ (ids : List Int), ids.Nodup → (∀ i ∈ ids, 1 ≤ i ∧ i ≤ 7) → ids.length ≤ 7 → ∀ V1 X A c, Below w.heap.size w X → TabAt X X.heap.size V1 (newR m) → RecsAt X X.heap.size A (ids.map (tenR key1)) → ids.length ≤ c →
      Calls Try.prog 19 #[.agg (tabV V1 (newR m)), .slice A ids.length c] X fun e w' => ∃ V', e = .returned (.tuple #[.agg (tabV V' (applyR (newR m) (ids.map (tenR key1))).2), .int .i64 (applyR (newR m) (ids.map (tenR key1))).1]) ∧ TabAt w' w'.heap.size V' (applyR (newR m) (ids.map (tenR key1))).2 ∧ TabFrom X.heap.size V' ∧ Below X.heap.size X w' := fun ids hn hr h7 V1 X A c hb ht hl hc => by
    have q := HS.apply V1 (newR m) A c (ids.map (tenR key1)) X hb ht (newR_ok hm2) hl (by rw [List.length_map]; exact hc) (fun r hr' => by
      obtain ⟨i, hi, rfl⟩ := List.mem_map.1 hr'
      exact ten_okR (hr i hi)) (by rw [List.length_map]; omega)
    rwa [List.length_map] at q
  have hsn := newR_sound hm1 hm2
  have HORD : Hid (∀ ids : List Int, ids.Nodup → (∀ i ∈ ids, 1 ≤ i ∧ i ≤ 7) → applyR (newR m) (ids.map (tenR key1)) = (if ids.length ≤ m then (0, ⟨putAll key1 [] ids, [], List.replicate m 0⟩) else (6, Tab.zero)) ∧ applyR (newR m) (ids.reverse.map (tenR key1)) = applyR (newR m) (ids.map (tenR key1))) := fun ids hn hr => by
    rw [apply_one hsn, apply_one hsn]
    exact order_same (by decide +kernel) hn hr
  have HFEW : Hid (∀ ids : List Int, (applyR (newR m) (ids.map (tenR key1))).2.ts.length ≤ 7 ∧ (applyR (newR m) (ids.map (tenR key1))).2.vs.length ≤ 8 ∧ (applyR (newR m) (ids.map (tenR key1))).2.os.length ≤ 64) := fun ids => by
    by_cases h0 : (applyR (newR m) (ids.map (tenR key1))).1 = 0
    · exact sound_few (apply_sound h0).2.1
    · rw [apply_zero h0]; exact ⟨Nat.zero_le _, Nat.zero_le _, Nat.zero_le _⟩
  simp only [e7] at A1 HAPP
  have HA1 := Lib.hid A1
  have HAP := Lib.hid HAPP
  obtain ⟨I, hI⟩ : ∃ I : Nat → List Int, I = fun k => idsR (bs.take k) := ⟨_, rfl⟩
  have hIk : ∀ k, I k = idsR (bs.take k) := fun k => by rw [hI]
  have HI0 : Hid (I 0 = []) := by unfold Hid; rw [hIk]; rfl
  have HIN : Hid (∀ k, k < bs.length → I (k + 1) = if bs.getD k 0 % 7 + 1 ∈ I k then I k else I k ++ [bs.getD k 0 % 7 + 1]) := fun k hk => by
    rw [hIk, hIk]; exact ids_next hk
  have HIO : Hid (∀ k, (I k).Nodup ∧ (∀ i ∈ I k, 1 ≤ i ∧ i ≤ 7) ∧ (I k).length ≤ k) := fun k => by rw [hIk]; exact ids_ok bs k
  have HBYTE : Hid (∀ X, Below w.heap.size w X → ∀ k, k < bs.length → ∃ b off, A = some ⟨b, off, none⟩ ∧ X.cell? ⟨b, off + k, none⟩ = some (.int .u8 (bs.getD k 0))) := fun X hb k hk => by
    obtain ⟨b, off, e, _, q⟩ := (hi.below hb) k hk
    exact ⟨b, off, e, q⟩
  have HBS : Hid (∀ k, k < bs.length → 0 ≤ bs.getD k 0 ∧ bs.getD k 0 ≤ 255) := fun k hk => hbs _ (getD_mem hk)
  obtain ⟨N, hN⟩ : ∃ N, N = bs.length := ⟨_, rfl⟩
  simp only [← hN] at HIN HBYTE HBS ⊢
  have hsa := hs.1
  have hsb := hs.2
  clear A1 HAPP hIk hI hsn e7 hi hbs hN hm HS hs
  go_enter Try.func9, Try.ntmps9
  go_wp2_with (first
    | (go_at_call 15; with_reducible (refine Calls.mono HA1.out ?_); rintro e w3 ⟨V1, rfl, ht3, hf3, hb3⟩
       have ha3 : Below w3.heap.size w3 (w3.alloc (.cells #[.slice V1.A1 0 V1.c1, .slice V1.A2 0 V1.c2, .slice V1.A3 m V1.c3] 26)) := (Below.refl _ _).alloc (Nat.le_refl _) _
       have hb7 := ha3.alloc ha3.size (.cells #[.slice V1.A1 0 V1.c1, .slice V1.A2 0 V1.c2, .slice V1.A3 m V1.c3] 26)
       have hx7 := chain hb3 hb7)
    | (go_at_call 11; with_reducible (refine Calls.mono (HAW.out _ hx7) ?_); rintro e w4 ⟨rfl, hb4⟩))
  have HX0 := Lib.hid (chain hx7 hb4)
  have ht7 := (ht3.below hb7).more hb7.size
  have hq5 : (((w3.alloc (.cells #[.slice V1.A1 0 V1.c1, .slice V1.A2 0 V1.c2, .slice V1.A3 m V1.c3] 26)).alloc (.cells #[.slice V1.A1 0 V1.c1, .slice V1.A2 0 V1.c2, .slice V1.A3 m V1.c3] 26))).heap[w3.heap.size]? = some (.cells #[.slice V1.A1 0 V1.c1, .slice V1.A2 0 V1.c2, .slice V1.A3 m V1.c3] 26 (0, 0)) := by
    rw [Below.heap_alloc _ _ _ (by simp)]; exact heap_alloc_new _ _
  have hq7 := heap_alloc_new (w3.alloc (.cells #[.slice V1.A1 0 V1.c1, .slice V1.A2 0 V1.c2, .slice V1.A3 m V1.c3] 26)) (.cells #[.slice V1.A1 0 V1.c1, .slice V1.A2 0 V1.c2, .slice V1.A3 m V1.c3] 26)
  rw [show (w3.alloc (.cells #[.slice V1.A1 0 V1.c1, .slice V1.A2 0 V1.c2, .slice V1.A3 m V1.c3] 26)).heap.size = w3.heap.size + 1 by simp] at hq7
  have hof := Off.of_at ht3 (Nat.le_refl _)
  have hof7 := Off.of_at (q := w3.heap.size + 1) ht3 (by omega)
  have hlo : w.heap.size ≤ w3.heap.size := hb3.size
  have HBOX : Hid (∀ X, Below w4.heap.size w4 X → X.heap[w3.heap.size]? = some (.cells #[.slice V1.A1 0 V1.c1, .slice V1.A2 0 V1.c2, .slice V1.A3 m V1.c3] 26 (0, 0)) ∧ X.heap[w3.heap.size + 1]? = some (.cells #[.slice V1.A1 0 V1.c1, .slice V1.A2 0 V1.c2, .slice V1.A3 m V1.c3] 26 (0, 0)) ∧ TabAt X X.heap.size V1 (newR m)) := fun X hb => by
    have hc := chain hb4 hb
    exact ⟨(hc.block _ (Array.getElem?_eq_some_iff.1 hq5).1).trans hq5, (hc.block _ (Array.getElem?_eq_some_iff.1 hq7).1).trans hq7, (ht7.below hc).more hc.size⟩
  have HQ : Hid (w.heap.size ≤ w3.heap.size ∧ w3.heap.size + 1 < w4.heap.size) := ⟨hlo, by have := hb4.size; have := (Array.getElem?_eq_some_iff.1 hq7).1; omega⟩
  have HOFF : Hid (Off w3.heap.size V1 (newR m) ∧ Off (w3.heap.size + 1) V1 (newR m)) := ⟨hof, hof7⟩
  have S0 : Hid (ImR w4 ((I 0).map (tenR key1)) (.slice (some ⟨w4.heap.size, 0, none⟩) (I 0).length 0) (w4.alloc (.cells #[] 42))) := by
    rw [HI0.out]
    exact ⟨(Below.refl _ _).alloc (Nat.le_refl _) _, World.ownsRow_made w4 #[] 0 (Nat.le_refl _) (by decide) rfl⟩
  have HV0 : Hid (Value.slice (some ⟨w4.heap.size, 0, none⟩) 0 0 = .slice (some ⟨w4.heap.size, 0, none⟩) (I 0).length 0) := by unfold Hid; rw [HI0.out]; rfl
  obtain ⟨q, hq⟩ : ∃ q, q = w3.heap.size := ⟨_, rfl⟩
  rw [← hq] at HBOX HQ HOFF ⊢
  clear hq hq5 hq7 hof hof7 hlo ht7 hb4 hx7 hb7 ha3 hb3 hf3 ht3 HA1 HAW
  go_loopw [8, 9] (fun lv iv wr => ∃ (k : Nat) (A : Option Addr) (c : Nat), k ≤ N ∧ k ≤ 7 ∧ iv = .int .i64 k ∧ lv = .slice A (I k).length c ∧ Hid (ImR w4 ((I k).map (tenR key1)) (.slice A (I k).length c) wr)) (fun _ iv _ => N - (intOf iv).toNat)
  case atStart => exact ⟨0, some ⟨w4.heap.size, 0, none⟩, 0, Nat.zero_le _, by omega, rfl, HV0.out, S0.out⟩
  case round =>
    clear S0 HV0
    obtain ⟨k, B, cb, hk, hk7, rfl, rfl, S⟩ := hrel
    have k0 : (0 : Int) ≤ (k : Int) := by omega
    by_cases hgo : k < N ∧ k < 7
    · obtain ⟨hlt, hlt7⟩ := hgo
      have k1 : (k : Int) < (N : Int) := by omega
      have k2 : (k : Int) < 7 := by omega
      obtain ⟨b, off, rfl, q0⟩ := HBYTE.out wr (chain HX0.out S.out.below) k hlt
      obtain ⟨z0, z1⟩ := HBS.out k hlt
      have hnx := HIN.out k hlt
      obtain ⟨z, hz⟩ : ∃ z, z = bs.getD k 0 := ⟨_, rfl⟩
      rw [← hz] at q0 z0 z1 hnx
      obtain ⟨d, hd⟩ : ∃ d, d = z % 7 + 1 := ⟨_, rfl⟩
      rw [← hd] at hnx
      have e2 := hd.symm
      have HNX := Lib.hid hnx
      obtain ⟨hnd, hrg, hl⟩ := HIO.out k
      have hrow : RecsAt wr wr.heap.size B ((I k).map (tenR key1)) := ten_rows S.out
      obtain ⟨ids, hids⟩ : ∃ l, l = I k := ⟨_, rfl⟩
      rw [← hids] at hrow S hl HNX ⊢
      obtain ⟨M, hM⟩ : ∃ M, M = ids.length := ⟨_, rfl⟩
      have HM := Lib.hid hM
      rw [← hM] at hl S ⊢
      have HROW := Lib.hid hrow
      have hl7 : M ≤ 7 := by omega
      clear hnx hd hz hrow hnd hrg hids hM
      go_wp2
      clear q0 z0 z1 e2
      have HF0 : Hid (Value.bool true = .bool (decide (d ∉ ids.take 0))) := by unfold Hid; simp
      go_loop [11, 12] (fun fv jv => ∃ j : Nat, j ≤ M ∧ jv = .int .i64 j ∧ fv = .bool (decide (d ∉ ids.take j))) (fun _ jv => M - (intOf jv).toNat)
      case atStart => exact ⟨0, Nat.zero_le _, rfl, HF0.out⟩
      case round =>
        obtain ⟨j, hj, rfl, rfl⟩ := hrel
        have j0 : (0 : Int) ≤ (j : Int) := by omega
        by_cases hjl : j < M
        · have j1 : (j : Int) < (M : Int) := by omega
          have hjx : j < ids.length := by have := HM.out; omega
          obtain ⟨b2, off2, rfl⟩ := ten_adr HROW.out (by omega)
          obtain ⟨_, u1, _⟩ := ten_rec HROW.out rfl hjx
          have hnm := not_mem_take (b := d) hjx
          obtain ⟨x, hx⟩ : ∃ x, x = ids[j] := ⟨_, rfl⟩
          rw [← hx] at u1 hnm
          obtain ⟨F, hF⟩ : ∃ F, F = decide (d ∉ ids.take j) := ⟨_, rfl⟩
          have HFN : Hid (decide (d ∉ ids.take (j + 1)) = (F && (x != d))) := by
            unfold Hid
            rw [hF, Bool.eq_iff_iff]
            simp only [decide_eq_true_eq, Bool.and_eq_true, bne_iff_ne]
            exact hnm
          rw [← hF]
          clear hx hF hnm
          cases F
          · go_wp2
            go_round
            case rel => exact ⟨j + 1, by omega, by go_num, by rw [HFN.out]; rfl⟩
            case measure => simp [intOf]; omega
          · go_wp2
            go_round
            case rel => exact ⟨j + 1, by omega, by go_num, by rw [HFN.out]; rfl⟩
            case measure => simp [intOf]; omega
        · have hjM : M = j := by omega
          subst hjM
          have htk : ids.take M = ids := by rw [HM.out, List.take_length]
          rw [htk]
          by_cases hmem : d ∈ ids
          · have hff : decide (d ∉ ids) = false := by simp [hmem]
            rw [hff]
            have hin : I (k + 1) = ids := by rw [HNX.out, if_pos hmem]
            have S2 : Hid (ImR w4 ((I (k + 1)).map (tenR key1)) (.slice B (I (k + 1)).length cb) wr) := by unfold Hid; rw [hin, ← HM.out]; exact S.out
            have HV2 : Hid (Value.slice B M cb = .slice B (I (k + 1)).length cb) := by unfold Hid; rw [hin, ← HM.out]
            clear hff hin htk hmem HNX HM HROW S HF0
            go_wp2
            rw [HV2.out]
            go_roundw
            case rel => first | exact ⟨k + 1, B, cb, by omega, by omega, by go_num, rfl, S2⟩ | ((repeat apply Exists.intro); exact ⟨⟨k + 1, B, cb, by omega, by omega, by go_num, rfl, S2⟩, rfl⟩)
            case measure => simp [intOf]; omega
          · have htt : decide (d ∉ ids) = true := by simp [hmem]
            rw [htt]
            have hin : I (k + 1) = ids ++ [d] := by rw [HNX.out, if_neg hmem]
            have hown := S.out.own
            rw [List.length_map, ← HM.out] at hown
            have HOWN := Lib.hid hown
            have HIN2 := Lib.hid hin
            clear htt hin hown htk hmem HNX HROW HF0
            go_wp2_with (at_builtin; refine wpList_append_own_at _ rfl _ _ 37 rfl w4.heap.size 42 i0 (.agg #[.int .i64 0, .int .i64 0, .int .i64 0, .int .i64 0, .int .i64 0, .string ⟨#[]⟩]) 6 56 Try.underlying37 hi0 hz0 hz1 hz2 rfl (by decide) _ _ _ rfl (HOWN.out.alloc _) ⟨wr.heap.size, 0, none⟩ 1 1 [.int .i64 1, .int .i64 d, .int .i64 1, .int .i64 d, .int .i64 1, .string ⟨#[48, 49, 50, 51, 52, 53, 54, 55, 56, 57, 97, 98, 99, 100, 101, 102]⟩] rfl rfl (World.news_of_block (heap_alloc_new _ _)) ?d1 ?d2 ?d3 ?d4 ?_)
            case d1 => first | exact recC_one (tenR key1 d) | exact ⟨rfl, rfl, rfl, rfl, rfl, rfl⟩
            case d2 => unfold maxLen; omega
            case d3 => omega
            case d4 => have := S.out.below.size; simp; omega
            intro v4 w5 hown4 hg4 _ _
            obtain ⟨A4, c4, rfl⟩ := own_A hown4
            have hlen : (I (k + 1)).length = M + 1 := by rw [HIN2.out, List.length_append, HM.out]; rfl
            have S2 : Hid (ImR w4 ((I (k + 1)).map (tenR key1)) (.slice A4 (I (k + 1)).length c4) w5) := by
              unfold Hid
              rw [hlen, HIN2.out, List.map_append]
              exact S.out.push (tenR key1 d) (by rw [List.length_map, ← HM.out]; exact hown4) hg4
            have HV2 : Hid (Value.slice A4 (M + 1) c4 = .slice A4 (I (k + 1)).length c4) := by unfold Hid; rw [hlen]
            clear hown4 hg4 hlen HM HOWN HIN2 S
            go_wp2
            rw [HV2.out]
            go_roundw
            case rel => first | exact ⟨k + 1, A4, c4, by omega, by omega, by go_num, rfl, S2⟩ | ((repeat apply Exists.intro); exact ⟨⟨k + 1, A4, c4, by omega, by omega, by go_num, rfl, S2⟩, rfl⟩)
            case measure => simp [intOf]; omega
    · by_cases a1 : k < N
      · have k1 : (k : Int) < (N : Int) := by omega
        have k2 : ¬ (k : Int) < 7 := by omega
        obtain ⟨hnd, hrg, hl⟩ := HIO.out k
        obtain ⟨ids, hids⟩ : ∃ l, l = I k := ⟨_, rfl⟩
        rw [← hids] at S hnd hrg hl ⊢
        have HND := Lib.hid hnd
        have HRG := Lib.hid hrg
        obtain ⟨M, hM⟩ : ∃ M, M = ids.length := ⟨_, rfl⟩
        have HM := Lib.hid hM
        rw [← hM] at S hl ⊢
        have hl7 : M ≤ 7 := by omega
        have S1 := S
        clear S hnd hrg hids hM hl HI0 HIN HIO HBYTE HBS hgo
        go_wp2
        obtain ⟨X1, hX1⟩ : ∃ x, x = wr := ⟨_, rfl⟩
        subst hX1
        have S2 : Hid (ImR X1 ((ids.drop M).reverse.map (tenR key1)) (.slice (some ⟨X1.heap.size, 0, none⟩) 0 0) (X1.alloc (.cells #[] 42))) := by
          unfold Hid
          rw [List.drop_eq_nil_of_le (Nat.le_of_eq HM.out.symm)]
          exact ⟨(Below.refl _ _).alloc (Nat.le_refl _) _, World.ownsRow_made X1 #[] 0 (Nat.le_refl _) (by decide) rfl⟩
        clear hk hk7 k0 k1 k2
        go_loopw [13, 14] (fun lv jv wr => ∃ (p n : Nat) (A : Option Addr) (c : Nat), n + p = M ∧ jv = .int .i64 ((p : Int) - 1) ∧ lv = .slice A n c ∧ Hid (ImR X1 ((ids.drop p).reverse.map (tenR key1)) (.slice A n c) wr)) (fun _ jv _ => (intOf jv + 1).toNat)
        case atStart => exact ⟨M, 0, _, _, by omega, by first | rfl | go_num, rfl, S2.out⟩
        case round =>
          clear S2
          obtain ⟨p, n, A2, c2, hnp, rfl, rfl, S⟩ := hrel
          cases p with
          | succ r =>
            have er : ((r + 1 : Nat) : Int) - 1 = (r : Int) := by omega
            rw [er]
            have r0 : (r : Int) ≥ 0 := by omega
            have r1 : (r : Int) < (M : Int) := by omega
            have hrx : r < ids.length := by have := HM.out; omega
            have hrow := (ten_rows (ids := ids) (by have := S1.out; rw [HM.out] at this; exact this)).below S.out.below
            obtain ⟨b2, off2, rfl⟩ := ten_adr hrow (by omega)
            obtain ⟨u0, u1, u2, u3, u4, u5⟩ := ten_rec hrow rfl hrx
            have hbk := back_next hrx
            have hdl : ((ids.drop (r + 1)).reverse).length = n := by rw [List.length_reverse, List.length_drop, ← HM.out]; omega
            obtain ⟨x, hx⟩ : ∃ x, x = ids[r] := ⟨_, rfl⟩
            rw [← hx] at u1 u3 hbk
            have hown := S.out.own
            rw [List.length_map, hdl] at hown
            obtain ⟨bk, hbkk⟩ : ∃ l, l = ((ids.drop (r + 1)).reverse.map (tenR key1)) := ⟨_, rfl⟩
            rw [← hbkk] at hown
            have HOWN := Lib.hid hown
            have HBKK := Lib.hid hbkk
            have HBK := Lib.hid hbk
            have HDL := Lib.hid hdl
            clear hown hbk hdl hrow hx hrx er hbkk
            go_wp2_with (at_builtin; refine wpList_append_own_at _ rfl _ _ 37 rfl X1.heap.size 42 i0 (.agg #[.int .i64 0, .int .i64 0, .int .i64 0, .int .i64 0, .int .i64 0, .string ⟨#[]⟩]) 6 56 Try.underlying37 hi0 hz0 hz1 hz2 rfl (by decide) _ _ _ rfl (HOWN.out.alloc _) ⟨wr.heap.size, 0, none⟩ 1 1 [.int .i64 1, .int .i64 x, .int .i64 1, .int .i64 x, .int .i64 1, .string key1] rfl rfl (World.news_of_block (heap_alloc_new _ _)) ?d1 ?d2 ?d3 ?d4 ?_)
            case d1 => first | exact recC_one (tenR key1 x) | exact ⟨rfl, rfl, rfl, rfl, rfl, rfl⟩
            case d2 => unfold maxLen; omega
            case d3 => omega
            case d4 => have := S.out.below.size; simp; omega
            intro v4 w5 hown4 hg4 _ _
            obtain ⟨A4, c4, rfl⟩ := own_A hown4
            have S3 : Hid (ImR X1 ((ids.drop r).reverse.map (tenR key1)) (.slice A4 (n + 1) c4) w5) := by
              unfold Hid
              rw [HBK.out, List.map_append]
              exact S.out.push (tenR key1 x) (by rw [List.length_map, HDL.out, ← HBKK.out]; exact hown4) hg4
            clear hown4 hg4 HOWN HBK HDL u0 u1 u2 u3 u4 u5 S
            go_wp2
            go_roundw
            case rel => first | exact ⟨r, n + 1, A4, c4, by omega, by first | rfl | go_num, rfl, S3⟩ | ((repeat apply Exists.intro); exact ⟨⟨r, n + 1, A4, c4, by omega, by first | rfl | go_num, rfl, S3⟩, rfl⟩)
            case measure => first | (simp [intOf]; done) | (simp [intOf]; omega)
          | zero =>
            have er : ((0 : Nat) : Int) - 1 = -1 := by omega
            rw [er]
            have hnM : n = M := by omega
            subst hnM
            have hn2 := HM.out
            subst hn2
            have r0 : ¬ (-1 : Int) ≥ 0 := by omega
            have hbk0 : (ids.drop 0).reverse = ids.reverse := by rw [List.drop_zero]
            have hrow1 := (ten_rows S1.out).below S.out.below
            have hrow2 := S.out
            rw [hbk0] at hrow2
            have hrow2 : ImR X1 (ids.reverse.map (tenR key1)) (.slice A2 ids.reverse.length c2) wr := by rw [List.length_reverse]; exact hrow2
            have hbw4 : Below w4.heap.size w4 wr := chain S1.out.below S.out.below
            have hbw := chain HX0.out hbw4
            obtain ⟨g1, g2, ht⟩ := HBOX.out wr hbw4
            obtain ⟨hlo, hq4⟩ := HQ.out
            have hql : q + 1 < wr.heap.size := Nat.lt_of_lt_of_le hq4 hbw4.size
            have hc1 : ids.length ≤ cb := by have := S1.out.own; rw [List.length_map] at this; exact row_le this
            have hc2 : ids.reverse.length ≤ c2 := by have := hrow2.own; rw [List.length_map] at this; exact row_le this
            have A1 := HAP.out ids HND.out HRG.out hl7 V1 wr B cb hbw ht (hrow1.more S.out.below.size) hc1
            have A2' := fun X => HAP.out ids.reverse (nodup_rev HND.out) (fun i hi => HRG.out i (by simpa using hi)) (by rw [List.length_reverse]; exact hl7) V1 X A2 c2
            have hfew := HFEW.out ids
            obtain ⟨o1, o2⟩ := HORD.out ids HND.out HRG.out
            simp only [o2] at A2'
            obtain ⟨T, hT⟩ : ∃ T, T = (applyR (newR m) (ids.map (tenR key1))).2 := ⟨_, rfl⟩
            obtain ⟨E, hE⟩ : ∃ E, E = (applyR (newR m) (ids.map (tenR key1))).1 := ⟨_, rfl⟩
            rw [← hT] at hfew
            simp only [← hT, ← hE] at A1 A2'
            have hEv : (ids.length ≤ m ∧ E = 0) ∨ (¬ ids.length ≤ m ∧ E = 6) := by
              rw [o1] at hE
              by_cases hfit : ids.length ≤ m
              · rw [if_pos hfit] at hE; exact .inl ⟨hfit, hE⟩
              · rw [if_neg hfit] at hE; exact .inr ⟨hfit, hE⟩
            obtain ⟨l1, l2, l3⟩ := hfew
            have SM : ∀ X V2 V3, TabAt X X.heap.size V2 T → TabAt X X.heap.size V3 T → Calls Try.prog 16 #[.agg (tabV V2 T), .agg (tabV V3 T)] X fun e w' => e = .returned (.bool true) ∧ Below X.heap.size X w' := fun X V2 V3 h2 h3 => refSame16_any V2 V3 T X h2 h3 (by omega) (by omega) (by omega)
            obtain ⟨⟨y0, y1, y2⟩, yf0, yf1, yf2⟩ := cellsQ g1
            have hq1 : q < wr.heap.size := by omega
            have hrev : ids.reverse.length = ids.length := List.length_reverse
            have hrow3 := hrow2.own
            rw [List.length_map] at hrow3
            have hlr : X1.heap.size ≤ wr.heap.size := S.out.below.size
            have hlx : w4.heap.size ≤ X1.heap.size := S1.out.below.size
            have A3 : ∀ X, Below w.heap.size w X → TabAt X X.heap.size V1 (newR m) → RecsAt X X.heap.size A2 (ids.reverse.map (tenR key1)) → Calls Try.prog 19 #[.agg #[.slice V1.A1 0 V1.c1, .slice V1.A2 0 V1.c2, .slice V1.A3 m V1.c3], .slice A2 ids.length c2] X fun e w' => ∃ V', e = .returned (.tuple #[.agg (tabV V' T), .int .i64 E]) ∧ TabAt w' w'.heap.size V' T ∧ TabFrom X.heap.size V' ∧ Below X.heap.size X w' := fun X h1 h2 h3 => by
              have q := A2' X h1 h2 h3 hc2
              rwa [hrev] at q
            unfold tabV at A1 A3 SM
            have HA1 := Lib.hid A1
            have HA3 := Lib.hid A3
            have HSM := Lib.hid SM
            have HTW := Lib.hid ht
            have HG1 := Lib.hid g1
            have HG2 := Lib.hid g2
            have HROW3 := Lib.hid hrow3
            have HBW := Lib.hid hbw
            have HNUM : Hid (w.heap.size ≤ q ∧ q + 1 < w4.heap.size ∧ w4.heap.size ≤ X1.heap.size ∧ X1.heap.size ≤ wr.heap.size) := ⟨hlo, hq4, hlx, hlr⟩
            clear A1 A2' A3 SM ht g1 g2 hrow1 hrow2 hrow3 hbw hbw4 hlo hq4 hlr hlx hrev hbk0 hT hE o1 o2 hc1 hc2 S S1 HAP HORD HFEW HND HRG HBOX HQ HM l1 l2 l3 hnp er
            rcases hEv with ⟨hfit, rfl⟩ | ⟨hfit, rfl⟩
            · have d3 : (ids.length : Int) ≤ (m : Int) := by omega
              go_wp2_with (first
                | (go_at_call 19; with_reducible (refine Calls.mono HA1.out ?_); rintro e w6 ⟨V6, rfl, ht6, hf6, hb6⟩
                   have hq6 : w6.heap[q]? = some (.cells #[.slice V1.A1 0 V1.c1, .slice V1.A2 0 V1.c2, .slice V1.A3 m V1.c3] 26 (0, 0)) := (hb6.block _ hq1).trans HG1.out
                   have hq7 : w6.heap[q + 1]? = some (.cells #[.slice V1.A1 0 V1.c1, .slice V1.A2 0 V1.c2, .slice V1.A3 m V1.c3] 26 (0, 0)) := (hb6.block _ hql).trans HG2.out
                   obtain ⟨_, vf0, vf1, vf2⟩ := cellsQ hq6
                   have hs6 := hb6.size
                   have hnum := HNUM.out
                   obtain ⟨j1, j2, j3⟩ := setQ (.slice V6.A1 T.ts.length V6.c1) (.slice V6.A2 T.vs.length V6.c2) (.slice V6.A3 T.os.length V6.c3) hq6
                   obtain ⟨Y, hY⟩ : ∃ Y, Y = (((w6.setCell ⟨q, 0, none⟩ (.slice V6.A1 T.ts.length V6.c1)).setCell ⟨q, 1, none⟩ (.slice V6.A2 T.vs.length V6.c2)).setCell ⟨q, 2, none⟩ (.slice V6.A3 T.os.length V6.c3)) := ⟨_, rfl⟩
                   rw [← hY] at j1 j2 j3
                   have hyq7 : Y.heap[q + 1]? = some (.cells #[.slice V1.A1 0 V1.c1, .slice V1.A2 0 V1.c2, .slice V1.A3 m V1.c3] 26 (0, 0)) := (j2.block _ (by omega) (fun e => by injection e with e; omega)).trans hq7
                   obtain ⟨⟨m0, m1, m2⟩, mf0, mf1, mf2⟩ := cellsQ hyq7
                   have hbY : Below w.heap.size w Y := grown_below (chain HBW.out hb6) j2 (by omega) (by omega)
                   have htY1 : TabAt Y Y.heap.size V1 (newR m) := by rw [j3]; exact ((HTW.out.below hb6).more hs6).grown (Nat.le_refl _) j2 HOFF.out.1
                   have hoff6 : Off q V6 T := Off.of_from hf6 hq1
                   have hoff67 : Off (q + 1) V6 T := Off.of_from hf6 hql
                   have htY6 : TabAt Y Y.heap.size V6 T := by rw [j3]; exact ht6.grown (Nat.le_refl _) j2 hoff6
                   have hrY : RecsAt Y Y.heap.size A2 (ids.reverse.map (tenR key1)) := recs_of_own (own_grown (own_keep HROW3.out hb6) j2 (fun b hb e => by injection e with e; have := ((own_keep HROW3.out hb6).lt b hb).1; omega)) (by rw [List.length_map])
                   have HA4 := Lib.hid (HA3.out Y hbY htY1 hrY)
                   have HY := Lib.hid hY
                   have HBY := Lib.hid hbY
                   have HY6 := Lib.hid htY6
                   have HJ1 := Lib.hid j1
                   have HJ7 := Lib.hid hyq7
                   have HO67 := Lib.hid hoff67
                   have HJ3 : Hid (Y.heap.size = w6.heap.size ∧ wr.heap.size ≤ w6.heap.size) := ⟨j3, hs6⟩
                   rw [hY] at m0 m1 m2 mf0 mf1 mf2
                   rw [hY] at HA4
                   clear hY j1 j2 j3 hyq7 hbY htY1 hoff6 hoff67 htY6 hrY hq6 hq7 ht6 hf6 hb6 hs6 hnum HA3 HROW3 HBW HTW HG1 HG2 HA1 y0 y1 y2 yf0 yf1 yf2)
                | (go_at_call 19; with_reducible (refine Calls.mono HA4.out ?_); rw [← HY.out]; rintro e w8 ⟨V8, rfl, ht8, hf8, hb8⟩
                   have hnum := HNUM.out
                   have hnum3 := HJ3.out
                   have hs8 := hb8.size
                   have hqY : q + 1 < Y.heap.size := by omega
                   have hq8 : w8.heap[q]? = some (.cells #[.slice V6.A1 T.ts.length V6.c1, .slice V6.A2 T.vs.length V6.c2, .slice V6.A3 T.os.length V6.c3] 26 (0, 0)) := (hb8.block _ (by omega)).trans HJ1.out
                   have hq9 : w8.heap[q + 1]? = some (.cells #[.slice V1.A1 0 V1.c1, .slice V1.A2 0 V1.c2, .slice V1.A3 m V1.c3] 26 (0, 0)) := (hb8.block _ hqY).trans HJ7.out
                   obtain ⟨_, nf0, nf1, nf2⟩ := cellsQ hq9
                   obtain ⟨j1, j2, j3⟩ := setQ (.slice V8.A1 T.ts.length V8.c1) (.slice V8.A2 T.vs.length V8.c2) (.slice V8.A3 T.os.length V8.c3) hq9
                   obtain ⟨Z, hZ⟩ : ∃ Z, Z = (((w8.setCell ⟨q + 1, 0, none⟩ (.slice V8.A1 T.ts.length V8.c1)).setCell ⟨q + 1, 1, none⟩ (.slice V8.A2 T.vs.length V8.c2)).setCell ⟨q + 1, 2, none⟩ (.slice V8.A3 T.os.length V8.c3)) := ⟨_, rfl⟩
                   rw [← hZ] at j1 j2 j3
                   have hzq : Z.heap[q]? = some (.cells #[.slice V6.A1 T.ts.length V6.c1, .slice V6.A2 T.vs.length V6.c2, .slice V6.A3 T.os.length V6.c3] 26 (0, 0)) := (j2.block _ (by omega) (fun e => by injection e with e; omega)).trans hq8
                   obtain ⟨⟨p0, p1, p2⟩, _⟩ := cellsQ hzq
                   obtain ⟨⟨r0', r1', r2'⟩, _⟩ := cellsQ j1
                   have HBZ : Hid (Below w.heap.size w Z) := grown_below (chain HBY.out hb8) j2 (by omega) (by omega)
                   have htZ6 : TabAt Z Z.heap.size V6 T := by rw [j3]; exact ((HY6.out.below hb8).more hs8).grown (Nat.le_refl _) j2 HO67.out
                   have htZ8 : TabAt Z Z.heap.size V8 T := by rw [j3]; exact ht8.grown (Nat.le_refl _) j2 (Off.of_from hf8 hqY)
                   have HS9 := Lib.hid (HSM.out Z V6 V8 htZ6 htZ8)
                   have HZ := Lib.hid hZ
                   rw [hZ] at p0 p1 p2 r0' r1' r2'
                   rw [hZ] at HS9
                   clear hZ j1 j2 j3 hzq htZ6 htZ8 hq8 hq9 ht8 hf8 hb8 hs8 hnum hnum3 hqY HSM HA4 HY HBY HY6 HJ1 HJ7 HO67 HJ3 m0 m1 m2 mf0 mf1 mf2 vf0 vf1 vf2)
                | (go_at_call 16; with_reducible (refine Calls.mono HS9.out ?_); rw [← HZ.out]; rintro e w9 ⟨rfl, hb9⟩))
              go_ret
              exact ⟨rfl, chain HBZ.out hb9⟩
            · have d3 : ¬ (ids.length : Int) ≤ (m : Int) := by omega
              go_wp2_with (first
                | (go_at_call 19; with_reducible (refine Calls.mono HA1.out ?_); rintro e w6 ⟨V6, rfl, ht6, hf6, hb6⟩
                   have hq6 : w6.heap[q]? = some (.cells #[.slice V1.A1 0 V1.c1, .slice V1.A2 0 V1.c2, .slice V1.A3 m V1.c3] 26 (0, 0)) := (hb6.block _ hq1).trans HG1.out
                   have hq7 : w6.heap[q + 1]? = some (.cells #[.slice V1.A1 0 V1.c1, .slice V1.A2 0 V1.c2, .slice V1.A3 m V1.c3] 26 (0, 0)) := (hb6.block _ hql).trans HG2.out
                   obtain ⟨_, vf0, vf1, vf2⟩ := cellsQ hq6
                   have hs6 := hb6.size
                   have hnum := HNUM.out
                   obtain ⟨j1, j2, j3⟩ := setQ (.slice V6.A1 T.ts.length V6.c1) (.slice V6.A2 T.vs.length V6.c2) (.slice V6.A3 T.os.length V6.c3) hq6
                   obtain ⟨Y, hY⟩ : ∃ Y, Y = (((w6.setCell ⟨q, 0, none⟩ (.slice V6.A1 T.ts.length V6.c1)).setCell ⟨q, 1, none⟩ (.slice V6.A2 T.vs.length V6.c2)).setCell ⟨q, 2, none⟩ (.slice V6.A3 T.os.length V6.c3)) := ⟨_, rfl⟩
                   rw [← hY] at j1 j2 j3
                   have hyq7 : Y.heap[q + 1]? = some (.cells #[.slice V1.A1 0 V1.c1, .slice V1.A2 0 V1.c2, .slice V1.A3 m V1.c3] 26 (0, 0)) := (j2.block _ (by omega) (fun e => by injection e with e; omega)).trans hq7
                   obtain ⟨⟨m0, m1, m2⟩, mf0, mf1, mf2⟩ := cellsQ hyq7
                   have hbY : Below w.heap.size w Y := grown_below (chain HBW.out hb6) j2 (by omega) (by omega)
                   have htY1 : TabAt Y Y.heap.size V1 (newR m) := by rw [j3]; exact ((HTW.out.below hb6).more hs6).grown (Nat.le_refl _) j2 HOFF.out.1
                   have hoff6 : Off q V6 T := Off.of_from hf6 hq1
                   have hoff67 : Off (q + 1) V6 T := Off.of_from hf6 hql
                   have htY6 : TabAt Y Y.heap.size V6 T := by rw [j3]; exact ht6.grown (Nat.le_refl _) j2 hoff6
                   have hrY : RecsAt Y Y.heap.size A2 (ids.reverse.map (tenR key1)) := recs_of_own (own_grown (own_keep HROW3.out hb6) j2 (fun b hb e => by injection e with e; have := ((own_keep HROW3.out hb6).lt b hb).1; omega)) (by rw [List.length_map])
                   have HA4 := Lib.hid (HA3.out Y hbY htY1 hrY)
                   have HY := Lib.hid hY
                   have HBY := Lib.hid hbY
                   have HY6 := Lib.hid htY6
                   have HJ1 := Lib.hid j1
                   have HJ7 := Lib.hid hyq7
                   have HO67 := Lib.hid hoff67
                   have HJ3 : Hid (Y.heap.size = w6.heap.size ∧ wr.heap.size ≤ w6.heap.size) := ⟨j3, hs6⟩
                   rw [hY] at m0 m1 m2 mf0 mf1 mf2
                   rw [hY] at HA4
                   clear hY j1 j2 j3 hyq7 hbY htY1 hoff6 hoff67 htY6 hrY hq6 hq7 ht6 hf6 hb6 hs6 hnum HA3 HROW3 HBW HTW HG1 HG2 HA1 y0 y1 y2 yf0 yf1 yf2)
                | (go_at_call 19; with_reducible (refine Calls.mono HA4.out ?_); rw [← HY.out]; rintro e w8 ⟨V8, rfl, ht8, hf8, hb8⟩
                   have hnum := HNUM.out
                   have hnum3 := HJ3.out
                   have hs8 := hb8.size
                   have hqY : q + 1 < Y.heap.size := by omega
                   have hq8 : w8.heap[q]? = some (.cells #[.slice V6.A1 T.ts.length V6.c1, .slice V6.A2 T.vs.length V6.c2, .slice V6.A3 T.os.length V6.c3] 26 (0, 0)) := (hb8.block _ (by omega)).trans HJ1.out
                   have hq9 : w8.heap[q + 1]? = some (.cells #[.slice V1.A1 0 V1.c1, .slice V1.A2 0 V1.c2, .slice V1.A3 m V1.c3] 26 (0, 0)) := (hb8.block _ hqY).trans HJ7.out
                   obtain ⟨_, nf0, nf1, nf2⟩ := cellsQ hq9
                   obtain ⟨j1, j2, j3⟩ := setQ (.slice V8.A1 T.ts.length V8.c1) (.slice V8.A2 T.vs.length V8.c2) (.slice V8.A3 T.os.length V8.c3) hq9
                   obtain ⟨Z, hZ⟩ : ∃ Z, Z = (((w8.setCell ⟨q + 1, 0, none⟩ (.slice V8.A1 T.ts.length V8.c1)).setCell ⟨q + 1, 1, none⟩ (.slice V8.A2 T.vs.length V8.c2)).setCell ⟨q + 1, 2, none⟩ (.slice V8.A3 T.os.length V8.c3)) := ⟨_, rfl⟩
                   rw [← hZ] at j1 j2 j3
                   have hzq : Z.heap[q]? = some (.cells #[.slice V6.A1 T.ts.length V6.c1, .slice V6.A2 T.vs.length V6.c2, .slice V6.A3 T.os.length V6.c3] 26 (0, 0)) := (j2.block _ (by omega) (fun e => by injection e with e; omega)).trans hq8
                   obtain ⟨⟨p0, p1, p2⟩, _⟩ := cellsQ hzq
                   obtain ⟨⟨r0', r1', r2'⟩, _⟩ := cellsQ j1
                   have HBZ : Hid (Below w.heap.size w Z) := grown_below (chain HBY.out hb8) j2 (by omega) (by omega)
                   have htZ6 : TabAt Z Z.heap.size V6 T := by rw [j3]; exact ((HY6.out.below hb8).more hs8).grown (Nat.le_refl _) j2 HO67.out
                   have htZ8 : TabAt Z Z.heap.size V8 T := by rw [j3]; exact ht8.grown (Nat.le_refl _) j2 (Off.of_from hf8 hqY)
                   have HS9 := Lib.hid (HSM.out Z V6 V8 htZ6 htZ8)
                   have HZ := Lib.hid hZ
                   rw [hZ] at p0 p1 p2 r0' r1' r2'
                   rw [hZ] at HS9
                   clear hZ j1 j2 j3 hzq htZ6 htZ8 hq8 hq9 ht8 hf8 hb8 hs8 hnum hnum3 hqY HSM HA4 HY HBY HY6 HJ1 HJ7 HO67 HJ3 m0 m1 m2 mf0 mf1 mf2 vf0 vf1 vf2)
                | (go_at_call 16; with_reducible (refine Calls.mono HS9.out ?_); rw [← HZ.out]; rintro e w9 ⟨rfl, hb9⟩))
              go_ret
              exact ⟨rfl, chain HBZ.out hb9⟩
      · have k1 : ¬ (k : Int) < (N : Int) := by omega
        obtain ⟨hnd, hrg, hl⟩ := HIO.out k
        obtain ⟨ids, hids⟩ : ∃ l, l = I k := ⟨_, rfl⟩
        rw [← hids] at S hnd hrg hl ⊢
        have HND := Lib.hid hnd
        have HRG := Lib.hid hrg
        obtain ⟨M, hM⟩ : ∃ M, M = ids.length := ⟨_, rfl⟩
        have HM := Lib.hid hM
        rw [← hM] at S hl ⊢
        have hl7 : M ≤ 7 := by omega
        have S1 := S
        clear S hnd hrg hids hM hl HI0 HIN HIO HBYTE HBS hgo
        go_wp2
        obtain ⟨X1, hX1⟩ : ∃ x, x = wr := ⟨_, rfl⟩
        subst hX1
        have S2 : Hid (ImR X1 ((ids.drop M).reverse.map (tenR key1)) (.slice (some ⟨X1.heap.size, 0, none⟩) 0 0) (X1.alloc (.cells #[] 42))) := by
          unfold Hid
          rw [List.drop_eq_nil_of_le (Nat.le_of_eq HM.out.symm)]
          exact ⟨(Below.refl _ _).alloc (Nat.le_refl _) _, World.ownsRow_made X1 #[] 0 (Nat.le_refl _) (by decide) rfl⟩
        clear hk hk7 k0 k1
        go_loopw [13, 14] (fun lv jv wr => ∃ (p n : Nat) (A : Option Addr) (c : Nat), n + p = M ∧ jv = .int .i64 ((p : Int) - 1) ∧ lv = .slice A n c ∧ Hid (ImR X1 ((ids.drop p).reverse.map (tenR key1)) (.slice A n c) wr)) (fun _ jv _ => (intOf jv + 1).toNat)
        case atStart => exact ⟨M, 0, _, _, by omega, by first | rfl | go_num, rfl, S2.out⟩
        case round =>
          clear S2
          obtain ⟨p, n, A2, c2, hnp, rfl, rfl, S⟩ := hrel
          cases p with
          | succ r =>
            have er : ((r + 1 : Nat) : Int) - 1 = (r : Int) := by omega
            rw [er]
            have r0 : (r : Int) ≥ 0 := by omega
            have r1 : (r : Int) < (M : Int) := by omega
            have hrx : r < ids.length := by have := HM.out; omega
            have hrow := (ten_rows (ids := ids) (by have := S1.out; rw [HM.out] at this; exact this)).below S.out.below
            obtain ⟨b2, off2, rfl⟩ := ten_adr hrow (by omega)
            obtain ⟨u0, u1, u2, u3, u4, u5⟩ := ten_rec hrow rfl hrx
            have hbk := back_next hrx
            have hdl : ((ids.drop (r + 1)).reverse).length = n := by rw [List.length_reverse, List.length_drop, ← HM.out]; omega
            obtain ⟨x, hx⟩ : ∃ x, x = ids[r] := ⟨_, rfl⟩
            rw [← hx] at u1 u3 hbk
            have hown := S.out.own
            rw [List.length_map, hdl] at hown
            obtain ⟨bk, hbkk⟩ : ∃ l, l = ((ids.drop (r + 1)).reverse.map (tenR key1)) := ⟨_, rfl⟩
            rw [← hbkk] at hown
            have HOWN := Lib.hid hown
            have HBKK := Lib.hid hbkk
            have HBK := Lib.hid hbk
            have HDL := Lib.hid hdl
            clear hown hbk hdl hrow hx hrx er hbkk
            go_wp2_with (at_builtin; refine wpList_append_own_at _ rfl _ _ 37 rfl X1.heap.size 42 i0 (.agg #[.int .i64 0, .int .i64 0, .int .i64 0, .int .i64 0, .int .i64 0, .string ⟨#[]⟩]) 6 56 Try.underlying37 hi0 hz0 hz1 hz2 rfl (by decide) _ _ _ rfl (HOWN.out.alloc _) ⟨wr.heap.size, 0, none⟩ 1 1 [.int .i64 1, .int .i64 x, .int .i64 1, .int .i64 x, .int .i64 1, .string key1] rfl rfl (World.news_of_block (heap_alloc_new _ _)) ?d1 ?d2 ?d3 ?d4 ?_)
            case d1 => first | exact recC_one (tenR key1 x) | exact ⟨rfl, rfl, rfl, rfl, rfl, rfl⟩
            case d2 => unfold maxLen; omega
            case d3 => omega
            case d4 => have := S.out.below.size; simp; omega
            intro v4 w5 hown4 hg4 _ _
            obtain ⟨A4, c4, rfl⟩ := own_A hown4
            have S3 : Hid (ImR X1 ((ids.drop r).reverse.map (tenR key1)) (.slice A4 (n + 1) c4) w5) := by
              unfold Hid
              rw [HBK.out, List.map_append]
              exact S.out.push (tenR key1 x) (by rw [List.length_map, HDL.out, ← HBKK.out]; exact hown4) hg4
            clear hown4 hg4 HOWN HBK HDL u0 u1 u2 u3 u4 u5 S
            go_wp2
            go_roundw
            case rel => first | exact ⟨r, n + 1, A4, c4, by omega, by first | rfl | go_num, rfl, S3⟩ | ((repeat apply Exists.intro); exact ⟨⟨r, n + 1, A4, c4, by omega, by first | rfl | go_num, rfl, S3⟩, rfl⟩)
            case measure => first | (simp [intOf]; done) | (simp [intOf]; omega)
          | zero =>
            have er : ((0 : Nat) : Int) - 1 = -1 := by omega
            rw [er]
            have hnM : n = M := by omega
            subst hnM
            have hn2 := HM.out
            subst hn2
            have r0 : ¬ (-1 : Int) ≥ 0 := by omega
            have hbk0 : (ids.drop 0).reverse = ids.reverse := by rw [List.drop_zero]
            have hrow1 := (ten_rows S1.out).below S.out.below
            have hrow2 := S.out
            rw [hbk0] at hrow2
            have hrow2 : ImR X1 (ids.reverse.map (tenR key1)) (.slice A2 ids.reverse.length c2) wr := by rw [List.length_reverse]; exact hrow2
            have hbw4 : Below w4.heap.size w4 wr := chain S1.out.below S.out.below
            have hbw := chain HX0.out hbw4
            obtain ⟨g1, g2, ht⟩ := HBOX.out wr hbw4
            obtain ⟨hlo, hq4⟩ := HQ.out
            have hql : q + 1 < wr.heap.size := Nat.lt_of_lt_of_le hq4 hbw4.size
            have hc1 : ids.length ≤ cb := by have := S1.out.own; rw [List.length_map] at this; exact row_le this
            have hc2 : ids.reverse.length ≤ c2 := by have := hrow2.own; rw [List.length_map] at this; exact row_le this
            have A1 := HAP.out ids HND.out HRG.out hl7 V1 wr B cb hbw ht (hrow1.more S.out.below.size) hc1
            have A2' := fun X => HAP.out ids.reverse (nodup_rev HND.out) (fun i hi => HRG.out i (by simpa using hi)) (by rw [List.length_reverse]; exact hl7) V1 X A2 c2
            have hfew := HFEW.out ids
            obtain ⟨o1, o2⟩ := HORD.out ids HND.out HRG.out
            simp only [o2] at A2'
            obtain ⟨T, hT⟩ : ∃ T, T = (applyR (newR m) (ids.map (tenR key1))).2 := ⟨_, rfl⟩
            obtain ⟨E, hE⟩ : ∃ E, E = (applyR (newR m) (ids.map (tenR key1))).1 := ⟨_, rfl⟩
            rw [← hT] at hfew
            simp only [← hT, ← hE] at A1 A2'
            have hEv : (ids.length ≤ m ∧ E = 0) ∨ (¬ ids.length ≤ m ∧ E = 6) := by
              rw [o1] at hE
              by_cases hfit : ids.length ≤ m
              · rw [if_pos hfit] at hE; exact .inl ⟨hfit, hE⟩
              · rw [if_neg hfit] at hE; exact .inr ⟨hfit, hE⟩
            obtain ⟨l1, l2, l3⟩ := hfew
            have SM : ∀ X V2 V3, TabAt X X.heap.size V2 T → TabAt X X.heap.size V3 T → Calls Try.prog 16 #[.agg (tabV V2 T), .agg (tabV V3 T)] X fun e w' => e = .returned (.bool true) ∧ Below X.heap.size X w' := fun X V2 V3 h2 h3 => refSame16_any V2 V3 T X h2 h3 (by omega) (by omega) (by omega)
            obtain ⟨⟨y0, y1, y2⟩, yf0, yf1, yf2⟩ := cellsQ g1
            have hq1 : q < wr.heap.size := by omega
            have hrev : ids.reverse.length = ids.length := List.length_reverse
            have hrow3 := hrow2.own
            rw [List.length_map] at hrow3
            have hlr : X1.heap.size ≤ wr.heap.size := S.out.below.size
            have hlx : w4.heap.size ≤ X1.heap.size := S1.out.below.size
            have A3 : ∀ X, Below w.heap.size w X → TabAt X X.heap.size V1 (newR m) → RecsAt X X.heap.size A2 (ids.reverse.map (tenR key1)) → Calls Try.prog 19 #[.agg #[.slice V1.A1 0 V1.c1, .slice V1.A2 0 V1.c2, .slice V1.A3 m V1.c3], .slice A2 ids.length c2] X fun e w' => ∃ V', e = .returned (.tuple #[.agg (tabV V' T), .int .i64 E]) ∧ TabAt w' w'.heap.size V' T ∧ TabFrom X.heap.size V' ∧ Below X.heap.size X w' := fun X h1 h2 h3 => by
              have q := A2' X h1 h2 h3 hc2
              rwa [hrev] at q
            unfold tabV at A1 A3 SM
            have HA1 := Lib.hid A1
            have HA3 := Lib.hid A3
            have HSM := Lib.hid SM
            have HTW := Lib.hid ht
            have HG1 := Lib.hid g1
            have HG2 := Lib.hid g2
            have HROW3 := Lib.hid hrow3
            have HBW := Lib.hid hbw
            have HNUM : Hid (w.heap.size ≤ q ∧ q + 1 < w4.heap.size ∧ w4.heap.size ≤ X1.heap.size ∧ X1.heap.size ≤ wr.heap.size) := ⟨hlo, hq4, hlx, hlr⟩
            clear A1 A2' A3 SM ht g1 g2 hrow1 hrow2 hrow3 hbw hbw4 hlo hq4 hlr hlx hrev hbk0 hT hE o1 o2 hc1 hc2 S S1 HAP HORD HFEW HND HRG HBOX HQ HM l1 l2 l3 hnp er
            rcases hEv with ⟨hfit, rfl⟩ | ⟨hfit, rfl⟩
            · have d3 : (ids.length : Int) ≤ (m : Int) := by omega
              go_wp2_with (first
                | (go_at_call 19; with_reducible (refine Calls.mono HA1.out ?_); rintro e w6 ⟨V6, rfl, ht6, hf6, hb6⟩
                   have hq6 : w6.heap[q]? = some (.cells #[.slice V1.A1 0 V1.c1, .slice V1.A2 0 V1.c2, .slice V1.A3 m V1.c3] 26 (0, 0)) := (hb6.block _ hq1).trans HG1.out
                   have hq7 : w6.heap[q + 1]? = some (.cells #[.slice V1.A1 0 V1.c1, .slice V1.A2 0 V1.c2, .slice V1.A3 m V1.c3] 26 (0, 0)) := (hb6.block _ hql).trans HG2.out
                   obtain ⟨_, vf0, vf1, vf2⟩ := cellsQ hq6
                   have hs6 := hb6.size
                   have hnum := HNUM.out
                   obtain ⟨j1, j2, j3⟩ := setQ (.slice V6.A1 T.ts.length V6.c1) (.slice V6.A2 T.vs.length V6.c2) (.slice V6.A3 T.os.length V6.c3) hq6
                   obtain ⟨Y, hY⟩ : ∃ Y, Y = (((w6.setCell ⟨q, 0, none⟩ (.slice V6.A1 T.ts.length V6.c1)).setCell ⟨q, 1, none⟩ (.slice V6.A2 T.vs.length V6.c2)).setCell ⟨q, 2, none⟩ (.slice V6.A3 T.os.length V6.c3)) := ⟨_, rfl⟩
                   rw [← hY] at j1 j2 j3
                   have hyq7 : Y.heap[q + 1]? = some (.cells #[.slice V1.A1 0 V1.c1, .slice V1.A2 0 V1.c2, .slice V1.A3 m V1.c3] 26 (0, 0)) := (j2.block _ (by omega) (fun e => by injection e with e; omega)).trans hq7
                   obtain ⟨⟨m0, m1, m2⟩, mf0, mf1, mf2⟩ := cellsQ hyq7
                   have hbY : Below w.heap.size w Y := grown_below (chain HBW.out hb6) j2 (by omega) (by omega)
                   have htY1 : TabAt Y Y.heap.size V1 (newR m) := by rw [j3]; exact ((HTW.out.below hb6).more hs6).grown (Nat.le_refl _) j2 HOFF.out.1
                   have hoff6 : Off q V6 T := Off.of_from hf6 hq1
                   have hoff67 : Off (q + 1) V6 T := Off.of_from hf6 hql
                   have htY6 : TabAt Y Y.heap.size V6 T := by rw [j3]; exact ht6.grown (Nat.le_refl _) j2 hoff6
                   have hrY : RecsAt Y Y.heap.size A2 (ids.reverse.map (tenR key1)) := recs_of_own (own_grown (own_keep HROW3.out hb6) j2 (fun b hb e => by injection e with e; have := ((own_keep HROW3.out hb6).lt b hb).1; omega)) (by rw [List.length_map])
                   have HA4 := Lib.hid (HA3.out Y hbY htY1 hrY)
                   have HY := Lib.hid hY
                   have HBY := Lib.hid hbY
                   have HY6 := Lib.hid htY6
                   have HJ1 := Lib.hid j1
                   have HJ7 := Lib.hid hyq7
                   have HO67 := Lib.hid hoff67
                   have HJ3 : Hid (Y.heap.size = w6.heap.size ∧ wr.heap.size ≤ w6.heap.size) := ⟨j3, hs6⟩
                   rw [hY] at m0 m1 m2 mf0 mf1 mf2
                   rw [hY] at HA4
                   clear hY j1 j2 j3 hyq7 hbY htY1 hoff6 hoff67 htY6 hrY hq6 hq7 ht6 hf6 hb6 hs6 hnum HA3 HROW3 HBW HTW HG1 HG2 HA1 y0 y1 y2 yf0 yf1 yf2)
                | (go_at_call 19; with_reducible (refine Calls.mono HA4.out ?_); rw [← HY.out]; rintro e w8 ⟨V8, rfl, ht8, hf8, hb8⟩
                   have hnum := HNUM.out
                   have hnum3 := HJ3.out
                   have hs8 := hb8.size
                   have hqY : q + 1 < Y.heap.size := by omega
                   have hq8 : w8.heap[q]? = some (.cells #[.slice V6.A1 T.ts.length V6.c1, .slice V6.A2 T.vs.length V6.c2, .slice V6.A3 T.os.length V6.c3] 26 (0, 0)) := (hb8.block _ (by omega)).trans HJ1.out
                   have hq9 : w8.heap[q + 1]? = some (.cells #[.slice V1.A1 0 V1.c1, .slice V1.A2 0 V1.c2, .slice V1.A3 m V1.c3] 26 (0, 0)) := (hb8.block _ hqY).trans HJ7.out
                   obtain ⟨_, nf0, nf1, nf2⟩ := cellsQ hq9
                   obtain ⟨j1, j2, j3⟩ := setQ (.slice V8.A1 T.ts.length V8.c1) (.slice V8.A2 T.vs.length V8.c2) (.slice V8.A3 T.os.length V8.c3) hq9
                   obtain ⟨Z, hZ⟩ : ∃ Z, Z = (((w8.setCell ⟨q + 1, 0, none⟩ (.slice V8.A1 T.ts.length V8.c1)).setCell ⟨q + 1, 1, none⟩ (.slice V8.A2 T.vs.length V8.c2)).setCell ⟨q + 1, 2, none⟩ (.slice V8.A3 T.os.length V8.c3)) := ⟨_, rfl⟩
                   rw [← hZ] at j1 j2 j3
                   have hzq : Z.heap[q]? = some (.cells #[.slice V6.A1 T.ts.length V6.c1, .slice V6.A2 T.vs.length V6.c2, .slice V6.A3 T.os.length V6.c3] 26 (0, 0)) := (j2.block _ (by omega) (fun e => by injection e with e; omega)).trans hq8
                   obtain ⟨⟨p0, p1, p2⟩, _⟩ := cellsQ hzq
                   obtain ⟨⟨r0', r1', r2'⟩, _⟩ := cellsQ j1
                   have HBZ : Hid (Below w.heap.size w Z) := grown_below (chain HBY.out hb8) j2 (by omega) (by omega)
                   have htZ6 : TabAt Z Z.heap.size V6 T := by rw [j3]; exact ((HY6.out.below hb8).more hs8).grown (Nat.le_refl _) j2 HO67.out
                   have htZ8 : TabAt Z Z.heap.size V8 T := by rw [j3]; exact ht8.grown (Nat.le_refl _) j2 (Off.of_from hf8 hqY)
                   have HS9 := Lib.hid (HSM.out Z V6 V8 htZ6 htZ8)
                   have HZ := Lib.hid hZ
                   rw [hZ] at p0 p1 p2 r0' r1' r2'
                   rw [hZ] at HS9
                   clear hZ j1 j2 j3 hzq htZ6 htZ8 hq8 hq9 ht8 hf8 hb8 hs8 hnum hnum3 hqY HSM HA4 HY HBY HY6 HJ1 HJ7 HO67 HJ3 m0 m1 m2 mf0 mf1 mf2 vf0 vf1 vf2)
                | (go_at_call 16; with_reducible (refine Calls.mono HS9.out ?_); rw [← HZ.out]; rintro e w9 ⟨rfl, hb9⟩))
              go_ret
              exact ⟨rfl, chain HBZ.out hb9⟩
            · have d3 : ¬ (ids.length : Int) ≤ (m : Int) := by omega
              go_wp2_with (first
                | (go_at_call 19; with_reducible (refine Calls.mono HA1.out ?_); rintro e w6 ⟨V6, rfl, ht6, hf6, hb6⟩
                   have hq6 : w6.heap[q]? = some (.cells #[.slice V1.A1 0 V1.c1, .slice V1.A2 0 V1.c2, .slice V1.A3 m V1.c3] 26 (0, 0)) := (hb6.block _ hq1).trans HG1.out
                   have hq7 : w6.heap[q + 1]? = some (.cells #[.slice V1.A1 0 V1.c1, .slice V1.A2 0 V1.c2, .slice V1.A3 m V1.c3] 26 (0, 0)) := (hb6.block _ hql).trans HG2.out
                   obtain ⟨_, vf0, vf1, vf2⟩ := cellsQ hq6
                   have hs6 := hb6.size
                   have hnum := HNUM.out
                   obtain ⟨j1, j2, j3⟩ := setQ (.slice V6.A1 T.ts.length V6.c1) (.slice V6.A2 T.vs.length V6.c2) (.slice V6.A3 T.os.length V6.c3) hq6
                   obtain ⟨Y, hY⟩ : ∃ Y, Y = (((w6.setCell ⟨q, 0, none⟩ (.slice V6.A1 T.ts.length V6.c1)).setCell ⟨q, 1, none⟩ (.slice V6.A2 T.vs.length V6.c2)).setCell ⟨q, 2, none⟩ (.slice V6.A3 T.os.length V6.c3)) := ⟨_, rfl⟩
                   rw [← hY] at j1 j2 j3
                   have hyq7 : Y.heap[q + 1]? = some (.cells #[.slice V1.A1 0 V1.c1, .slice V1.A2 0 V1.c2, .slice V1.A3 m V1.c3] 26 (0, 0)) := (j2.block _ (by omega) (fun e => by injection e with e; omega)).trans hq7
                   obtain ⟨⟨m0, m1, m2⟩, mf0, mf1, mf2⟩ := cellsQ hyq7
                   have hbY : Below w.heap.size w Y := grown_below (chain HBW.out hb6) j2 (by omega) (by omega)
                   have htY1 : TabAt Y Y.heap.size V1 (newR m) := by rw [j3]; exact ((HTW.out.below hb6).more hs6).grown (Nat.le_refl _) j2 HOFF.out.1
                   have hoff6 : Off q V6 T := Off.of_from hf6 hq1
                   have hoff67 : Off (q + 1) V6 T := Off.of_from hf6 hql
                   have htY6 : TabAt Y Y.heap.size V6 T := by rw [j3]; exact ht6.grown (Nat.le_refl _) j2 hoff6
                   have hrY : RecsAt Y Y.heap.size A2 (ids.reverse.map (tenR key1)) := recs_of_own (own_grown (own_keep HROW3.out hb6) j2 (fun b hb e => by injection e with e; have := ((own_keep HROW3.out hb6).lt b hb).1; omega)) (by rw [List.length_map])
                   have HA4 := Lib.hid (HA3.out Y hbY htY1 hrY)
                   have HY := Lib.hid hY
                   have HBY := Lib.hid hbY
                   have HY6 := Lib.hid htY6
                   have HJ1 := Lib.hid j1
                   have HJ7 := Lib.hid hyq7
                   have HO67 := Lib.hid hoff67
                   have HJ3 : Hid (Y.heap.size = w6.heap.size ∧ wr.heap.size ≤ w6.heap.size) := ⟨j3, hs6⟩
                   rw [hY] at m0 m1 m2 mf0 mf1 mf2
                   rw [hY] at HA4
                   clear hY j1 j2 j3 hyq7 hbY htY1 hoff6 hoff67 htY6 hrY hq6 hq7 ht6 hf6 hb6 hs6 hnum HA3 HROW3 HBW HTW HG1 HG2 HA1 y0 y1 y2 yf0 yf1 yf2)
                | (go_at_call 19; with_reducible (refine Calls.mono HA4.out ?_); rw [← HY.out]; rintro e w8 ⟨V8, rfl, ht8, hf8, hb8⟩
                   have hnum := HNUM.out
                   have hnum3 := HJ3.out
                   have hs8 := hb8.size
                   have hqY : q + 1 < Y.heap.size := by omega
                   have hq8 : w8.heap[q]? = some (.cells #[.slice V6.A1 T.ts.length V6.c1, .slice V6.A2 T.vs.length V6.c2, .slice V6.A3 T.os.length V6.c3] 26 (0, 0)) := (hb8.block _ (by omega)).trans HJ1.out
                   have hq9 : w8.heap[q + 1]? = some (.cells #[.slice V1.A1 0 V1.c1, .slice V1.A2 0 V1.c2, .slice V1.A3 m V1.c3] 26 (0, 0)) := (hb8.block _ hqY).trans HJ7.out
                   obtain ⟨_, nf0, nf1, nf2⟩ := cellsQ hq9
                   obtain ⟨j1, j2, j3⟩ := setQ (.slice V8.A1 T.ts.length V8.c1) (.slice V8.A2 T.vs.length V8.c2) (.slice V8.A3 T.os.length V8.c3) hq9
                   obtain ⟨Z, hZ⟩ : ∃ Z, Z = (((w8.setCell ⟨q + 1, 0, none⟩ (.slice V8.A1 T.ts.length V8.c1)).setCell ⟨q + 1, 1, none⟩ (.slice V8.A2 T.vs.length V8.c2)).setCell ⟨q + 1, 2, none⟩ (.slice V8.A3 T.os.length V8.c3)) := ⟨_, rfl⟩
                   rw [← hZ] at j1 j2 j3
                   have hzq : Z.heap[q]? = some (.cells #[.slice V6.A1 T.ts.length V6.c1, .slice V6.A2 T.vs.length V6.c2, .slice V6.A3 T.os.length V6.c3] 26 (0, 0)) := (j2.block _ (by omega) (fun e => by injection e with e; omega)).trans hq8
                   obtain ⟨⟨p0, p1, p2⟩, _⟩ := cellsQ hzq
                   obtain ⟨⟨r0', r1', r2'⟩, _⟩ := cellsQ j1
                   have HBZ : Hid (Below w.heap.size w Z) := grown_below (chain HBY.out hb8) j2 (by omega) (by omega)
                   have htZ6 : TabAt Z Z.heap.size V6 T := by rw [j3]; exact ((HY6.out.below hb8).more hs8).grown (Nat.le_refl _) j2 HO67.out
                   have htZ8 : TabAt Z Z.heap.size V8 T := by rw [j3]; exact ht8.grown (Nat.le_refl _) j2 (Off.of_from hf8 hqY)
                   have HS9 := Lib.hid (HSM.out Z V6 V8 htZ6 htZ8)
                   have HZ := Lib.hid hZ
                   rw [hZ] at p0 p1 p2 r0' r1' r2'
                   rw [hZ] at HS9
                   clear hZ j1 j2 j3 hzq htZ6 htZ8 hq8 hq9 ht8 hf8 hb8 hs8 hnum hnum3 hqY HSM HA4 HY HBY HY6 HJ1 HJ7 HO67 HJ3 m0 m1 m2 mf0 mf1 mf2 vf0 vf1 vf2)
                | (go_at_call 16; with_reducible (refine Calls.mono HS9.out ?_); rw [← HZ.out]; rintro e w9 ⟨rfl, hb9⟩))
              go_ret
              exact ⟨rfl, chain HBZ.out hb9⟩

end Go.Proofs.Ytnenpafofplbhaa
