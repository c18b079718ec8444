/-
  The document's own shares (stowageref08): what they are; nothing that was there is changed.
-/
import Derived.Test.YtcbimgdgodeppaaWeighRefU
import Derived.Test.YtcbimgdgodeppaaWeighShare
namespace Go.Proofs.Ytcbimgdgodeppaa
open Go.RowKit

/-- Shared: the error, the shares. -/
def shareR (total : Int) (bs : List Nat) : Int × List Int :=
  if total < 0 ∨ total > 1048576 ∨ bs.length = 0 ∨ bs.length > 4096 then (1, []) else if allN (unitsN bs) = 0 then (4, []) else (0, shareN total (unitsN bs))
theorem sumF_bound {us : List Nat} (h : ∀ u ∈ us, u < 4294967296) : ∀ k, k ≤ us.length → 0 ≤ sumF (fun i => ((us.getD i 0 : Nat) : Int)) k ∧ sumF (fun i => ((us.getD i 0 : Nat) : Int)) k ≤ k * 4294967296
  | 0, _ => by simp [sumF]
  | k + 1, hk => by
    obtain ⟨h1, h2⟩ := sumF_bound h k (by omega)
    have h3 := h (us.getD k 0) (by rw [List.getD_eq_getElem?_getD, List.getElem?_eq_getElem (show k < us.length by omega)]; exact List.getElem_mem _)
    simp only [sumF]
    omega
theorem units_lt (bs : List Nat) : ∀ u ∈ unitsN bs, u < 4294967296 := by
  intro u hu
  obtain ⟨b, hb, rfl⟩ := List.mem_map.1 hu
  exact unit_lt hb
theorem getD_lt_of {us : List Nat} (h : ∀ u ∈ us, u < 4294967296) (k : Nat) : us.getD k 0 < 4294967296 := by
  rcases Nat.lt_or_ge k us.length with g | g
  · rw [List.getD_eq_getElem?_getD, List.getElem?_eq_getElem g]; exact h _ (List.getElem_mem g)
  · simp [List.getD, g]
theorem mul_le_of {a b c d : Int} (h0 : 0 ≤ a) (h1 : a ≤ b) (h2 : 0 ≤ c) (h3 : c ≤ d) : 0 ≤ a * c ∧ a * c ≤ b * d :=
  ⟨Int.mul_nonneg h0 h2, Int.mul_le_mul h1 h3 h2 (Int.le_trans h0 h1)⟩
theorem take_snocI (l : List Int) {k : Nat} (h : k < l.length) : l.take (k + 1) = l.take k ++ [l.getD k 0] := take_snoc l k h

theorem elem_le {f : Nat → Int} (h : ∀ i, 0 ≤ f i) : ∀ {n k : Nat}, k < n → f k ≤ sumF f n
  | n + 1, k, hk => by
    have h1 := sumF_nonneg (f := f) n fun i _ => h i
    simp only [sumF]
    by_cases e : k = n
    · subst e; omega
    · have := elem_le h (n := n) (k := k) (by omega)
      have := h n
      omega
theorem quot_le {total u all : Int} (h0 : 0 ≤ total) (h1 : 0 ≤ u) (h2 : u ≤ all) (h3 : 0 < all) : 0 ≤ total * u / all ∧ total * u / all ≤ total :=
  ⟨Int.ediv_nonneg (Int.mul_nonneg h0 h1) (by omega), Int.ediv_le_of_le_mul h3 (Int.mul_le_mul_of_nonneg_left h2 h0)⟩
theorem quot_sum {total : Int} {us : List Nat} (h0 : 0 ≤ total) (ha : 0 < allN us) : ∀ k, k ≤ us.length → 0 ≤ sumF (fun i => (quotL total us).getD i 0) k ∧ sumF (fun i => (quotL total us).getD i 0) k ≤ k * total
  | 0, _ => by simp [sumF]
  | k + 1, hk => by
    obtain ⟨h1, h2⟩ := quot_sum h0 ha k (by omega)
    have h3 := quot_le (total := total) (u := ((us.getD k 0 : Nat) : Int)) (all := allN us) h0 (Int.natCast_nonneg _) (elem_le (f := fun i => ((us.getD i 0 : Nat) : Int)) (fun i => Int.natCast_nonneg _) (show k < us.length by omega)) ha
    rw [← quotL_at total us (show k < us.length by omega)] at h3
    simp only [sumF, Int.natCast_add, Int.add_mul, Int.natCast_one, Int.one_mul]
    omega
theorem share_givenK {total : Int} {us : List Nat} (ha : 0 < allN us) (j : Nat) (hj : (j : Int) ≤ leftN total us) : Given (quotL total us) (restL total us) j := by
  have hl : (quotL total us).length = us.length := by simp [quotL]
  have hr : (restL total us).length = us.length := by simp [restL]
  refine given (all := allN us) (left := leftN total us) ha (by rw [hl, hr]) (fun i hi => ?_) ?_ _ hj
  · rw [restL_at total us (by omega)]
    exact ⟨Int.emod_nonneg _ (by omega), Int.emod_lt_of_pos _ ha⟩
  · rw [hl]; exact rest_sum
theorem own_at {w : World} {base g n cap : Nat} {t : TypeId} {l : List Int} (h : w.ownsRow base t 1 (.slice (some ⟨g, 0, none⟩) n cap) n (l.map (Value.int .i64))) {i : Nat} (hi : i < l.length) : w.cell? ⟨g, i, none⟩ = some (.int .i64 (l.getD i 0)) := by
  rw [h.cellAt i (by have := h.1; rw [List.length_map] at this; omega), List.getElem?_map, List.getElem?_eq_getElem hi]
  simp [List.getD_eq_getElem?_getD, hi]

set_option maxHeartbeats 3200000 in
set_option maxRecDepth 20000 in
/-- 'Share', of what may be shared. -/
theorem refShare_go (total : Int) (A : Option Addr) (c : Nat) (bs : List Nat) (w : World) (ht : 0 ≤ total ∧ total ≤ 1048576) (h : Flts w w.heap.size A bs) (hlt : ∀ b ∈ bs, b < 18446744073709551616) (hn : 0 < bs.length ∧ bs.length ≤ 4096) (ha : 0 < allN (unitsN bs)) :
    Calls Try.prog 16 #[.int .i64 total, .slice A bs.length c] w fun e w' => ∃ A' c', e = .returned (.tuple #[.slice A' bs.length c', .int .i64 0]) ∧ bs.length ≤ c' ∧ Ints w' w'.heap.size .i64 A' (shareN total (unitsN bs)) ∧ Below w.heap.size w w' := by
  obtain ⟨i0, hi, hz0, hz1, hz2⟩ := info_parts Try.infoI64w
  have HU := Lib.hid (fun (W : World) (hb : Below w.heap.size w W) => refUnits_any A c bs W ((h.below hb).more hb.size) hlt (by omega))
  have hul := unitsN_len bs
  have hult := units_lt bs
  obtain ⟨n, hne⟩ : ∃ n, n = bs.length := ⟨_, rfl⟩
  obtain ⟨us, hus⟩ : ∃ us, us = unitsN bs := ⟨_, rfl⟩
  simp only [← hne, ← hus] at HU hul hult hn ha ⊢
  obtain ⟨n1, n2⟩ := hn
  obtain ⟨t1, t2⟩ := ht
  have HSB := Lib.hid (fun k hk => sumF_bound hult k hk)
  have HUB := Lib.hid (fun k => getD_lt_of hult k)
  have HSS : Hid (∀ k, sumF (fun i => ((us.getD i 0 : Nat) : Int)) (k + 1) = sumF (fun i => ((us.getD i 0 : Nat) : Int)) k + ((us.getD k 0 : Nat) : Int)) := fun _ => rfl
  have HALL : Hid (sumF (fun i => ((us.getD i 0 : Nat) : Int)) n = allN us) := by unfold Hid; rw [← hul]; rfl
  have HSF0 : Hid (sumF (fun i => ((us.getD i 0 : Nat) : Int)) 0 = 0) := rfl
  obtain ⟨SF, hSF⟩ : ∃ SF, SF = sumF (fun i => ((us.getD i 0 : Nat) : Int)) := ⟨_, rfl⟩
  simp only [← hSF] at HSB HSS HALL HSF0
  have hni : (n : Int) ≤ 4096 := by omega
  have hn0 : ¬ (n : Int) = 0 := by omega
  have hn9 : ¬ (4096 : Int) < (n : Int) := by omega
  have ht8 : ¬ total < 0 := by omega
  have ht9 : ¬ (1048576 : Int) < total := by omega
  have HLEN := Lib.hid hul
  have HA := Lib.hid ha
  clear h hlt hult hne hus hSF hul ha
  go_enter Try.func16, Try.ntmps16
  go_wp2_with (go_at_call 14; with_reducible (refine Calls.mono (HU.out _ (Below.refl _ _)) ?_); rintro e w1 ⟨A1, c1, rfl, hc1, hi1, hb1⟩)
  clear HU
  go_loop [7, 8] (fun a i => ∃ k : Nat, k ≤ n ∧ i = .int .i64 k ∧ a = .int .i64 (SF k)) (fun _ i => n - (intOf i).toNat)
  case atStart => exact ⟨0, Nat.zero_le _, rfl, by rw [HSF0.out]⟩
  case round =>
    obtain ⟨k, hk, rfl, rfl⟩ := hrel
    by_cases hlt : k < n
    · obtain ⟨b1, off, hA, _, hc⟩ := hi1 k (by rw [up_len, HLEN.out]; exact hlt)
      rw [up_getD] at hc
      obtain ⟨s1, s2⟩ := HSB.out k (by rw [HLEN.out]; omega)
      have hub := HUB.out k
      have hss := HSS.out k
      obtain ⟨u, hu⟩ : ∃ u, u = us.getD k 0 := ⟨_, rfl⟩
      rw [← hu] at hc hub hss
      obtain ⟨S, hS⟩ : ∃ S, S = SF k := ⟨_, rfl⟩
      rw [← hS] at s1 s2 hss ⊢
      have HS2 := Lib.hid hss
      have k1 : (k : Int) < (n : Int) := by omega
      have k0 : (0 : Int) ≤ (k : Int) := by omega
      have s3 : S ≤ 17592186044416 := by omega
      have u1 : (u : Int) < 4294967296 := by omega
      subst hA
      clear hu hS hss s2 hi1
      go_wp2
      go_round
      case rel => exact ⟨k + 1, by omega, by go_num, by rw [HS2.out]⟩
      case measure => simp [intOf]; omega
    · have hk' : n = k := by omega
      subst hk'
      rw [HALL.out]
      have hab := (HSB.out n (by rw [HLEN.out]; exact Nat.le_refl _)).2
      rw [HALL.out] at hab
      have ha := HA.out
      obtain ⟨all, hall⟩ : ∃ a, a = allN us := ⟨_, rfl⟩
      rw [← hall] at ha hab ⊢
      have ha0 : ¬ all = 0 := by omega
      have ha1 : all ≤ 17592186044416 := by omega
      have HALLE := Lib.hid hall
      clear hlt hab hall
      go_wp2
      have HQ : Hid (∀ k, k < n → (quotL total us).getD k 0 = total * (us.getD k 0 : Nat) / allN us) := fun k hk => quotL_at total us (by rw [HLEN.out]; exact hk)
      have HR : Hid (∀ k, k < n → (restL total us).getD k 0 = total * (us.getD k 0 : Nat) % allN us) := fun k hk => restL_at total us (by rw [HLEN.out]; exact hk)
      have HE : Hid (∀ k, k < n → ((us.getD k 0 : Nat) : Int) ≤ allN us) := fun k hk => elem_le (f := fun i => ((us.getD i 0 : Nat) : Int)) (fun i => Int.natCast_nonneg _) (by rw [HLEN.out]; exact hk)
      have HQS := Lib.hid (fun k hk => quot_sum (total := total) t1 HA.out k hk)
      have HLL : Hid (∀ k, sumF (fun i => (quotL total us).getD i 0) (k + 1) = sumF (fun i => (quotL total us).getD i 0) k + (quotL total us).getD k 0) := fun _ => rfl
      have HL0 : Hid (sumF (fun i => (quotL total us).getD i 0) 0 = 0) := rfl
      have HQL : Hid ((quotL total us).length = n ∧ (restL total us).length = n) := ⟨by simp [quotL, HLEN.out], by simp [restL, HLEN.out]⟩
      have HLN : Hid (leftN total us = total - sumF (fun i => (quotL total us).getD i 0) n) := by unfold Hid leftN; rw [HLEN.out]
      have HSH : Hid (shareN total us = (giveTo (quotL total us) (restL total us) (leftN total us).toNat).1) := rfl
      have HL9 : Hid (0 ≤ leftN total us) := left_nonneg HA.out
      have HGIV := Lib.hid (fun j hj => share_givenK (total := total) (us := us) HA.out j hj)
      obtain ⟨Q, hQ⟩ : ∃ Q, Q = quotL total us := ⟨_, rfl⟩
      obtain ⟨Rr, hRr⟩ : ∃ Q, Q = restL total us := ⟨_, rfl⟩
      simp only [← hQ, ← hRr, ← HALLE.out] at HQ HR HE HQS HLL HL0 HQL HLN HSH HGIV
      obtain ⟨LS, hLS⟩ : ∃ LS, LS = sumF (fun i => Q.getD i 0) := ⟨_, rfl⟩
      simp only [← hLS] at HQS HLL HL0 HLN
      have HI1 := Lib.hid hi1
      clear hQ hRr hLS HSB HSS HALL HSF0 hi1
      go_loopw [9, 10, 11, 12] (fun v r l i wr => ∃ k : Nat, k ≤ n ∧ i = .int .i64 k ∧ l = .int .i64 (total - LS k) ∧ (∃ A c, v = .slice A k c) ∧ (∃ A c, r = .slice A k c) ∧ wr.ownsRow w1.heap.size 3 1 v k ((Q.take k).map (Value.int .i64)) ∧ wr.ownsRow w1.heap.size 3 1 r k ((Rr.take k).map (Value.int .i64)) ∧ v.ownBlock ≠ r.ownBlock ∧ Below w1.heap.size w1 wr) (fun _ _ _ i _ => n - (intOf i).toNat)
      case atStart =>
        refine ⟨0, Nat.zero_le _, rfl, by rw [HL0.out]; simp, ⟨_, _, rfl⟩, ⟨_, _, rfl⟩, (World.ownsRow_made w1 #[] 0 (Nat.le_refl _) (Nat.zero_le _) rfl).alloc _, ?_, by simp [Value.ownBlock], ((Below.refl _ _).alloc (Nat.le_refl _) _).alloc (by simp) _⟩
        have := World.ownsRow_made (base := w1.heap.size) (e := 3) (size := 1) (w1.alloc (.cells #[] 3)) #[] 0 (by simp) (Nat.zero_le _) rfl
        simpa using this
      case round =>
        obtain ⟨k, hk, rfl, rfl, ⟨Av, cv, rfl⟩, ⟨Ar, cr, rfl⟩, hv, hr, hD, hbel⟩ := hrel
        by_cases hlt : k < n
        · obtain ⟨b1, off, hA, hbl1, hcu⟩ := HI1.out k (by rw [up_len, HLEN.out]; exact hlt)
          rw [up_getD] at hcu
          have HCW : Hid (∀ W, Below w1.heap.size w1 W → W.cell? ⟨b1, off + k, none⟩ = some (.int .i64 (us.getD k 0 : Nat))) := fun W hb => (hb.cell (p := ⟨b1, off + k, none⟩) hbl1).trans hcu
          have hc := HCW.out wr hbel
          have hub := HUB.out k
          have hq := HQ.out k hlt
          have hrr := HR.out k hlt
          have he := HE.out k hlt
          obtain ⟨s1, s2⟩ := HQS.out k (by rw [HLEN.out]; omega)
          have hll := HLL.out k
          have htq := take_snocI Q (k := k) (by rw [HQL.out.1]; exact hlt)
          have htr := take_snocI Rr (k := k) (by rw [HQL.out.2]; exact hlt)
          obtain ⟨u, hu⟩ : ∃ u, u = us.getD k 0 := ⟨_, rfl⟩
          rw [← hu] at hc hub hq hrr he HCW
          have hm := mul_le_of (a := total) (b := 1048576) (c := (u : Int)) (d := 4294967296) t1 t2 (by omega) (by omega)
          have hqb := quot_le (total := total) (u := (u : Int)) (all := all) t1 (by omega) he ha
          have hrb1 := Int.emod_nonneg (total * (u : Int)) ha0
          have hrb2 := Int.emod_lt_of_pos (total * (u : Int)) ha
          obtain ⟨p, hp⟩ : ∃ p, p = total * (u : Int) := ⟨_, rfl⟩
          have v1 : IntKind.i64.wrap (total * (u : Int)) = p := by rw [hp]; exact IntWalk.i64_in _ (by omega)
          rw [← hp] at hq hrr hm hqb hrb1 hrb2
          have g1 : p.tdiv all = Q.getD k 0 := by rw [hq]; exact Int.tdiv_eq_ediv_of_nonneg hm.1
          have g2 : p.tmod all = Rr.getD k 0 := by rw [hrr]; exact Int.tmod_eq_emod_of_nonneg hm.1
          rw [← hq] at hqb
          rw [← hrr] at hrb1 hrb2
          obtain ⟨q, hq'⟩ : ∃ q, q = Q.getD k 0 := ⟨_, rfl⟩
          obtain ⟨r, hr'⟩ : ∃ q, q = Rr.getD k 0 := ⟨_, rfl⟩
          rw [← hq'] at g1 htq hll hqb
          rw [← hr'] at g2 htr hrb1 hrb2
          have v2 : IntKind.i64.wrap q = q := IntWalk.i64_in _ (by omega)
          have v3 : IntKind.i64.wrap r = r := IntWalk.i64_in _ (by omega)
          obtain ⟨S, hS⟩ : ∃ S, S = LS k := ⟨_, rfl⟩
          rw [← hS] at s1 s2 hll ⊢
          have s3 : S ≤ 4294967296 := by
            have : (k : Int) * total ≤ 4096 * 1048576 := Int.mul_le_mul (by omega) t2 t1 (by omega)
            omega
          have k1 : (k : Int) < (n : Int) := by omega
          have k0 : (0 : Int) ≤ (k : Int) := by omega
          have v4 : IntKind.i64.wrap (total - S - q) = total - S - q := IntWalk.i64_in _ (by omega)
          have HLS1 : Hid (LS (k + 1) = S + q) := hll
          have HTQ := Lib.hid htq
          have HQK : Hid ((Q.take (k + 1)).getD k 0 = q ∧ k < (Q.take (k + 1)).length) := ⟨by rw [hq', List.getD_eq_getElem?_getD, List.getD_eq_getElem?_getD, List.getElem?_take, if_pos (Nat.lt_succ_self k)], by rw [List.length_take, HQL.out.1]; omega⟩
          have HTR := Lib.hid htr
          have hsz := hbel.size
          subst hA
          clear hcu hbl1 hu hp hq hrr hq' hr' hS hll htq htr s2 he hub
          go_wp2_with (first
            | (at_builtin; refine wpList_append_own_at _ rfl _ _ 27 rfl w1.heap.size 3 i0 (.int .i64 0) 1 8 Try.underlying27 hi hz0 hz1 hz2 rfl (by decide) _ _ _ rfl (hv.alloc _) ⟨wr.heap.size, 0, none⟩ 1 1 [.int .i64 q] rfl rfl (cell_one_new _ _ _) (by intro u hu; simp at hu; subst hu; rfl) (by unfold maxLen; omega) (by omega) (by simp; omega) ?_; intro v5 w5 hown5 hg5 _ hob5; have hr5 := (hr.alloc (.cells #[.int .i64 q] 3)).kept hg5 (Or.inr (Ne.symm hD)); have hb5 := (hbel.alloc hsz (.cells #[.int .i64 q] 3)).grown hg5 (by simp; omega) (fun g hg => (hv.lt g hg).1); have hs5 := hb5.size; have hc5 := HCW.out w5 hb5; have hD5 : v5.ownBlock ≠ (Value.slice Ar k cr).ownBlock := (by rcases hob5 with e | e; exact (by rw [e]; exact hD); exact (by rw [e]; intro e2; have := (hr.lt _ e2.symm).2; simp only [World.size_alloc] at this; omega)))
            | (at_builtin; refine wpList_append_own_at _ rfl _ _ 27 rfl w1.heap.size 3 i0 (.int .i64 0) 1 8 Try.underlying27 hi hz0 hz1 hz2 rfl (by decide) _ _ _ rfl (hr5.alloc _) ⟨w5.heap.size, 0, none⟩ 1 1 [.int .i64 r] rfl rfl (cell_one_new _ _ _) (by intro u hu; simp at hu; subst hu; rfl) (by unfold maxLen; omega) (by omega) (by simp; omega) ?_; intro v6 w6 hown6 hg6 _ hob6; have hv6 := (hown5.alloc (.cells #[.int .i64 r] 3)).kept hg6 (Or.inr hD5); have hb6 := (hb5.alloc hs5 (.cells #[.int .i64 r] 3)).grown hg6 (by simp; omega) (fun g hg => (hr5.lt g hg).1); have hD6 : v5.ownBlock ≠ v6.ownBlock := (by rcases hob6 with e | e; exact (by rw [e]; exact hD5); exact (by rw [e]; intro e2; have := (hown5.lt _ e2).2; simp only [World.size_alloc] at this; omega)); have hv7 : w6.ownsRow w1.heap.size 3 1 v5 (k + 1) ((Q.take (k + 1)).map (Value.int .i64)) := (by rw [HTQ.out, List.map_append]; exact hv6); have hr7 : w6.ownsRow w1.heap.size 3 1 v6 (k + 1) ((Rr.take (k + 1)).map (Value.int .i64)) := (by rw [HTR.out, List.map_append]; exact hown6); clear hv6 hown6 hown5; obtain ⟨g5, cap5, hv5, _, _⟩ := hv7.form (Nat.succ_pos k); subst hv5; have hcell := own_at hv7 HQK.out.2; rw [HQK.out.1] at hcell))
          obtain ⟨A6, c6, hv6⟩ := own_slice hr7
          subst hv6
          have RR : Hid (w6.ownsRow w1.heap.size 3 1 (.slice (some ⟨g5, 0, none⟩) (k + 1) cap5) (k + 1) ((Q.take (k + 1)).map (Value.int .i64)) ∧ w6.ownsRow w1.heap.size 3 1 (.slice A6 (k + 1) c6) (k + 1) ((Rr.take (k + 1)).map (Value.int .i64)) ∧ (Value.slice (some ⟨g5, 0, none⟩) (k + 1) cap5).ownBlock ≠ (Value.slice A6 (k + 1) c6).ownBlock ∧ Below w1.heap.size w1 w6) := ⟨hv7, hr7, hD6, hb6⟩
          clear hv7 hr7 hD6 hb6 hcell hr5 hg5 hg6 hob5 hob6 hb5 hs5 hc5 hD5 hv hr hD hbel
          go_roundw
          case rel => first | exact ⟨k + 1, by omega, by go_num, by rw [HLS1.out]; congr 1; omega, ⟨_, _, rfl⟩, ⟨_, _, rfl⟩, RR.out⟩ | ((repeat apply Exists.intro); exact ⟨⟨k + 1, by omega, by go_num, by rw [HLS1.out]; congr 1; omega, ⟨_, _, rfl⟩, ⟨_, _, rfl⟩, RR.out⟩, rfl⟩)
          case measure => simp [intOf]; omega
        · have hk8 : n = k := by omega
          subst hk8
          rw [List.take_of_length_le (by rw [HQL.out.1]; exact Nat.le_refl _)] at hv
          rw [List.take_of_length_le (by rw [HQL.out.2]; exact Nat.le_refl _)] at hr
          obtain ⟨gv, cv2, hve, _, _⟩ := hv.form n1
          obtain ⟨gr, cr2, hre, _, _⟩ := hr.form n1
          injection hve with e1 _ e2
          injection hre with e3 _ e4
          subst e1 e2 e3 e4
          have hne : gv ≠ gr := fun e => hD (by rw [e]; rfl)
          rw [← HLN.out]
          have HGV : Hid (∀ j : Nat, (j : Int) ≤ leftN total us → Given Q Rr j) := fun j hj => HGIV.out j hj
          have h9 := HL9.out
          have hq9 := HQS.out n (by rw [HLEN.out]; exact Nat.le_refl _)
          have hl9 : leftN total us ≤ 1048576 := by rw [HLN.out]; omega
          have HSHN : Hid (shareN total us = (giveTo Q Rr (leftN total us).toNat).1) := HSH.out
          obtain ⟨L0, hL0⟩ : ∃ L0, L0 = leftN total us := ⟨_, rfl⟩
          rw [← hL0] at h9 hl9 HGV HSHN ⊢
          have HQB : Hid (∀ k, k < n → 0 ≤ Q.getD k 0 ∧ Q.getD k 0 ≤ 1048576) := fun k hk => by
            rw [HQ.out k hk]
            have := quot_le (total := total) (u := ((us.getD k 0 : Nat) : Int)) (all := all) t1 (Int.natCast_nonneg _) (HE.out k hk) ha
            omega
          have HG1 := Lib.hid (fun j => giveTo_len1 Q Rr j)
          have HG2 := Lib.hid (fun j => giveTo_len2 Q Rr j)
          have HGS : Hid (∀ j, giveTo Q Rr (j + 1) = ((giveTo Q Rr j).1.set (bestTo (giveTo Q Rr j).2 (n - 1)) ((giveTo Q Rr j).1.getD (bestTo (giveTo Q Rr j).2 (n - 1)) 0 + 1), (giveTo Q Rr j).2.set (bestTo (giveTo Q Rr j).2 (n - 1)) (-1))) := fun j => by
            have : n = Rr.length := HQL.out.2.symm
            rw [this]; rfl
          have R0 := Lib.hid (And.intro hv (And.intro hr hbel))
          clear hL0 hv hr hbel hD hlt hq9 HLL HLN HSH HL9 HQ HR HE HQS HUB HI1
          go_wp2
          go_loopw [11] (fun l wx => ∃ j : Nat, (j : Int) ≤ L0 ∧ l = .int .i64 (L0 - j) ∧ wx.ownsRow w1.heap.size 3 1 (.slice (some ⟨gv, 0, none⟩) n cv) n ((giveTo Q Rr j).1.map (Value.int .i64)) ∧ wx.ownsRow w1.heap.size 3 1 (.slice (some ⟨gr, 0, none⟩) n cr) n ((giveTo Q Rr j).2.map (Value.int .i64)) ∧ Below w1.heap.size w1 wx) (fun l _ => (intOf l).toNat)
          case atStart => exact ⟨0, by omega, by simp, R0.out⟩
          case round =>
            clear R0
            obtain ⟨j, hj, rfl, hv, hr, hbel⟩ := hrel
            by_cases hlt : (j : Int) < L0
            · have l1 : (0 : Int) < L0 - (j : Int) := by omega
              have R1 := Lib.hid (And.intro hv (And.intro hr hbel))
              have hl2 := HG2.out j
              rw [HQL.out.2] at hl2
              have hl1 := HG1.out j
              rw [HQL.out.1] at hl1
              have HBS : Hid (∀ m, bestTo (giveTo Q Rr j).2 (m + 1) = if (giveTo Q Rr j).2.getD (m + 1) 0 > (giveTo Q Rr j).2.getD (bestTo (giveTo Q Rr j).2 m) 0 then m + 1 else bestTo (giveTo Q Rr j).2 m) := fun _ => rfl
              have HBL := Lib.hid (fun m => bestTo_le (giveTo Q Rr j).2 m)
              have HB0 : Hid (bestTo (giveTo Q Rr j).2 0 = 0) := rfl
              have hgs := HGS.out j
              have hgv := HGV.out j (by omega)
              have HGE : Hid (∀ i, i < n → 0 ≤ (giveTo Q Rr j).1.getD i 0 ∧ (giveTo Q Rr j).1.getD i 0 ≤ 1048577) := fun i hi => by
                have := HQB.out i hi
                rcases hgv.each i (by rw [HQL.out.1]; exact hi) with ⟨e, _⟩ | ⟨e, _⟩ <;> rw [e] <;> omega
              obtain ⟨X, hX⟩ : ∃ X, X = (giveTo Q Rr j).1 := ⟨_, rfl⟩
              obtain ⟨Y, hY⟩ : ∃ X, X = (giveTo Q Rr j).2 := ⟨_, rfl⟩
              simp only [← hX, ← hY] at R1 hl1 hl2 HBS HBL HB0 hgs HGE
              have HGS1 := Lib.hid hgs
              clear hv hr hbel hgs hgv hX hY
              go_wp2
              go_loopw [13, 14] (fun b i wx => ∃ m : Nat, m + 1 ≤ n ∧ i = .int .i64 ((m : Int) + 1) ∧ b = .int .i64 (bestTo Y m : Nat) ∧ wx.ownsRow w1.heap.size 3 1 (.slice (some ⟨gv, 0, none⟩) n cv) n (X.map (Value.int .i64)) ∧ wx.ownsRow w1.heap.size 3 1 (.slice (some ⟨gr, 0, none⟩) n cr) n (Y.map (Value.int .i64)) ∧ Below w1.heap.size w1 wx) (fun _ i _ => n - (intOf i).toNat)
              case atStart => exact ⟨0, by omega, rfl, by rw [HB0.out]; rfl, R1.out⟩
              case round =>
                clear R1
                obtain ⟨m, hm, rfl, rfl, hv, hr, hbel⟩ := hrel
                have hbl := HBL.out m
                have hbs := HBS.out m
                obtain ⟨b, hb⟩ : ∃ b, b = bestTo Y m := ⟨_, rfl⟩
                rw [← hb] at hbl hbs ⊢
                by_cases hm1 : m + 1 < n
                · have c1 := own_at hr (i := m + 1) (by omega)
                  have c2 := own_at hr (i := b) (by omega)
                  obtain ⟨y, hy⟩ : ∃ y, y = Y.getD (m + 1) 0 := ⟨_, rfl⟩
                  obtain ⟨z, hz⟩ : ∃ y, y = Y.getD b 0 := ⟨_, rfl⟩
                  rw [← hy] at c1 hbs
                  rw [← hz] at c2 hbs
                  have k1 : (m : Int) + 1 < (n : Int) := by omega
                  have k0 : (0 : Int) ≤ (m : Int) + 1 := by omega
                  have k2 : (b : Int) < (n : Int) := by omega
                  have k3 : ((m : Int) + 1).toNat = m + 1 := by omega
                  have R2 := Lib.hid (And.intro hv (And.intro hr hbel))
                  clear hv hr hbel hy hz hb hbl
                  by_cases hyz : y > z
                  · rw [if_pos hyz] at hbs
                    have HB2 := Lib.hid hbs
                    have g1 : z < y := hyz
                    clear hbs hyz
                    go_wp2
                    go_quiet (fail)
                    go_wp2
                    go_roundw
                    case rel => first | exact ⟨m + 1, by omega, by go_num, by rw [HB2.out]; rfl, R2.out.1, R2.out.2.1, below_drewN R2.out.2.2 nq⟩ | ((repeat apply Exists.intro); exact ⟨⟨m + 1, by omega, by go_num, by rw [HB2.out]; rfl, R2.out.1, R2.out.2.1, below_drewN R2.out.2.2 nq⟩, rfl⟩)
                    case measure => simp [intOf]; omega
                  · rw [if_neg hyz] at hbs
                    have HB2 := Lib.hid hbs
                    have g1 : ¬ z < y := hyz
                    clear hbs hyz
                    go_wp2
                    go_quiet (fail)
                    go_wp2
                    go_roundw
                    case rel => first | exact ⟨m + 1, by omega, by go_num, by rw [HB2.out], R2.out.1, R2.out.2.1, below_drewN R2.out.2.2 nq⟩ | ((repeat apply Exists.intro); exact ⟨⟨m + 1, by omega, by go_num, by rw [HB2.out], R2.out.1, R2.out.2.1, below_drewN R2.out.2.2 nq⟩, rfl⟩)
                    case measure => simp [intOf]; omega
                · have hmn : m = n - 1 := by omega
                  have hgs2 := HGS1.out
                  rw [← hmn, ← hb] at hgs2
                  have c1 := own_at hv (i := b) (by omega)
                  have c2 := own_at hr (i := b) (by omega)
                  have hge := HGE.out b (by omega)
                  have f1 := hv.frozenAt b
                  have s1 := (hv.stored b (.int .i64 (X.getD b 0 + 1))).1
                  have hr1 := own_same hr (w' := wr.setCell ⟨gv, b, none⟩ (.int .i64 (X.getD b 0 + 1))) (fun g hg => by
                    have : g = gr := by simp [Value.ownBlock] at hg; omega
                    subst this
                    exact heap_setCell_other wr ⟨gv, b, none⟩ g _ (Ne.symm hne))
                  have c3 := own_at hr1 (i := b) (by omega)
                  have f3 := hr1.frozenAt b
                  have s2 := (hr1.stored b (.int .i64 (-1))).1
                  have s3 := own_same s1 (w' := (wr.setCell ⟨gv, b, none⟩ (.int .i64 (X.getD b 0 + 1))).setCell ⟨gr, b, none⟩ (.int .i64 (-1))) (fun g hg => by
                    have : g = gv := by simp [Value.ownBlock] at hg; omega
                    subst this
                    exact heap_setCell_other _ ⟨gr, b, none⟩ g _ hne)
                  have s4 := ((hbel.setCell (p := ⟨gv, b, none⟩) (hv.lt gv rfl).1 (.int .i64 (X.getD b 0 + 1))).setCell (p := ⟨gr, b, none⟩) (hr.lt gr rfl).1 (.int .i64 (-1)))
                  rw [← List.map_set] at s2 s3
                  have R3 := Lib.hid (And.intro s3 (And.intro s2 s4))
                  obtain ⟨y, hy⟩ : ∃ y, y = X.getD b 0 := ⟨_, rfl⟩
                  rw [← hy] at c1 c3 f3 hge R3 hgs2
                  obtain ⟨z, hz⟩ : ∃ z, z = Y.getD b 0 := ⟨_, rfl⟩
                  rw [← hz] at c2 c3
                  have HG9 := Lib.hid hgs2
                  have v9 : IntKind.i64.wrap (y + 1) = y + 1 := IntWalk.i64_in _ (by omega)
                  have k1 : ¬ (m : Int) + 1 < (n : Int) := by omega
                  have k2 : (b : Int) < (n : Int) := by omega
                  clear hv hr hbel hr1 s1 s2 s3 s4 hy hz hb hgs2 hmn hbs hbl
                  go_wp2
                  go_roundw
                  case rel => first | exact ⟨j + 1, by omega, by congr 1; omega, by rw [HG9.out]; exact R3.out.1, by rw [HG9.out]; exact R3.out.2.1, R3.out.2.2⟩ | ((repeat apply Exists.intro); exact ⟨⟨j + 1, by omega, by congr 1; omega, by rw [HG9.out]; exact R3.out.1, by rw [HG9.out]; exact R3.out.2.1, R3.out.2.2⟩, rfl⟩)
                  case measure => simp [intOf]; omega
            · have hjL : L0.toNat = j := by omega
              rw [hjL] at HSHN
              have hl1 := HG1.out j
              rw [HQL.out.1] at hl1
              have HV := Lib.hid (own_le hv)
              have HIN : Hid (Ints wr wr.heap.size .i64 (some ⟨gv, 0, none⟩) (shareN total us)) := by
                unfold Hid
                rw [HSHN.out]
                exact Ints.of_own (c := cv) (n := n) (by rw [hl1]; exact hv)
              have HB9 := Lib.hid (hb1.trans (hbel.mono hb1.size))
              have l1 : ¬ (0 : Int) < L0 - (j : Int) := by omega
              clear hv hr hbel
              go_wp2
              go_ret2
              exact ⟨_, _, rfl, HV.out, HIN.out, HB9.out⟩

end Go.Proofs.Ytcbimgdgodeppaa
