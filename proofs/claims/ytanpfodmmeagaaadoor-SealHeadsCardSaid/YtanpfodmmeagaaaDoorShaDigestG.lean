/-
  The document's own digest: what it answers; nothing that was there is changed. The words that stand now, as bytes.
-/
import Derived.Test.YtanpfodmmeagaaaDoorShaBlock
import Derived.Test.YtanpfodmmeagaaaDoorShaC5G
namespace Go.Proofs.YtanpfodmmeagaaaDoor
open Go.RowKit

theorem Tryd.infoU8b : (Tryd.prog.info? 5).map (fun i => (i.zero, i.size, i.bytes)) = some (some (.int .u8 0), 1, 1) := by kernel_rfl
def lenV : Value → Nat
  | .slice _ n _ => n
  | _ => 0
theorem padZ_at (n : Nat) : (n + 1 + padZ n) % 64 = 56 := by unfold padZ; omega
theorem padZ_before {n k : Nat} (h : k < padZ n) : (n + 1 + k) % 64 ≠ 56 := by unfold padZ at h; omega
theorem padZ_le (n : Nat) : padZ n ≤ 63 := by unfold padZ; omega
theorem up_map_append (a b : List Nat) (k : IntKind) : (up (a ++ b)).map (Value.int k) = (up a).map (Value.int k) ++ (up b).map (Value.int k) := by rw [up_append, List.map_append]
def lenTo (n k : Nat) : List Nat := (List.range k).map fun i => n * 8 / 256 ^ (7 - i) % 256
theorem lenTo_succ (n k : Nat) : lenTo n (k + 1) = lenTo n k ++ [n * 8 / 256 ^ (7 - k) % 256] := by simp [lenTo, List.range_succ]
def padT (b : List Nat) : List Nat := b ++ [128] ++ List.replicate (padZ b.length) 0
theorem padded_eq (b : List Nat) : padded b = padT b ++ lenTo b.length 8 := rfl
def outTo (s : List Nat) (k : Nat) : List Nat := (s.take k).flatMap be4s
theorem up_nb {zs : List Int} (h : ∀ z ∈ zs, 0 ≤ z ∧ z ≤ 255) : up (zs.map Int.toNat) = zs := by
  apply List.ext_getElem
  · simp [up]
  · intro i h1 h2
    have := h zs[i] (List.getElem_mem h2)
    simp [up]
    omega

theorem padded_lt {b : List Nat} (hb : ∀ x ∈ b, x < 256) : ∀ x ∈ padded b, x < 256 := by
  intro x hx
  simp only [padded, List.mem_append, List.mem_singleton, lenBytes, List.mem_map] at hx
  rcases hx with ((h | h) | h) | ⟨i, _, rfl⟩
  · exact hb x h
  · omega
  · have := (List.mem_replicate.1 h).2; omega
  · omega

set_option maxHeartbeats 3200000 in
set_option maxRecDepth 100000 in
/-- 'Digest'. -/
theorem refDigest_any (A0 : Option Addr) (c0 : Nat) (b : List Nat) (w : World) (h0 : Ints w w.heap.size .u8 A0 (up b)) (hA : A0 = none → c0 = 0) (hb : ∀ x ∈ b, x < 256) (hm : b.length ≤ 140737488355000) :
    Calls Tryd.prog 42 #[.slice A0 b.length c0] w fun e w' => ∃ A c, e = .returned (.slice A 32 c) ∧ 32 ≤ c ∧ Ints w' w'.heap.size .u8 A (up (digestN b)) ∧ Below w.heap.size w w' := by
  obtain ⟨i0, hi, hz0, hz1, hz2⟩ := info_parts Tryd.infoU8b
  have HA := Lib.hid hA
  have HB := Lib.hid hb
  have hpz := padZ_le b.length
  have hpa := Lib.hid (padZ_at b.length)
  obtain ⟨n, hn⟩ : ∃ n, n = b.length := ⟨_, rfl⟩
  have HN := Lib.hid hn
  have hul : (up b).length = n := by rw [up_len, hn]
  have HUL := Lib.hid hul
  rw [← hn] at hm hpz hpa ⊢
  clear hA hb hn hul
  go_enter Tryd.func42, Tryd.ntmps42
  go_wp2_with (at_builtin; refine wpList_append_ints _ rfl (.tmp 11) (.tmp 12) 24 rfl w.heap.size 5 i0 (.int .u8 0) 1 Tryd.underlying24 hi hz0 hz1 hz2 rfl .u8 _ [] (up b) w.heap.size c0 n A0 HUL.out rfl rfl (World.ownsRow_made w #[] 0 (Nat.le_refl _) (Nat.zero_le _) rfl) (h0.alloc (Nat.le_refl _) _) HA.out ?c1 ?c2 ?c3 ?_)
  case c1 => rw [HUL.out]; simp only [List.length_nil, maxLen]; omega
  case c2 => rw [HUL.out]; simp only [List.length_nil]; omega
  case c3 => simp
  intro v1 w1 hown1 hg1
  have hbel1 : Below w.heap.size w w1 := ((Below.refl _ _).alloc (Nat.le_refl _) _).grown hg1 (by simp) fun q hq => by simp [Value.ownBlock] at hq; omega
  have hown1' : w1.ownsRow w.heap.size 5 1 v1 n ((up b).map (Value.int .u8)) := by
    have h := hown1
    rw [HUL.out] at h
    exact h
  obtain ⟨A1, q1, hv1⟩ := own_slice hown1'
  subst hv1
  have hs1 := hbel1.size
  clear hg1 hown1
  go_wp2_with (at_builtin; refine wpList_append_own_at _ rfl (.tmp 14) (.tmp 15) 24 rfl w.heap.size 5 i0 (.int .u8 0) 1 1 Tryd.underlying24 hi hz0 hz1 hz2 rfl (by decide) _ _ _ rfl (hown1'.alloc _) ⟨w1.heap.size, 0, none⟩ 1 1 [.int .u8 128] rfl rfl (cell_one_new _ _ _) ?d1 ?d2 ?d3 ?d4 ?_)
  case d1 => intro u hu; simp at hu; subst hu; rfl
  case d2 => unfold maxLen; omega
  case d3 => omega
  case d4 => simp; omega
  intro v2 w2 hown2 hg2 _ _
  have hbel2 : Below w.heap.size w w2 := (hbel1.alloc hs1 _).grown hg2 (by simp; omega) fun q hq => (hown1'.lt q hq).1
  have hown2' : w2.ownsRow w.heap.size 5 1 v2 (n + 1) ((up (b ++ [128] ++ List.replicate 0 0)).map (Value.int .u8)) := by
    rw [List.replicate_zero, List.append_nil, up_map_append]; exact hown2
  clear hg2 hown2 hown1'
  go_wp2
  go_loopw [3] (fun v wr => ∃ k : Nat, k ≤ padZ n ∧ (∃ A c, v = .slice A (n + 1 + k) c) ∧ wr.ownsRow w.heap.size 5 1 v (n + 1 + k) ((up (b ++ [128] ++ List.replicate k 0)).map (Value.int .u8)) ∧ Below w.heap.size w wr) (fun v _ => n + 1 + padZ n - lenV v)
  case atStart => exact ⟨0, Nat.zero_le _, own_slice hown2', hown2', hbel2⟩
  case round =>
    clear hown2' hbel2
    obtain ⟨k, hk, ⟨A, c, rfl⟩, hown, hbel⟩ := hrel
    by_cases hlt : k < padZ n
    · have hne := padZ_before hlt
      have hne' : ((((n + 1 + k : Nat) : Int) % 64 == 56)) = false := by simp; omega
      have hne2 : ((((n + 1 + k : Nat) : Int) % 64 != 56)) = true := by simp; omega
      have hsz := hbel.size
      have hkm : k ≤ 63 := by omega
      obtain ⟨T, hT⟩ : ∃ T, T = b ++ [128] ++ List.replicate k 0 := ⟨_, rfl⟩
      rw [← hT] at hown
      have HT := Lib.hid hT
      clear hne hT
      go_wp2_with (at_builtin; refine wpList_append_own_at _ rfl _ _ 24 rfl w.heap.size 5 i0 (.int .u8 0) 1 1 Tryd.underlying24 hi hz0 hz1 hz2 rfl (by decide) _ _ _ rfl (hown.alloc _) ⟨wr.heap.size, 0, none⟩ 1 1 [.int .u8 0] rfl rfl (cell_one_new _ _ _) ?d1 ?d2 ?d3 ?d4 ?_)
      case d1 => intro u hu; simp at hu; subst hu; rfl
      case d2 => unfold maxLen; omega
      case d3 => omega
      case d4 => simp; omega
      intro v3 w3 hown3 hg3 _ _
      have R : w3.ownsRow w.heap.size 5 1 v3 (n + 1 + (k + 1)) ((up (b ++ [128] ++ List.replicate (k + 1) 0)).map (Value.int .u8)) ∧ Below w.heap.size w w3 := by
        refine ⟨?_, (hbel.alloc hsz _).grown hg3 (by simp; omega) fun q hq => (hown.lt q hq).1⟩
        rw [List.replicate_succ', ← List.append_assoc, ← HT.out, up_map_append]
        exact hown3
      obtain ⟨A3, q3, hv3⟩ := own_slice R.1
      subst hv3
      clear hown3 hg3 hown hbel
      go_wp2
      go_roundw
      case rel => first | exact ⟨k + 1, by omega, ⟨A3, q3, rfl⟩, R.1, R.2⟩ | ((repeat apply Exists.intro); exact ⟨⟨k + 1, by omega, ⟨A3, q3, rfl⟩, R.1, R.2⟩, rfl⟩)
      case measure => simp [lenV]; omega
    · have hkp : k = padZ n := by omega
      subst hkp
      have he := hpa.out
      have hown5 : wr.ownsRow w.heap.size 5 1 (.slice A (n + 1 + padZ n) c) ((padT b).length + 0) ((up (padT b ++ lenTo n 0)).map (Value.int .u8)) := by
        have e : padT b ++ lenTo n 0 = b ++ [128] ++ List.replicate (padZ n) 0 := by rw [HN.out]; show padT b ++ [] = _; rw [List.append_nil]; rfl
        have e2 : (padT b).length + 0 = n + 1 + padZ n := by rw [HN.out]; simp [padT]; omega
        rw [e, e2]; exact hown
      have hpl : (padT b).length = n + 1 + padZ n := by rw [HN.out]; simp [padT]; omega
      clear hown
      obtain ⟨L, hL⟩ : ∃ L, L = (padT b).length := ⟨_, rfl⟩
      rw [← hL] at hown5 hpl
      have HLn := Lib.hid hL
      have hown6 : wr.ownsRow w.heap.size 5 1 (.slice A L c) (L + 0) ((up (padT b ++ lenTo n 0)).map (Value.int .u8)) := by
        have h := hown5
        rw [← hpl] at h
        exact h
      clear hown5
      rw [← hpl]
      have hLb : L ≤ n + 64 := by omega
      have he3 : (((L : Int) % 64 == 56)) = true := by simp; omega
      have he4 : (((L : Int) % 64 != 56)) = false := by simp; omega
      have he5 : (L : Int) % 64 = 56 := by omega
      have HPL := Lib.hid hpl
      clear hL hpl he
      go_wp2
      clear he3 he4 he5
      go_loopw [3, 5] (fun v i wr => ∃ k : Nat, k ≤ 8 ∧ i = .int .i64 (7 - (k : Int)) ∧ (∃ A c, v = .slice A (L + k) c) ∧ wr.ownsRow w.heap.size 5 1 v (L + k) ((up (padT b ++ lenTo n k)).map (Value.int .u8)) ∧ Below w.heap.size w wr) (fun _ i _ => (intOf i + 1).toNat)
      case atStart => exact ⟨0, by omega, by go_num, ⟨A, c, rfl⟩, hown6, hbel⟩
      case round =>
        clear hown6 hbel
        obtain ⟨k, hk, rfl, ⟨A, c, rfl⟩, hown, hbel⟩ := hrel
        by_cases hlt : k < 8
        · obtain ⟨q, hq⟩ : ∃ q : Nat, (q : Int) = 7 - (k : Int) := ⟨7 - k, by omega⟩
          rw [← hq]
          have hq7 : q ≤ 7 := by omega
          have hsz := hbel.size
          have HQ := Lib.hid hq
          have HS := Lib.hid (lenTo_succ n k)
          obtain ⟨T, hT⟩ : ∃ T, T = padT b ++ lenTo n k := ⟨_, rfl⟩
          rw [← hT] at hown
          have HT := Lib.hid hT
          clear hq hT
          go_wp2_with (at_builtin; refine wpList_append_own_at _ rfl _ _ 24 rfl w.heap.size 5 i0 (.int .u8 0) 1 1 Tryd.underlying24 hi hz0 hz1 hz2 rfl (by decide) _ _ _ rfl (hown.alloc _) ⟨wr.heap.size, 0, none⟩ 1 1 [_] rfl rfl (cell_one_new _ _ _) ?d1 ?d2 ?d3 ?d4 ?_)
          case d1 => intro u hu; simp at hu; subst hu; rfl
          case d2 => unfold maxLen; omega
          case d3 => omega
          case d4 => simp; omega
          intro v3 w3 hown3 hg3 _ _
          have R : w3.ownsRow w.heap.size 5 1 v3 (L + (k + 1)) ((up (padT b ++ lenTo n (k + 1))).map (Value.int .u8)) ∧ Below w.heap.size w w3 := by
            refine ⟨?_, (hbel.alloc hsz _).grown hg3 (by simp; omega) fun q hq => (hown.lt q hq).1⟩
            have e : (n : Int) * 8 / 2 ^ (8 * q) % 256 = ((n * 8 / 256 ^ (7 - k) % 256 : Nat) : Int) := by
              rw [show 7 - k = q by have := HQ.out; omega, Int.natCast_emod, Int.natCast_ediv, Int.natCast_mul, Int.natCast_pow, Int.pow_mul]; rfl
            rw [HS.out, ← List.append_assoc, ← HT.out, up_map_append]
            have h := hown3
            rw [e] at h
            exact h
          obtain ⟨A3, q3, hv3⟩ := own_slice R.1
          subst hv3
          clear hown3 hg3 hown hbel
          go_wp2
          go_roundw
          case rel => first | exact ⟨k + 1, by omega, by have := HQ.out; go_num, ⟨A3, q3, rfl⟩, R.1, R.2⟩ | ((repeat apply Exists.intro); exact ⟨⟨k + 1, by omega, by have := HQ.out; go_num, ⟨A3, q3, rfl⟩, R.1, R.2⟩, rfl⟩)
          case measure => have := HQ.out; simp [intOf]; try omega
        · have hk8 : k = 8 := by omega
          subst hk8
          obtain ⟨g, cg, hvg, hg0, _⟩ := hown.form (by omega)
          injection hvg with hAg _ hcg
          subst hAg hcg
          have hpd : padT b ++ lenTo n 8 = padded b := by rw [HN.out]; rfl
          rw [hpd] at hown
          have hplen : (padded b).length = L + 8 := by rw [← hpd, List.length_append, ← HLn.out]; simp [lenTo]
          have hlc := own_le hown
          have hi8 : Ints wr wr.heap.size .u8 (some ⟨g, 0, none⟩) (up (padded b)) := Ints.of_own (c := c) (n := L + 8) (by rw [up_len, hplen]; exact hown)
          obtain ⟨M, hM⟩ : ∃ M, L + 8 = 64 * M := ⟨(L + 8) / 64, by have h1 := hpa.out; have h2 := HPL.out; omega⟩
          have hsh : Ints (wr.alloc (.cells #[.int .u32 1779033703, .int .u32 3144134277, .int .u32 1013904242, .int .u32 2773480762, .int .u32 1359893119, .int .u32 2600822924, .int .u32 528734635, .int .u32 1541459225] 61)) (wr.heap.size + 1) .u32 (some ⟨wr.heap.size, 0, none⟩) (up shaH.list) := Ints.new wr 61 .u32 (up shaH.list) _ rfl
          have HSH := Lib.hid hsh
          have HI8 := Lib.hid hi8
          have HPD := Lib.hid hplen
          have HM := Lib.hid hM
          have hbo := Lib.hid (fun o : Obj => hbel.alloc hbel.size o)
          have hML : L + 8 ≤ 64 * M := by omega
          have hML2 : 64 * M ≤ L + 8 := by omega
          clear hown hpd hplen hi8 hM hsh
          go_wp2_with (go_at_call 65; refine Calls.mono (roots_any _) ?_; rintro e wk ⟨Ak, ck, rfl, hck, hik, hbk⟩)
          have hwk : wr.heap.size + 1 ≤ wk.heap.size := by have := hbk.size; simpa using this
          have hbk' : Below (wr.heap.size + 1) (wr.alloc (.cells #[.int .u32 1779033703, .int .u32 3144134277, .int .u32 1013904242, .int .u32 2773480762, .int .u32 1359893119, .int .u32 2600822924, .int .u32 528734635, .int .u32 1541459225] 61)) wk := by have h := hbk; simp only [World.size_alloc] at h; exact h
          have hI1 : Ints wk wk.heap.size .u32 (some ⟨wr.heap.size, 0, none⟩) (up (blocksTo shaH (padded b) 0).list) := (HSH.out.below hbk').more hwk
          have hI2 : Ints wk wk.heap.size .u8 (some ⟨g, 0, none⟩) (up (padded b)) := (((HI8.out.alloc (Nat.le_refl _) _).more (Nat.le_succ _)).below hbk').more hwk
          have hI3 : Below w.heap.size w wk := (hbo.out _).trans (hbk'.mono (Nat.le_trans hbel.size (Nat.le_succ _)))
          clear hbk hbk' hbel
          go_loopw [6, 8] (fun v i wl => ∃ k : Nat, k ≤ M ∧ i = .int .i64 (64 * (k : Int)) ∧ (∃ A c, v = .slice A 8 c ∧ 8 ≤ c ∧ Ints wl wl.heap.size .u32 A (up (blocksTo shaH (padded b) k).list)) ∧ Ints wl wl.heap.size .u8 (some ⟨g, 0, none⟩) (up (padded b)) ∧ Ints wl wl.heap.size .u32 Ak (up shaK) ∧ Below w.heap.size w wl)
            (fun _ i _ => 64 * M - (intOf i).toNat)
          case atStart => exact ⟨0, Nat.zero_le _, rfl, ⟨_, _, rfl, Nat.le_refl _, hI1⟩, hI2, hik, hI3⟩
          case round =>
            clear hI1 hI2 hI3 hik
            obtain ⟨k, hk, rfl, ⟨A', c', rfl, hc', hJ1⟩, hJ2, hJ3, hJ4⟩ := hrel
            by_cases hlt : k < M
            · have hat : 64 * k + 64 ≤ L + 8 := by omega
              have hcut := (hJ2.cut (n := 64 * k) (c := c) (by rw [up_len, HPD.out]; omega) (by rw [up_len, HPD.out]; exact hlc)).take 64
              rw [if_neg (by omega)] at hcut
              have eA : (some (⟨g, 0, none⟩ : Addr)).map (·.add (64 * k)) = some ⟨g, 64 * k, none⟩ := by unfold Addr.add; split <;> simp_all
              have eB : ((up (padded b)).drop (64 * k)).take 64 = up (((padded b).drop (64 * k)).take 64) := by simp [up]
              rw [eA, eB] at hcut
              have hpb : ∀ x ∈ ((padded b).drop (64 * k)).take 64, x < 256 := fun x hx => padded_lt HB.out x (List.mem_of_mem_drop (List.mem_of_mem_take hx))
              have HBL := Lib.hid (block_any A' Ak (some ⟨g, 64 * k, none⟩) c' ck (c - 64 * k) (blocksTo shaH (padded b) k) (((padded b).drop (64 * k)).take 64) wr hJ1 hJ3 hcut (blocksTo_ok (show shaH.ok from ⟨by decide, by decide, by decide, by decide, by decide, by decide, by decide, by decide⟩) _ _) hpb (by rw [List.length_take, List.length_drop, HPD.out]; omega))
              have hc64 : ¬ c = 64 * k := by omega
              have hck64 : 64 * k + 64 ≤ c := by omega
              have z0 : (0 : Int) ≤ 64 * (k : Int) := by omega
              have z1 : 64 * (k : Int) < (L : Int) + 8 := by omega
              have z2 : 64 * (k : Int) + 64 ≤ (c : Int) := by omega
              have n1 : (64 * (k : Int)).toNat = 64 * k := by omega
              have n2 : (64 * (k : Int) + 64).toNat = 64 * k + 64 := by omega
              clear hcut eA eB hpb
              go_wp2_with (go_at_call 66; refine Calls.mono HBL.out ?_; rintro e wb ⟨Ab, cb, rfl, hcb, hib, hbb⟩)
              go_roundw
              case rel => exact ⟨k + 1, by omega, by go_num, ⟨Ab, cb, rfl, hcb, hib⟩, (hJ2.below hbb).more hbb.size, (hJ3.below hbb).more hbb.size, chain hJ4 hbb⟩
              case measure => simp [intOf]; omega
            · have hkM : k = M := by omega
              subst hkM
              have hdg : digestN b = outTo (blocksTo shaH (padded b) k).list 8 := by
                unfold digestN outTo
                rw [HPD.out, HM.out, show 64 * k / 64 = k by omega]; rfl
              have hok := blocksTo_ok (show shaH.ok from ⟨by decide, by decide, by decide, by decide, by decide, by decide, by decide, by decide⟩) (padded b) k
              obtain ⟨st, hst⟩ : ∃ st, st = (blocksTo shaH (padded b) k).list := ⟨_, rfl⟩
              have hsl : st.length = 8 := by rw [hst]; rfl
              have hsm : ∀ x ∈ st, x < 2 ^ 32 := by
                rw [hst]; obtain ⟨a1, a2, a3, a4, a5, a6, a7, a8⟩ := hok
                intro x hx; simp only [Eight.list, List.mem_cons, List.not_mem_nil, or_false] at hx
                rcases hx with rfl | rfl | rfl | rfl | rfl | rfl | rfl | rfl <;> assumption
              rw [← hst] at hJ1 hdg
              have HDG := Lib.hid hdg
              have HSL := Lib.hid hsl
              have HSM := Lib.hid hsm
              have z1 : ¬ 64 * (k : Int) < (L : Int) + 8 := by omega
              clear hst hdg hsl hsm hok hJ2 hJ3
              go_wp2
              have hwz := hJ4.size
              obtain ⟨wq, rfl⟩ : ∃ wq : World, wq = wr := ⟨wr, rfl⟩
              go_loopw [9, 10] (fun v i wo => ∃ j : Nat, j ≤ 8 ∧ i = .int .i64 j ∧ (∃ A c, v = .slice A (4 * j) c) ∧ wo.ownsRow wq.heap.size 5 1 v (4 * j) ((up (outTo st j)).map (Value.int .u8)) ∧ Below wq.heap.size wq wo) (fun _ i _ => 8 - (intOf i).toNat)
              case atStart => exact ⟨0, by omega, rfl, ⟨_, _, rfl⟩, World.ownsRow_made wq #[] 0 (Nat.le_refl _) (Nat.zero_le _) rfl, (Below.refl _ _).alloc (Nat.le_refl _) _⟩
              case round =>
                obtain ⟨j, hj, rfl, ⟨A5, c5, rfl⟩, hown, hbel⟩ := hrel
                by_cases hlt : j < 8
                · obtain ⟨bh, oh, eh, hbh, hch⟩ := (hJ1.below hbel).at_ (by rw [up_len, HSL.out]; decide)
                  have mj := hch j (by rw [up_len, HSL.out]; exact hlt)
                  rw [up_getD] at mj
                  have hout : outTo st (j + 1) = outTo st j ++ be4s (st.getD j 0) := by
                    unfold outTo
                    have hjl : j < st.length := by rw [HSL.out]; exact hlt
                    rw [List.take_succ_eq_append_getElem hjl, List.flatMap_append]
                    simp [List.getD, hjl]
                  have hx := getD_lt (by decide) HSM.out j
                  obtain ⟨x, ex⟩ : ∃ x, x = st.getD j 0 := ⟨_, rfl⟩
                  rw [← ex] at mj hout hx
                  unfold be4s at hout
                  have f0 : IntKind.u8.wrap ((x : Int) / 2 ^ 24) = ((x / 16777216 % 256 : Nat) : Int) := by rw [IntKind.wrap_u8]; omega
                  have f1 : IntKind.u8.wrap ((x : Int) / 2 ^ 16) = ((x / 65536 % 256 : Nat) : Int) := by rw [IntKind.wrap_u8]; omega
                  have f2 : IntKind.u8.wrap ((x : Int) / 2 ^ 8) = ((x / 256 % 256 : Nat) : Int) := by rw [IntKind.wrap_u8]; omega
                  have f3 : IntKind.u8.wrap (x : Int) = ((x % 256 : Nat) : Int) := by rw [IntKind.wrap_u8]; omega
                  have f4 : IntKind.u8.wrap ((x : Int) / 16777216) = ((x / 16777216 % 256 : Nat) : Int) := by rw [IntKind.wrap_u8]; omega
                  have f5 : IntKind.u8.wrap ((x : Int) / 65536) = ((x / 65536 % 256 : Nat) : Int) := by rw [IntKind.wrap_u8]; omega
                  have f6 : IntKind.u8.wrap ((x : Int) / 256) = ((x / 256 % 256 : Nat) : Int) := by rw [IntKind.wrap_u8]; omega
                  obtain ⟨y0, ey0⟩ : ∃ y, y = x / 16777216 % 256 := ⟨_, rfl⟩
                  obtain ⟨y1, ey1⟩ : ∃ y, y = x / 65536 % 256 := ⟨_, rfl⟩
                  obtain ⟨y2, ey2⟩ : ∃ y, y = x / 256 % 256 := ⟨_, rfl⟩
                  obtain ⟨y3, ey3⟩ : ∃ y, y = x % 256 := ⟨_, rfl⟩
                  rw [← ey0] at f0 f4 hout
                  rw [← ey1] at f1 f5 hout
                  rw [← ey2] at f2 f6 hout
                  rw [← ey3] at f3 hout
                  have HOUT := Lib.hid hout
                  have j0 : (0 : Int) ≤ (j : Int) := by omega
                  have j1 : (j : Int) < 8 := by omega
                  obtain rfl := eh
                  have hne := own_ne hown hbh
                  have hsz := hbel.size
                  clear hch hout hx ex ey0 ey1 ey2 ey3
                  go_wp2
                  go_region_held3 (fun w' => w'.cell? ⟨bh, oh + j, none⟩ = some (.int .u32 (x : Int)))
                    (first
                      | go_keep
                      | (rw [hgrow.cell_far _ (by simp; omega) hne]; assumption))
                    (first
                      | (refine step_append_lies _ (by rfl) _ _ _ (by rfl) _ 5 i0 _ 1 1 Tryd.underlying24 hi hz0 hz1 hz2 rfl (by omega) _ (4 * j) _ (by rfl) ((hown.alloc _).drew) ⟨wr.heap.size, 0, none⟩ 4 4 [.int .u8 (y0 : Int), .int .u8 (y1 : Int), .int .u8 (y2 : Int), .int .u8 (y3 : Int)] (by rfl) (by rfl) (World.news_of_block (cs := #[.int .u8 (y0 : Int), .int .u8 (y1 : Int), .int .u8 (y2 : Int), .int .u8 (y3 : Int)]) (t := 5) (fr := (0, 0)) (heap_alloc_new wr _)) (by simp [Value.oneCell']) (by omega) (by unfold maxLen; omega) (by omega) (by simp; omega) (wr.heap.size + 1) (by simp) ?_; intro gg cap1 w5 hown5 hgrow hat hlt'))
                  have hR : w5.ownsRow wq.heap.size 5 1 (.slice (some ⟨gg, 0, none⟩) (4 * (j + 1)) cap1) (4 * (j + 1)) ((up (outTo st (j + 1))).map (Value.int .u8)) := by
                    rw [HOUT.out, up_map_append]
                    exact hown5
                  have hB5 := ((hbel.alloc hsz _).drew).grown hgrow (by simp; omega) fun q hq => (hown.lt q hq).1
                  have HR5 := Lib.hid hR
                  have HB5 := Lib.hid hB5
                  have e4 : 4 * j + 4 = 4 * (j + 1) := by omega
                  clear hown5 hgrow hown hbel mj hR hB5
                  go_wp2
                  go_roundw
                  case rel => first | exact ⟨j + 1, by omega, by go_num, ⟨some ⟨gg, 0, none⟩, cap1, rfl⟩, HR5.out, HB5.out⟩ | ((repeat apply Exists.intro); exact ⟨⟨j + 1, by omega, by go_num, ⟨some ⟨gg, 0, none⟩, cap1, rfl⟩, HR5.out, HB5.out⟩, rfl⟩)
                  case measure => simp [intOf]; omega
                · have hj8 : j = 8 := by omega
                  subst hj8
                  have hle := own_le hown
                  have hol : (outTo st 8).length = 32 := by
                    unfold outTo
                    rw [List.take_of_length_le (by rw [HSL.out]; exact Nat.le_refl _)]
                    have : ∀ l : List Nat, (l.flatMap be4s).length = 4 * l.length := by
                      intro l; induction l with
                      | nil => rfl
                      | cons x l ih => rw [List.flatMap_cons, List.length_append, ih, List.length_cons]; simp [be4s]; omega
                    rw [this, HSL.out]
                  have hres := Ints.of_own (A := A5) (c := c5) (n := 32) (zs := up (outTo st 8)) (k := .u8) (t := 5) (base := _) (by rw [up_len, hol]; exact hown)
                  have HRES := Lib.hid hres
                  clear hown hres hol
                  go_wp2
                  go_ret
                  rw [HDG.out]
                  exact ⟨A5, c5, rfl, hle, HRES.out, chain hJ4 hbel⟩

end Go.Proofs.YtanpfodmmeagaaaDoor

namespace Go.Proofs.YtanpfodmmeagaaaDoor
open Go.RowKit

theorem bytes4 (x : Nat) : bytesOf (x : Int) (4 : Int).toNat = up (be4s x) := by
  have e : bytesOf (x : Int) (4 : Int).toNat = [(x : Int) / 256 ^ 3 % 256, (x : Int) / 256 ^ 2 % 256, (x : Int) / 256 ^ 1 % 256, (x : Int) / 256 ^ 0 % 256] := rfl
  rw [e]
  simp [up, be4s]
theorem put4 (x : Nat) (h : x < 2 ^ 32) : fieldsE [(x : Int)] [4] = 0 ∧ fieldsB [(x : Int)] [4] = up (be4s x) := by
  have h1 : szs [4] = true := by decide
  have hf : fitB (x : Int) 4 = true := by
    unfold fitB
    have : (256 : Int) ^ (4 : Int).toNat = 4294967296 := by decide
    rw [this, decide_eq_true_eq]; omega
  have e : fieldsE [(x : Int)] [4] = 0 := by
    unfold fieldsE
    rw [if_pos ⟨h1, rfl⟩, if_pos (by simp [hf])]
  refine ⟨e, ?_⟩
  unfold fieldsB
  rw [if_pos e]
  simp only [List.zip_cons_cons, List.zip_nil_right, List.flatMap_cons, List.flatMap_nil, List.append_nil]
  exact bytes4 x
theorem outTo_len (s : List Nat) (j : Nat) (h : j ≤ s.length) : (outTo s j).length = 4 * j := by
  induction j with
  | zero => simp [outTo]
  | succ j ih =>
    have hj : j < s.length := by omega
    have e : outTo s (j + 1) = outTo s j ++ be4s s[j] := by
      unfold outTo
      rw [List.take_succ_eq_append_getElem hj, List.flatMap_append]; simp
    rw [e, List.length_append, ih (by omega)]
    show 4 * j + 4 = _
    omega
theorem outTo_next (s : List Nat) (j : Nat) (h : j < s.length) : outTo s (j + 1) = outTo s j ++ be4s (s.getD j 0) := by
  unfold outTo
  rw [List.take_succ_eq_append_getElem h, List.flatMap_append]
  simp [List.getD_eq_getElem?_getD, List.getElem?_eq_getElem h]
/-- A row of bytes behind a copy into it. -/
theorem copied (l m z : List Nat) (o n : Nat) (ho : o = l.length) (hn : n = m.length) : ((BA (l ++ z)).toList.take o ++ ((m.map fun x : Nat => Value.int .u8 (x : Int)) ++ (BA (l ++ z)).toList.drop (o + n))).toArray = BA (l ++ m ++ z.drop n) := by
  subst ho hn
  simp [BA, List.drop_append]

set_option maxHeartbeats 800000 in
set_option maxRecDepth 100000 in
/-- 'digest'. -/
theorem stateDigest_any (g : Nat) (l : List Nat) (w : World) (hL : Laid w) (hl : l.length = 8) (h : ∀ i, i < 8 → w.cell? ⟨g, i, none⟩ = some (.int .u32 (l.getD i 0 : Nat))) :
    Calls Tryd.prog 78 #[.pointer (some ⟨g, 0, none⟩)] w fun e w' => e = .returned (.agg (BA ((sumTo l 8).flatMap be4s))) ∧ Below w.heap.size w w' := by
  have hg : g < w.heap.size := World.block_lt_of_cell? w _ (h 0 (by decide))
  have HS := Lib.hid (fun (W : World) (hb : Below w.heap.size w W) => sums_any g l W (hL.to hb) hl fun i hi => (hb.cell hg).trans (h i hi))
  have hz := (zero_of_info (P := Tryd.prog) (t := 41) (v := .agg (BA (List.replicate 32 0))) (n := 32) (by kernel_rfl)).1
  have hu := Tryd.underlying41
  have hln := sumTo_len l 8
  have HLT := Lib.hid (fun j => getD_lt (m := 2 ^ 32) (by decide) (sumTo_lt l 8) j)
  have hsx := fun j (hj : j < 8) => U_at (sumTo l 8) j (by rw [hln]; exact hj)
  obtain ⟨s, hs⟩ : ∃ s, s = sumTo l 8 := ⟨_, rfl⟩
  rw [← hs] at HS HLT hsx hln ⊢
  obtain ⟨C, hC⟩ : ∃ C, C = U s := ⟨_, rfl⟩
  rw [← hC] at HS hsx
  have HSX := Lib.hid hsx
  obtain ⟨i0, hi0, hz0, hz1, hz2⟩ := info_parts Tryd.infoU32
  have HI := Lib.hid (fun (w : World) (j : Nat) (v : Value) (hj : j < 8) (hc : C[j]? = some v) => run_index_agg (P := Tryd.prog) (t := 120) Tryd.underlying120 (by kernel_rfl) hi0 hz1 w C j v hj hc)
  clear hsx hC hs hL hl h hg hz0 hz1 hz2 hi0
  go_enter Tryd.func78, Tryd.ntmps78
  go_wp2_with (go_at_call 82; with_reducible (refine Calls.mono (HS.out _ ?hb) ?_); (case hb => exact ((Below.refl _ _).alloc (Nat.le_refl _) _).alloc (by simp) _); rintro e w1 ⟨rfl, hb1⟩)
  have hb1s := hb1.size
  simp only [World.size_alloc] at hb1s
  go_loopw [10] (fun i wr => ∃ j : Nat, j ≤ 8 ∧ i = .int .i64 j ∧ Below w.heap.size w wr ∧ wr.heap[w.heap.size]? = some (.cells (BA (List.replicate 32 0)) 41 (0, 0)) ∧ wr.heap[w.heap.size + 1]? = some (.cells (BA (outTo s j ++ List.replicate (32 - 4 * j) 0)) 41 (0, 0)) ∧ w.heap.size + 1 < wr.heap.size) (fun i _ => 8 - (intOf i).toNat)
  case atStart =>
    refine ⟨0, by omega, rfl, ?_, ?_, ?_, by omega⟩
    · exact (((Below.refl _ _).alloc (Nat.le_refl _) _).alloc (by simp) _).trans (hb1.mono (by simp; omega))
    · refine (hb1.block _ (by simp; omega)).trans ?_
      exact (((Below.refl (w.heap.size + 1) (w.alloc _)).alloc (by simp) _).block w.heap.size (by simp)).trans (heap_alloc_new _ _)
    · refine (hb1.block _ (by simp)).trans ?_
      exact heap_alloc_new' _ _ _ (by simp)
  case round =>
    clear hb1 hb1s
    obtain ⟨j, hj, rfl, hbel, hr2, hr3, hsz⟩ := hrel
    by_cases hlt : j < 8
    · have hx := HI.out wr j _ hlt (HSX.out j hlt)
      have hx1 := HLT.out j
      have HN := Lib.hid (outTo_next s j (by rw [hln]; exact hlt))
      have HOL := Lib.hid (outTo_len s j (by omega))
      obtain ⟨x, hxe⟩ : ∃ x, x = s.getD j 0 := ⟨_, rfl⟩
      rw [← hxe] at hx hx1 HN
      have hp := put4 x hx1
      have HP : Hid (Calls Tryd.prog 30 #[.int .u64 (x : Int), .int .i64 4] wr fun e w' => ∃ A c, e = .returned (.tuple #[.slice A 4 c, .int .i64 0]) ∧ 4 ≤ c ∧ Ints w' w'.heap.size .u8 A (up (be4s x)) ∧ Below wr.heap.size wr w') := by
        have := put_any (x : Int) 4 wr (by omega)
        rw [hp.1, hp.2] at this
        exact this.mono fun e w' ⟨A, c, h1, h2, h3, h4⟩ => ⟨A, c, h1, h2, h3, h4⟩
      have n0 : (4 * (j : Int)).toNat = 4 * j := by omega
      have z0 : (0 : Int) ≤ 4 * (j : Int) := by omega
      have y0 : 4 * (j : Int) ≤ 32 := by omega
      have v1 : IntKind.i64.wrap (4 * (j : Int)) = 4 * (j : Int) := IntWalk.i64_in _ (by omega)
      have p0 : IntKind.u64.wrap (x : Int) = (x : Int) := IntWalk.u64_in _ (by omega)
      have hj8 : (j : Int) < 8 := by omega
      have R := Lib.hid (And.intro hbel (And.intro hr2 (And.intro hr3 hsz)))
      clear hp hxe hbel hr2 hr3 hsz
      have h4 : (be4s x).length = 4 := by simp [be4s]
      have hll : (outTo s j).length = 4 * j := HOL.out
      go_wp2_with (first
        | (go_at_call 30; with_reducible (refine Calls.mono HP.out ?_); rintro e w1 ⟨A, c, rfl, hc4, hi4, hb1⟩; obtain ⟨b2, o2, e2, hb2, hcell⟩ := hi4.at_ (by rw [up_len]; simp [be4s]); subst e2; have hr3' := (hb1.block _ R.out.2.2.2).trans R.out.2.2.1)
        | (with_reducible (refine wpList_copy_off (o := ⟨some 24, _, _, _, _, _⟩) rfl (.tmp 22) (.tmp 23) 24 24 rfl 5 Tryd.underlying24 (by kernel_rfl) (w.heap.size + 1) (4 * j) (32 - 4 * j) (32 - 4 * j) ⟨b2, o2, none⟩ 4 c rfl rfl (BA (outTo s j ++ List.replicate (32 - 4 * j) 0)) 41 hr3' ((be4s x).map fun z : Nat => Value.int .u8 (z : Int)) ?hn ?hsrc ?hfit ?h1 ?_)))
      case hn => rw [List.length_map, h4]; exact (Nat.min_eq_left (by omega)).symm
      case hsrc =>
        intro i v hv
        have hi : i < 4 := by
          rcases Nat.lt_or_ge i 4 with h | h
          · exact h
          · rw [List.getElem?_eq_none (by rw [List.length_map, h4]; exact h)] at hv; cases hv
        rw [Addr.add_mid, hcell i (by rw [up_len, h4]; exact hi), up_getD, ← hv, List.getElem?_map, List.getElem?_eq_getElem (by rw [h4]; exact hi)]
        simp [List.getD_eq_getElem?_getD, List.getElem?_eq_getElem (show i < (be4s x).length by rw [h4]; exact hi)]
      case hfit => rw [List.length_map, h4, BA_size, List.length_append, hll, List.length_replicate]; omega
      case h1 => intro v hv; obtain ⟨z, _, rfl⟩ := List.mem_map.1 hv; rfl
      intro W hW oW
      obtain ⟨hbel, hr2, hr3, hsz⟩ := R.out
      have hW3 : W.heap[w.heap.size + 1]? = some (.cells (BA (outTo s (j + 1) ++ List.replicate (32 - 4 * (j + 1)) 0)) 41 (0, 0)) := by
        have h := hW.out
        rw [copied _ _ _ _ 4 hll.symm h4.symm, List.drop_replicate, ← HN.out, show 32 - 4 * j - 4 = 32 - 4 * (j + 1) by omega] at h
        exact h
      have R2 : Below w.heap.size w W ∧ W.heap[w.heap.size]? = some (.cells (BA (List.replicate 32 0)) 41 (0, 0)) ∧ W.heap[w.heap.size + 1]? = some (.cells (BA (outTo s (j + 1) ++ List.replicate (32 - 4 * (j + 1)) 0)) 41 (0, 0)) ∧ w.heap.size + 1 < W.heap.size :=
        ⟨oW.below (chain hbel hb1) (by intro k hk; omega), (oW.block _ (by have := hb1.size; omega) (by omega)).trans ((hb1.block _ (by omega)).trans hr2), hW3, by have := hb1.size; have := oW.size; omega⟩
      clear hbel hr2 hr3 hsz hr3' hW oW hW3 hb1 hi4 hcell hb2 R
      go_wp2
      go_roundw
      case rel => exact ⟨j + 1, by omega, by go_num, R2⟩
      case measure => simp [intOf]; omega
    · have hj9 : j = 8 := by omega
      subst hj9
      have eo : outTo s 8 = s.flatMap be4s := by unfold outTo; rw [List.take_of_length_le (by omega)]
      rw [show 32 - 4 * 8 = 0 from rfl, List.replicate_zero, List.append_nil, eo] at hr3
      have hsl : (s.flatMap be4s).length = 32 := by rw [← eo, outTo_len s 8 (by omega)]
      have hi : (Tryd.prog.info? 41).map (·.size) = some (BA (s.flatMap be4s)).size := by rw [BA_size, hsl]; kernel_rfl
      have ho : (BA (List.replicate 32 0)).size = (BA (s.flatMap be4s)).size := by rw [BA_size, BA_size, hsl]; rfl
      go_wp2_with (first
        | (refine wpList_load_row rfl 41 _ rfl (w.heap.size + 1) rfl 41 _ (0, 0) _ hr3 hu rfl hi ?_)
        | (refine wpList_store_row rfl 41 _ _ rfl w.heap.size _ rfl rfl 41 _ hr2 hi ho (BA_one _) ?_))
      refine bodyPost_ret (v := .agg (BA (s.flatMap be4s))) ?_ rfl ⟨rfl, below_setRow hbel (Nat.le_refl _) _⟩
      exact results_cell_row rfl _ _ w.heap.size 41 _ (0, 0) _ rfl (setRow_heap _ _ _ _ _ _ hr2) hu rfl hi

end Go.Proofs.YtanpfodmmeagaaaDoor
