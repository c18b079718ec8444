/-
  DiskKeeps: behind a crash each sector is as it was when it was flushed last, or as some later write made it.
-/
import Derived.Test.YtnbgnllkikajpaaDiskMay
import Derived.Deep.RegionLaw
namespace Go.Proofs.Ytnbgnllkikajpaa
open Go.RowKit

def mayV (s : Dk) (n : Nat) : List Value := (mayD s n).map txtV
theorem Try.infoRowStr : (Try.prog.info? 41).map (fun i => (i.zero, i.size, i.bytes)) = some (some (.slice none 0 0), 1, 24) := by kernel_rfl
theorem make8 (w : World) : (Instr.makeSlice 50 (.int .i64 8) (.int .i64 8)).run Try.prog w = .ok (.slice (some ⟨w.heap.size, 0, none⟩) 8 8) (w.alloc (.cells (rowV fun _ => .slice none 0 0) 41)) := by
  have h := run_make_row' (P := Try.prog) 50 41 (.slice none 0 0) 24 Try.underlying50 Try.infoRowStr rfl .i64 .i64 8 (by omega) (by omega) w
  rw [show madeCells #[Value.slice none 0 0] 8 = rowV (fun _ => .slice none 0 0) from Array.toList_inj.1 (by rw [toList_madeCells_one]; rfl)] at h
  exact h
theorem drop_last {l : List Value} {x : Value} (h : l.getLast? = some x) : l.drop (l.length - 1) = [x] := by
  obtain ⟨ys, rfl⟩ := List.getLast?_eq_some_iff.1 h
  rw [List.length_append, List.length_singleton, Nat.add_sub_cancel, List.drop_left]
section
variable {w : World} {Rep : World → Nat → (Nat → Prop) → Dk → Prop}
/-- Between two rounds. -/
def KeepR (Rep : World → Nat → (Nat → Prop) → Dk → Prop) (w : World) (p gm j : Nat) (W : World) : Prop := ∃ s V L, FreeD 8 j s ∧ MayR Rep w p s gm 8 V L W ∧ ∀ m, m < 8 → L m = mayV s m
theorem mayV_write {i : Nat} {s : Dk} (h : FreeD 8 i s) {k : Nat} (hk : k < 8) {t : List Nat} (ht : Sec t) (m : Nat) : mayV (writeS s (k : Int) t) m = if k = m then mayV s m ++ [txtV t] else mayV s m := by
  unfold mayV
  rw [may_write h hk ht]
  split
  · rw [List.map_append]; rfl
  · rfl
theorem mayV_last (s : Dk) (n : Nat) : (mayV s n).getLast? = some (txtV (nowD s n)) := by
  unfold mayV
  rw [List.getLast?_map, may_last]; rfl
theorem keep_start (HS : DiskSpec w Rep) {p : Nat} {W : World} (h : OwnD Rep w W p (newD 8)) : MayR Rep w p (newD 8) W.heap.size 0 (fun _ => .slice none 0 0) (fun _ => []) (W.alloc (.cells (rowV fun _ => .slice none 0 0) 41)) := by
  obtain ⟨F, h1, h2, h3⟩ := h
  have hb : Below W.heap.size W (W.alloc (.cells (rowV fun _ => .slice none 0 0) 41)) := (Below.refl _ _).alloc (Nat.le_refl _) _
  exact ⟨chain h3 hb, heap_alloc_new W _, fun _ _ => rfl, fun j hj => absurd hj (Nat.not_lt_zero j), fun i j hi => absurd hi (Nat.not_lt_zero i), fun j hj => absurd hj (Nat.not_lt_zero j), h3.size, F, HS.later h1 hb, h2, fun hF => by have := HS.lt W p F _ h1 _ hF; omega, fun j hj => absurd hj (Nat.not_lt_zero j)⟩
/-- The first texts. -/
theorem keep_lit (HS : DiskSpec w Rep) {p gm k : Nat} {s : Dk} {V : Nat → Value} {L : Nat → List Value} {W : World} (o : Obj) (u : Value) (h : MayR Rep w p s gm k V L W) : MayR Rep w p s gm (k + 1) (updV V k (.slice (some ⟨W.heap.size + 1, 0, none⟩) 1 1)) (updV L k [u]) (((W.alloc o).alloc (.cells #[u] 9)).setCell ⟨gm, k, none⟩ (.slice (some ⟨W.heap.size + 1, 0, none⟩) 1 1)) := by
  have h1 := h.later HS (W' := W.alloc o) ((Below.refl _ _).alloc (Nat.le_refl _) _)
  have hs : (W.alloc o).heap.size = W.heap.size + 1 := by simp
  have h2 := Span.lit (base := w.heap.size) (W.alloc o) u 9 h1.below.size
  rw [hs] at h2
  exact h1.set HS (.inr ⟨rfl, rfl⟩) (Nat.lt_succ_self k) (World.grownBy_alloc (W.alloc o) _ none) (.inl rfl) h2 (.inr ⟨_, rfl, by rw [hs]; exact Nat.le_refl _⟩)
/-- A write. -/
theorem keep_write (HS : DiskSpec w Rep) {p gm j k g : Nat} {s : Dk} {V : Nat → Value} {L : Nat → List Value} {W W3 : World} {t : List Nat} (hf : FreeD 8 j s) (hj : j ≤ 1000) (hk : k < 8) (ht : Sec t) (h : MayR Rep w p s gm 8 V L W) (hb : Below W.heap.size W W3) (hgw : W.heap.size ≤ g) (hg : RwB g t W3) :
    Calls Try.prog 12 #[.pointer (some ⟨p, 0, none⟩), .int .i64 (k : Int), .slice (some ⟨g, 0, none⟩) 64 64] W3 fun e w' => e = .returned (.int .i64 0) ∧ MayR Rep w p (writeS s (k : Int) t) gm 8 V L w' ∧ RwB g t w' := by
  have hW3 := h.later HS hb
  obtain ⟨F, h1, h2, h3, h4⟩ := h.rep
  have hlt := HS.lt W p F _ h1
  have hnF : ¬ F g := fun hF => by have := hlt _ hF; omega
  have hpn := hf.pen
  have hc := HS.write (k : Int) (some ⟨g, 0, none⟩) 64 t p F s W3 hW3.below (by unfold I64c; omega) hg.ints ht.2 (Nat.le_of_eq ht.1) (by rw [ht.1]; decide) (fun _ b o e hF' => by
    injection e with e
    injection e with e1 _
    exact hnF (e1 ▸ hF')) (by omega) (HS.later h1 hb) h2
  rw [ht.1, (free_write hf hk ht).2.1] at hc
  exact hc.mono fun e w' ⟨F', r1, r2, r3, r4⟩ => ⟨r1, hW3.turn h2 h3 h4 r2 r3 r4, (r4.block _ hg.lt hnF).trans hg⟩

set_option maxHeartbeats 3200000 in
set_option maxRecDepth 20000 in
/-- DiskKeeps. -/
theorem diskKeeps_go (A1 A2 B : Option Addr) (c1 c2 c3 fl : Nat) (ps : List Part) (at' : List Nat) (l : List Bool) (w : World) (HS : DiskSpec w Rep) (hP : Parts w w.heap.size A1 ps) (hA : Ints w w.heap.size .u8 A2 (up at')) (ha : ∀ y ∈ at', y < 256) (hfl : fl < 256) (hB : Bools w w.heap.size B l) (hlc : l.length ≤ c3) (hl47 : l.length ≤ 140737488355328) :
    Calls Try.prog 4 #[.slice A1 ps.length c1, .slice A2 at'.length c2, .int .u8 (fl : Int), .slice B l.length c3] w fun e w' => e = .returned (.bool true) ∧ Below w.heap.size w w' := by
  have HA := Lib.hid (fun (W : World) (hb : Below w.heap.size w W) => diskAwake HS W hb)
  have H1 : Hid (Calls Try.prog 9 #[.int .i64 8] w fun e w' => ∃ p, e = .returned (.tuple #[.pointer (some ⟨p, 0, none⟩), .int .i64 0]) ∧ OwnD Rep w w' p (newD 8)) := own_newD (Rep := Rep) HS (W := w) (n := 8) (Below.refl _ _) (by decide) (by decide)
  have HOB : Hid (∀ W p s, OwnD Rep w W p s → Below w.heap.size w W) := fun W p s h => h.below
  have HLT : Hid (∀ W W' p s, OwnD Rep w W p s → Below W.heap.size W W' → OwnD Rep w W' p s) := fun W W' p s h hb => h.later HS hb
  have hmk := make64
  have hmk8 := make8
  obtain ⟨Z, hZ⟩ : ∃ Z, Z = CB zeroSec := ⟨_, rfl⟩
  obtain ⟨Y, hY⟩ : ∃ Y, Y = rowV fun _ => .slice none 0 0 := ⟨_, rfl⟩
  rw [← hZ] at hmk
  rw [← hY] at hmk8
  have HZ : Hid (∀ W : World, RwB W.heap.size zeroSec (W.alloc (.cells Z 5))) := fun W => by rw [hZ]; exact RwB.new W zeroSec
  have HY : Hid (∀ (W : World) (p : Nat), OwnD Rep w W p (newD 8) → MayR Rep w p (newD 8) W.heap.size 0 (fun _ => .slice none 0 0) (fun _ => []) (W.alloc (.cells Y 41))) := fun W p h => by rw [hY]; exact keep_start HS h
  obtain ⟨tz, htz⟩ : ∃ tz, tz = strOfNums (up zeroSec) := ⟨_, rfl⟩
  have HTZ : Hid (∀ W : World, (convert 30 9 (.slice (some ⟨W.heap.size, 0, none⟩) 64 64)).run Try.prog (W.alloc (.cells Z 5)) = .ok (.string tz) (W.alloc (.cells Z 5))) := fun W => by
    rw [htz]
    have := (HZ.out W).ints
    exact text_later this sec_zero.1 (Below.refl _ _)
  have HTM : Hid (∀ m, m < 8 → [Value.string tz] = mayV (newD 8) m) := fun m hm => by unfold mayV; rw [may_new hm, htz]; rfl
  have HSS := Lib.hid HS
  have HP := Lib.hid hP
  have HAT := Lib.hid hA
  have Ha := Lib.hid ha
  have HB := Lib.hid hB
  have HLC := Lib.hid hlc
  have HL7 := Lib.hid hl47
  obtain ⟨M, hM⟩ : ∃ M, M = ps.length := ⟨_, rfl⟩
  obtain ⟨L, hL⟩ : ∃ L, L = at'.length := ⟨_, rfl⟩
  obtain ⟨K, hK⟩ : ∃ K, K = l.length := ⟨_, rfl⟩
  have HM := Lib.hid hM
  have HL := Lib.hid hL
  have HK := Lib.hid hK
  rw [← hM, ← hL, ← hK]
  have hfl6 : (fl : Int).tmod 60 = ((fl % 60 : Nat) : Int) := by rw [Int.tmod_eq_emod_of_nonneg (by omega)]; omega
  obtain ⟨fr, hfr⟩ : ∃ fr, fr = fl % 60 := ⟨_, rfl⟩
  rw [← hfr] at hfl6
  have hfr6 : fr < 60 := by omega
  clear HS hP hA ha hB hlc hl47 hZ hM hL hK hY htz hfr
  go_enter Try.func4, Try.ntmps4
  go_wp2_with (first
    | (go_at_call 9; with_reducible (refine Calls.mono H1.out ?_); rintro e w1 ⟨p, rfl, ho1⟩)
    | (go_at_call 10; with_reducible (refine Calls.mono (HA.out _ (HOB.out _ _ _ ho1)) ?_); rintro e w2 ⟨rfl, hb2⟩; have ho2 := Lib.hid (HY.out _ _ (HLT.out _ _ _ _ ho1 hb2))))
  clear ho1 hb2 H1 HA HY hmk8
  obtain ⟨gm, hgm⟩ : ∃ gm, gm = w2.heap.size := ⟨_, rfl⟩
  rw [← hgm] at ho2 ⊢
  clear hgm
  go_loopw [12] (fun i wx => ∃ k : Nat, k ≤ 8 ∧ i = .int .i64 k ∧ Hid (∃ V T, MayR Rep w p (newD 8) gm k V T wx ∧ ∀ m, m < k → T m = mayV (newD 8) m)) (fun i _ => 8 - (intOf i).toNat)
  case atStart => exact ⟨0, Nat.zero_le _, rfl, _, _, ho2.out, fun m hm => absurd hm (Nat.not_lt_zero m)⟩
  case round =>
    clear ho2
    obtain ⟨k, hk8, rfl, hR⟩ := hrel
    have k0 : (0 : Int) ≤ (k : Int) := by omega
    by_cases hk : k < 8
    · have k1 : (k : Int) < 8 := by omega
      obtain ⟨V, T, hV, hT⟩ := hR.out
      have htz := HTZ.out wr
      have hl := keep_lit HSS.out (.cells Z 5) (.string tz) hV
      have hb1 : Below wr.heap.size wr ((wr.alloc (.cells Z 5)).alloc (.cells #[.string tz] 9)) := ((Below.refl _ _).alloc (Nat.le_refl _) _).alloc (by simp) _
      have hx := (hb1.cell (p := ⟨gm, k, none⟩) hV.lt).trans (hV.cell hk)
      have hy := (frozen_of_block (hb1.block gm hV.lt) k).trans (hV.thaw k)
      have R : Hid (∃ V T, MayR Rep w p (newD 8) gm (k + 1) V T (((wr.alloc (.cells Z 5)).alloc (.cells #[.string tz] 9)).setCell ⟨gm, k, none⟩ (.slice (some ⟨wr.heap.size + 1, 0, none⟩) 1 1)) ∧ ∀ m, m < k + 1 → T m = mayV (newD 8) m) :=
        ⟨_, _, hl, fun m hm => by
          by_cases e : m = k
          · subst e; rw [updV_same]; exact HTM.out m hk
          · rw [updV_other _ _ e]; exact hT m (by omega)⟩
      obtain ⟨vk, hvk⟩ : ∃ vk, vk = V k := ⟨_, rfl⟩
      rw [← hvk] at hx
      clear hR hV hT hl hb1 hvk
      go_wp2
      go_roundw
      case rel => exact ⟨k + 1, by omega, by go_num, R.out⟩
      case measure => simp [intOf]; omega
    · have k1 : ¬ (k : Int) < 8 := by omega
      have hk9 : k = 8 := by omega
      subst hk9
      have ho3 : Hid (KeepR Rep w p gm 0 wr) := by
        obtain ⟨V, T, hV, hT⟩ := hR.out
        exact ⟨_, V, T, free_new (by decide) (by decide), hV, hT⟩
      obtain ⟨wo, hwo⟩ : ∃ x, x = wr := ⟨_, rfl⟩
      subst hwo
      clear hR HTZ HTM
      go_wp2_with fail
      go_loopw [13] (fun i wx => ∃ j : Nat, j ≤ 60 ∧ i = .int .i64 j ∧ Hid (KeepR Rep w p gm j wx)) (fun i _ => 60 - (intOf i).toNat)
      case atStart => exact ⟨0, Nat.zero_le _, rfl, ho3.out⟩
      case round =>
        clear ho3
        obtain ⟨j, hj6, rfl, hR⟩ := hrel
        obtain ⟨wo, hwo⟩ : ∃ x, x = wr := ⟨_, rfl⟩
        subst hwo
        have j0 : (0 : Int) ≤ (j : Int) := by omega
        obtain ⟨T0, hT0⟩ : ∃ T0, T0 = decide (j < M ∧ j < L ∧ j < 60) := ⟨_, rfl⟩
        have HT0 := Lib.hid hT0
        clear hT0
        go_upto_region 10 with fail
        go_cut [61] from 48 to 61 (fun v wx => v = .bool T0 ∧ Hid (KeepR Rep w p gm j wx))
        case first =>
          have HT1 := HT0.out
          by_cases hj1 : j < M
          · have k1 : (j : Int) < (M : Int) := by omega
            by_cases hj2 : j < L
            · have k2 : (j : Int) < (L : Int) := by omega
              by_cases hj3 : j < 60
              · have k3 : (j : Int) < 60 := by omega
                rw [decide_eq_true (And.intro hj1 (And.intro hj2 hj3))] at HT1
                subst HT1
                clear hj1 hj2 hj3
                go_wp2
                go_meet
                exact ⟨rfl, hR⟩
              · have k3 : ¬ (j : Int) < 60 := by omega
                rw [decide_eq_false (fun h => hj3 h.2.2)] at HT1
                subst HT1
                clear hj1 hj2 hj3
                go_wp2
                go_meet
                exact ⟨rfl, hR⟩
            · have k2 : ¬ (j : Int) < (L : Int) := by omega
              rw [decide_eq_false (fun h => hj2 h.2.1)] at HT1
              subst HT1
              clear hj1 hj2
              go_wp2
              go_meet
              exact ⟨rfl, hR⟩
          · have k1 : ¬ (j : Int) < (M : Int) := by omega
            rw [decide_eq_false (fun h => hj1 h.1)] at HT1
            subst HT1
            clear hj1
            go_wp2
            go_meet
            exact ⟨rfl, hR⟩
        clear hR
        obtain ⟨rfl, hR⟩ := hcut
        by_cases hin : j < M ∧ j < L ∧ j < 60
        · have HT1 := HT0.out
          rw [decide_eq_true hin] at HT1
          subst HT1
          clear HT0
          obtain ⟨hj1, hj2, hj3⟩ := hin
          have k1 : (j : Int) < (M : Int) := by omega
          have k2 : (j : Int) < (L : Int) := by omega
          have k3 : (j : Int) < 60 := by omega
          obtain ⟨s, V, T, hf, hV, hT⟩ := hR.out
          have hbw := hV.below
          obtain ⟨b1, o1, rfl, hlt1, hc1, hok⟩ := HP.out j (by have := HM.out; omega)
          obtain ⟨b2, o2, rfl, hlt2, hc2⟩ := HAT.out j (by rw [up_len]; have := HL.out; omega)
          have ha := Ha.out (at'.getD j 0) (by rw [List.getD_eq_getElem?_getD, List.getElem?_eq_getElem (by have := HL.out; omega)]; exact List.getElem_mem _)
          rw [up_getD] at hc2
          obtain ⟨pt, hpt⟩ : ∃ pt, pt = ps[j]'(by have := HM.out; omega) := ⟨_, rfl⟩
          rw [← hpt] at hc1 hok
          obtain ⟨x, hx⟩ : ∃ x, x = at'.getD j 0 := ⟨_, rfl⟩
          rw [← hx] at hc2 ha
          have hsec := fitB_sec hok.byte
          have hz := HZ.out wc
          have hbz : Below wc.heap.size wc (wc.alloc (.cells Z 5)) := (Below.refl _ _).alloc (Nat.le_refl _) _
          have hw2 := chain hbw hbz
          have hI := (hok.ints.below hw2).more hw2.size
          have hcz1 := (hw2.cell (p := ⟨b1, o1 + j, none⟩) hlt1).trans hc1
          have HC2 : Hid (∀ W, Below wc.heap.size wc W → W.cell? ⟨b2, o2 + j, none⟩ = some (.int .u8 (x : Int))) := fun W hb => ((chain hbw hb).cell (p := ⟨b2, o2 + j, none⟩) hlt2).trans hc2
          have hx8 : (x : Int).tmod 8 = ((x % 8 : Nat) : Int) := by rw [Int.tmod_eq_emod_of_nonneg (by omega)]; omega
          have HW : Hid (∀ W, Below wc.heap.size wc W → RwB wc.heap.size (fitB pt.b) W → Calls Try.prog 12 #[.pointer (some ⟨p, 0, none⟩), .int .i64 ((x % 8 : Nat) : Int), .slice (some ⟨wc.heap.size, 0, none⟩) 64 64] W fun e w' => e = .returned (.int .i64 0) ∧ MayR Rep w p (writeS s ((x % 8 : Nat) : Int) (fitB pt.b)) gm 8 V T w' ∧ RwB wc.heap.size (fitB pt.b) w') := fun W hb hg =>
            keep_write HSS.out hf (by omega) (Nat.mod_lt _ (by decide)) hsec hV hb (Nat.le_refl _) hg
          have HFW : Hid (FreeD 8 (j + 1) (writeS s ((x % 8 : Nat) : Int) (fitB pt.b))) := (free_write hf (Nat.mod_lt _ (by decide)) hsec).1
          have HLW : Hid (∀ m, m < 8 → mayV (writeS s ((x % 8 : Nat) : Int) (fitB pt.b)) m = if x % 8 = m then T m ++ [txtV (fitB pt.b)] else T m) := fun m hm => by rw [mayV_write hf (Nat.mod_lt _ (by decide)) hsec m, hT m hm]
          have HSE : Hid (Sec (fitB pt.b)) := hsec
          have HQ : Hid (∀ m, m < 8 → ∀ q, (V m).ownBlock = some q → q < wc.heap.size) := fun m hm q hq => by
            obtain ⟨g2, e2, _, hl⟩ := (hV.span m hm).lt
            rw [e2] at hq
            injection hq with hq
            omega
          have HTL : Hid (∀ m, m < 8 → (T m).length ≤ 1000) := fun m hm => by
            rw [hT m hm]
            have h1 := may_len (s := s) m
            have h2 := hf.pen
            unfold mayV
            rw [List.length_map]; omega
          obtain ⟨Tx, hTx⟩ : ∃ Tx, Tx = fitB pt.b := ⟨_, rfl⟩
          rw [← hTx] at HW HFW HLW HSE
          have HTx := Lib.hid hTx
          obtain ⟨r, hr⟩ : ∃ r, r = x % 8 := ⟨_, rfl⟩
          rw [← hr] at HW hx8 HFW HLW
          have hr8 : r < 8 := by omega
          have hr8i : (r : Int) < 8 := by omega
          have hr0 : (0 : Int) ≤ (r : Int) := by omega
          obtain ⟨sw, hsw⟩ : ∃ sw, sw = writeS s (r : Int) Tx := ⟨_, rfl⟩
          rw [← hsw] at HW HFW HLW
          obtain ⟨pA, hpA⟩ : ∃ x, x = pt.A := ⟨_, rfl⟩
          obtain ⟨pN, hpN⟩ : ∃ x, x = pt.b.length := ⟨_, rfl⟩
          obtain ⟨pC, hpC⟩ : ∃ x, x = pt.c := ⟨_, rfl⟩
          have hI2 : Ints (wc.alloc (.cells Z 5)) (wc.alloc (.cells Z 5)).heap.size .u8 pA (up pt.b) := by rw [hpA]; exact hI
          rw [← hpA, ← hpN, ← hpC] at hcz1
          have HPN : Hid (pt.b.length = pN) := hpN.symm
          clear hR hf hV hT hc1 hok hpt hx hsec hI hTx hr hpA hpN hpC ha hc2 HZ HP HAT HB hsw
          go_wp2_with (first
            | (with_reducible (refine wpList_copyB rfl _ _ rfl wc.heap.size pC pA pN 64 rfl rfl pt.b HPN.out hz hI2 wc.heap.size wc hbz (Nat.le_refl _) ?_); intro w3 m3 hg3 hb3; rw [← HTx.out] at hg3; have hc3 := HC2.out _ hb3; clear hz hI2 hcz1)
            | (go_at_call 12; with_reducible (refine Calls.mono (HW.out _ hb3 hg3) ?_); rintro e w4 ⟨rfl, hm4, hg4⟩; have HM4 := Lib.hid hm4; have HG4 := Lib.hid hg4; clear hm4 hg4 hc3))
          obtain ⟨g5, o5, c5, hV5, _⟩ := (HM4.out.span r hr8).form
          obtain ⟨n5, hn5⟩ : ∃ n5, n5 = (T r).length := ⟨_, rfl⟩
          rw [← hn5] at hV5
          have hn5l : n5 ≤ 1000 := by rw [hn5]; exact HTL.out r hr8
          have hTr : (T r).length ≤ 1000 := HTL.out r hr8
          have hg5 : g5 < wc.heap.size := HQ.out r hr8 g5 (by rw [hV5]; rfl)
          have hg5m : g5 ≠ gm := fun e => HM4.out.ne r hr8 (by rw [hV5, e]; rfl)
          obtain ⟨tx, htx⟩ : ∃ tx, tx = strOfNums (up Tx) := ⟨_, rfl⟩
          obtain ⟨W0, hW0⟩ : ∃ W0, W0 = (w4.alloc (.cells #[.string tx] 9)).drew := ⟨_, rfl⟩
          have hb0 : Below w4.heap.size w4 W0 := by rw [hW0]; exact ((Below.refl w4.heap.size w4).alloc (Nat.le_refl _) _).drew
          have HM0 := Lib.hid (HM4.out.later HSS.out hb0)
          have HG0 : Hid (RwB wc.heap.size Tx W0) := HG4.out.below hb0 HG4.out.lt
          have HSA : Hid (∀ W, MayR Rep w p sw gm 8 V T W → RwB wc.heap.size Tx W → W.cell? ⟨gm, r, none⟩ = some (.slice (some ⟨g5, o5, none⟩) n5 c5) ∧ (convert 30 9 (.slice (some ⟨wc.heap.size, 0, none⟩) 64 64)).run Try.prog W = .ok (.string tx) W) := fun W h1 h2 =>
            ⟨by rw [h1.cell hr8, hV5], by rw [htx]; exact text_later h2.ints HSE.out.1 (Below.refl _ _)⟩
          have HSB : Hid (∀ W, W0.grownBy W (some g5) → W.cell? ⟨gm, r, none⟩ = some (.slice (some ⟨g5, o5, none⟩) n5 c5) ∧ (convert 30 9 (.slice (some ⟨wc.heap.size, 0, none⟩) 64 64)).run Try.prog W = .ok (.string tx) W) := fun W hg => by
            have h2 : RwB wc.heap.size Tx W := (hg.block _ HG0.out.lt (fun e => by injection e with e; omega)).trans HG0.out
            refine ⟨?_, by rw [htx]; exact text_later h2.ints HSE.out.1 (Below.refl _ _)⟩
            rw [World.cell?_of_block (hg.block gm HM0.out.lt (fun e => hg5m (by injection e with e; exact e.symm))), HM0.out.cell hr8, hV5]
          have hsp0 := HM0.out.span r hr8
          rw [hV5] at hsp0
          have HSP := Lib.hid hsp0
          have hsz0 := HM0.out.below.size
          have hbd : Below w4.heap.size w4 w4.drew := (Below.refl _ _).drew
          have HMD := Lib.hid (HM4.out.later HSS.out hbd)
          have HGD : Hid (RwB wc.heap.size Tx w4.drew) := HG4.out.below hbd HG4.out.lt
          obtain ⟨i0, hi, hz0, hz1, hz2⟩ := info_parts Try.infoStr
          have hu0 : W0.cell? ⟨w4.heap.size, 0, none⟩ = some (.string tx) := by rw [hW0]; exact (Span.lit (base := 0) w4 (.string tx) 9 (Nat.zero_le _)).cell (j := 0) rfl
          have HFZ : Hid (∀ W, W0.grownBy W (some g5) → W.frozen? ⟨gm, r, none⟩ = false) := fun W hg => by
            rw [frozen_of_block (hg.block gm HM0.out.lt (fun e => hg5m (by injection e with e; exact e.symm)))]; exact HM0.out.thaw r
          have HEND : Hid (∀ v' W1, Span W1 w.heap.size v' (T r ++ [.string tx]) → W0.grownBy W1 (some g5) → (v'.ownBlock = some g5 ∨ ∃ q, v'.ownBlock = some q ∧ W0.heap.size ≤ q) → KeepR Rep w p gm (j + 1) (W1.setCell ⟨gm, r, none⟩ v')) := fun v' W1 h1 h2 h3 => by
            have hob : (V r).ownBlock = some g5 := by rw [hV5]; rfl
            refine ⟨sw, _, _, HFW.out, HM0.out.set HSS.out (.inl rfl) hr8 h2 (.inr ⟨hr8, hob.symm⟩) h1 (h3.imp (fun e => ⟨hr8, e.trans hob.symm⟩) id), fun m hm => ?_⟩
            rw [HLW.out m hm]
            by_cases e : m = r
            · subst e; rw [updV_same, if_pos rfl]; rw [htx]; rfl
            · rw [updV_other _ _ e, if_neg (fun q => e q.symm)]
          rw [hW0] at hsz0 hu0
          simp only [hW0] at HSB HSP HFZ HEND HM0 HG0
          clear hb0 hsp0 HM4 HG4 HW hb3 hg3 HQ HTL HFW HLW hV5 hn5 htx hW0 HSE hbw hw2 hbd
          have hx0 : w4.cell? ⟨gm, r, none⟩ = some (.slice (some ⟨g5, o5, none⟩) n5 c5) := (HSA.out _ HMD.out HGD.out).1
          have hx1 := (HSA.out _ HMD.out HGD.out).2
          have hx2 : (w4.alloc (.cells #[.string tx] 9)).cell? ⟨gm, r, none⟩ = some (.slice (some ⟨g5, o5, none⟩) n5 c5) := (HSA.out _ HM0.out HG0.out).1
          have hx3 := (HSA.out _ HM0.out HG0.out).2
          clear HSA HMD HGD HM0 HG0
          go_cut [] from 82 to 92 (fun wx => Hid (KeepR Rep w p gm (j + 1) wx))
          case first =>
            go_region_law (first
              | (refine step_append_span _ (by rfl) _ _ 41 (by rfl) w.heap.size 9 i0 (.string ⟨#[]⟩) 16 Try.underlying41 hi hz0 hz1 hz2 rfl (.slice (some ⟨g5, o5, none⟩) n5 c5) (T r) (.string tx) 1 ⟨w4.heap.size, 0, none⟩ rfl rfl HSP.out hu0 rfl (by unfold maxLen; omega) (by omega) hsz0 ?_; intro v7 w7 hs7 hg7 hl7; have y1 := (HSB.out _ hg7).1; have y2 := HFZ.out _ hg7; obtain ⟨g7, o7, c7, rfl, _⟩ := hs7.form; rw [List.length_append, List.length_singleton] at hs7 hl7))
            all_goals
              have R := Lib.hid (HEND.out _ _ hs7 hg7 hl7)
              clear hs7 hg7 hl7 y1 y2
              go_wp2
              go_meet
              exact R
          have HK8 := hcut
          clear hcut HSB HSP HFZ HEND hx0 hx1 hx2 hx3 hu0 hsz0 hz0 hz1 hz2 hi hmk
          by_cases hjf : j = fr
          · have d1 : ((j : Int) == (fr : Int)) = true := by rw [hjf]; exact beq_self_eq_true _
            have HFL : Hid (Calls Try.prog 16 #[.pointer (some ⟨p, 0, none⟩)] wc fun e w' => e = .returned (.int .i64 0) ∧ ∃ s V L, FreeD 8 (j + 1) s ∧ MayR Rep w p (flushS s) gm 8 V L w' ∧ ∀ m, m < 8 → L m = mayV s m) := by
              obtain ⟨s, V, L, hf, hV, hT⟩ := HK8.out
              obtain ⟨F, h1, h2, h3, h4⟩ := hV.rep
              exact (HSS.out.flush p F s wc hV.below h1 h2).mono fun e w' ⟨F', r1, r2, r3, r4⟩ => ⟨by rw [r1, (free_flush hf).2.1], s, V, L, hf, hV.turn h2 h3 h4 r2 r3 r4, hT⟩
            clear hjf HK8
            go_wp2_with (go_at_call 16; with_reducible (refine Calls.mono HFL.out ?_); rintro e w8 ⟨rfl, hm8⟩; have HM8 := Lib.hid hm8; clear hm8)
            obtain ⟨s, V0, L0, hf, hV0, hL0⟩ := HM8.out
            have HF := Lib.hid hf
            obtain ⟨sf, hsf⟩ : ∃ sf, sf = flushS s := ⟨_, rfl⟩
            have HMF : Hid (∀ m, m < 8 → mayV sf m = [txtV (nowD s m)]) := fun m hm => by rw [hsf]; unfold mayV; rw [may_flush hf hm]; rfl
            have HFF : Hid (FreeD 8 0 sf) := by rw [hsf]; exact (free_flush hf).1
            rw [← hsf] at hV0
            have HV0 : Hid (∃ V L, MayR Rep w p sf gm 8 V L w8 ∧ ∀ q, q < 8 → L q = if q < 0 then mayV sf q else mayV s q) := ⟨V0, L0, hV0, fun q hq => by rw [if_neg (Nat.not_lt_zero q)]; exact hL0 q hq⟩
            clear HFL HM8 hf hV0 hL0 hsf
            go_loopw [16] (fun i wx => ∃ m : Nat, m ≤ 8 ∧ i = .int .i64 m ∧ Hid (∃ V L, MayR Rep w p sf gm 8 V L wx ∧ ∀ q, q < 8 → L q = if q < m then mayV sf q else mayV s q)) (fun i _ => 8 - (intOf i).toNat)
            case atStart => exact ⟨0, Nat.zero_le _, rfl, HV0.out⟩
            case round =>
              clear HV0
              obtain ⟨m, hm8, rfl, hR⟩ := hrel
              obtain ⟨wp, hwp⟩ : ∃ x, x = wr := ⟨_, rfl⟩
              subst hwp
              have m0 : (0 : Int) ≤ (m : Int) := by omega
              by_cases hm : m < 8
              · have m1 : (m : Int) < 8 := by omega
                obtain ⟨V, T, hV, hT⟩ := hR.out
                have hTm := hT m hm
                rw [if_neg (Nat.lt_irrefl m)] at hTm
                have hlast := mayV_last s m
                rw [← hTm] at hlast
                obtain ⟨g5, o5, c5, hV5, hle5⟩ := (hV.span m hm).form
                have hpos : 0 < (T m).length := by
                  rcases Nat.eq_zero_or_pos (T m).length with e | e
                  · rw [List.eq_nil_of_length_eq_zero e] at hlast; cases hlast
                  · exact e
                have hlen : (T m).length ≤ 1000 := by
                  rw [hTm]; have h1 := may_len (s := s) m; have h2 := HF.out.pen; unfold mayV; rw [List.length_map]; omega
                have hx0 := hV.cell hm
                have hx1 := hV.thaw m
                have hsp := hV.span m hm
                rw [hV5] at hx0 hsp
                have hcut := hsp.cut (k := (T m).length - 1) (by omega)
                rw [drop_last hlast] at hcut
                obtain ⟨n5, hn5⟩ : ∃ n5, n5 = (T m).length := ⟨_, rfl⟩
                rw [← hn5] at hx0 hcut hpos hlen hle5
                obtain ⟨n4, hn4⟩ : ∃ n4, n4 = n5 - 1 := ⟨_, rfl⟩
                rw [← hn4] at hcut
                have w1 : wrap64 ((n5 : Int) - 1) = (n4 : Int) := by unfold wrap64; omega
                have w2 : (n5 : Int) - 1 = (n4 : Int) := by omega
                have w3 : (n4 : Int) ≤ (n5 : Int) := by omega
                have w4 : (0 : Int) ≤ (n4 : Int) := by omega
                have w5 : ¬ c5 = n4 := by omega
                have hVd := hV.later HSS.out (W' := wp.drew) (Below.refl _ _).drew
                have R : Hid (∃ V L, MayR Rep w p sf gm 8 V L (wp.drew.setCell ⟨gm, m, none⟩ (.slice (some ⟨g5, o5 + n4, none⟩) (n5 - n4) (c5 - n4))) ∧ ∀ q, q < 8 → L q = if q < m + 1 then mayV sf q else mayV s q) :=
                  ⟨_, _, hVd.set HSS.out (.inl rfl) hm (row := none) ⟨rfl, rfl, rfl, Nat.le_refl _, fun _ _ _ => rfl⟩ (.inl rfl) hcut (.inl ⟨hm, by rw [hV5]; rfl⟩), fun q hq => by
                    by_cases e : q = m
                    · subst e; rw [updV_same, if_pos (Nat.lt_succ_self q), HMF.out q hq]
                    · rw [updV_other _ _ e, hT q hq]
                      by_cases e2 : q < m
                      · rw [if_pos e2, if_pos (by omega)]
                      · rw [if_neg e2, if_neg (by omega)]⟩
                clear hR hV hT hTm hlast hV5 hsp hcut hn5 hn4 hVd
                go_wp2_with fail
                go_region
                go_wp2
                go_roundw
                case rel => first | exact ⟨m + 1, by omega, by go_num, R.out⟩ | ((repeat apply Exists.intro); exact ⟨⟨m + 1, by omega, by go_num, R.out⟩, rfl⟩)
                case measure => simp [intOf]; omega
              · have m1 : ¬ (m : Int) < 8 := by omega
                have hm9 : m = 8 := by omega
                subst hm9
                have HK9 : Hid (KeepR Rep w p gm (j + 1) wp) := by
                  obtain ⟨V, T, hV, hT⟩ := hR.out
                  exact ⟨sf, V, T, ⟨HFF.out.ok, HFF.out.len, Nat.le_trans HFF.out.pen (Nat.zero_le _), HFF.out.lim, HFF.out.on⟩, hV, fun q hq => by rw [hT q hq, if_pos hq]⟩
                clear hR HMF HFF HF
                go_wp2
                go_roundw
                case rel => first | exact ⟨j + 1, by omega, by go_num, HK9.out⟩ | ((repeat apply Exists.intro); exact ⟨⟨j + 1, by omega, by go_num, HK9.out⟩, rfl⟩)
                case measure => simp [intOf]; omega
          · have d1 : ((j : Int) == (fr : Int)) = false := beq_eq_false_iff_ne.2 (by omega)
            clear hjf
            go_wp2
            go_roundw
            case rel => first | exact ⟨j + 1, by omega, by go_num, HK8.out⟩ | ((repeat apply Exists.intro); exact ⟨⟨j + 1, by omega, by go_num, HK8.out⟩, rfl⟩)
            case measure => simp [intOf]; omega
        · have HT1 := HT0.out
          rw [decide_eq_false hin] at HT1
          subst HT1
          clear HT0 hin HZ hmk HP HAT Ha
          obtain ⟨s, V, T, hf, hV, hT⟩ := hR.out
          obtain ⟨sc, hsc⟩ : ∃ sc, sc = crashS s l := ⟨_, rfl⟩
          have HFC : Hid (FreeD 8 0 sc) := by rw [hsc]; exact free_crash hf.ok hf.len l
          have HMC : Hid (∀ m : Nat, m < 8 → ∃ q, q < (T m).length ∧ (T m)[q]? = some (txtV (nowD sc m)) ∧ Sec (nowD sc m)) := fun m hm => by
            have h1 := may_crash (s := s) l (k := m) (by rw [hf.len]; exact hm)
            rw [← hsc] at h1
            have h2 : txtV (nowD sc m) ∈ T m := by rw [hT m hm]; exact List.mem_map_of_mem h1
            obtain ⟨q, hq, e⟩ := List.getElem_of_mem h2
            exact ⟨q, hq, by rw [List.getElem?_eq_getElem hq, e], seenP_sec HFC.out.ok (by rw [HFC.out.len]; exact hm)⟩
          have HTX : Hid (∀ m q, m < 8 → q < (T m).length → ∃ t : ByteArray, (T m)[q]? = some (.string t)) := fun m q hm hq => by
            rw [hT m hm] at hq ⊢
            unfold mayV at hq ⊢
            rw [List.length_map] at hq
            rw [List.getElem?_map, List.getElem?_eq_getElem hq]
            exact ⟨_, rfl⟩
          have HTL : Hid (∀ m, m < 8 → (T m).length ≤ 1000) := fun m hm => by
            rw [hT m hm]; have h1 := may_len (s := s) m; have h2 := hf.pen; unfold mayV; rw [List.length_map]; omega
          have HCR : Hid (Calls Try.prog 19 #[.pointer (some ⟨p, 0, none⟩), .slice B K c3] wc fun e w' => e = .returned (.tuple #[]) ∧ MayR Rep w p sc gm 8 V T w') := by
            obtain ⟨F, h1, h2, h3, h4⟩ := hV.rep
            have h5 := HSS.out.crash B c3 l p F s wc hV.below ((HB.out.below hV.below).more hV.below.size) HLC.out HL7.out (off_of HB.out h2) h1 h2
            rw [← HK.out, ← hsc] at h5
            exact h5.mono fun e w' ⟨F', r1, r2, r3, r4⟩ => ⟨r1, hV.turn h2 h3 h4 r2 r3 r4⟩
          clear hR hf hV hT hsc HB HLC HL7
          go_wp2_with (go_at_call 19; with_reducible (refine Calls.mono HCR.out ?_); rintro e w8 ⟨rfl, hm8⟩; have HM8 := Lib.hid hm8; clear hm8)
          clear HCR
          go_loopw [17] (fun i wx => ∃ m : Nat, m ≤ 8 ∧ i = .int .i64 m ∧ Hid (MayR Rep w p sc gm 8 V T wx)) (fun i _ => 8 - (intOf i).toNat)
          case atStart => exact ⟨0, Nat.zero_le _, rfl, HM8.out⟩
          case round =>
            clear HM8
            obtain ⟨m, hm8, rfl, hR⟩ := hrel
            obtain ⟨wp, hwp⟩ : ∃ x, x = wr := ⟨_, rfl⟩
            subst hwp
            have m0 : (0 : Int) ≤ (m : Int) := by omega
            by_cases hm : m < 8
            · have m1 : (m : Int) < 8 := by omega
              obtain ⟨qx, hqx, hqt, hsec⟩ := HMC.out m hm
              have HRD : Hid (Calls Try.prog 14 #[.pointer (some ⟨p, 0, none⟩), .int .i64 (m : Int)] wp fun e w' => ∃ A c, e = .returned (.tuple #[.slice A 64 c, .int .i64 0]) ∧ Ints w' w'.heap.size .u8 A (up (nowD sc m)) ∧ MayR Rep w p sc gm 8 V T w') := by
                obtain ⟨F, h1, h2, h3, h4⟩ := hR.out.rep
                exact (HSS.out.read m p F sc wp hR.out.below h1 h2 (free_read HFC.out hm).1).mono fun e w' ⟨A, c, r1, _, r3, r4⟩ => ⟨A, c, r1, r3.ints, hR.out.later HSS.out r4⟩
              obtain ⟨D, hD⟩ : ∃ D, D = nowD sc m := ⟨_, rfl⟩
              rw [← hD] at HRD hqt hsec
              obtain ⟨tb, htb⟩ : ∃ tb, tb = strOfNums (up D) := ⟨_, rfl⟩
              have hqt2 : (T m)[qx]? = some (.string tb) := by rw [htb]; exact hqt
              have HQT := Lib.hid hqt2
              have HTB : Hid (∀ W A c, Ints W W.heap.size .u8 A (up D) → (convert 30 9 (.slice A 64 c)).run Try.prog W = .ok (.string tb) W) := fun W A c hI => by rw [htb]; exact text_later hI hsec.1 (Below.refl _ _)
              have HTXm := Lib.hid (fun q hq => HTX.out m q hm hq)
              have hTl := HTL.out m hm
              have HSPm : Hid (∀ W, MayR Rep w p sc gm 8 V T W → ∃ g o c, W.cell? ⟨gm, m, none⟩ = some (.slice (some ⟨g, o, none⟩) (T m).length c) ∧ V m = .slice (some ⟨g, o, none⟩) (T m).length c) := fun W h => by
                obtain ⟨g, o, c, e, _⟩ := (h.span m hm).form
                exact ⟨g, o, c, by rw [h.cell hm, e], e⟩
              have HCEm : Hid (∀ W g o c q t, MayR Rep w p sc gm 8 V T W → V m = .slice (some ⟨g, o, none⟩) (T m).length c → (T m)[q]? = some (.string t) → W.cell? ⟨g, o + q, none⟩ = some (.string t)) := fun W g o c q t h e hq => by
                have := h.span m hm
                rw [e] at this
                exact this.cell hq
              obtain ⟨N, hN⟩ : ∃ N, N = (T m).length := ⟨_, rfl⟩
              rw [← hN] at HSPm HCEm hTl HTXm hqx
              have HML : Hid (∀ W n, MayR Rep w p sc gm 8 V T W → MayR Rep w p sc gm 8 V T (W.drewN n)) := fun W n h => h.later HSS.out (below_drawn W n)
              clear hR hD htb hqt hqt2 hsec hN
              go_wp2_with (go_at_call 14; with_reducible (refine Calls.mono HRD.out ?_); rintro e w9 ⟨A9, c9, rfl, hi9, hm9⟩; have HI9 := Lib.hid hi9; have HM9 := Lib.hid hm9; clear hi9 hm9)
              clear HRD
              go_loopw [21, 22] (fun fb i wx => ∃ (q : Nat) (b : Bool), q ≤ N ∧ fb = .bool b ∧ i = .int .i64 q ∧ Hid ((qx < q → b = true) ∧ MayR Rep w p sc gm 8 V T wx ∧ Ints wx wx.heap.size .u8 A9 (up D))) (fun _ i _ => N - (intOf i).toNat)
              case atStart => exact ⟨0, false, Nat.zero_le _, rfl, rfl, fun h => absurd h (Nat.not_lt_zero _), HM9.out, HI9.out⟩
              case round =>
                clear HM9 HI9
                obtain ⟨q, b, hqN, rfl, rfl, hR⟩ := hrel
                obtain ⟨wq, hwq⟩ : ∃ x, x = wr := ⟨_, rfl⟩
                subst hwq
                have q0 : (0 : Int) ≤ (q : Int) := by omega
                obtain ⟨g5, o5, c5, hx0, hVm⟩ := HSPm.out wq hR.out.2.1
                by_cases hq : q < N
                · have q1 : (q : Int) < (N : Int) := by omega
                  obtain ⟨tq, htq⟩ := HTXm.out q hq
                  have hx1 : ∀ n, (wq.drewN n).cell? ⟨g5, o5 + q, none⟩ = some (.string tq) := fun n => HCEm.out wq g5 o5 c5 q tq hR.out.2.1 hVm htq
                  have hx2 : ∀ n, (convert 30 9 (.slice A9 64 c9)).run Try.prog (wq.drewN n) = .ok (.string tb) (wq.drewN n) := fun n => HTB.out _ A9 c9 hR.out.2.2
                  have hx3 : ∀ n, (wq.drewN n).cell? ⟨gm, m, none⟩ = some (.slice (some ⟨g5, o5, none⟩) N c5) := fun n => hx0
                  have R : Hid (∀ n, (qx < q + 1 → (b || (tq.toList == tb.toList)) = true) ∧ MayR Rep w p sc gm 8 V T (wq.drewN n) ∧ Ints (wq.drewN n) (wq.drewN n).heap.size .u8 A9 (up D)) := fun n =>
                    ⟨fun h => by
                      by_cases e : qx < q
                      · rw [hR.out.1 e]; rfl
                      · obtain rfl : qx = q := by omega
                        have := HQT.out
                        rw [htq] at this
                        injection this with this
                        injection this with this
                        rw [this]
                        simp, HML.out _ n hR.out.2.1, hR.out.2.2⟩
                  clear hR hVm htq
                  cases b with
                  | true =>
                    go_wp2_with fail
                    go_quiet (fail)
                    go_wp2
                    go_roundw
                    case rel => first | exact ⟨q + 1, true, by omega, rfl, by go_num, R.out _⟩ | ((repeat apply Exists.intro); exact ⟨⟨q + 1, true, by omega, rfl, by go_num, R.out _⟩, rfl⟩)
                    case measure => simp [intOf]; omega
                  | false =>
                    go_wp2_with fail
                    go_quiet (fail)
                    go_wp2
                    go_roundw
                    case rel => first | exact ⟨q + 1, _, by omega, rfl, by go_num, R.out _⟩ | ((repeat apply Exists.intro); exact ⟨⟨q + 1, _, by omega, rfl, by go_num, R.out _⟩, rfl⟩)
                    case measure => simp [intOf]; omega
                · have q1 : ¬ (q : Int) < (N : Int) := by omega
                  have hqq : q = N := by omega
                  subst hqq
                  have hb : b = true := hR.out.1 hqx
                  subst hb
                  have HR9 := Lib.hid hR.out.2.1
                  clear hR hVm
                  go_wp2
                  go_roundw
                  case rel => first | exact ⟨m + 1, by omega, by go_num, HR9.out⟩ | ((repeat apply Exists.intro); exact ⟨⟨m + 1, by omega, by go_num, HR9.out⟩, rfl⟩)
                  case measure => simp [intOf]; omega
            · have m1 : ¬ (m : Int) < 8 := by omega
              have HPD : Hid (Calls Try.prog 22 #[.pointer (some ⟨p, 0, none⟩)] wp fun e w' => e = .returned (.int .i64 0) ∧ Below w.heap.size w w') := by
                obtain ⟨F, h1, h2, h3, h4⟩ := hR.out.rep
                have hp : sc.pend.length = 0 := by have := HFC.out.pen; omega
                exact (HSS.out.pending p F sc wp hR.out.below h1 h2).mono fun e w' ⟨r1, r2⟩ => ⟨by rw [r1, hp]; rfl, chain hR.out.below r2⟩
              clear hR
              go_wp2_with (go_at_call 22; with_reducible (refine Calls.mono HPD.out ?_); rintro e w9 ⟨rfl, hb9⟩)
              go_ret
              exact ⟨rfl, hb9⟩
end

end Go.Proofs.Ytnbgnllkikajpaa
