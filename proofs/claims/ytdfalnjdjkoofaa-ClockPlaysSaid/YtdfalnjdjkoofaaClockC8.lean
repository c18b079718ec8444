/-
  The landed clock: slices.Repeat of one number; New.
-/
import Derived.Test.YtdfalnjdjkoofaaClockC3
import Derived.Laws.CopyOwn
import Derived.Laws.Bits64b
import Derived.Deep.RegionLaw
import Derived.Deep.TreeCalls
namespace Go.Proofs.Ytdfalnjdjkoofaa
open Go.RowKit

theorem and_small (n : Nat) (h : n ≤ 4096) : bits .and .u64 (n : Int) 4294967295 = (n : Int) := by
  have h1 := bits_and_u64_nat n 4294967295 (by omega) (by omega)
  have e : n &&& 4294967295 = n % 4294967296 := Nat.and_two_pow_sub_one_eq_mod n 32
  rw [e, Nat.mod_eq_of_lt (by omega)] at h1
  exact h1

set_option maxHeartbeats 800000 in
theorem mul64_one (n : Nat) (hn : n ≤ 4096) (w : World) : Calls Try.prog 36 #[.int .u64 1, .int .u64 (n : Int)] w fun e w' => e = .returned (.tuple #[.int .u64 0, .int .u64 (n : Int)]) ∧ w' = w := by
  have e1 := and_small n hn
  have e0 : bits .and .u64 1 4294967295 = 1 := by decide +kernel
  have e00 : bits .and .u64 0 4294967295 = 0 := by decide +kernel
  have e01 : IntKind.u64.wrap 0 = 0 := by decide +kernel
  have e2 : (n : Int) / 4294967296 = 0 := by omega
  have e3 : (n : Int) % 4294967296 = (n : Int) := by omega
  have e4 : (n : Int) % 18446744073709551616 = (n : Int) := by omega
  have e5 : IntKind.u64.wrap (n : Int) = (n : Int) := by rw [IntKind.wrap_u64]; omega
  clear hn
  go_enter Try.func36, Try.ntmps36
  go_wp2
  go_ret2
  exact ⟨rfl, rfl⟩

set_option maxHeartbeats 800000 in
theorem mul_one_go (n : Nat) (hn : n ≤ 4096) (w : World) : Calls Try.prog 33 #[.int .u64 1, .int .u64 (n : Int)] w fun e w' => e = .returned (.tuple #[.int .u64 0, .int .u64 (n : Int)]) ∧ w' = w := by
  have H := Lib.hid (mul64_one n hn w)
  clear hn
  go_enter Try.func33, Try.ntmps33
  go_wp2_with (go_at_call 36; with_reducible (refine Calls.mono H.out ?_); rintro e w1 ⟨rfl, rfl⟩)
  go_ret2
  exact ⟨rfl, rfl⟩

/-- The row as far as it is filled. -/
def fillV (x : Value) (N m : Nat) : List Value := List.replicate m x ++ List.replicate (N - m) (.int .i64 0)
theorem fill_splice (x : Value) {N m k : Nat} (h : m + k ≤ N) : splice (fillV x N m) m (List.replicate k x) = fillV x N (m + k) := by
  unfold splice fillV
  rw [List.length_replicate, List.take_left' (by simp), List.drop_append, List.drop_eq_nil_of_le (by simp), List.nil_append, List.drop_replicate, ← List.append_assoc, List.replicate_append_replicate, List.length_replicate]
  congr 2
  omega

theorem Try.infoI8 : (Try.prog.info? 3).map (fun i => (i.zero, i.size, i.bytes)) = some (some (.int .i64 0), 1, 8) := by kernel_rfl
theorem makeI8 (n : Nat) (hn : n ≤ 100000) (w : World) : (Instr.makeSlice 30 (.int .i64 (n : Int)) (.int .i64 (n : Int))).run Try.prog w = .ok (.slice (some ⟨w.heap.size, 0, none⟩) n n) (w.alloc (.cells (fillV (.int .i64 0) n 0).toArray 3)) := by
  have h := run_make_row' (P := Try.prog) 30 3 (.int .i64 0) 8 Try.underlying30 Try.infoI8 rfl .i64 .i64 n (by omega) (by omega) w
  rw [show madeCells #[Value.int .i64 0] n = (fillV (.int .i64 0) n 0).toArray from Array.toList_inj.1 (by rw [toList_madeCells_one]; simp [fillV])] at h
  exact h

set_option maxHeartbeats 3200000 in
set_option maxRecDepth 20000 in
/-- 'slices.Repeat' of one number. -/
theorem repeat_go (g0 c N : Nat) (x : Int) (w : World) (hx : w.cell? ⟨g0, 0, none⟩ = some (.int .i64 x)) (h1 : 1 ≤ N) (h2 : N ≤ 4096) :
    Calls Try.prog 22 #[.slice (some ⟨g0, 0, none⟩) 1 c, .int .i64 (N : Int)] w fun e w' => e = .returned (.slice (some ⟨w.heap.size, 0, none⟩) N N) ∧ IRow 3 w.heap.size (List.replicate N x) w' ∧ Below w.heap.size w w' := by
  have hg0 : g0 < w.heap.size := World.block_lt_of_cell? w _ hx
  have HM := Lib.hid (mul_one_go N h2 w)
  have hmk := makeI8 N (by omega)
  have e5 : IntKind.u64.wrap (N : Int) = (N : Int) := by rw [IntKind.wrap_u64]; omega
  have e6 : IntKind.i64.wrap (N : Int) = (N : Int) := IntWalk.i64_in _ (by omega)
  have e7 : ¬ (9223372036854775807 : Int) < (N : Int) := by omega
  have e8 : (N : Int) % 18446744073709551616 = (N : Int) := by omega
  have hz : fillV (.int .i64 0) N 0 = fillV (.int .i64 x) N 0 := rfl
  rw [hz] at hmk
  obtain ⟨G, hG⟩ : ∃ G : Nat → List Value, G = fillV (.int .i64 x) N := ⟨_, rfl⟩
  have HG : Hid (∀ m k, m + k ≤ N → splice (G m) m (List.replicate k (.int .i64 x)) = G (m + k)) := fun m k h => by rw [hG]; exact fill_splice _ h
  have HL : Hid (∀ m, m ≤ N → (G m).length = N) := fun m h => by rw [hG]; simp [fillV]; omega
  have HC : Hid (∀ m j, j < m → (G m)[j]? = some (.int .i64 x)) := fun m j h => by
    rw [hG]; show (fillV _ N m)[j]? = _
    unfold fillV
    rw [List.getElem?_append_left (by simpa using h), List.getElem?_replicate, if_pos h]
  have HE : Hid (G N = (List.replicate N x).map (Value.int .i64)) := by unfold Hid; rw [hG]; simp [fillV]
  rw [← hG] at hmk
  have W1 : Hid ((w.alloc (.cells (G 0).toArray 3)).heap[w.heap.size]? = some (.cells (G 0).toArray 3 (0, 0)) ∧ Below w.heap.size w (w.alloc (.cells (G 0).toArray 3)) ∧ (w.alloc (.cells (G 0).toArray 3)).cell? ⟨g0, 0, none⟩ = some (.int .i64 x)) :=
    ⟨heap_alloc_new _ _, (Below.refl _ _).alloc (Nat.le_refl _) _, (World.cell?_alloc_lt w _ ⟨g0, 0, none⟩ hg0).trans hx⟩
  have hcsl : ∀ k, (List.replicate k (Value.int .i64 x)).length = k := fun k => List.length_replicate
  have hone : ∀ k, ∀ v ∈ List.replicate k (Value.int .i64 x), v.oneCell' = true := fun k v hv => by rw [(List.mem_replicate.1 hv).2]; rfl
  have hsrc0 : Hid (∀ j v, (List.replicate 1 (Value.int .i64 x))[j]? = some v → (w.alloc (.cells (G 0).toArray 3)).cell? ((⟨g0, 0, none⟩ : Addr).add j) = some v) := fun j v hv => by
    rw [List.getElem?_replicate] at hv
    split at hv
    · rename_i hj
      obtain rfl : j = 0 := by omega
      injection hv with hv
      rw [← hv]; exact W1.out.2.2
    · cases hv
  obtain ⟨CS, hCS⟩ : ∃ CS : Nat → List Value, CS = fun k => List.replicate k (.int .i64 x) := ⟨_, rfl⟩
  have hCSk : ∀ k, List.replicate k (Value.int .i64 x) = CS k := fun k => by rw [hCS]
  simp only [hCSk] at HG hcsl hone hsrc0
  have HSRC : Hid (∀ (W : World) m k, W.heap[w.heap.size]? = some (.cells (G m).toArray 3 (0, 0)) → k ≤ m → ∀ j v, (CS k)[j]? = some v → W.cell? ((⟨w.heap.size, 0, none⟩ : Addr).add j) = some v) := fun W m k hW hk j v hv => by
    rw [hCS] at hv
    replace hv : (List.replicate k (Value.int .i64 x))[j]? = some v := hv
    rw [List.getElem?_replicate] at hv
    split at hv
    · rename_i hj
      injection hv with hv
      have hadd : (⟨w.heap.size, 0, none⟩ : Addr).add j = ⟨w.heap.size, j, none⟩ := by unfold Addr.add; split <;> simp_all
      rw [hadd, cell_of_row _ _ _ _ _ _ hW, List.getElem?_toArray, HC.out m j (by omega), hv]
    · cases hv
  have HN1 := Lib.hid h1
  have n2 : (N : Int) ≤ 4096 := by omega
  have n1 : (1 : Int) ≤ (N : Int) := by omega
  have hfit1 : Hid (0 + (CS 1).length ≤ (G 0).length) := by unfold Hid; rw [hcsl, HL.out 0 (Nat.zero_le _)]; omega
  have HMN : Hid ((CS 1).length = Nat.min 1 N) := by unfold Hid; rw [hcsl]; exact (Nat.min_eq_left h1).symm
  have HONE := Lib.hid hone
  have HCSL := Lib.hid hcsl
  clear hx hz hG hCS hCSk h1 h2 hcsl hone
  go_enter Try.func22, Try.ntmps22
  go_wp2_with (first
    | (go_at_call 33; with_reducible (refine Calls.mono HM.out ?_); rintro e w1 ⟨rfl, rfl⟩)
    | (with_reducible (refine wpList_copy_splice rfl _ _ 30 30 rfl 3 Try.underlying30 (by kernel_rfl) _ _ _ _ _ _ rfl rfl w1.heap.size 0 (G 0) 3 W1.out.1 (CS 1) HMN.out (fun _ => ⟨rfl, _, rfl, hsrc0.out⟩) hfit1.out (HONE.out 1) w1.heap.size w1 W1.out.2.1 (Nat.le_refl _) ?_); intro w4 hg4 hb4; rw [HG.out 0 1 HN1.out] at hg4; rw [HCSL.out]))
  clear W1 hsrc0 hfit1 HMN hmk HM e5 e6 e8 hg0
  go_loopw [8] (fun i wr => ∃ m : Nat, 1 ≤ m ∧ m ≤ N ∧ i = .int .i64 m ∧ Hid (wr.heap[w1.heap.size]? = some (.cells (G m).toArray 3 (0, 0))) ∧ Hid (Below w1.heap.size w1 wr)) (fun i _ => N - (intOf i).toNat)
  case atStart => exact ⟨1, Nat.le_refl _, HN1.out, rfl, hg4, hb4⟩
  case round =>
    obtain ⟨m, hm1, hmN, rfl, hg, hb⟩ := hrel
    clear hg4 hb4
    by_cases hlt : m < N
    · have k1 : (m : Int) < (N : Int) := by omega
      have k2 : (m : Int) ≤ (N : Int) := by omega
      have k0 : (0 : Int) ≤ (m : Int) := by omega
      have k3 : ¬ N = m := by omega
      obtain ⟨k, hk⟩ : ∃ k, k = Nat.min m (N - m) := ⟨_, rfl⟩
      have hk1 : 1 ≤ k := by rw [hk]; exact Nat.le_min.2 ⟨hm1, by omega⟩
      have hk2 : k ≤ m := by rw [hk]; exact Nat.min_le_left _ _
      have hk3 : k ≤ N - m := by rw [hk]; exact Nat.min_le_right _ _
      have HMN : Hid ((CS k).length = Nat.min m (N - m)) := by unfold Hid; rw [HCSL.out, hk]
      have HFT : Hid (m + (CS k).length ≤ (G m).length) := by unfold Hid; rw [HCSL.out, HL.out m hmN]; omega
      have v1 : IntKind.i64.wrap ((m : Int) + (k : Int)) = ((m + k : Nat) : Int) := by rw [IntWalk.i64_in _ (by omega)]; omega
      have HS := Lib.hid (HSRC.out wr m k hg.out hk2)
      have HQ := Lib.hid (HG.out m k (by omega))
      have HSZ : Hid ((Try.prog.info? 3).map (·.size) = some 1) := (by kernel_rfl : (Try.prog.info? 3).map (·.size) = some 1)
      have HCK := Lib.hid (HCSL.out k)
      have HO := Lib.hid (HONE.out k)
      have HBS := Lib.hid hb.out.drew
      have HB1 := Lib.hid (show k ≤ N - m ∧ 1 ≤ k from ⟨hk3, hk1⟩)
      clear hk hk2 hk3 hk1 HG HL HC HSRC HONE HCSL HE
      go_wp2
      go_region_law (refine step_copy_splice rfl (.tmp 41) (.tmp 44) 30 30 rfl 3 Try.underlying30 HSZ.out (some ⟨w1.heap.size, m, none⟩) (some ⟨w1.heap.size, 0, none⟩) (N - m) (N - m) m N (by kernel_rfl) (by kernel_rfl) w1.heap.size m (G m) 3 hg.out (CS k) HMN.out (fun _ => ⟨rfl, _, rfl, HS.out⟩) HFT.out HO.out w1.heap.size w1 HBS.out (Nat.le_refl _) ?_; intro w5 hg5 hb5; rw [HQ.out] at hg5; rw [HCK.out])
      all_goals
        have R1 := Lib.hid hg5.out
        have R2 := Lib.hid hb5
        clear hg5 hb5 hg hb HS HQ HMN HFT HO HBS HCK
        go_wp2
        go_roundw
        case rel => first | exact ⟨m + k, by omega, by have := HB1.out; omega, by first | rfl | go_num, R1, R2⟩ | ((repeat apply Exists.intro); exact ⟨⟨m + k, by omega, by have := HB1.out; omega, by first | rfl | go_num, R1, R2⟩, rfl⟩)
        case measure =>
          have h1 := HB1.out
          first
            | (show N - (((m + k : Nat) : Int)).toNat < N - ((m : Int)).toNat; omega)
            | (show N - ((m : Int) + (k : Int)).toNat < N - ((m : Int)).toNat; omega)
    · have hk8 : m = N := by omega
      subst hk8
      have k1 : ¬ (m : Int) < (m : Int) := by omega
      have R : Hid (IRow 3 w1.heap.size (List.replicate m x) wr ∧ Below w1.heap.size w1 wr) := ⟨by
        have h := hg.out
        rw [HE.out] at h; exact h, hb.out⟩
      clear hg hb HG HL HC HSRC HONE HCSL HE
      go_wp2
      go_ret
      exact ⟨rfl, R.out⟩

/-- A new ring. -/
theorem clock_new {w W : World} {gt gm gb p n : Nat} (h1 : 1 ≤ n) (h2 : n ≤ 4096) (ht : IRow 3 gt (List.replicate n (-1)) W) (hm : BRow 4 gm (List.replicate n false) W) (hb : W.ownsMap Try.prog 3 (plainElem Try.prog 3) gb 0 (.map [] : DataW Unit))
    (hp : W.heap[p]? = some (.cells #[.slice (some ⟨gt, 0, none⟩) n n, .slice (some ⟨gm, 0, none⟩) n n, .map (some gb), .int .i64 0] 53 (0, 0))) (hw : w.heap.size ≤ p ∧ w.heap.size ≤ gt ∧ w.heap.size ≤ gm ∧ w.heap.size ≤ gb)
    (ha : p ≠ gt ∧ p ≠ gm ∧ p ≠ gb ∧ gt ≠ gm ∧ gt ≠ gb ∧ gm ≠ gb) : ∃ F, ClockRep W p F (newC n) ∧ ∀ b, F b → w.heap.size ≤ b := by
  have hl : (newC n).t.length = n := List.length_replicate
  refine ⟨ownC p gt gm gb, ⟨gt, gm, gb, n, n, .map [], rfl, ⟨by rw [hl]; exact newC_ok h1, by rw [hl]; exact h2, by rw [hl]; omega, by rw [hl]; exact hp, ht, hm, map_tight hb, mapC_none n, fun z hz => ?_, ha⟩⟩, fun b q => ?_⟩
  · have : z = -1 := (List.mem_replicate.1 hz).2
    omega
  · rcases q with e | e | e | e <;> omega

set_option maxHeartbeats 800000 in
theorem newBad_go (n : Int) (w : World) (hbad : n < 1 ∨ 4096 < n) : Calls Try.prog 8 #[.int .i64 n] w fun e w' => e = .returned (.tuple #[.pointer none, .int .i64 1]) ∧ Below w.heap.size w w' := by
  by_cases h1 : n < 1
  · clear hbad
    go_enter Try.func8, Try.ntmps8
    go_wp2
    go_ret2
    exact ⟨rfl, Below.refl _ _⟩
  · have h2 : 4096 < n := by omega
    clear hbad
    go_enter Try.func8, Try.ntmps8
    go_wp2
    go_ret2
    exact ⟨rfl, Below.refl _ _⟩

theorem irow_as {t : TypeId} {g g' : Nat} {l : List Int} {w : World} (h : IRow t g l w) (e : g = g') : IRow t g' l w := e ▸ h
theorem irow_alloc {t : TypeId} {g : Nat} {l : List Int} {w : World} (h : IRow t g l w) (o : Obj) : IRow t g l (w.alloc o) := (Below.heap_alloc w o g h.lt).trans h
theorem brow_alloc {t : TypeId} {g : Nat} {l : List Bool} {w : World} (h : BRow t g l w) (o : Obj) : BRow t g l (w.alloc o) := (Below.heap_alloc w o g h.lt).trans h
theorem brow_new {t : TypeId} {g : Nat} {l : List Bool} {w : World} (hg : g = w.heap.size) : BRow t g l (w.alloc (.cells (BCs l) t)) := by
  subst hg
  exact BRow.new w t l
theorem map_new {g : Nat} {w : World} (hg : g = w.heap.size) : (w.alloc (.map #[] 0)).ownsMap Try.prog 3 (plainElem Try.prog 3) g 0 (.map [] : DataW Unit) := by
  subst hg
  exact World.ownsMap_made _ _ _ _
theorem map_later {g : Nat} {w w' : World} (h : w.ownsMap Try.prog 3 (plainElem Try.prog 3) g 0 (.map [] : DataW Unit)) (hb : Below w.heap.size w w') : w'.ownsMap Try.prog 3 (plainElem Try.prog 3) g 0 (.map [] : DataW Unit) := map_heap h (hb.block g h.lt)
theorem map_drew {g : Nat} {w : World} (h : w.ownsMap Try.prog 3 (plainElem Try.prog 3) g 0 (.map [] : DataW Unit)) : w.drew.ownsMap Try.prog 3 (plainElem Try.prog 3) g 0 (.map [] : DataW Unit) := h
theorem map_alloc {g : Nat} {w : World} (h : w.ownsMap Try.prog 3 (plainElem Try.prog 3) g 0 (.map [] : DataW Unit)) (o : Obj) : (w.alloc o).ownsMap Try.prog 3 (plainElem Try.prog 3) g 0 (.map [] : DataW Unit) := h.alloc o
theorem below_one {w W : World} (h : Below w.heap.size w W) (o : Obj) : Below w.heap.size w (W.alloc o) := h.alloc h.size o
theorem box_new {k : Nat} {W : World} {o : Obj} (hk : k = W.heap.size) : (W.alloc o).heap[k]? = some o := by
  subst hk
  exact heap_alloc_new W o
theorem new_end {w W : World} {p n : Nat} (h : ∃ F, ClockRep W p F (newC n) ∧ ∀ b, F b → w.heap.size ≤ b) (hb : Below w.heap.size w W) : ∃ (p' : Nat) (F : Nat → Prop), Ending.returned (.tuple #[.pointer (some ⟨p, 0, none⟩), .int .i64 0]) = .returned (.tuple #[.pointer (some ⟨p', 0, none⟩), .int .i64 0]) ∧ ClockRep W p' F (newC n) ∧ (∀ b, F b → w.heap.size ≤ b) ∧ Below w.heap.size w W := by
  obtain ⟨F, h1, h2⟩ := h
  exact ⟨p, F, rfl, h1, h2, hb⟩

theorem Try.infoBool8 : (Try.prog.info? 4).map (fun i => (i.zero, i.size, i.bytes)) = some (some (.bool false), 1, 1) := by kernel_rfl
theorem makeB8 (n : Nat) (hn : n ≤ 100000) (w : World) : (Instr.makeSlice 41 (.int .i64 (n : Int)) (.int .i64 (n : Int))).run Try.prog w = .ok (.slice (some ⟨w.heap.size, 0, none⟩) n n) (w.alloc (.cells (BCs (List.replicate n false)) 4)) := by
  have h := run_make_row' (P := Try.prog) 41 4 (.bool false) 1 Try.underlying41 Try.infoBool8 rfl .i64 .i64 n (by omega) (by omega) w
  rw [BCs_zero] at h
  exact h

set_option maxHeartbeats 1600000 in
set_option maxRecDepth 20000 in
theorem new_go (n : Nat) (w : World) (h1 : 1 ≤ n) (h2 : n ≤ 4096) : Calls Try.prog 8 #[.int .i64 (n : Int)] w fun e w' => ∃ (p : Nat) (F : Nat → Prop), e = .returned (.tuple #[.pointer (some ⟨p, 0, none⟩), .int .i64 0]) ∧ ClockRep w' p F (newC n) ∧ (∀ b, F b → w.heap.size ≤ b) ∧ Below w.heap.size w w' := by
  have HR : Hid (∀ (W : World) (g0 c : Nat), W.cell? ⟨g0, 0, none⟩ = some (.int .i64 (-1)) → Calls Try.prog 22 #[.slice (some ⟨g0, 0, none⟩) 1 c, .int .i64 (n : Int)] W fun e w' => ∃ gt, e = .returned (.slice (some ⟨gt, 0, none⟩) n n) ∧ gt = W.heap.size ∧ IRow 3 gt (List.replicate n (-1)) w' ∧ Below W.heap.size W w') := fun W g0 c hc =>
    (repeat_go g0 c n (-1) W hc h1 h2).mono fun e w' ⟨q1, q2, q3⟩ => ⟨_, q1, rfl, q2, q3⟩
  have hmm := @run_makeMap Try.prog
  have hmk := makeB8 n (by omega)
  have n1 : ¬ (n : Int) < 1 := by omega
  have n2 : ¬ (4096 : Int) < (n : Int) := by omega
  have n3 : (1 : Int) ≤ (n : Int) := by omega
  have n4 : (n : Int) ≤ 4096 := by omega
  have H1 := Lib.hid h1
  have H2 := Lib.hid h2
  clear h1 h2
  go_enter Try.func8, Try.ntmps8
  go_wp2
  go_region_with (go_at_call 22; with_reducible (refine Calls.mono (HR.out _ _ _ ?hc) ?_); (case hc => go_simp); rintro e wz ⟨gt, rfl, hgt, ht, hbz⟩)
  all_goals
    have HT := Lib.hid ht
    have HB := Lib.hid hbz
    have HG := Lib.hid hgt
    clear ht hbz hgt HR
    go_wp2
    go_ret2
    have hs := HB.out.size
    have hlt := HT.out.lt
    have hg := HG.out
    simp at hs hg
    refine new_end (clock_new H1.out H2.out ?ht ?hm ?hb (box_new (by simp)) ?hw ?ha) ?hbel
    case ht => repeat (first | exact irow_as HT.out hg | refine irow_alloc ?_ _)
    case hm => repeat (first | exact brow_new (by simp) | refine brow_alloc ?_ _ | refine BRow.below ?_ HB.out (by simp <;> omega))
    case hb => repeat (first | (with_reducible refine map_drew ?_) | (with_reducible refine map_new ?_; simp; done) | (with_reducible refine map_alloc ?_ _) | (with_reducible refine map_later ?_ HB.out))
    case hw => refine ⟨?_, ?_, ?_, ?_⟩ <;> omega
    case ha => refine ⟨?_, ?_, ?_, ?_, ?_, ?_⟩ <;> omega
    case hbel => repeat (first | exact Below.refl _ _ | refine Below.drew ?_ | refine below_one ?_ _ | refine chain ?_ HB.out)

end Go.Proofs.Ytdfalnjdjkoofaa
