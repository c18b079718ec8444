/-
  'Split' of the layer pack: whatever it is given, what it answers; nothing that was there is changed.
-/
import Derived.Test.YtbmgiekiildaaaaNumb
import Derived.Test.YtbmgiekiildaaaaPJoin
namespace Go.Proofs.Ytbmgiekiildaaaa
open Go.RowKit

/-- What a function leaves that hands back new numbers and an error's number. -/
def MadeN (w : World) (E : Int) (l : List Int) (e : Ending) (w' : World) : Prop :=
  ∃ A c, e = .returned (.tuple #[.slice A l.length c, .int .i64 E]) ∧ l.length ≤ c ∧ Ints w' w'.heap.size .u64 A l ∧ Below w.heap.size w w'
theorem MadeN.nil {w w' : World} {E : Int} (hb : Below w.heap.size w w') : MadeN w E [] (.returned (.tuple #[.slice none 0 0, .int .i64 E])) w' :=
  ⟨none, 0, rfl, Nat.le_refl _, Ints.nil _ _ _ _, hb⟩

/-- The sum of the first k sizes. -/
def sizeTo (sizes : List Int) (k : Nat) : Nat := (total (sizes.take k)).toNat
theorem sizeTo_zero (sizes : List Int) : sizeTo sizes 0 = 0 := by simp [sizeTo, total]
theorem all_take {sizes : List Int} (h : sizes.all szOk = true) (k : Nat) : (sizes.take k).all szOk = true := by
  rw [List.all_eq_true] at h ⊢; exact fun x hx => h x (List.mem_of_mem_take hx)
theorem sizeTo_succ {sizes : List Int} (h : sizes.all szOk = true) (k : Nat) (hk : k < sizes.length) : (sizeTo sizes (k + 1) : Int) = sizeTo sizes k + sizes.getD k 0 := by
  have h1 := total_bd _ (all_take h k)
  have h2 := total_bd _ (all_take h (k + 1))
  unfold sizeTo
  have e : total (sizes.take (k + 1)) = total (sizes.take k) + sizes.getD k 0 := by rw [take_snoc sizes k hk, total_snoc]
  omega
theorem sizeTo_all {sizes : List Int} (h : sizes.all szOk = true) : (sizeTo sizes sizes.length : Int) = total sizes := by
  have h1 := total_bd _ h
  unfold sizeTo
  rw [List.take_length]
  omega
theorem sizeTo_le {sizes : List Int} (h : sizes.all szOk = true) (k : Nat) : (sizeTo sizes k : Int) ≤ total sizes := by
  have h1 := total_bd _ (all_take h k)
  have e : total sizes = total (sizes.take k) + total (sizes.drop k) := by
    have : ∀ a b : List Int, total (a ++ b) = total a + total b := by
      intro a b
      induction a with
      | nil => simp [total]
      | cons x a ih => rw [List.cons_append, total_cons, total_cons, ih]; omega
    rw [← this, List.take_append_drop]
  have h2 := total_bd (sizes.drop k) (by rw [List.all_eq_true] at h ⊢; exact fun x hx => h x (List.mem_of_mem_drop hx))
  unfold sizeTo
  omega

/-- The list of numbers when k of n are written. -/
def rowAt (zs sizes : List Int) (k : Nat) : List Int := partsOf zs (sizes.take k) ++ List.replicate (sizes.length - k) 0
theorem rowAt_len (zs sizes : List Int) (k : Nat) (hk : k ≤ sizes.length) : (rowAt zs sizes k).length = sizes.length := by
  unfold rowAt
  rw [List.length_append, partsOf_len, List.length_replicate, List.length_take]
  omega
theorem rowAt_zero (zs sizes : List Int) : rowAt zs sizes 0 = List.replicate sizes.length 0 := by simp [rowAt, partsOf]
theorem rowAt_all (zs sizes : List Int) : rowAt zs sizes sizes.length = partsOf zs sizes := by simp [rowAt]
theorem rowAt_succ {zs sizes : List Int} (h : sizes.all szOk = true) (k : Nat) (hk : k < sizes.length) :
    (rowAt zs sizes k).set k (valOf ((zs.drop (sizeTo sizes k)).take (sizes.getD k 0).toNat)) = rowAt zs sizes (k + 1) := by
  unfold rowAt
  rw [take_snoc sizes k hk, partsOf_append _ _ _ (all_take h k)]
  have hl : (partsOf zs (sizes.take k)).length = k := by rw [partsOf_len, List.length_take]; omega
  have hr : List.replicate (sizes.length - k) (0 : Int) = 0 :: List.replicate (sizes.length - (k + 1)) 0 := by
    rw [show sizes.length - k = (sizes.length - (k + 1)) + 1 by omega, List.replicate_succ]
  rw [hr, List.set_append_right _ _ (by omega), hl, Nat.sub_self, List.set_cons_zero]
  simp [partsOf, sizeTo]
theorem parts_mem (zs sizes : List Int) (h : ∀ z ∈ zs, 0 ≤ z ∧ z ≤ 255) (hs : sizes.all szOk = true) : ∀ z ∈ partsOf zs sizes, 0 ≤ z ∧ z ≤ 18446744073709551615 := by
  induction sizes generalizing zs with
  | nil => intro z hz; simp [partsOf] at hz
  | cons s ss ih =>
    intro z hz
    simp only [List.all_cons, Bool.and_eq_true] at hs
    have h8 : 1 ≤ s ∧ s ≤ 8 := by simpa only [szOk, decide_eq_true_eq] using hs.1
    rcases List.mem_cons.1 hz with rfl | hz
    · have := valOf_bd (zs.take s.toNat) fun z hz => h z (List.mem_of_mem_take hz)
      have hp := pow_le8 (zs.take s.toNat).length (by rw [List.length_take]; omega)
      omega
    · exact ih (zs.drop s.toNat) (fun z hz => h z (List.mem_of_mem_drop hz)) hs.2 z hz

theorem Try.infoU64 : (Try.prog.info? 54).map (fun i => (i.zero, i.size, i.bytes)) = some (some (.int .u64 0), 1, 8) := by kernel_rfl

/-- The sizes are refused, or there are not as many bytes. -/
theorem split_no (A1 A2 : Option Addr) (c1 c2 : Nat) (sizes zs : List Int) (w : World) (hs : Ints w w.heap.size .i64 A1 sizes) (h : splitE zs sizes ≠ 0) :
    Calls Try.prog 34 #[.slice A2 zs.length c2, .slice A1 sizes.length c1] w (MadeN w (splitE zs sizes) []) := by
  by_cases hz : szs sizes = false
  · have e1 : splitE zs sizes = 1 := by unfold splitE; rw [hz]; rfl
    rw [e1]
    clear h e1
    go_enter Try.func34, Try.ntmps34
    go_wp2_with (go_at_call 37; refine (extent_no A1 c1 _ sizes _ hs hz).mono ?_; rintro e w' ⟨rfl, rfl⟩)
    go_ret2
    exact MadeN.nil (Below.refl _ _)
  · have hz' : szs sizes = true := by simpa using hz
    have hz3 := hz'
    simp only [szs, Bool.and_eq_true, decide_eq_true_eq] at hz3
    have htot := total_bd sizes hz3.2
    have hext := extent_yes A1 c1 _ sizes w hs hz'
    obtain ⟨T, hT⟩ : ∃ T : Int, T = total sizes := ⟨_, rfl⟩
    have HE := Lib.hid hext
    clear hext
    by_cases h3 : (zs.length : Int) < total sizes
    · have e1 : splitE zs sizes = 3 := by unfold splitE; rw [if_pos hz', if_pos h3]
      rw [e1]
      rw [← hT] at HE h3
      clear h e1 hz hz' hz3 htot hT
      go_enter Try.func34, Try.ntmps34
      go_wp2_with (go_at_call 37; refine Calls.mono HE.out ?_; rintro e w' ⟨rfl, rfl⟩)
      go_ret2
      exact MadeN.nil (Below.refl _ _)
    · have h4 : total sizes < (zs.length : Int) := by
        rcases Int.lt_or_le (total sizes) zs.length with hlt | hle
        · exact hlt
        · exact absurd (by unfold splitE; rw [if_pos hz', if_neg h3, if_neg (by omega)]) h
      have e1 : splitE zs sizes = 2 := by unfold splitE; rw [if_pos hz', if_neg h3, if_pos h4]
      rw [e1]
      rw [← hT] at HE h3 h4
      clear h e1 hz hz' hz3 htot hT
      go_enter Try.func34, Try.ntmps34
      go_wp2_with (go_at_call 37; refine Calls.mono HE.out ?_; rintro e w' ⟨rfl, rfl⟩)
      go_ret2
      exact MadeN.nil (Below.refl _ _)

set_option maxRecDepth 20000 in
set_option maxHeartbeats 800000 in
/-- As many bytes as the sizes have: the numbers lie in a block of the call's own. -/
theorem split_new (A1 A2 : Option Addr) (c1 c2 : Nat) (sizes zs : List Int) (w : World) (hs : Ints w w.heap.size .i64 A1 sizes) (hn : Ints w w.heap.size .u8 A2 zs) (hc : zs.length ≤ c2)
    (hb : ∀ z ∈ zs, 0 ≤ z ∧ z ≤ 255) (hz : szs sizes = true) (hl : total sizes = zs.length) :
    Calls Try.prog 34 #[.slice A2 zs.length c2, .slice A1 sizes.length c1] w fun e w' => ∃ c, e = .returned (.tuple #[.slice (some ⟨w.heap.size, 0, none⟩) (partsOf zs sizes).length c, .int .i64 0]) ∧ (partsOf zs sizes).length ≤ c ∧ Ints w' w'.heap.size .u64 (some ⟨w.heap.size, 0, none⟩) (partsOf zs sizes) ∧ Below w.heap.size w w' := by
  obtain ⟨i0, hi, hz0, hz1, hz2⟩ := info_parts Try.infoU64
  have hext := extent_yes A1 c1 _ sizes w hs hz
  rw [hl] at hext
  have hz3 := hz
  simp only [szs, Bool.and_eq_true, decide_eq_true_eq] at hz3
  obtain ⟨hz4, hz5⟩ := hz3
  have htot := total_bd sizes hz5
  have hzl : zs.length ≤ 32768 := by omega
  have HE := Lib.hid hext
  have HZ5 := Lib.hid hz5
  have HL := Lib.hid hl
  have HB := Lib.hid hb
  clear hext hz hz5 hl hb htot
  go_enter Try.func34, Try.ntmps34
  go_wp2_with (first
    | (go_at_call 37; refine Calls.mono HE.out ?_; rintro e w' ⟨rfl, rfl⟩)
    | (at_make; refine wpList_make_full _ rfl _ _ 50 rfl w.heap.size 54 i0 (.int .u64 0) 1 Try.underlying50 hi hz0 hz1 .i64 .i64 (sizes.length : Int) (sizes.length : Int) sizes.length rfl rfl rfl rfl (by rw [hz2]; omega) (by unfold maxLen; omega) (Nat.le_refl _) ?_; intro w1 hown1 hg1))
  have hbel1 : Below w.heap.size w w1 := (Below.refl _ _).grown hg1 (Nat.le_refl _) (fun _ h => by cases h)
  clear hg1
  go_loopw [0, 32] (fun b i wr => ∃ (k L c' : Nat) (A' : Option Addr), k ≤ sizes.length ∧ i = .int .i64 k ∧ b = .slice A' L c' ∧ Hid (L = (zs.drop (sizeTo sizes k)).length) ∧ L ≤ c' ∧ Ints wr w.heap.size .u8 A' (zs.drop (sizeTo sizes k)) ∧
      wr.ownsRow w.heap.size 54 1 (.slice (some ⟨w.heap.size, 0, none⟩) sizes.length sizes.length) sizes.length ((rowAt zs sizes k).map (Value.int .u64)) ∧ Below w.heap.size w wr)
    (fun _ i _ => sizes.length - (intOf i).toNat)
  case atStart =>
    refine ⟨0, zs.length, c2, A2, Nat.zero_le _, rfl, rfl, by rw [sizeTo_zero]; rfl, hc, by rw [sizeTo_zero]; exact hn.below hbel1, ?_, hbel1⟩
    have h := hown1
    rw [show (Value.int IntKind.u64 0).cells = #[Value.int .u64 0] from rfl, toList_madeCells_one, Nat.mul_one] at h
    rw [rowAt_zero, List.map_replicate]
    exact h
  case round =>
    obtain ⟨k, L, c', A', hk, rfl, rfl, hLL, hLc, hds, hown, hbel⟩ := hrel
    clear hown1 hbel1 hn hc
    by_cases hlt : k < sizes.length
    · have hso : szOk (sizes.getD k 0) = true := List.all_eq_true.1 HZ5.out _ (getD_mem hlt)
      have hs1 : 1 ≤ sizes.getD k 0 ∧ sizes.getD k 0 ≤ 8 := by simpa only [szOk, decide_eq_true_eq] using hso
      have hsucc := sizeTo_succ HZ5.out k hlt
      have hle := sizeTo_le HZ5.out (k + 1)
      have HRW := Lib.hid (rowAt_succ (zs := zs) HZ5.out k hlt)
      obtain ⟨b1, o1, e1, _, hc1⟩ := hs.below hbel k hlt
      obtain ⟨s, hs'⟩ : ∃ s : Nat, (s : Int) = sizes.getD k 0 := ⟨(sizes.getD k 0).toNat, by omega⟩
      rw [← hs'] at hs1 hsucc HRW hc1
      have hHL := HL.out
      have hLe : L = zs.length - sizeTo sizes k := by have := hLL.out; rw [List.length_drop] at this; exact this
      have hsL : s ≤ L := by omega
      have HD := Lib.hid (show (zs.drop (sizeTo sizes k)).drop s = zs.drop (sizeTo sizes (k + 1)) by rw [List.drop_drop]; congr 1; omega)
      obtain ⟨ds, hds'⟩ : ∃ ds, ds = zs.drop (sizeTo sizes k) := ⟨_, rfl⟩
      have hdm : ∀ z ∈ ds, 0 ≤ z ∧ z ≤ 255 := fun z hz => HB.out z (List.mem_of_mem_drop (by rw [← hds']; exact hz))
      rw [← hds'] at hds HRW HD hLL
      have hlen : (ds.take s).length = s := by rw [List.length_take, ← hLL.out]; omega
      have hn' := fun w1 (h : Ints w1 w.heap.size .u8 A' ds) => number_any A' c' _ (ds.take s) w1 (h.take s) (fun z hz => hdm z (List.mem_of_mem_take hz)) (by omega)
      rw [hlen] at hn'
      have hwr := hown.cellAt k (by omega)
      have hfz := hown.frozenAt k
      have hrl := rowAt_len zs sizes k (by omega)
      rw [List.getElem?_map, List.getElem?_eq_getElem (by omega), Option.map_some] at hwr
      obtain ⟨y, hy⟩ : ∃ y, y = (rowAt zs sizes k)[k]'(by omega) := ⟨_, rfl⟩
      rw [← hy] at hwr
      have hst := hown.stored k (.int .u64 (valOf (ds.take s)))
      rw [← List.map_set] at hst
      have hrs : (rowAt zs sizes k).set k (valOf (ds.take s)) = rowAt zs sizes (k + 1) := HRW.out
      rw [hrs] at hst
      have hbs : Below w.heap.size wr (wr.setCell ⟨w.heap.size, k, none⟩ (.int .u64 (valOf (ds.take s)))) := (Below.refl _ _).setCell (p := ⟨w.heap.size, k, none⟩) (Nat.le_refl w.heap.size) _
      have hcut := (hds.below hbs).cut (n := s) (c := c') (by rw [← hLL.out]; exact hsL) (by rw [← hLL.out]; exact hLc)
      rw [HD.out] at hcut
      have HN := Lib.hid hn'
      have hsc : s ≤ c' := by omega
      have HLn := Lib.hid (show L - s = (zs.drop (sizeTo sizes (k + 1))).length by rw [List.length_drop]; omega)
      have hA' : ∃ b2 o2, A' = some ⟨b2, o2, none⟩ := by
        obtain ⟨b2, o2, e, _⟩ := hds.at_ (by rw [← hLL.out]; omega)
        exact ⟨b2, o2, e⟩
      obtain ⟨b2, o2, rfl⟩ := hA'
      have HST := Lib.hid hst
      have HDS := Lib.hid hds
      have HBL := Lib.hid (hbel.trans hbs)
      obtain ⟨x, hx⟩ : ∃ x, x = valOf (ds.take s) := ⟨_, rfl⟩
      rw [← hx] at HN HST hcut HBL
      obtain rfl := e1
      have hs11 := hs1.1
      clear hs' hso hsucc hle hHL hLe hdm hlen hn' hrl hy hst hrs hbs HRW hds hx hs1 hds'
      by_cases hcs : c' = s
      · rw [if_pos hcs] at hcut
        subst hcs
        have HC := Lib.hid hcut
        clear hcut
        go_wp2_with (go_at_call 41; refine Calls.mono (HN.out _ HDS.out) ?_; rintro e w' ⟨rfl, rfl⟩)
        go_roundw
        case rel => exact ⟨k + 1, 0, _, _, by omega, by go_num, rfl, (show 0 = (zs.drop (sizeTo sizes (k + 1))).length by have := HLn.out; omega), by omega, HC.out, HST.out.1, HBL.out⟩
        case measure => simp [intOf]; omega
      · rw [if_neg hcs] at hcut
        have hcut' : Ints (wr.setCell ⟨w.heap.size, k, none⟩ (.int .u64 x)) w.heap.size .u8 (some ⟨b2, o2 + s, none⟩) (zs.drop (sizeTo sizes (k + 1))) := by
          have : (some (⟨b2, o2, none⟩ : Addr)).map (·.add s) = some ⟨b2, o2 + s, none⟩ := by simp [Addr.add]; omega
          rw [this] at hcut
          exact hcut
        have HC := Lib.hid hcut'
        clear hcut hcut'
        go_wp2_with (go_at_call 41; refine Calls.mono (HN.out _ HDS.out) ?_; rintro e w' ⟨rfl, rfl⟩)
        go_roundw
        case rel => exact ⟨k + 1, L - s, _, _, by omega, by go_num, rfl, HLn.out, by omega, HC.out, HST.out.1, HBL.out⟩
        case measure => simp [intOf]; omega
    · have hks : k = sizes.length := by omega
      subst hks
      rw [rowAt_all] at hown
      have hle := own_le hown
      have hpl := partsOf_len zs sizes
      have hown2 : wr.ownsRow w.heap.size 54 1 (.slice (some ⟨w.heap.size, 0, none⟩) sizes.length sizes.length) (partsOf zs sizes).length ((partsOf zs sizes).map (Value.int .u64)) := by
        rw [hpl]
        exact hown
      have hres := Ints.of_own hown2
      clear hds hLL hown hown2
      go_wp2
      go_ret2
      exact ⟨sizes.length, by rw [hpl]; rfl, by omega, hres, hbel⟩
/-- As many bytes as the sizes have. -/
theorem split_go (A1 A2 : Option Addr) (c1 c2 : Nat) (sizes zs : List Int) (w : World) (hs : Ints w w.heap.size .i64 A1 sizes) (hn : Ints w w.heap.size .u8 A2 zs) (hc : zs.length ≤ c2)
    (hb : ∀ z ∈ zs, 0 ≤ z ∧ z ≤ 255) (hz : szs sizes = true) (hl : total sizes = zs.length) :
    Calls Try.prog 34 #[.slice A2 zs.length c2, .slice A1 sizes.length c1] w (MadeN w 0 (partsOf zs sizes)) :=
  (split_new A1 A2 c1 c2 sizes zs w hs hn hc hb hz hl).mono fun _ _ ⟨c, h⟩ => ⟨_, c, h⟩

/-- 'Split', whatever it is given. -/
theorem split_any (A1 A2 : Option Addr) (c1 c2 : Nat) (sizes zs : List Int) (w : World) (hs : Ints w w.heap.size .i64 A1 sizes) (hn : Ints w w.heap.size .u8 A2 zs) (hc : zs.length ≤ c2)
    (hb : ∀ z ∈ zs, 0 ≤ z ∧ z ≤ 255) :
    Calls Try.prog 34 #[.slice A2 zs.length c2, .slice A1 sizes.length c1] w (MadeN w (splitE zs sizes) (splitL zs sizes)) := by
  by_cases h : splitE zs sizes = 0
  · have h' := h
    unfold splitE at h'
    cases hz : szs sizes
    · rw [hz] at h'; simp at h'
    · rw [if_pos hz] at h'
      have hl : total sizes = zs.length := by
        by_cases h3 : (zs.length : Int) < total sizes
        · rw [if_pos h3] at h'; omega
        · rw [if_neg h3] at h'
          by_cases h4 : total sizes < (zs.length : Int)
          · rw [if_pos h4] at h'; omega
          · omega
      unfold splitL
      rw [if_pos h, h]
      exact split_go A1 A2 c1 c2 sizes zs w hs hn hc hb hz hl
  · unfold splitL
    rw [if_neg h]
    exact split_no A1 A2 c1 c2 sizes zs w hs h

end Go.Proofs.Ytbmgiekiildaaaa
