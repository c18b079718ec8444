/-
  'join' of the layer pack: whatever the sizes and the numbers are, what it answers; nothing that was there is changed. 'Fields' of the layer pack: whatever it is given, what it answers; nothing that was there is changed. 'Put' of the layer pack: whatever the size and the number are, what it answers; nothing that was there is changed. The landed line: Encode.
-/
import Derived.Test.YtbnhkplhmanmoaaGreatCrcSumG
import Derived.Test.YtbnhkplhmanmoaaGreatLineC3G
import Derived.Test.YtbnhkplhmanmoaaGreatEncRowG
namespace Go.Proofs.YtbnhkplhmanmoaaGreat
open Go.RowKit

theorem Made.nil {w w' : World} {E : Int} (hb : Below w.heap.size w w') : Made w E [] (.returned (.tuple #[.slice none 0 0, .int .i64 E])) w' :=
  ⟨none, 0, rfl, Nat.le_refl _, Ints.nil _ _ _ _, hb⟩
/-- The sizes, or how many there are, are refused. -/
theorem join_arg (A1 A2 : Option Addr) (c1 c2 B : Nat) (sizes list : List Int) (w : World) (hs : Ints w B .i64 A1 sizes) (h : szs sizes = false ∨ list.length ≠ sizes.length) :
    Calls Tryz.prog 142 #[.slice A1 sizes.length c1, .slice A2 list.length c2] w (Made w 1 []) := by
  by_cases hz : szs sizes = false
  · go_enter Tryz.func142, Tryz.ntmps142
    go_wp2_with (go_at_call 166; refine (extent_no A1 c1 B sizes _ hs hz).mono ?_; rintro e w' ⟨rfl, rfl⟩)
    go_ret2
    exact Made.nil (Below.refl _ _)
  · have hz' : szs sizes = true := by simpa using hz
    have hl : list.length ≠ sizes.length := h.resolve_left hz
    have hl1 : ((list.length : Int) == (sizes.length : Int)) = false := by simp; omega
    have hl2 : ((list.length : Int) != (sizes.length : Int)) = true := by simp; omega
    clear h hz hl
    have HZ := Lib.hid hz'
    clear hz'
    go_enter Tryz.func142, Tryz.ntmps142
    go_wp2_with (go_at_call 166; refine (extent_yes A1 c1 B sizes _ hs HZ.out).mono ?_; rintro e w' ⟨rfl, rfl⟩)
    go_ret2
    exact Made.nil (Below.refl _ _)

/-- The same, and the bytes lie in a row of the call's own. -/
def MadeOwn (w : World) (E : Int) (l : List Int) (e : Ending) (w' : World) : Prop :=
  ∃ A c, e = .returned (.tuple #[.slice A l.length c, .int .i64 E]) ∧ l.length ≤ c ∧ Ints w' w'.heap.size .u8 A l ∧ Below w.heap.size w w' ∧ (E = 0 → w'.ownsRow w.heap.size 5 1 (.slice A l.length c) l.length (l.map (Value.int .u8)))
theorem MadeOwn.made {w w' : World} {E : Int} {l : List Int} {e : Ending} (h : MadeOwn w E l e w') : Made w E l e w' := by
  obtain ⟨A, c, h1, h2, h3, h4, _⟩ := h
  exact ⟨A, c, h1, h2, h3, h4⟩
set_option maxHeartbeats 800000 in
/-- The sizes are sound, as many as the numbers. -/
theorem join_own (A1 A2 : Option Addr) (c1 c2 : Nat) (sizes list : List Int) (w : World) (hs : Ints w w.heap.size .i64 A1 sizes) (hn : Ints w w.heap.size .u64 A2 list)
    (hb : ∀ z ∈ list, 0 ≤ z ∧ z ≤ 18446744073709551615) (hz : szs sizes = true) (hl : list.length = sizes.length) :
    Calls Tryz.prog 142 #[.slice A1 sizes.length c1, .slice A2 list.length c2] w (MadeOwn w (fieldsE list sizes) (fieldsB list sizes)) := by
  obtain ⟨i0, hi, hz0, hz1, hz2⟩ := info_parts Tryz.infoU8
  have hz3 := hz
  simp only [szs, Bool.and_eq_true, decide_eq_true_eq] at hz3
  obtain ⟨hz4, hz5⟩ := hz3
  have htot := total_bd sizes hz5
  obtain ⟨T, hT⟩ : ∃ T : Nat, (T : Int) = total sizes := ⟨(total sizes).toNat, by omega⟩
  have hT1 : T ≤ 32768 := by omega
  have HT := Lib.hid hT
  have HZ := Lib.hid hz
  have HZ5 := Lib.hid hz5
  have HL := Lib.hid hl
  have HB := Lib.hid hb
  have hext : ∀ W : World, Ints W w.heap.size .i64 A1 sizes → Calls Tryz.prog 166 #[.slice A1 sizes.length c1] W fun e w' => e = .returned (.tuple #[.int .i64 T, .int .i64 0]) ∧ W = w' := fun W hW => by
    have := extent_yes A1 c1 w.heap.size sizes W hW hz
    rw [← hT] at this
    exact this
  have hl1 : ((list.length : Int) == (sizes.length : Int)) = true := by simp; omega
  have hl2 : ((list.length : Int) != (sizes.length : Int)) = false := by simp; omega
  have hlb : list.length ≤ 4096 := by omega
  clear hT hz hz5 hl hb htot
  have HX := Lib.hid hext
  clear hext
  go_enter Tryz.func142, Tryz.ntmps142
  go_wp2_with (first
    | (go_at_call 166; refine (HX.out _ hs).mono ?_; rintro e w' ⟨rfl, rfl⟩)
    | (at_make; refine wpList_make_own _ rfl _ _ 54 rfl w.heap.size 5 i0 (.int .u8 0) 1 Tryz.underlying54 hi hz0 hz1 .i64 .i64 (T : Int) T rfl rfl rfl (by rw [hz2]; omega) (by unfold maxLen; omega) (Nat.le_refl _) ?_; intro w1 hown1 hg1))
  have hbel1 : Below w.heap.size w w1 := (Below.refl _ _).grown hg1 (Nat.le_refl _) (fun _ h => by cases h)
  clear hg1
  go_loopw [8, 28] (fun v i wr => ∃ k : Nat, k ≤ list.length ∧ i = .int .i64 k ∧ wr.ownsRow w.heap.size 5 1 v (fieldsTo list sizes k).length ((fieldsTo list sizes k).map (Value.int .u8)) ∧
      Below w.heap.size w wr ∧ Hid (((list.zip sizes).take k).all (fun p => fitB p.1 p.2) = true)) (fun _ i _ => list.length - (intOf i).toNat)
  case atStart => exact ⟨0, Nat.zero_le _, rfl, by simpa [fieldsTo_zero] using hown1, hbel1, by simp [Hid]⟩
  case round =>
    obtain ⟨k, hk, rfl, hown, hbel, hall⟩ := hrel
    clear hown1 hbel1
    by_cases hlt : k < list.length
    · have hlt2 : k < sizes.length := by have := HL.out; omega
      obtain ⟨b1, o1, rfl, _, hc1⟩ := hs.below hbel k hlt2
      obtain ⟨b2, o2, rfl, _, hc2⟩ := hn.below hbel k hlt
      have hm : szOk (sizes.getD k 0) = true := List.all_eq_true.1 HZ5.out _ (getD_mem hlt2)
      have hm2 : 1 ≤ sizes.getD k 0 ∧ sizes.getD k 0 ≤ 8 := by simpa only [szOk, decide_eq_true_eq] using hm
      have hx := HB.out _ (getD_mem hlt)
      have hfl := fieldsTo_len list sizes HZ5.out k
      have HF := Lib.hid (fieldsTo_succ list sizes k hlt hlt2)
      have HA := Lib.hid (zip_take_snoc list sizes k hlt hlt2)
      have HR := Lib.hid (fieldsE_range HZ.out HL.out k hlt)
      obtain ⟨x, hx'⟩ : ∃ x, x = list.getD k 0 := ⟨_, rfl⟩
      obtain ⟨s, hs'⟩ : ∃ s : Nat, (s : Int) = sizes.getD k 0 := ⟨(sizes.getD k 0).toNat, by omega⟩
      rw [← hx'] at hc2 hx HF HA HR
      rw [← hs'] at hc1 hm2 HF HA HR
      clear hx' hs' hm
      obtain ⟨ys, hys⟩ : ∃ ys, ys = fieldsTo list sizes k := ⟨_, rfl⟩
      rw [← hys] at hown hfl HF
      clear hys
      by_cases hf : fitB x s = true
      · go_wp2_with (first
          | (go_at_call 167; refine (fits_any x s _ hx hm2).mono ?_; rintro e w' ⟨rfl, rfl⟩)
          | (go_at_call 168; refine (add_any w.heap.size _ ys x s _ hown hbel.size (by omega) (by omega)).mono ?_; rintro e w2 ⟨v2, rfl, hown2, hbel2⟩))
        go_roundw
        case rel =>
          refine ⟨k + 1, by omega, by go_num, ?_, hbel.trans hbel2, ?_⟩
          · rw [HF.out]; exact hown2
          · unfold Hid; rw [HA.out, List.all_append, hall.out, List.all_cons, hf]; rfl
        case measure => simp [intOf]; omega
      · have hf' : fitB x s = false := by simpa using hf
        clear hf
        go_wp2_with (go_at_call 167; refine (fits_any x s _ hx hm2).mono ?_; rintro e w' ⟨rfl, rfl⟩)
        go_ret2
        have R := HR.out hf'
        rw [R.1, R.2]
        exact ⟨none, 0, rfl, Nat.le_refl _, Ints.nil _ _ _ _, hbel, fun h => by cases h⟩
    · have : k = list.length := by omega
      subst this
      go_wp2
      go_ret2
      have R := fieldsE_ok HZ.out HL.out hall.out
      obtain ⟨A, c, hv⟩ := own_slice hown
      subst hv
      rw [R.1, R.2]
      exact ⟨A, c, rfl, own_le hown, Ints.of_own hown, hbel, fun _ => hown⟩

theorem join_go (A1 A2 : Option Addr) (c1 c2 : Nat) (sizes list : List Int) (w : World) (hs : Ints w w.heap.size .i64 A1 sizes) (hn : Ints w w.heap.size .u64 A2 list)
    (hb : ∀ z ∈ list, 0 ≤ z ∧ z ≤ 18446744073709551615) (hz : szs sizes = true) (hl : list.length = sizes.length) :
    Calls Tryz.prog 142 #[.slice A1 sizes.length c1, .slice A2 list.length c2] w (Made w (fieldsE list sizes) (fieldsB list sizes)) :=
  (join_own A1 A2 c1 c2 sizes list w hs hn hb hz hl).mono fun _ _ h => h.made

/-- 'join', whatever it is given. -/
theorem join_any (A1 A2 : Option Addr) (c1 c2 : Nat) (sizes list : List Int) (w : World) (hs : Ints w w.heap.size .i64 A1 sizes) (hn : Ints w w.heap.size .u64 A2 list)
    (hb : ∀ z ∈ list, 0 ≤ z ∧ z ≤ 18446744073709551615) :
    Calls Tryz.prog 142 #[.slice A1 sizes.length c1, .slice A2 list.length c2] w (Made w (fieldsE list sizes) (fieldsB list sizes)) := by
  by_cases h : szs sizes = false ∨ list.length ≠ sizes.length
  · have R := fieldsE_arg h
    rw [R.1, R.2]
    exact join_arg A1 A2 c1 c2 _ sizes list w hs h
  · have h1 : szs sizes = true := by
      cases e : szs sizes
      · exact absurd (Or.inl e) h
      · rfl
    have h2 : list.length = sizes.length := by
      rcases Nat.decEq list.length sizes.length with e | e
      · exact absurd (Or.inr e) h
      · exact e
    exact join_go A1 A2 c1 c2 sizes list w hs hn hb h1 h2

theorem Made.below {w0 w w' : World} {E : Int} {l : List Int} {e : Ending} (h : Made w E l e w') (hb : Below w0.heap.size w0 w) : Made w0 E l e w' := by
  obtain ⟨A, c, he, hc, hi, hw⟩ := h
  exact ⟨A, c, he, hc, hi, hb.trans (hw.mono hb.size)⟩

end Go.Proofs.YtbnhkplhmanmoaaGreat

namespace Go.Proofs.YtbnhkplhmanmoaaGreat
open Go.RowKit

/-- 'Fields'. -/
theorem fields_any (A1 A2 : Option Addr) (c1 c2 : Nat) (sizes list : List Int) (w : World) (hs : Ints w w.heap.size .i64 A1 sizes) (hn : Ints w w.heap.size .u64 A2 list)
    (hb : ∀ z ∈ list, 0 ≤ z ∧ z ≤ 18446744073709551615) :
    Calls Tryz.prog 113 #[.slice A2 list.length c2, .slice A1 sizes.length c1] w (Made w (fieldsE list sizes) (fieldsB list sizes)) := by
  have HJ := Lib.hid (join_any A1 A2 c1 c2 sizes list w hs hn hb)
  clear hb
  go_enter Tryz.func113, Tryz.ntmps113
  go_wp2_with (go_at_call 142; refine Calls.mono HJ.out ?_; rintro e w1 ⟨A, c, rfl, hcap, hi, hbel⟩)
  go_ret2
  exact ⟨A, c, rfl, hcap, hi, hbel⟩

/-- 'Fields', where it refuses nothing: the bytes lie in a row of the call's own. -/
theorem fields_own (A1 A2 : Option Addr) (c1 c2 : Nat) (sizes list : List Int) (w : World) (hs : Ints w w.heap.size .i64 A1 sizes) (hn : Ints w w.heap.size .u64 A2 list)
    (hb : ∀ z ∈ list, 0 ≤ z ∧ z ≤ 18446744073709551615) (hz : szs sizes = true) (hl : list.length = sizes.length) :
    Calls Tryz.prog 113 #[.slice A2 list.length c2, .slice A1 sizes.length c1] w (MadeOwn w (fieldsE list sizes) (fieldsB list sizes)) := by
  have HJ := Lib.hid (join_own A1 A2 c1 c2 sizes list w hs hn hb hz hl)
  clear hb hz hl
  go_enter Tryz.func113, Tryz.ntmps113
  go_wp2_with (go_at_call 142; refine Calls.mono HJ.out ?_; rintro e w1 ⟨A, c, rfl, hcap, hi, hbel, hown⟩)
  go_ret2
  exact ⟨A, c, rfl, hcap, hi, hbel, hown⟩

end Go.Proofs.YtbnhkplhmanmoaaGreat

namespace Go.Proofs.YtbnhkplhmanmoaaGreat
open Go.RowKit

/-- 'Put'. -/
theorem put_any (n s : Int) (w : World) (hn : 0 ≤ n ∧ n ≤ 18446744073709551615) :
    Calls Tryz.prog 116 #[.int .u64 n, .int .i64 s] w (Made w (fieldsE [n] [s]) (fieldsB [n] [s])) := by
  have HJ : ∀ t1 t2 : Nat, Hid (Calls Tryz.prog 142 #[.slice (some ⟨w.heap.size, 0, none⟩) 1 1, .slice (some ⟨w.heap.size + 1, 0, none⟩) 1 1] ((w.alloc (.cells #[.int .i64 s] t1)).alloc (.cells #[.int .u64 n] t2))
      (Made w (fieldsE [n] [s]) (fieldsB [n] [s]))) := fun t1 t2 => by
    have hb : Below w.heap.size w ((w.alloc (.cells #[.int .i64 s] t1)).alloc (.cells #[.int .u64 n] t2)) := ((Below.refl _ _).alloc (Nat.le_refl _) _).alloc (by simp) _
    refine Calls.mono (join_any (some ⟨w.heap.size, 0, none⟩) (some ⟨w.heap.size + 1, 0, none⟩) 1 1 [s] [n] _ ?_ ?_ ?_) fun e w' h => h.below hb
    · exact ((Ints.new w t1 .i64 [s] #[.int .i64 s] rfl).alloc (by simp) _).more (by simp)
    · have := Ints.new (w.alloc (.cells #[.int .i64 s] t1)) t2 .u64 [n] #[.int .u64 n] rfl
      simp only [World.size_alloc] at this ⊢
      exact this
    · intro z hz
      simp only [List.mem_singleton] at hz
      subst hz; exact hn
  go_enter Tryz.func116, Tryz.ntmps116
  go_wp2_with (go_at_call 142; refine Calls.mono (HJ _ _).out ?_; rintro e w1 ⟨A, c, rfl, hcap, hi, hbel⟩)
  go_ret2
  exact ⟨A, c, rfl, hcap, hi, hbel⟩

end Go.Proofs.YtbnhkplhmanmoaaGreat

namespace Go.Proofs.YtbnhkplhmanmoaaGreat
open Go.RowKit

theorem szL_ok : szs szL = true := by decide
theorem num_fields {l : Ln} (hE : encE l = 0) : fieldsE (numL l) szL = 0 ∧ fieldsB (numL l) szL = frontL l := by
  obtain ⟨hr, hk⟩ := encE_zero.1 hE
  obtain ⟨q1, q2, q3, q4, q5, q6, q7⟩ := (rangeL_iff l).1 hr
  have hlast : 0 ≤ lastN l.last ∧ lastN l.last ≤ 1 := by unfold lastN; split <;> decide
  have hf : ∀ (x s m : Int), x ≤ m → m < 256 ^ s.toNat → fitB x s = true := fun x s m h1 h2 => by unfold fitB; exact decide_eq_true (by omega)
  have h0 : fieldsE (numL l) szL = 0 := by
    unfold fieldsE
    rw [if_pos ⟨szL_ok, rfl⟩]
    refine if_pos ?_
    show ((fitB 21324 2 && (fitB l.g 4 && (fitB l.s 4 && (fitB (lastN l.last) 1 && (fitB l.r.k 1 && (fitB l.r.a 7 && (fitB l.r.b 7 && (fitB l.r.c 7 && (fitB l.r.d 7 && (fitB ((l.r.key.size : Nat) : Int) 1 && true)))))))))) = true)
    rw [hf 21324 2 21324 (by omega) (by decide), hf l.g 4 2147483647 (by omega) (by decide), hf l.s 4 2147483647 (by omega) (by decide), hf (lastN l.last) 1 1 (by omega) (by decide), hf l.r.k 1 9 (by omega) (by decide),
      hf l.r.a 7 1099511627776 (by omega) (by decide), hf l.r.b 7 1099511627776 (by omega) (by decide), hf l.r.c 7 1099511627776 (by omega) (by decide), hf l.r.d 7 1099511627776 (by omega) (by decide), hf ((l.r.key.size : Nat) : Int) 1 16 (by omega) (by decide)]
    rfl
  refine ⟨h0, ?_⟩
  unfold fieldsB
  rw [if_pos h0]
  show bytesOf 21324 2 ++ (bytesOf l.g 4 ++ (bytesOf l.s 4 ++ (bytesOf (lastN l.last) 1 ++ (bytesOf l.r.k 1 ++ (bytesOf l.r.a 7 ++ (bytesOf l.r.b 7 ++ (bytesOf l.r.c 7 ++ (bytesOf l.r.d 7 ++ (bytesOf ((l.r.key.size : Nat) : Int) 1 ++ []))))))))) = _
  rw [List.append_nil, show bytesOf 21324 2 = [83, 76] by decide]
  rfl
theorem put_fields {n : Int} (h0 : 0 ≤ n) (h1 : n ≤ 4294967295) : fieldsE [n] [4] = 0 ∧ fieldsB [n] [4] = bytesOf n 4 := by
  have hf : fitB n 4 = true := by
    unfold fitB
    have : (256 : Int) ^ (4 : Int).toNat = 4294967296 := by decide
    exact decide_eq_true (by omega)
  have e : fieldsE [n] [4] = 0 := by
    unfold fieldsE
    rw [if_pos ⟨by decide, rfl⟩]
    refine if_pos ?_
    show ((fitB n 4 && true) = true)
    rw [hf]; rfl
  refine ⟨e, ?_⟩
  unfold fieldsB
  rw [if_pos e]
  show bytesOf n 4 ++ [] = _
  rw [List.append_nil]
theorem over_1 (l : Ln) : overI (List.replicate 64 0) 0 (frontL l) = frontL l ++ List.replicate 23 0 := by
  unfold overI
  rw [frontL_len, List.drop_replicate, List.take_zero, List.nil_append]
theorem over_2 {l : Ln} (hk : l.r.key.size ≤ 19) : overI (frontL l ++ List.replicate 23 0) 41 (keyI l.r.key) = bodyL l ++ List.replicate 4 0 := by
  unfold overI bodyL
  rw [keyI_len, List.take_left' (frontL_len l), List.drop_append, List.drop_eq_nil_of_le (by rw [frontL_len]; omega), List.nil_append, frontL_len, List.drop_replicate, List.append_assoc, List.append_assoc, List.replicate_append_replicate]
  congr 3
  omega
theorem over_3 {l : Ln} (hk : l.r.key.size ≤ 19) : overI (bodyL l ++ List.replicate 4 0) 60 (sumB (bodyL l)) = encB l := by
  unfold overI encB
  rw [sumB_len, List.take_left' (bodyL_len hk), List.drop_eq_nil_of_le (by rw [List.length_append, bodyL_len hk, List.length_replicate]; omega), List.append_nil]

set_option maxHeartbeats 800000 in
set_option maxRecDepth 20000 in
/-- 'Encode', of what is no line. -/
theorem encode_no (l : Ln) (w : World) (hE : encE l ≠ 0) :
    Calls Tryz.prog 80 #[.agg (lnV l)] w fun e w' => ∃ A c, e = .returned (.tuple #[.slice A 0 c, .int .i64 (encE l)]) ∧ Below w.heap.size w w' := by
  have HCK := Lib.hid (fun W => checkL_any l W)
  obtain ⟨E, hEE⟩ : ∃ E, E = encE l := ⟨_, rfl⟩
  rw [← hEE] at hE HCK ⊢
  have hinf : (Tryz.prog.info? 135).map (·.size) = some (lnV l).size := Tryz.infoLine
  have HQ := Lib.hid (heap_alloc_new w (.cells (lnV l) 135))
  have hb := (Below.refl w.heap.size w).alloc (Nat.le_refl _) (.cells (lnV l) 135)
  have e1 : (E != 0) = true := by rw [bne_iff_ne]; exact hE
  obtain ⟨L, hL⟩ : ∃ L, L = lnV l := ⟨_, rfl⟩
  rw [← hL] at hinf HQ HCK hb ⊢
  clear hEE hE hL
  go_enter Tryz.func80, Tryz.ntmps80
  go_wp2_with (first
    | (refine wpList_load_row rfl 135 _ rfl w.heap.size rfl 135 _ (0, 0) _ HQ.out Tryz.underlying135 rfl hinf ?_)
    | (go_at_call 112; with_reducible (refine Calls.mono (HCK.out _) ?_); rintro e w1 ⟨rfl, hb1⟩))
  go_ret2
  exact ⟨_, _, rfl, hb.trans (hb1.mono hb.size)⟩

set_option maxHeartbeats 3200000 in
set_option maxRecDepth 20000 in
/-- 'Encode', of a line. -/
theorem encode_yes (l : Ln) (w : World) (hE : encE l = 0) :
    Calls Tryz.prog 80 #[.agg (lnV l)] w fun e w' => ∃ A c, e = .returned (.tuple #[.slice A 64 c, .int .i64 0]) ∧ 64 ≤ c ∧ c ≤ 9223372036854775807 ∧ GotI w w' A (encB l) ∧ Below w.heap.size w w' := by
  have hk16 := (encE_zero.1 hE).2
  have hk19 : l.r.key.size ≤ 19 := by omega
  obtain ⟨hfE, hfB⟩ := num_fields hE
  have HCK := Lib.hid (fun W => checkL_any l W)
  rw [hE] at HCK
  have HNU := Lib.hid (fun W => numbers_any l W hE)
  have HNB : ∀ z ∈ numL l, 0 ≤ z ∧ z ≤ 18446744073709551615 := fun z hz => by
    have ht := tailL_at hE
    rcases List.mem_cons.1 hz with rfl | hz
    · decide
    · obtain ⟨i, hi, rfl⟩ := List.getElem_of_mem hz
      have := ht i (by simpa [tailL] using hi)
      rw [List.getD_eq_getElem?_getD, List.getElem?_eq_getElem hi] at this
      simp only [Option.getD_some] at this
      omega
  have HFI : Hid (∀ (W : World) A c, Ints W W.heap.size .u64 A (numL l) → Calls Tryz.prog 113 #[.slice A 10 c, .slice (some ⟨W.heap.size, 0, none⟩) 10 10] (W.alloc (.cells (ICs szL) 3)) fun e w' => ∃ A c, e = .returned (.tuple #[.slice A 41 c, .int .i64 0]) ∧ Ints w' w'.heap.size .u8 A (frontL l) ∧ Below W.heap.size W w') := fun W A c hi => by
    have hb : Below W.heap.size W (W.alloc (.cells (ICs szL) 3)) := (Below.refl _ _).alloc (Nat.le_refl _) _
    have h := fields_any (some ⟨W.heap.size, 0, none⟩) A 10 c szL (numL l) _ (IRow.new W 3 szL).ints ((hi.below hb).more hb.size) HNB
    rw [hfE, hfB] at h
    refine h.mono fun e w' ⟨A', c', h1, _, h3, h4⟩ => ⟨A', c', by rw [frontL_len] at h1; exact h1, h3, hb.trans (h4.mono hb.size)⟩
  have hsum := moreN_lt 0 (nb (bodyL l))
  obtain ⟨sm, hsm⟩ : ∃ s : Int, s = ((moreN 0 (nb (bodyL l)) : Nat) : Int) := ⟨_, rfl⟩
  have hsm1 : 0 ≤ sm ∧ sm ≤ 4294967295 := by omega
  have hsB : sumB (bodyL l) = bytesOf sm 4 := by rw [hsm]; rfl
  have HPU : Hid (∀ W, Calls Tryz.prog 116 #[.int .u64 sm, .int .i64 4] W fun e w' => ∃ A c, e = .returned (.tuple #[.slice A 4 c, .int .i64 0]) ∧ Ints w' w'.heap.size .u8 A (sumB (bodyL l)) ∧ Below W.heap.size W w') := fun W => by
    have h := put_any sm 4 W (by omega)
    rw [(put_fields hsm1.1 hsm1.2).1, (put_fields hsm1.1 hsm1.2).2, ← hsB] at h
    refine h.mono fun e w' ⟨A', c', h1, _, h3, h4⟩ => ⟨A', c', by rw [sumB_len] at h1; exact h1, h3, h4⟩
  have HSU : Hid (∀ (W : World) g, BtRow 5 g (bodyL l ++ List.replicate 4 0) W → Calls Tryz.prog 117 #[.slice (some ⟨g, 0, none⟩) 60 64] W fun e w' => e = .returned (.int .u32 sm) ∧ Below W.heap.size W w') := fun W g h => by
    have hi := h.ints.take 60
    rw [List.take_left' (bodyL_len hk19)] at hi
    have := crcSum_any (some ⟨g, 0, none⟩) 64 (bodyL l) W hi (bodyL_mem l) (by rw [bodyL_len hk19]; omega) (by rw [bodyL_len hk19]; omega)
    rw [bodyL_len hk19, ← hsm] at this
    exact this
  have HV1 := Lib.hid (over_1 l)
  have HV2 : Hid (overI (frontL l ++ List.replicate 23 0) 41 (strI l.r.key) = bodyL l ++ List.replicate 4 0) := over_2 hk19
  have HV3 := Lib.hid (over_3 hk19)
  have hmk : ∀ w : World, (Instr.makeSlice 54 (.int .i64 64) (.int .i64 64)).run Tryz.prog w = .ok (.slice (some ⟨w.heap.size, 0, none⟩) 64 64) (w.alloc (.cells (UB (List.replicate 64 0)) 5)) := makeBytes 64 (by decide)
  have hn1 : (frontL l).length = 41 := frontL_len l
  have hn2 : (sumB (bodyL l)).length = 4 := sumB_len _
  have hn3 : (encB l).length = 64 := encB_len hE
  have m0 : (List.replicate 64 (0 : Int)).length = 64 := by simp
  have m1 : (frontL l ++ List.replicate 23 (0 : Int)).length = 64 := by simp [hn1]
  have m2 : (bodyL l ++ List.replicate 4 (0 : Int)).length = 64 := by rw [List.length_append, bodyL_len hk19, List.length_replicate]
  obtain ⟨O0, hO0⟩ : ∃ O, O = List.replicate 64 (0 : Int) := ⟨_, rfl⟩
  obtain ⟨O1, hO1⟩ : ∃ O, O = frontL l ++ List.replicate 23 (0 : Int) := ⟨_, rfl⟩
  obtain ⟨O2, hO2⟩ : ∃ O, O = bodyL l ++ List.replicate 4 (0 : Int) := ⟨_, rfl⟩
  obtain ⟨O3, hO3⟩ : ∃ O, O = encB l := ⟨_, rfl⟩
  obtain ⟨F, hF⟩ : ∃ O, O = frontL l := ⟨_, rfl⟩
  obtain ⟨S, hS⟩ : ∃ O, O = sumB (bodyL l) := ⟨_, rfl⟩
  rw [← hO0, ← hO1, ← hF] at HV1
  rw [← hO1, ← hO2] at HV2
  rw [← hO2, ← hO3, ← hS] at HV3
  rw [← hO0] at hmk m0
  rw [← hO1] at m1
  rw [← hO2] at m2 HSU
  rw [← hF] at HFI hn1
  rw [← hS] at HPU hn2
  rw [← hO3] at hn3 ⊢
  have M0 := Lib.hid m0
  have M1 := Lib.hid m1
  have M3 := Lib.hid hn3
  have M2 := Lib.hid m2
  have N1 := Lib.hid hn1
  have N2 := Lib.hid hn2
  have hinf : (Tryz.prog.info? 135).map (·.size) = some (lnV l).size := Tryz.infoLine
  obtain ⟨key, hkey⟩ : ∃ k, k = l.r.key := ⟨_, rfl⟩
  have HKEY : Hid (∀ V : World, V.heap[w.heap.size]? = some (.cells (lnV l) 135 (0, 0)) → V.cell? ⟨w.heap.size, 8, none⟩ = some (.string key)) := fun V h => by rw [cell_of_row _ _ _ _ _ _ h, hkey]; rfl
  rw [← hkey] at HV2 hk19
  have HQ : Hid (∀ V, Below (w.heap.size + 1) (w.alloc (.cells (lnV l) 135)) V → V.heap[w.heap.size]? = some (.cells (lnV l) 135 (0, 0))) := fun V h => (h.block _ (Nat.lt_succ_self _)).trans (heap_alloc_new _ _)
  have b0 : Below (w.heap.size + 1) (w.alloc (.cells (lnV l) 135)) (w.alloc (.cells (lnV l) 135)) := Below.refl _ _
  have hsz : w.heap.size + 1 ≤ (w.alloc (.cells (lnV l) 135)).heap.size := by simp
  have hbw : Below w.heap.size w (w.alloc (.cells (lnV l) 135)) := (Below.refl _ _).alloc (Nat.le_refl _) _
  have hwr : IntKind.u64.wrap sm = sm := IntWalk.u64_in _ (by omega)
  have hsi := fun W => sizes_any W
  have HSI := Lib.hid hsi
  obtain ⟨L, hL⟩ : ∃ L, L = lnV l := ⟨_, rfl⟩
  simp only [← hL] at hinf HQ HCK HNU HKEY b0 hsz hbw
  rw [← hL]
  obtain ⟨Z, hZ⟩ : ∃ Z, Z = ICs szL := ⟨_, rfl⟩
  simp only [← hZ] at HFI HSI
  clear hsi hL hkey hO0 hO1 hO2 hO3 hF hS m0 m1 m2 hn1 hn2 hn3 hsB hsum hsm hfE hfB HNB hE hk16 hsm1 hZ
  go_enter Tryz.func80, Tryz.ntmps80
  go_wp2_with (first
    | (refine wpList_load_row rfl 135 _ rfl w.heap.size rfl 135 _ (0, 0) _ (HQ.out _ b0) Tryz.underlying135 rfl hinf ?_)
    | (go_at_call 112; with_reducible (refine Calls.mono (HCK.out _) ?_); rintro e w1 ⟨rfl, hb1⟩; have b1 := b0.trans (hb1.mono hsz); have s1 := Nat.le_trans hsz hb1.size; clear b0 HCK)
    | (refine wpList_load_row rfl 135 _ rfl w.heap.size rfl 135 _ (0, 0) _ (HQ.out _ b1) Tryz.underlying135 rfl hinf ?_)
    | (go_at_call 114; with_reducible (refine Calls.mono (HNU.out _) ?_); rintro e w2 ⟨A2, c2, rfl, hi2, hb2⟩; have b2 := b1.trans (hb2.mono s1); have s2 := Nat.le_trans s1 hb2.size; clear b1 HNU)
    | (go_at_call 115; with_reducible (refine Calls.mono (HSI.out _) ?_); rintro e wq ⟨rfl, rfl⟩)
    | (go_at_call 113; with_reducible (refine Calls.mono (HFI.out w2 A2 c2 hi2) ?_); rintro e w3 ⟨A3, c3, rfl, hi3, hb3⟩; have b3 := b2.trans (hb3.mono s2); have s3 := Nat.le_trans s2 hb3.size; clear b2 HFI)
    | (have hguard := hi3; clear hguard; with_reducible (refine wpList_copy_ints rfl _ _ rfl w3.heap.size 0 64 64 A3 41 c3 rfl rfl F O0 O1 N1.out (by decide) 5 (BtRow.new w3 5 O0) _ (hi3.below ((Below.refl _ _).alloc (Nat.le_refl _) _)) (by rw [M0.out]; decide) HV1.out (w.heap.size + 1) _ (b3.alloc s3 _) s3 ?_); intro w4 hr4 b4; have hr4' := Lib.hid hr4; clear hr4 hi3))
  have hcell := HKEY.out w4 (HQ.out w4 b4)
  have hle : key.size ≤ 23 := by omega
  have hft : 41 + key.size ≤ O1.length := by rw [M1.out]; omega
  have hb4 := b4.drew
  simp only [Act.put, List.setIfInBounds_toArray, List.set_cons_succ, List.set_cons_zero]
  go_region_law (refine step_copy_text rfl (.tmp 27) (.tmp 30) rfl w3.heap.size 41 23 23 key rfl rfl O1 O2 hle 5 hr4'.out hft HV2.out (w.heap.size + 1) (w.alloc (.cells L 135)) hb4 s3 ?_; intro w5 hr5 b5)
  all_goals
    have s5 := Nat.le_trans hsz b5.size
    have l5 := hr5.out.lt
    clear hcell hr4' b4 hb4 hle hft HKEY hmk
    go_wp2_with (first
      | (go_at_call 117; with_reducible (refine Calls.mono (HSU.out w5 w3.heap.size hr5.out) ?_); rintro e w6 ⟨rfl, hb6⟩; have b6 := b5.trans (hb6.mono s5); have s6 := Nat.le_trans s5 hb6.size; have l6 := Nat.lt_of_lt_of_le l5 hb6.size; have hr6 := Lib.hid (hr5.out.below hb6 l5); clear HSU)
      | (go_at_call 116; with_reducible (refine Calls.mono (HPU.out _) ?_); rintro e w7 ⟨A7, c7, rfl, hi7, hb7⟩; have b7 := b6.trans (hb7.mono s6); have hr7 := Lib.hid (hr6.out.below hb7 l6); clear HPU)
      | (have hguard := hi7; clear hguard; with_reducible (refine wpList_copy_ints rfl _ _ rfl w3.heap.size 60 4 4 A7 4 c7 rfl rfl S O2 O3 N2.out (by decide) 5 hr7.out _ hi7 (by rw [M2.out]; decide) HV3.out (w.heap.size + 1) _ b7 s3 ?_); intro w8 hr8 b8; have hr8' := Lib.hid hr8; clear hr8 hi7))
    go_wp2
    go_ret2
    have hr := hr8'.out
    have hl := M3.out
    refine ⟨_, _, rfl, by decide, by decide, ⟨w3.heap.size, 0, rfl, by omega, hr.lt, fun i hi => ?_⟩, hbw.trans (b8.mono (Nat.le_succ _))⟩
    rw [Nat.zero_add]
    exact ⟨hr.cell hi, hr.thaw i⟩

end Go.Proofs.YtbnhkplhmanmoaaGreat
