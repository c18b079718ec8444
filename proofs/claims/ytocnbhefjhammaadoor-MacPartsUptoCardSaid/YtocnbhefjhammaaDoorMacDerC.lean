/-
  The layer mac: a key for a purpose.
-/
import Derived.Test.YtocnbhefjhammaaDoorMacCode
namespace Go.Proofs.YtocnbhefjhammaaDoor
open Go.RowKit

theorem bytes_eight (m : Nat) : bytesOf (m : Int) (8 : Int).toNat = up (eightTo m 8) := by
  unfold bytesOf bytesTo eightTo up
  rw [List.map_map]
  apply List.map_congr_left
  intro i hi
  simp only [Function.comp_apply]
  rw [show (8 : Int).toNat - 1 - i = 7 - i from rfl, Int.natCast_emod, Int.natCast_ediv, Int.natCast_pow]
  rfl
theorem put_eight (n : Int) : fieldsE [n % 18446744073709551616] [8] = 0 ∧ fieldsB [n % 18446744073709551616] [8] = up (eightN n) := by
  have h1 : szs [8] = true := by decide
  have hf : fitB (n % 18446744073709551616) 8 = true := by
    unfold fitB
    have : (256 : Int) ^ (8 : Int).toNat = 18446744073709551616 := by decide
    rw [this, decide_eq_true_eq]; omega
  have e : fieldsE [n % 18446744073709551616] [8] = 0 := by
    unfold fieldsE
    rw [if_pos ⟨h1, rfl⟩, if_pos (by simp only [List.zip_cons_cons, List.zip_nil_right, List.all_cons, List.all_nil, Bool.and_true]; exact hf)]
  refine ⟨e, ?_⟩
  unfold fieldsB
  rw [if_pos e]
  simp only [List.zip_cons_cons, List.zip_nil_right, List.flatMap_cons, List.flatMap_nil, List.append_nil]
  have hm : ((n % 18446744073709551616).toNat : Int) = n % 18446744073709551616 := by omega
  rw [← hm, bytes_eight]
  simp only [eightN]
theorem eightN_len (n : Int) : (eightN n).length = 8 := rfl

theorem derive_code {w0 : World} (HC : CodeSpec w0) (A0 : Option Addr) (c0 : Nat) (key : List Nat) (s : ByteArray) (n : Int) (w w1 : World) (hw0 : Below w0.heap.size w0 w) (hr : Ints w w.heap.size .u8 A0 (up key)) (hA : A0 = none → c0 = 0) (hb : ∀ b ∈ key, b < 256) (hc : key.length ≤ c0) (hm : key.length ≤ 140737488355000) (hs : s.size ≤ 140737488354000)
    (A1 : Option Addr) (c1 : Nat) (hc1 : 8 ≤ c1) (hi1 : Ints w1 w1.heap.size .u8 A1 (up (eightN n))) (hb1 : Below w.heap.size w w1) (e1 e2 : TypeId) :
    Calls Tryd.prog 8 #[.slice A0 key.length c0, .slice (some ⟨(Lib.bytesWorld w1 5 s).heap.size + 1, 0, none⟩) 3 3]
      (((Lib.bytesWorld w1 5 s).alloc (.cells #[.int .u8 0] e1)).alloc (.cells #[.slice (some ⟨w1.heap.size, 0, none⟩) s.size (grownCap w1 s.size 0 5), .slice (some ⟨(Lib.bytesWorld w1 5 s).heap.size, 0, none⟩) 1 1, .slice A1 8 c1] e2))
      fun e w' => e = .returned (.agg (BA (macN key (textN s ++ [0] ++ eightN n)))) ∧ Below w.heap.size w w' := by
  obtain ⟨hroom, hbB⟩ := room_of_text w1 5 s (by unfold maxLen; omega)
  obtain ⟨AT, cT, hv, hcT, hiT, hnT⟩ := hroom.form
  injection hv with hv1 hv2 hv3
  obtain ⟨B, hB⟩ : ∃ B, B = Lib.bytesWorld w1 5 s := ⟨_, rfl⟩
  rw [← hB] at hiT hbB ⊢
  have hbw : Below w.heap.size w B := hb1.trans (hbB.mono hb1.size)
  have hT : s.data.toList.map UInt8.toNat = textN s := rfl
  rw [hT] at hiT hcT
  have htl := textN_len s
  have hX := fun (k : IntKind) (A : Option Addr) (zs : List Int) (h : Ints B B.heap.size k A zs) (o1 o2 : Obj) => ((h.alloc (Nat.le_refl _) o1).alloc (by simp) o2).more (show B.heap.size ≤ ((B.alloc o1).alloc o2).heap.size by simp; omega)
  have h0 : Ints (B.alloc (.cells #[.int .u8 0] e1)) (B.heap.size + 1) .u8 (some ⟨B.heap.size, 0, none⟩) (up [0]) := Ints.new B e1 .u8 (up [0]) _ rfl
  have hcat : cat [⟨some ⟨w1.heap.size, 0, none⟩, grownCap w1 s.size 0 5, textN s⟩, ⟨some ⟨B.heap.size, 0, none⟩, 1, [0]⟩, ⟨A1, c1, eightN n⟩] = textN s ++ [0] ++ eightN n := by simp [cat]
  have H := HC A0 c0 key (some ⟨B.heap.size + 1, 0, none⟩) 3 [⟨some ⟨w1.heap.size, 0, none⟩, grownCap w1 s.size 0 5, textN s⟩, ⟨some ⟨B.heap.size, 0, none⟩, 1, [0]⟩, ⟨A1, c1, eightN n⟩]
    ((B.alloc (.cells #[.int .u8 0] e1)).alloc (.cells #[.slice (some ⟨w1.heap.size, 0, none⟩) s.size (grownCap w1 s.size 0 5), .slice (some ⟨B.heap.size, 0, none⟩) 1 1, .slice A1 8 c1] e2))
    (hw0.trans (((hbw.alloc hbw.size _).alloc (by have := hbw.size; simp; omega) _).mono hw0.size))
    (((hr.below ((hbw.alloc hbw.size _).alloc (by have := hbw.size; simp; omega) _))).more (by have := hbw.size; simp; omega)) hA hb hc hm
    (parts_of_row (heap_alloc_new' _ _ _ (by simp)) (by simp [htl, eightN_len]) (fun p hp => by
      simp only [List.mem_cons, List.not_mem_nil, or_false] at hp
      rcases hp with rfl | rfl | rfl
      · exact ⟨hX _ _ _ (by rw [hv1]; exact hiT) _ _, (fun h => by cases h), textN_lt s, by show (textN s).length ≤ grownCap w1 s.size 0 5; rw [hv3]; exact hcT⟩
      · exact ⟨(h0.alloc (by simp) _).more (by simp), (fun h => by cases h), (by simp), Nat.le_refl _⟩
      · exact ⟨hX _ _ _ ((hi1.below hbB).more hbB.size) _ _, nil_of_ints hi1 (by rw [up_len, eightN_len]; decide), eightN_lt n, by show (eightN n).length ≤ c1; rw [eightN_len]; exact hc1⟩))
    (by simp) (by simp) (by rw [hcat, List.length_append, List.length_append, htl, eightN_len]; simp; omega)
  rw [hcat] at H
  refine H.mono fun e w' ⟨h1, h2⟩ => ⟨h1, ?_⟩
  exact ((hbw.alloc hbw.size _).alloc (by have := hbw.size; simp; omega) _).trans (h2.mono (by have := hbw.size; simp; omega))

set_option maxHeartbeats 1600000 in
set_option maxRecDepth 100000 in
/-- 'Derive'. -/
theorem mac_derive {w0 : World} (h : Laid w0) : DeriveSpec w0 := fun A0 c0 key s n w hw0 hr hA hb hc hm hs hn1 hn2 => by
  have HP : Hid (Calls Tryd.prog 20 #[.int .u64 (n % 18446744073709551616), .int .i64 8] w fun e w' => ∃ A c, e = .returned (.tuple #[.slice A 8 c, .int .i64 0]) ∧ 8 ≤ c ∧ Ints w' w'.heap.size .u8 A (up (eightN n)) ∧ Below w.heap.size w w') := by
    have := put_any (n % 18446744073709551616) 8 w (by omega)
    rw [(put_eight n).1, (put_eight n).2] at this
    exact this.mono fun e w' ⟨A, c, h1, h2, h3, h4⟩ => ⟨A, c, by rw [h1, up_len, eightN_len], by rw [up_len, eightN_len] at h2; exact h2, h3, h4⟩
  have kc := fun (w : World) => Lib.run_convert_string_bytes (P := Tryd.prog) w 9 22 5 s Tryd.underlying9 Tryd.underlying22 Tryd.underlying5
  have HC := Lib.hid (fun (w1 : World) A1 c1 hc1 hi1 hb1 e1 e2 => derive_code (mac_code h) A0 c0 key s n w w1 hw0 hr hA hb hc hm hs A1 c1 hc1 hi1 hb1 e1 e2)
  have v1 : IntKind.u64.wrap n = n % 18446744073709551616 := by rw [IntKind.wrap_u64]
  have HDER : Hid ((macN key (textN s ++ [0] ++ eightN n)).take 16 = deriveN key (textN s) n) := rfl
  have hu := Tryd.underlying24
  have hz := (zero_of_info (P := Tryd.prog) (t := 24) (v := .agg zero32) (n := 32) (by kernel_rfl)).1
  have hlm : (macN key (textN s ++ [0] ++ eightN n)).length = 32 := macN_len _ _
  have him : (Tryd.prog.info? 24).map (·.size) = some (BA (macN key (textN s ++ [0] ++ eightN n))).size := by rw [BA_size, hlm]; kernel_rfl
  have hzm : zero32.size = (BA (macN key (textN s ++ [0] ++ eightN n))).size := by rw [BA_size, hlm]; rfl
  have h1m := BA_one (macN key (textN s ++ [0] ++ eightN n))
  obtain ⟨X, hX⟩ : ∃ X, X = macN key (textN s ++ [0] ++ eightN n) := ⟨_, rfl⟩
  rw [← hX] at him hzm h1m HDER
  simp only [← hX] at HC
  obtain ⟨Z, hZ⟩ : ∃ Z, Z = zero32 := ⟨_, rfl⟩
  rw [← hZ] at hz hzm
  clear hr hA hb h hX hZ hlm hw0 hn1 hn2 hc
  go_enter Tryd.func12, Tryd.ntmps12
  go_wp2_with (first
    | (go_at_call 20; with_reducible (refine Calls.mono HP.out ?_); rintro e w1 ⟨A1, c1, rfl, hc1, hi1, hb1⟩)
    | (go_at_call 8; with_reducible (refine Calls.mono (HC.out w1 A1 c1 hc1 hi1 hb1 _ _) ?_); rintro e w2 ⟨rfl, hb2⟩)
    | (refine wpList_store_fresh rfl 24 _ _ rfl w2.heap.size (BA X) rfl rfl 24 Z (heap_alloc_new _ _) him hzm h1m (hb2.alloc hb2.size _) hb2.size ?_; intro W hW hbW hkW hsW; clear hkW; simp only [World.size_alloc] at hsW))
  go_ret
  refine ⟨_, _, rfl, by omega, ?_, hbW⟩
  rw [← HDER.out]
  have h := (ints_of_BA (B := W.heap.size) hW (by omega)).take 16
  rw [show (up X).take 16 = up (X.take 16) by simp [up]] at h
  exact h

end Go.Proofs.YtocnbhefjhammaaDoor
