/-
  What sealing is, as lists of numbers: the errors, the tag, what is sealed. Equal texts, equal numbers. What is asked of the layer seal, as properties of its calls; the law's own 'awake' from these.
-/
import Derived.Test.YtanpfodmmeagaaaDoorAesBlkG
import Derived.Test.YtanpfodmmeagaaaDoorShaNumsG
import Derived.Test.YtanpfodmmeagaaaDoorWordsG
import Derived.Lib.Bytes
import Derived.Deep.RegionWith
import Derived.Deep.OwnRows
import Derived.Deep.RegionHeld3
namespace Go.Proofs.YtanpfodmmeagaaaDoor
open Go.RowKit

/-- Which error: of a key of so many bytes, a text of so many, the head's numbers. -/
def sealE (ks tl : Nat) (t v b s r : Int) : Int := if ks = 16 ∧ tl = 64 then (if t < 0 ∨ v < 0 ∨ b < 0 ∨ s < 0 ∨ r < 0 then 7 else 0) else 1
def cipherP : List Nat := [99, 105, 112, 104, 101, 114]
def tagP : List Nat := [116, 97, 103]
def headN (t v b s r : Int) : List Nat := eightN t ++ eightN v ++ eightN b ++ eightN s ++ eightN r
def sealN (key : List Nat) (t s r : Int) (text : List Nat) : List Nat := applyN (deriveN key cipherP t) (counterOf s r) text
def tagN (key : List Nat) (t v b s r : Int) (sealed : List Nat) : List Nat := (macN (deriveN key tagP t) (headN t v b s r ++ sealed)).take 16
theorem deriveN_len (key p : List Nat) (n : Int) : (deriveN key p n).length = 16 := by unfold deriveN; rw [List.length_take, macN_len]; rfl
theorem deriveN_lt (key p : List Nat) (n : Int) : ∀ x ∈ deriveN key p n, x < 256 := fun x hx => macN_lt _ _ x (List.mem_of_mem_take hx)
theorem tagN_len (key : List Nat) (t v b s r : Int) (x : List Nat) : (tagN key t v b s r x).length = 16 := by unfold tagN; rw [List.length_take, macN_len]; rfl
theorem tagN_lt (key : List Nat) (t v b s r : Int) (x : List Nat) : ∀ y ∈ tagN key t v b s r x, y < 256 := fun y hy => macN_lt _ _ y (List.mem_of_mem_take hy)
theorem counterOf_ok (s v : Int) : Ok16 (counterOf s v) := ⟨rfl, fun x hx => by
  unfold counterOf counterN at hx
  rcases List.mem_append.1 hx with hx | hx
  · rcases List.mem_append.1 hx with hx | hx
    · exact eightN_lt s x (List.mem_of_mem_drop hx)
    · exact eightN_lt v x hx
  · simp at hx; omega⟩
theorem sealN_len (key : List Nat) (t s r : Int) (x : List Nat) : (sealN key t s r x).length = x.length := applyN_len _ _ _
theorem sealN_lt (key : List Nat) (t s r : Int) {x : List Nat} (hx : ∀ y ∈ x, y < 256) : ∀ y ∈ sealN key t s r x, y < 256 := applyN_lt (deriveN_lt _ _ _) _ hx
theorem sealN_back (key : List Nat) (t s r : Int) (x : List Nat) : sealN key t s r (sealN key t s r x) = x := applyN_back _ _ _
theorem headN_len (t v b s r : Int) : (headN t v b s r).length = 40 := rfl
theorem headN_lt (t v b s r : Int) : ∀ x ∈ headN t v b s r, x < 256 := fun x hx => by
  unfold headN at hx
  simp only [List.mem_append] at hx
  rcases hx with (((hx | hx) | hx) | hx) | hx
  · exact eightN_lt t x hx
  · exact eightN_lt v x hx
  · exact eightN_lt b x hx
  · exact eightN_lt s x hx
  · exact eightN_lt r x hx

end Go.Proofs.YtanpfodmmeagaaaDoor

namespace Go.Proofs.YtanpfodmmeagaaaDoor
open Go.RowKit

theorem strOfNums_up {a b : List Nat} (ha : ∀ x ∈ a, x < 256) (hb : ∀ x ∈ b, x < 256) (h : (strOfNums (up a)).toList = (strOfNums (up b)).toList) : a = b := by
  rw [Lib.strOfNums_toList, Lib.strOfNums_toList] at h
  have e : ∀ l : List Nat, (∀ x ∈ l, x < 256) → (Lib.bytesOf (up l)).map UInt8.toNat = l := fun l hl => by
    unfold Lib.bytesOf up
    rw [List.map_map, List.map_map]
    conv => rhs; rw [← List.map_id l]
    apply List.map_congr_left
    intro x hx
    simp [Nat.mod_eq_of_lt (hl x hx)]
  rw [← e a ha, ← e b hb, h]
theorem text_apart {x y : List Nat} (hx : ∀ z ∈ x, z < 256) (hy : ∀ z ∈ y, z < 256) : ((strOfNums (up x)).toList == (strOfNums (up y)).toList) = (x == y) := by
  by_cases h : x = y
  · rw [h, beq_self_eq_true, beq_self_eq_true]
  · rw [beq_eq_false_iff_ne.2 h, beq_eq_false_iff_ne.2 (fun hh => h (strOfNums_up hx hy hh))]

end Go.Proofs.YtanpfodmmeagaaaDoor

namespace Go.Proofs.YtanpfodmmeagaaaDoor
open Go.RowKit

def I64 (n : Int) : Prop := -9223372036854775808 ≤ n ∧ n ≤ 9223372036854775807
/-- The tag's text. -/
def tagS (key : ByteArray) (t v b s r : Int) (x : List Nat) : ByteArray := strOfNums (up (tagN (textN key) t v b s r x))
structure SealSpec (w0 : World) : Prop where
  sealGo : ∀ (key g : ByteArray) (t v b s r : Int) (A : Option Addr) (c : Nat) (x : List Nat) (w : World), Below w0.heap.size w0 w → I64 t → I64 v → I64 b → I64 s → I64 r → Ints w w.heap.size .u8 A (up x) → (∀ y ∈ x, y < 256) → x.length ≤ c → sealE key.size x.length t v b s r = 0 →
    Calls Tryd.prog 8 #[.string key, .agg #[.int .i64 t, .int .i64 v, .int .i64 b, .int .i64 s, .int .i64 r, .string g], .slice A x.length c] w fun e w' =>
      ∃ A' c', e = .returned (.tuple #[.slice A' 64 c', .string (tagS key t v b s r (sealN (textN key) t s r x)), .int .i64 0]) ∧ 64 ≤ c' ∧ Ints w' w'.heap.size .u8 A' (up (sealN (textN key) t s r x)) ∧ Below w.heap.size w w'
  sealNo : ∀ (key g : ByteArray) (t v b s r : Int) (A : Option Addr) (c : Nat) (x : List Nat) (w : World), Below w0.heap.size w0 w → I64 t → I64 v → I64 b → I64 s → I64 r → Ints w w.heap.size .u8 A (up x) → (∀ y ∈ x, y < 256) → x.length ≤ c → x.length ≤ 140737488355328 → key.size ≤ maxLen → sealE key.size x.length t v b s r ≠ 0 →
    Calls Tryd.prog 8 #[.string key, .agg #[.int .i64 t, .int .i64 v, .int .i64 b, .int .i64 s, .int .i64 r, .string g], .slice A x.length c] w fun e w' =>
      ∃ A' c', e = .returned (.tuple #[.slice A' 0 c', .string ⟨#[]⟩, .int .i64 (sealE key.size x.length t v b s r)]) ∧ Below w.heap.size w w'
  openGo : ∀ (key : ByteArray) (t v b s r : Int) (A : Option Addr) (c : Nat) (x : List Nat) (w : World), Below w0.heap.size w0 w → I64 t → I64 v → I64 b → I64 s → I64 r → Ints w w.heap.size .u8 A (up x) → (∀ y ∈ x, y < 256) → x.length ≤ c → sealE key.size x.length t v b s r = 0 →
    Calls Tryd.prog 11 #[.string key, .agg #[.int .i64 t, .int .i64 v, .int .i64 b, .int .i64 s, .int .i64 r, .string (tagS key t v b s r x)], .slice A x.length c] w fun e w' =>
      ∃ A' c', e = .returned (.tuple #[.slice A' 64 c', .int .i64 0]) ∧ 64 ≤ c' ∧ Ints w' w'.heap.size .u8 A' (up (sealN (textN key) t s r x)) ∧ Below w.heap.size w w'
  openTag : ∀ (key g : ByteArray) (t v b s r : Int) (A : Option Addr) (c : Nat) (x : List Nat) (w : World), Below w0.heap.size w0 w → I64 t → I64 v → I64 b → I64 s → I64 r → Ints w w.heap.size .u8 A (up x) → (∀ y ∈ x, y < 256) → x.length ≤ c → g.size ≤ maxLen → sealE key.size x.length t v b s r = 0 → g ≠ tagS key t v b s r x →
    Calls Tryd.prog 11 #[.string key, .agg #[.int .i64 t, .int .i64 v, .int .i64 b, .int .i64 s, .int .i64 r, .string g], .slice A x.length c] w fun e w' =>
      ∃ A' c', e = .returned (.tuple #[.slice A' 0 c', .int .i64 9]) ∧ Below w.heap.size w w'
  openNo : ∀ (key g : ByteArray) (t v b s r : Int) (A : Option Addr) (c : Nat) (x : List Nat) (w : World), Below w0.heap.size w0 w → I64 t → I64 v → I64 b → I64 s → I64 r → Ints w w.heap.size .u8 A (up x) → (∀ y ∈ x, y < 256) → x.length ≤ c → x.length ≤ 140737488355328 → key.size ≤ maxLen → g.size ≤ maxLen → sealE key.size x.length t v b s r ≠ 0 →
    Calls Tryd.prog 11 #[.string key, .agg #[.int .i64 t, .int .i64 v, .int .i64 b, .int .i64 s, .int .i64 r, .string g], .slice A x.length c] w fun e w' =>
      ∃ A' c', e = .returned (.tuple #[.slice A' 0 c', .int .i64 (sealE key.size x.length t v b s r)]) ∧ Below w.heap.size w w'

def zero64L : List Nat := List.replicate 64 0
theorem wake_text : sealN [48, 49, 50, 51, 52, 53, 54, 55, 56, 57, 97, 98, 99, 100, 101, 102] 1 0 1 zero64L ≠ zero64L := by decide +kernel

def wakeK : ByteArray := ⟨#[48, 49, 50, 51, 52, 53, 54, 55, 56, 57, 97, 98, 99, 100, 101, 102]⟩
def wakeS : List Nat := sealN [48, 49, 50, 51, 52, 53, 54, 55, 56, 57, 97, 98, 99, 100, 101, 102] 1 0 1 zero64L
theorem wakeK_text : textN wakeK = [48, 49, 50, 51, 52, 53, 54, 55, 56, 57, 97, 98, 99, 100, 101, 102] := rfl
theorem zero64L_lt : ∀ y ∈ zero64L, y < 256 := by decide
theorem wakeS_len : wakeS.length = 64 := by unfold wakeS; rw [sealN_len]; rfl
theorem wakeS_lt : ∀ y ∈ wakeS, y < 256 := sealN_lt _ _ _ _ zero64L_lt
theorem i64_small {n : Int} (h : n = 0 ∨ n = 1) : I64 n := by unfold I64; omega
theorem lt_row {w : World} {g : Nat} {o : Obj} (h : w.heap[g]? = some o) : g < w.heap.size := by
  by_cases hlt : g < w.heap.size
  · exact hlt
  · have hn : w.heap[g]? = none := by simp; omega
    rw [hn] at h
    cases h
theorem al1 {W w : World} {o : Obj} (h : Below W.heap.size W w) : Below W.heap.size W (w.alloc o) := h.alloc h.size _

theorem new_drew (W : World) (o : Obj) : (W.alloc o).drew.heap[W.heap.size]? = some o :=
  (((Below.refl (W.alloc o).heap.size (W.alloc o)).drew).block _ (lt_row (heap_alloc_new _ _))).trans (heap_alloc_new _ _)

theorem zero64_at {w : World} {B b o : Nat} (h : Ints w B .u8 (some ⟨b, o, none⟩) (up zero64L)) : w.cell? ⟨b, o, none⟩ = some (.int .u8 0) := by
  have h0 := h.cell (i := 0) (by decide)
  rw [Nat.add_zero, show (up zero64L).getD 0 0 = 0 from rfl] at h0
  exact h0
theorem ints_sixth {w : World} {B g : Nat} {A : Option Addr} {l : List Nat} {cs : Array Value} {t : TypeId} {fr : Nat × Nat} (h : Ints w B .u8 A (up l)) (hg : w.heap[g]? = some (.cells cs t fr)) (hl : cs.size < l.length) (q : Nat) (v : Value) : Ints (w.setCell ⟨g, q, none⟩ v) B .u8 A (up l) := by
  obtain ⟨b, o, rfl, _, hc⟩ := h.at_ (by rw [up_len]; omega)
  have hne : b ≠ g := by
    intro hbg
    subst hbg
    have h1 := hc (l.length - 1) (by rw [up_len]; omega)
    rw [cell_of_row _ _ _ _ _ _ hg, Array.getElem?_eq_none (by omega)] at h1
    cases h1
  intro k hk
  obtain ⟨b', o', e, hb, hc'⟩ := h k hk
  refine ⟨b', o', e, hb, ?_⟩
  injection e with e
  injection e with e1 e2
  rw [World.cell?_setCell_other _ _ _ _ (by intro e9; injection e9 with e9; omega), hc']

set_option maxHeartbeats 1600000 in
set_option maxRecDepth 20000 in
theorem sealAwake {w0 : World} (HS : SealSpec w0) (w : World) (hw : Below w0.heap.size w0 w) :
    Calls Tryd.prog 10 #[] w fun e w' => e = .returned (.bool true) ∧ Below w.heap.size w w' := by
  have H1 : Hid (∀ (W : World) (g : Nat) (t : TypeId), Below w.heap.size w W → W.heap[g]? = some (.cells (BA zero64L) t (0, 0)) →
      Calls Tryd.prog 8 #[.string wakeK, .agg #[.int .i64 1, .int .i64 0, .int .i64 0, .int .i64 0, .int .i64 1, .string ⟨#[]⟩], .slice (some ⟨g, 0, none⟩) 64 64] W fun e w' =>
        ∃ A' c', e = .returned (.tuple #[.slice A' 64 c', .string (tagS wakeK 1 0 0 0 1 wakeS), .int .i64 0]) ∧ 64 ≤ c' ∧ Ints w' w'.heap.size .u8 A' (up wakeS) ∧ Below w.heap.size w w' ∧ Below W.heap.size W w') := fun W g t hb hg =>
    (HS.sealGo wakeK ⟨#[]⟩ 1 0 0 0 1 (some ⟨g, 0, none⟩) 64 zero64L W (hw.trans (hb.mono hw.size)) (i64_small (Or.inr rfl)) (i64_small (Or.inl rfl)) (i64_small (Or.inl rfl)) (i64_small (Or.inl rfl)) (i64_small (Or.inr rfl)) (ints_of_BA hg (lt_row hg)) zero64L_lt (Nat.le_refl _) (by decide)).mono fun e w' ⟨A', c', q1, q2, q3, q4⟩ => ⟨A', c', q1, q2, q3, hb.trans (q4.mono hb.size), q4⟩
  have H2 : Hid (∀ (W : World) (A : Option Addr) (c : Nat), Below w.heap.size w W → Ints W W.heap.size .u8 A (up wakeS) → 64 ≤ c →
      Calls Tryd.prog 11 #[.string wakeK, .agg #[.int .i64 1, .int .i64 0, .int .i64 0, .int .i64 0, .int .i64 1, .string (tagS wakeK 1 0 0 0 1 wakeS)], .slice A 64 c] W fun e w' =>
        ∃ b o c', e = .returned (.tuple #[.slice (some ⟨b, o, none⟩) 64 c', .int .i64 0]) ∧ 64 ≤ c' ∧ Ints w' w'.heap.size .u8 (some ⟨b, o, none⟩) (up zero64L) ∧ Below W.heap.size W w') := fun W A c hb hi hc => by
    have h := HS.openGo wakeK 1 0 0 0 1 A c wakeS W (hw.trans (hb.mono hw.size)) (i64_small (Or.inr rfl)) (i64_small (Or.inl rfl)) (i64_small (Or.inl rfl)) (i64_small (Or.inl rfl)) (i64_small (Or.inr rfl)) hi wakeS_lt (by rw [wakeS_len]; exact hc) (by rw [wakeS_len]; decide)
    rw [wakeS_len] at h
    refine h.mono fun e w' ⟨A', c', q1, q2, q3, q4⟩ => ?_
    rw [show sealN (textN wakeK) 1 0 1 wakeS = zero64L from sealN_back _ _ _ _ _] at q3
    obtain ⟨b, o, rfl, _, _⟩ := q3.at_ (by decide)
    exact ⟨b, o, c', q1, q2, q3, q4⟩
  have hst : tagS wakeK 1 0 0 0 1 wakeS = tagS wakeK 1 0 0 0 1 wakeS := rfl
  have hts : (tagS wakeK 1 0 0 0 1 wakeS).size = 16 := by unfold tagS; rw [strOfNums_size, up_len, tagN_len]
  have hne : ((strOfNums (up wakeS)).toList == (strOfNums (up zero64L)).toList) = false := by
    rw [text_apart wakeS_lt zero64L_lt, beq_eq_false_iff_ne]; exact wake_text
  have hu1 : (up wakeS).length = 64 := by rw [up_len, wakeS_len]
  have HU1 := Lib.hid hu1
  obtain ⟨s1, hs1⟩ : ∃ s, strOfNums (up wakeS) = s := ⟨_, rfl⟩
  obtain ⟨s2, hs2⟩ : ∃ s, strOfNums (up zero64L) = s := ⟨_, rfl⟩
  rw [hs1, hs2] at hne
  have HS1 := Lib.hid hs1
  have HS2 := Lib.hid hs2
  obtain ⟨S, hS⟩ : ∃ S, S = wakeS := ⟨_, rfl⟩
  obtain ⟨T, hT⟩ : ∃ T, T = tagS wakeK 1 0 0 0 1 wakeS := ⟨_, rfl⟩
  rw [← hT] at H1 H2 hts
  rw [← hS] at H1 H2 HU1 HS1
  have hmk : ∀ w : World, (Instr.makeSlice 24 (.int .i64 64) (.int .i64 64)).run Tryd.prog w = .ok (.slice (some ⟨w.heap.size, 0, none⟩) 64 64) (w.alloc (.cells (BA zero64L) 5)) := fun w => by
    have h := run_make_row' (P := Tryd.prog) 24 5 (.int .u8 0) 1 Tryd.underlying24 Tryd.infoU8s rfl .i64 .i64 64 (by decide) (by decide) w
    rw [show madeCells #[Value.int .u8 0] 64 = BA zero64L from Array.toList_inj.1 (by rw [toList_madeCells_one]; rfl)] at h
    exact h
  obtain ⟨Z, hZ⟩ : ∃ Z, Z = BA zero64L := ⟨_, rfl⟩
  rw [← hZ] at hmk H1
  unfold wakeK at H1 H2
  clear HS hw hst hu1 hs1 hs2 hS hT hZ
  go_enter Tryd.func10, Tryd.ntmps10
  go_wp2
  obtain ⟨W1, hW1⟩ : ∃ W, W = w.alloc (.cells #[.int .i64 1, .int .i64 0, .int .i64 0, .int .i64 0, .int .i64 1, .string ⟨#[]⟩] 23) := ⟨_, rfl⟩
  obtain ⟨g, hg⟩ : ∃ g, g = w.heap.size := ⟨_, rfl⟩
  have hrow : W1.heap[g]? = some (.cells #[.int .i64 1, .int .i64 0, .int .i64 0, .int .i64 0, .int .i64 1, .string ⟨#[]⟩] 23 (0, 0)) := by rw [hW1, hg]; exact heap_alloc_new _ _
  have hbW : Below w.heap.size w W1 := by rw [hW1]; exact (Below.refl _ _).alloc (Nat.le_refl _) _
  have hgl : g < W1.heap.size := lt_row hrow
  have hgw : w.heap.size ≤ g := by omega
  rw [← hW1, ← hg]
  have HSS : Hid (∀ W : World, Below W1.heap.size W1 W → W.cell? ⟨g, 0, none⟩ = some (.int .i64 1) ∧ W.cell? ⟨g, 1, none⟩ = some (.int .i64 0) ∧ W.cell? ⟨g, 2, none⟩ = some (.int .i64 0) ∧ W.cell? ⟨g, 3, none⟩ = some (.int .i64 0) ∧ W.cell? ⟨g, 4, none⟩ = some (.int .i64 1) ∧ W.cell? ⟨g, 5, none⟩ = some (.string ⟨#[]⟩)) := fun W hb => by
    have h := (hb.block g hgl).trans hrow
    refine ⟨?_, ?_, ?_, ?_, ?_, ?_⟩ <;> (rw [cell_of_row _ _ _ _ _ _ h]; rfl)
  have HFZ : Hid (∀ W : World, Below W1.heap.size W1 W → W.frozen? ⟨g, 5, none⟩ = false) := fun W hb => frozen_of_row _ _ _ _ _ ((hb.block g hgl).trans hrow)
  have HRW : Hid (∀ W : World, Below W1.heap.size W1 W → W.heap[g]? = some (.cells #[.int .i64 1, .int .i64 0, .int .i64 0, .int .i64 0, .int .i64 1, .string ⟨#[]⟩] 23 (0, 0))) := fun W hb => (hb.block g hgl).trans hrow
  have HBW := Lib.hid hbW
  clear hW1 hg hrow hbW
  go_region_held3 (fun W => W.cell? ⟨g, 0, none⟩ = some (.int .i64 1) ∧ W.cell? ⟨g, 1, none⟩ = some (.int .i64 0) ∧ W.cell? ⟨g, 2, none⟩ = some (.int .i64 0) ∧ W.cell? ⟨g, 3, none⟩ = some (.int .i64 0) ∧ W.cell? ⟨g, 4, none⟩ = some (.int .i64 1) ∧ W.cell? ⟨g, 5, none⟩ = some (.string ⟨#[]⟩))
    (first
      | exact HSS.out _ ((Below.refl _ _).drew)
      | exact HSS.out _ (((Below.refl _ _).alloc (Nat.le_refl _) _).drew)
      | exact HSS.out _ hbs)
    (first
      | (go_at_call 8; with_reducible (refine Calls.mono (H1.out _ _ 5 ?hb ?hg) ?_); (case hb => exact (al1 HBW.out).drew); (case hg => exact new_drew W1 _); rintro e w3 ⟨A3, c3, rfl, hc3, hi3, hb3⟩; have hbs : Below W1.heap.size W1 w3 := ((al1 (Below.refl _ W1)).drew).trans (hb3.2.mono (((al1 (Below.refl _ W1) (o := .cells Z 5)).drew).size))))
  have hz := HFZ.out _ hbs
  obtain ⟨c0, c1, c2, c3', c4, c5⟩ := HSS.out _ hbs
  have hi4 : Ints (w3.setCell ⟨g, 5, none⟩ (.string T)) (w3.setCell ⟨g, 5, none⟩ (.string T)).heap.size .u8 A3 (up S) := by
    rw [show (w3.setCell ⟨g, 5, none⟩ (.string T)).heap.size = w3.heap.size from by simp]
    exact ints_sixth hi3 (HRW.out _ hbs) (by have := HU1.out; rw [up_len] at this; rw [this]; decide) 5 _
  have hb4 : Below w.heap.size w (w3.setCell ⟨g, 5, none⟩ (.string T)) := hb3.1.setCell hgw _
  go_wp2_with (go_at_call 11; with_reducible (refine Calls.mono (H2.out _ _ _ hb4 hi4 hc3) ?_); rintro e w5 ⟨b5, o5, c5, rfl, hc5, hi5, hb5⟩; have hk1 := (hi4.below hb5).textAs (P := Tryd.prog) (n := 64) (t := s1) Tryd.underlying24 Tryd.underlying5 Tryd.underlying9 HU1.out HS1.out c3; have hk2 := hi5.textAs (P := Tryd.prog) (n := 64) (t := s2) Tryd.underlying24 Tryd.underlying5 Tryd.underlying9 rfl HS2.out c5; have hk3 := zero64_at hi5)
  go_ret
  exact ⟨rfl, chain hb4 hb5⟩

end Go.Proofs.YtanpfodmmeagaaaDoor
