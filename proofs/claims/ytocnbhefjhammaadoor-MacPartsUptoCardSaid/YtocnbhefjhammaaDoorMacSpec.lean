/-
  What is asked of the layer mac, as properties of its calls; the law's own 'awake' from these.
-/
import Derived.Test.YtocnbhefjhammaaDoorMacDer
import Derived.Test.YtocnbhefjhammaaDoorRows2
import Derived.Lib.SlBytesConst
namespace Go.Proofs.YtocnbhefjhammaaDoor
open Go.RowKit

def cat (ps : List Part) : List Nat := (ps.map Part.b).flatten
def CodeSpec (w0 : World) : Prop := ∀ (A0 : Option Addr) (c0 : Nat) (key : List Nat) (A1 : Option Addr) (c1 : Nat) (ps : List Part) (w : World), Below w0.heap.size w0 w → Ints w w.heap.size .u8 A0 (up key) → (A0 = none → c0 = 0) → (∀ b ∈ key, b < 256) → key.length ≤ c0 → key.length ≤ 140737488355000 →
  Parts w w.heap.size A1 ps → ps.length ≤ c1 → ps.length ≤ 4096 → (cat ps).length ≤ 140737488354900 →
  Calls Tryd.prog 8 #[.slice A0 key.length c0, .slice A1 ps.length c1] w fun e w' => e = .returned (.agg (BA (macN key (cat ps)))) ∧ Below w.heap.size w w'
def SameSpec : Prop := ∀ (A0 A1 : Option Addr) (c0 c1 : Nat) (xs ys : List Nat) (w : World), Ints w w.heap.size .u8 A0 (up xs) → Ints w w.heap.size .u8 A1 (up ys) → (∀ b ∈ xs, b < 256) → (∀ b ∈ ys, b < 256) → xs.length ≤ c0 → ys.length ≤ c1 → xs.length ≤ 140737488355000 → ys.length ≤ 140737488355000 →
  Calls Tryd.prog 11 #[.slice A0 xs.length c0, .slice A1 ys.length c1] w fun e w' => e = .returned (.bool (xs == ys)) ∧ Below w.heap.size w w'
def DeriveSpec (w0 : World) : Prop := ∀ (A0 : Option Addr) (c0 : Nat) (key : List Nat) (s : ByteArray) (n : Int) (w : World), Below w0.heap.size w0 w → Ints w w.heap.size .u8 A0 (up key) → (A0 = none → c0 = 0) → (∀ b ∈ key, b < 256) → key.length ≤ c0 → key.length ≤ 140737488355000 → s.size ≤ 140737488354000 → -9223372036854775808 ≤ n → n ≤ 9223372036854775807 →
  Calls Tryd.prog 12 #[.slice A0 key.length c0, .string s, .int .i64 n] w fun e w' => ∃ A c, e = .returned (.slice A 16 c) ∧ 16 ≤ c ∧ Ints w' w'.heap.size .u8 A (up (deriveN key (textN s) n)) ∧ Below w.heap.size w w'

/-- A slice of one text, in a new block. -/
theorem parts_one (w : World) (p : Part) (t : TypeId) (hp : p.ok w w.heap.size) : Parts (w.alloc (.cells #[.slice p.A p.b.length p.c] t)) (w.heap.size + 1) (some ⟨w.heap.size, 0, none⟩) [p] := fun i hi => by
  have h0 : i = 0 := by simp at hi; omega
  subst h0
  exact ⟨w.heap.size, 0, rfl, Nat.lt_succ_self _, cell_of_row _ _ 0 _ _ _ (heap_alloc_new _ _), ⟨(hp.ints.alloc (Nat.le_refl _) _).more (Nat.le_succ _), hp.nil, hp.byte, hp.le⟩⟩
theorem Parts.more {w : World} {B B' : Nat} {A : Option Addr} {ps : List Part} (h : Parts w B A ps) (hB : B ≤ B') : Parts w B' A ps := fun i hi => by
  obtain ⟨b, off, h1, h2, h3, h4⟩ := h i hi
  exact ⟨b, off, h1, Nat.lt_of_lt_of_le h2 hB, h3, ⟨h4.ints.more hB, h4.nil, h4.byte, h4.le⟩⟩
theorem Parts.below {w w' : World} {B : Nat} {A : Option Addr} {ps : List Part} (h : Parts w B A ps) (hb : Below B w w') : Parts w' B A ps := fun i hi => by
  obtain ⟨b, off, h1, h2, h3, h4⟩ := h i hi
  exact ⟨b, off, h1, h2, (hb.cell (p := ⟨b, off + i, none⟩) h2).trans h3, h4.below hb⟩
theorem same_ones (HS : SameSpec) (w : World) (t1 t2 : TypeId) : Calls Tryd.prog 11 #[.slice (some ⟨w.heap.size, 0, none⟩) 1 1, .slice (some ⟨w.heap.size + 1, 0, none⟩) 1 1] ((w.alloc (.cells #[.int .u8 1] t1)).alloc (.cells #[.int .u8 1] t2)) fun e w' => e = .returned (.bool true) ∧ Below w.heap.size w w' := by
  have h1 : Ints (w.alloc (.cells #[.int .u8 1] t1)) (w.heap.size + 1) .u8 (some ⟨w.heap.size, 0, none⟩) (up [1]) := Ints.new w t1 .u8 _ _ rfl
  have h2 : Ints ((w.alloc (.cells #[.int .u8 1] t1)).alloc (.cells #[.int .u8 1] t2)) (w.heap.size + 1 + 1) .u8 (some ⟨w.heap.size + 1, 0, none⟩) (up [1]) := by
    have := Ints.new (w.alloc (.cells #[.int .u8 1] t1)) t2 .u8 (up [1]) #[.int .u8 1] rfl
    simpa using this
  refine Calls.mono (HS _ _ 1 1 [1] [1] _ ((h1.alloc (by simp) _).more (by simp)) (h2.more (by simp)) (by simp) (by simp) (by simp) (by simp) (by simp) (by simp)) ?_
  rintro e w' ⟨rfl, hb⟩
  exact ⟨rfl, (((Below.refl _ _).alloc (Nat.le_refl _) _).alloc (by simp) _).trans (hb.mono (by simp; omega))⟩

def jefe : List Nat := [74, 101, 102, 101]
def want : List Nat := [119, 104, 97, 116, 32, 100, 111, 32, 121, 97, 32, 119, 97, 110, 116, 32, 102, 111, 114, 32, 110, 111, 116, 104, 105, 110, 103, 63]
theorem jefe_code {w0 : World} (HC : CodeSpec w0) (w : World) (hw0 : Below w0.heap.size w0 w) (t1 t2 t3 : TypeId) (f1 f2 : Nat × Nat) : Calls Tryd.prog 8 #[.slice (some ⟨w.heap.size, 0, none⟩) 4 4, .slice (some ⟨w.heap.size + 1 + 1, 0, none⟩) 1 1]
    (((w.alloc (.cells #[.int .u8 74, .int .u8 101, .int .u8 102, .int .u8 101] t1 f1)).alloc (.cells #[.int .u8 119, .int .u8 104, .int .u8 97, .int .u8 116, .int .u8 32, .int .u8 100, .int .u8 111, .int .u8 32, .int .u8 121, .int .u8 97, .int .u8 32, .int .u8 119, .int .u8 97, .int .u8 110, .int .u8 116, .int .u8 32, .int .u8 102, .int .u8 111, .int .u8 114, .int .u8 32, .int .u8 110, .int .u8 111, .int .u8 116, .int .u8 104, .int .u8 105, .int .u8 110, .int .u8 103, .int .u8 63] t2 f2)).alloc (.cells #[.slice (some ⟨w.heap.size + 1, 0, none⟩) 28 28] t3)) fun e w' => e = .returned (.agg (BA (macN jefe want))) ∧ Below w.heap.size w w' := by
  have h1 : Ints (w.alloc (.cells #[.int .u8 74, .int .u8 101, .int .u8 102, .int .u8 101] t1 f1)) (w.heap.size + 1) .u8 (some ⟨w.heap.size, 0, none⟩) (up jefe) := Ints.newMark w t1 .u8 _ _ f1 rfl
  have h2 : Ints ((w.alloc (.cells #[.int .u8 74, .int .u8 101, .int .u8 102, .int .u8 101] t1 f1)).alloc (.cells #[.int .u8 119, .int .u8 104, .int .u8 97, .int .u8 116, .int .u8 32, .int .u8 100, .int .u8 111, .int .u8 32, .int .u8 121, .int .u8 97, .int .u8 32, .int .u8 119, .int .u8 97, .int .u8 110, .int .u8 116, .int .u8 32, .int .u8 102, .int .u8 111, .int .u8 114, .int .u8 32, .int .u8 110, .int .u8 111, .int .u8 116, .int .u8 104, .int .u8 105, .int .u8 110, .int .u8 103, .int .u8 63] t2 f2)) (w.heap.size + 1 + 1) .u8 (some ⟨w.heap.size + 1, 0, none⟩) (up want) := by
    have := Ints.newMark (w.alloc (.cells #[.int .u8 74, .int .u8 101, .int .u8 102, .int .u8 101] t1 f1)) t2 .u8 (up want) #[.int .u8 119, .int .u8 104, .int .u8 97, .int .u8 116, .int .u8 32, .int .u8 100, .int .u8 111, .int .u8 32, .int .u8 121, .int .u8 97, .int .u8 32, .int .u8 119, .int .u8 97, .int .u8 110, .int .u8 116, .int .u8 32, .int .u8 102, .int .u8 111, .int .u8 114, .int .u8 32, .int .u8 110, .int .u8 111, .int .u8 116, .int .u8 104, .int .u8 105, .int .u8 110, .int .u8 103, .int .u8 63] f2 rfl
    simpa using this
  have hp := parts_one ((w.alloc (.cells #[.int .u8 74, .int .u8 101, .int .u8 102, .int .u8 101] t1 f1)).alloc (.cells #[.int .u8 119, .int .u8 104, .int .u8 97, .int .u8 116, .int .u8 32, .int .u8 100, .int .u8 111, .int .u8 32, .int .u8 121, .int .u8 97, .int .u8 32, .int .u8 119, .int .u8 97, .int .u8 110, .int .u8 116, .int .u8 32, .int .u8 102, .int .u8 111, .int .u8 114, .int .u8 32, .int .u8 110, .int .u8 111, .int .u8 116, .int .u8 104, .int .u8 105, .int .u8 110, .int .u8 103, .int .u8 63] t2 f2)) ⟨some ⟨w.heap.size + 1, 0, none⟩, 28, want⟩ t3 ⟨h2.more (by simp), fun h => (by cases h), by unfold want; simp, by simp [want]⟩
  simp only [World.size_alloc] at hp
  have el : jefe.length = 4 := by simp [jefe]
  have ew : want.length = 28 := by simp [want]
  rw [ew] at hp
  have ec : cat [⟨some ⟨w.heap.size + 1, 0, none⟩, 28, want⟩] = want := by simp [cat]
  have H := HC (some ⟨w.heap.size, 0, none⟩) 4 jefe (some ⟨w.heap.size + 1 + 1, 0, none⟩) 1 [⟨some ⟨w.heap.size + 1, 0, none⟩, 28, want⟩] _ (((hw0.alloc hw0.size _).alloc (by have := hw0.size; simp; omega) _).alloc (by have := hw0.size; simp; omega) _) (((h1.alloc (by simp) _).alloc (by simp) (.cells #[.slice (some ⟨w.heap.size + 1, 0, none⟩) 28 28] t3)).more (by simp)) (fun h => (by cases h)) (by unfold jefe; simp) (by omega) (by omega) (hp.more (by simp)) (by simp) (by simp) (by rw [ec]; omega)
  rw [el, ec] at H
  refine Calls.mono H ?_
  rintro e w' ⟨rfl, hb⟩
  exact ⟨rfl, ((((Below.refl _ _).alloc (Nat.le_refl _) _).alloc (by simp) _).alloc (by simp; omega) _).trans (hb.mono (by simp; omega))⟩

theorem macAwake {w0 : World} (HC : CodeSpec w0) (HS : SameSpec) (w : World) (hw0 : Below w0.heap.size w0 w) : Calls Tryd.prog 9 #[] w fun e w' => e = .returned (.bool true) ∧ Below w.heap.size w w' := by
  have kc := fun (w : World) (C : Array Value) (n c : Nat) => Lib.run_convert_bytes_const (P := Tryd.prog) w 22 5 C n c Tryd.underlying22 Tryd.underlying5
  have kc2 := fun (w : World) (o : Obj) (C : Array Value) (n c : Nat) => kc (w.alloc o) C n c
  simp only [World.size_alloc] at kc2
  have H1 := Lib.hid (jefe_code HC w hw0)
  have HSM := Lib.hid (same_ones HS)
  have e0 : (macN jefe want).getD 0 0 = 91 := by decide +kernel
  have e1 : (macN jefe want).getD 1 0 = 220 := by decide +kernel
  have HCC : Hid (∀ (wr : World) (g : Nat) (t : TypeId), wr.heap[g]? = some (.cells (BA (macN jefe want)) t (0, 0)) → wr.cell? ⟨g, 0, none⟩ = some (.int .u8 91) ∧ wr.cell? ⟨g, 1, none⟩ = some (.int .u8 220)) := fun wr g t h => by
    have h0 := BA_cell h (i := 0) (by decide)
    have h1 := BA_cell h (i := 1) (by decide)
    rw [e0] at h0
    rw [e1] at h1
    exact ⟨h0, h1⟩
  have HI : Hid ((Tryd.prog.info? 24).map (·.size) = some (BA (macN jefe want)).size) := by unfold Hid; rw [BA_size, macN_len]; kernel_rfl
  have HO : Hid (zero32.size = (BA (macN jefe want)).size) := by unfold Hid; rw [BA_size, macN_len]; rfl
  have H1' : Hid ((BA (macN jefe want)).all (·.oneCell') = true) := BA_one _
  clear HC HS hw0 e0 e1
  obtain ⟨D, hD⟩ : ∃ D, D = BA (macN jefe want) := ⟨_, rfl⟩
  rw [← hD] at H1 HCC HI HO H1'
  clear hD
  go_enter Tryd.func9, Tryd.ntmps9
  go_wp2_with (first
    | (go_at_call 8; with_reducible (refine Calls.mono (H1.out _ _ _ _ _) ?_); rintro e w1 ⟨rfl, hb1⟩)
    | (refine wpList_store_fresh rfl 24 _ _ rfl w1.heap.size _ rfl rfl 24 zero32 (heap_alloc_new _ _) HI.out HO.out H1'.out (hb1.alloc hb1.size _) hb1.size ?_; intro W hW hbW hkW hsW; have hcc := HCC.out _ _ _ hW; have hc0 := hcc.1; have hc1 := hcc.2; clear hcc hkW hsW)
    | (go_at_call 11; with_reducible (refine Calls.mono (HSM.out _ _ _) ?_); rintro e w2 ⟨rfl, hb2⟩))
  go_ret
  exact ⟨rfl, hbW.trans (hb2.mono hbW.size)⟩

end Go.Proofs.YtocnbhefjhammaaDoor
