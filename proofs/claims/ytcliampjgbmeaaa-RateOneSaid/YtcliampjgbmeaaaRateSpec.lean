/-
  What is asked of the layer rate, as properties of its calls; the law's own 'awake', and the laws of new buckets, and of those that are filled.
-/
import Derived.Test.YtcliampjgbmeaaaRateRefR
import Derived.Test.YtcliampjgbmeaaaWeighUnits
import Derived.Laws.FloatArith
import Derived.Deep.RegionWith
namespace Go.Proofs.Ytcliampjgbmeaaa
open Go.RowKit

def I64 (n : Int) : Prop := -9223372036854775808 ≤ n ∧ n ≤ 9223372036854775807
def Bk.ok (k : Bk) : Prop := I64 k.r ∧ I64 k.b ∧ I64 k.l ∧ I64 k.a
/-- A rate in 65536ths. -/
def fixedN (f : Nat) : Nat := if posN f then (if 1039 ≤ f / 4503599627370496 then 4294967296 else scaleF (mantN f) (expoN f + 16)) else 0
/-- 65536ths as a rate. -/
def floatN (n : Int) : Nat := (FloatKind.f64.format.div (floatOfInt .f64 n) 4679240012837945344).getD 0
structure RateSpec (w0 : World) : Prop where
  fixed : ∀ (f : Nat) (w : World), Below w0.heap.size w0 w → f < 18446744073709551616 → Calls Try.prog 16 #[.float .f64 f] w fun e w' => e = .returned (.int .i64 (fixedN f : Nat)) ∧ Below w.heap.size w w'
  float : ∀ (n : Int) (w : World), Below w0.heap.size w0 w → I64 n → Calls Try.prog 18 #[.int .i64 n] w fun e w' => e = .returned (.float .f64 (floatN n)) ∧ Below w.heap.size w w'
  new : ∀ (r b a : Int) (w : World), Below w0.heap.size w0 w → I64 r → I64 b → I64 a → Calls Try.prog 20 #[.int .i64 r, .int .i64 b, .int .i64 a] w fun e w' => e = .returned (.tuple #[(newK r b a).V, .int .i64 (newE r b a)]) ∧ Below w.heap.size w w'
  fill : ∀ (k : Bk) (m : Int) (w : World), Below w0.heap.size w0 w → k.ok → I64 m → Calls Try.prog 22 #[k.V, .int .i64 m] w fun e w' => e = .returned (.tuple #[(fillK k m).V, .int .i64 (fillE k m)]) ∧ Below w.heap.size w w'
  take : ∀ (k : Bk) (n m : Int) (w : World), Below w0.heap.size w0 w → k.ok → I64 n → I64 m → Calls Try.prog 24 #[k.V, .int .i64 n, .int .i64 m] w fun e w' => e = .returned (.tuple #[(takeK k n m).V, .int .i64 (takeE k n m)]) ∧ Below w.heap.size w w'
  ready : ∀ (k : Bk) (n m : Int) (w : World), Below w0.heap.size w0 w → k.ok → I64 n → I64 m → Calls Try.prog 26 #[k.V, .int .i64 n, .int .i64 m] w fun e w' => e = .returned (.tuple #[.int .i64 (readyM k n m), .int .i64 (readyE k n m)]) ∧ Below w.heap.size w w'

theorem wake_fixed : fixedN 4607182418800017408 = 65536 := by decide +kernel
theorem wake1 : newK 65536 2 0 = ⟨65536, 2, 131072, 0⟩ ∧ newE 65536 2 0 = 0 := ⟨rfl, rfl⟩
theorem wake2 : takeK ⟨65536, 2, 131072, 0⟩ 2 0 = ⟨65536, 2, 0, 0⟩ ∧ takeE ⟨65536, 2, 131072, 0⟩ 2 0 = 0 := ⟨rfl, rfl⟩
theorem wake3 : takeK ⟨65536, 2, 0, 0⟩ 1 0 = zeroK ∧ takeE ⟨65536, 2, 0, 0⟩ 1 0 = 12 := ⟨rfl, rfl⟩

set_option maxHeartbeats 800000 in
set_option maxRecDepth 20000 in
theorem rateAwake {w0 : World} (HS : RateSpec w0) (w : World) (hw : Below w0.heap.size w0 w) : Calls Try.prog 15 #[] w fun e w' => e = .returned (.bool true) ∧ Below w.heap.size w w' := by
  have i6 : I64 65536 := by unfold I64; omega
  have i2 : I64 2 := by unfold I64; omega
  have i1 : I64 1 := by unfold I64; omega
  have i0 : I64 0 := by unfold I64; omega
  have iB : I64 131072 := by unfold I64; omega
  have H1 := Lib.hid (fun (W : World) (hb : Below w.heap.size w W) => HS.new 65536 2 0 W (hw.trans (hb.mono hw.size)) i6 i2 i0)
  have H2 := Lib.hid (fun (W : World) (hb : Below w.heap.size w W) => HS.take ⟨65536, 2, 131072, 0⟩ 2 0 W (hw.trans (hb.mono hw.size)) ⟨i6, i2, iB, i0⟩ i2 i0)
  have H3 := Lib.hid (fun (W : World) (hb : Below w.heap.size w W) => HS.take ⟨65536, 2, 0, 0⟩ 1 0 W (hw.trans (hb.mono hw.size)) ⟨i6, i2, i0, i0⟩ i1 i0)
  have H4 := Lib.hid (fun (W : World) (hb : Below w.heap.size w W) => HS.fixed 4607182418800017408 W (hw.trans (hb.mono hw.size)) (by decide))
  rw [wake_fixed] at H4
  rw [wake1.1, wake1.2] at H1
  rw [wake2.1, wake2.2] at H2
  rw [wake3.1, wake3.2] at H3
  simp only [Bk.V, zeroK] at H1 H2 H3
  have hb0 : Below w.heap.size w w := Below.refl _ _
  clear HS hw i6 i2 i1 i0 iB
  go_enter Try.func15, Try.ntmps15
  go_wp2_with (first
    | (go_at_call 20; with_reducible (refine Calls.mono (H1.out _ hb0) ?_); rintro e w1 ⟨rfl, hb1⟩; have hx1 := (chain hb0 hb1).alloc (chain hb0 hb1).size (.cells #[.int .i64 65536, .int .i64 2, .int .i64 131072, .int .i64 0] 32))
    | (go_at_call 24; with_reducible (refine Calls.mono (H2.out _ hx1) ?_); rintro e w2 ⟨rfl, hb2⟩; have hx2 := (chain hx1 hb2).alloc (chain hx1 hb2).size (.cells #[.int .i64 65536, .int .i64 2, .int .i64 0, .int .i64 0] 32))
    | (go_at_call 24; with_reducible (refine Calls.mono (H3.out _ hx2) ?_); rintro e w3 ⟨rfl, hb3⟩; have hx3 := (chain hx2 hb3).alloc (chain hx2 hb3).size (.cells #[.int .i64 0, .int .i64 0, .int .i64 0, .int .i64 0] 32))
    | (go_at_call 16; with_reducible (refine Calls.mono (H4.out _ hx3) ?_); rintro e w4 ⟨rfl, hb4⟩; have hx4 := chain hx3 hb4))
  go_ret
  exact ⟨rfl, hx4⟩

/-- A bucket in memory. -/
def Bx (W : World) (g : Nat) (k : Bk) : Prop := W.heap[g]? = some (.cells #[.int .i64 k.r, .int .i64 k.b, .int .i64 k.l, .int .i64 k.a] 32 (0, 0))
theorem Bx.new (W : World) (r b l a : Int) : Bx (W.alloc (.cells #[.int .i64 r, .int .i64 b, .int .i64 l, .int .i64 a] 32)) W.heap.size ⟨r, b, l, a⟩ := heap_alloc_new W _
theorem Bx.lt {W : World} {g : Nat} {k : Bk} (h : Bx W g k) : g < W.heap.size := (Array.getElem?_eq_some_iff.1 h).1
theorem Bx.keep {W W' : World} {g : Nat} {k : Bk} (h : Bx W g k) (hb : Below W.heap.size W W') : Bx W' g k := (hb.block g h.lt).trans h
theorem Bx.alloc {W : World} {g : Nat} {k : Bk} (h : Bx W g k) (o : Obj) : Bx (W.alloc o) g k := (Below.heap_alloc W o g h.lt).trans h
theorem Bx.cells {W : World} {g : Nat} {r b l a : Int} (h : Bx W g ⟨r, b, l, a⟩) : W.cell? ⟨g, 0, none⟩ = some (.int .i64 r) ∧ W.cell? ⟨g, 1, none⟩ = some (.int .i64 b) ∧ W.cell? ⟨g, 2, none⟩ = some (.int .i64 l) ∧ W.cell? ⟨g, 3, none⟩ = some (.int .i64 a) :=
  have q := bkCells h
  ⟨q.1, q.2.1, q.2.2.1, q.2.2.2.1⟩

set_option maxHeartbeats 800000 in
set_option maxRecDepth 20000 in
/-- RateNews. -/
theorem rateNews_go (r b a : Int) (w : World) (HS : RateSpec w) (hr : I64 r) (hb : I64 b) (ha : I64 a) : Calls Try.prog 5 #[.int .i64 r, .int .i64 b, .int .i64 a] w fun e w' => e = .returned (.bool true) ∧ Below w.heap.size w w' := by
  have HA := Lib.hid (rateAwake HS)
  have H1 := Lib.hid (fun (W : World) (h : Below w.heap.size w W) => HS.new r b a W h hr hb ha)
  have H2 := Lib.hid (fun (W : World) => refNew_any r b a W)
  obtain ⟨⟨k1, k2, k3, k4⟩, hK⟩ : ∃ K, K = newK r b a := ⟨_, rfl⟩
  obtain ⟨E, hE⟩ : ∃ E, E = newE r b a := ⟨_, rfl⟩
  rw [← hK, ← hE] at H1 H2
  simp only [Bk.V] at H1 H2
  have hb0 : Below w.heap.size w w := Below.refl _ _
  clear HS hr hb ha hK hE
  go_enter Try.func5, Try.ntmps5
  go_wp2_with (first
    | (go_at_call 20; with_reducible (refine Calls.mono (H1.out _ hb0) ?_); rintro e w1 ⟨rfl, hb1⟩; have hx1 := (chain hb0 hb1).alloc (chain hb0 hb1).size (.cells #[.int .i64 k1, .int .i64 k2, .int .i64 k3, .int .i64 k4] 32); have g1 := Bx.new w1 k1 k2 k3 k4)
    | (go_at_call 21; with_reducible (refine Calls.mono (H2.out _) ?_); rintro e w2 ⟨rfl, hb2⟩; have hx2 := (chain hx1 hb2).alloc (chain hx1 hb2).size (.cells #[.int .i64 k1, .int .i64 k2, .int .i64 k3, .int .i64 k4] 32); have g2 := Bx.new w2 k1 k2 k3 k4; replace g1 := (g1.keep hb2).alloc (.cells #[.int .i64 k1, .int .i64 k2, .int .i64 k3, .int .i64 k4] 32))
    | (go_at_call 15; with_reducible (refine Calls.mono (HA.out _ hx2) ?_); rintro e w3 ⟨rfl, hb3⟩; have hx3 := chain hx2 hb3; obtain ⟨p0, p1, p2, p3⟩ := (g1.keep hb3).cells; obtain ⟨q0, q1, q2, q3⟩ := (g2.keep hb3).cells))
  go_ret
  exact ⟨rfl, hx3⟩

end Go.Proofs.Ytcliampjgbmeaaa
