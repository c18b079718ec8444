/-
  Two rings side by side: the layer's, and the document's own.
-/
import Derived.Test.YtdfalnjdjkoofaaClockRefN
import Derived.Test.YtdfalnjdjkoofaaSame
namespace Go.Proofs.Ytdfalnjdjkoofaa
open Go.RowKit

/-- A call that came in. -/
structure Act13 where
  what : Int
  thing : Int
  A : Option Addr
  c : Nat
  l : List Int
structure Act13.ok (w : World) (a : Act13) : Prop where
  ints : Ints w w.heap.size .i64 a.A a.l
  val : ∀ z ∈ a.l, I64c z
  le : a.l.length ≤ a.c
  len : a.l.length ≤ 17592186043904
  th : I64c a.thing
structure TwoR (Rep : World → Nat → (Nat → Prop) → Ck → Prop) (w : World) (p rb q tg tc mg mc N g : Nat) (a : Act13) (s s' : Ck) (W : World) : Prop where
  bel : Below w.heap.size w W
  ref : RefR rb W q tg tc mg mc N s'
  rep : ∃ F, Rep W p F s ∧ (∀ b, F b → w.heap.size ≤ b) ∧ ¬ F q ∧ ¬ F tg ∧ ¬ F mg ∧ ¬ F g
  hi : w.heap.size ≤ q ∧ w.heap.size ≤ tg ∧ w.heap.size ≤ mg
  act : W.heap[g]? = some (.cells #[.int .i64 a.what, .int .i64 a.thing, .slice a.A a.l.length a.c] 32 (0, 0))
  ne : g ≠ q ∧ g ≠ tg ∧ g ≠ mg
section
variable {w : World} {Rep : World → Nat → (Nat → Prop) → Ck → Prop} {p rb q tg tc mg mc N g : Nat} {a : Act13} {s s' : Ck} {W : World}
theorem TwoR.cells (h : TwoR Rep w p rb q tg tc mg mc N g a s s' W) : W.cell? ⟨g, 0, none⟩ = some (.int .i64 a.what) ∧ W.cell? ⟨g, 1, none⟩ = some (.int .i64 a.thing) ∧ W.cell? ⟨g, 2, none⟩ = some (.slice a.A a.l.length a.c) :=
  ⟨cell_of_row W g 0 _ _ _ h.act, cell_of_row W g 1 _ _ _ h.act, cell_of_row W g 2 _ _ _ h.act⟩
/-- The layer's ring was called. -/
theorem two_c (h : TwoR Rep w p rb q tg tc mg mc N g a s s' W) {F F' : Nat → Prop} {W' : World} {s2 : Ck} (hF : ∀ b, F b → w.heap.size ≤ b) (n1 : ¬ F q) (n2 : ¬ F tg) (n3 : ¬ F mg) (n4 : ¬ F g) (hr : Rep W' p F' s2) (hm : More F F' W.heap.size) (ha : Away F W W') : TwoR Rep w p rb q tg tc mg mc N g a s2 s' W' := by
  have lq := (Array.getElem?_eq_some_iff.1 h.ref.cell).1
  have lt := (h.ref.tow.lt tg rfl).2
  have lm := (h.ref.mow.lt mg rfl).2
  have lg := (Array.getElem?_eq_some_iff.1 h.act).1
  have no : ∀ b, b < W.heap.size → ¬ F b → ¬ F' b := fun b hb hn hF' => (hm b hF').elim hn (fun e => by omega)
  exact ⟨ha.below hF h.bel h.bel.size, h.ref.away ha n1 n2 n3, ⟨F', hr, fun b q => (hm b q).elim (hF b) (fun q => Nat.le_trans h.bel.size q), no q lq n1, no tg lt n2, no mg lm n3, no g lg n4⟩, h.hi, (ha.block g lg n4).trans h.act, h.ne⟩
/-- The document's ring was called. -/
theorem two_r (HS : ClockSpec w Rep) (h : TwoR Rep w p rb q tg tc mg mc N g a s s' W) {W' : World} {s2 : Ck} (hr : RefR rb W' q tg tc mg mc N s2) (ha : Away (RefF q tg mg) W W') : TwoR Rep w p rb q tg tc mg mc N g a s s2 W' := by
  obtain ⟨F, h1, h2, n1, n2, n3, n4⟩ := h.rep
  have lg := (Array.getElem?_eq_some_iff.1 h.act).1
  refine ⟨ha.below (fun b e => ?_) h.bel h.bel.size, hr, ⟨F, HS.keep W W' p F s h1 (fun b hb => ha.block b (HS.lt W p F s h1 b hb) (fun e => ?_)), h2, n1, n2, n3, n4⟩, h.hi, (ha.block g lg (fun e => ?_)).trans h.act, h.ne⟩
  · have := h.hi
    rcases e with e | e | e <;> omega
  · rcases e with e | e | e
    · exact n1 (e ▸ hb)
    · exact n2 (e ▸ hb)
    · exact n3 (e ▸ hb)
  · have := h.ne
    rcases e with e | e | e <;> omega
theorem TwoR.drew (h : TwoR Rep w p rb q tg tc mg mc N g a s s' W) (HS : ClockSpec w Rep) (n : Nat) : TwoR Rep w p rb q tg tc mg mc N g a s s' (W.drewN n) :=
  two_r HS h (h.ref.drewN n) (away_drew (Away.refl _ _) n)
theorem TwoR.may (h : TwoR Rep w p rb q tg tc mg mc N g a s s' W) (ok : a.ok w) : Ints W W.heap.size .i64 a.A a.l := (ok.ints.below h.bel).more h.bel.size
theorem may_low (ok : a.ok w) (h0 : 0 < a.l.length) {b o : Nat} (e : a.A = some ⟨b, o, none⟩) : b < w.heap.size := by
  obtain ⟨b2, o2, e2, hb, _⟩ := ok.ints 0 h0
  rw [e2] at e
  injection e with e
  injection e with e1 _
  omega

theorem two_put (HS : ClockSpec w Rep) (h : TwoR Rep w p rb q tg tc mg mc N g a s s' W) (ok : a.ok w) : Calls Try.prog 11 #[.pointer (some ⟨p, 0, none⟩), .int .i64 a.thing] W fun e w' => e = .returned (.tuple #[.int .i64 (putA s a.thing), .int .i64 (putE s a.thing)]) ∧ TwoR Rep w p rb q tg tc mg mc N g a (putS s a.thing) s' w' := by
  obtain ⟨F, h1, h2, n1, n2, n3, n4⟩ := h.rep
  exact (HS.put a.thing p F s W h.bel ok.th h1 h2).mono fun e w' ⟨F', r1, r2, r3, r4⟩ => ⟨r1, two_c h h2 n1 n2 n3 n4 r2 r3 r4⟩
theorem two_touch (HS : ClockSpec w Rep) (h : TwoR Rep w p rb q tg tc mg mc N g a s s' W) (ok : a.ok w) : Calls Try.prog 13 #[.pointer (some ⟨p, 0, none⟩), .int .i64 a.thing] W fun e w' => e = .returned (.int .i64 (touchE s a.thing)) ∧ TwoR Rep w p rb q tg tc mg mc N g a (touchS s a.thing) s' w' := by
  obtain ⟨F, h1, h2, n1, n2, n3, n4⟩ := h.rep
  exact (HS.touch a.thing p F s W h.bel ok.th h1 h2).mono fun e w' ⟨F', r1, r2, r3, r4⟩ => ⟨r1, two_c h h2 n1 n2 n3 n4 r2 r3 r4⟩
theorem two_drop (HS : ClockSpec w Rep) (h : TwoR Rep w p rb q tg tc mg mc N g a s s' W) (ok : a.ok w) : Calls Try.prog 15 #[.pointer (some ⟨p, 0, none⟩), .int .i64 a.thing] W fun e w' => e = .returned (.int .i64 (touchE s a.thing)) ∧ TwoR Rep w p rb q tg tc mg mc N g a (dropS s a.thing) s' w' := by
  obtain ⟨F, h1, h2, n1, n2, n3, n4⟩ := h.rep
  exact (HS.drop a.thing p F s W h.bel ok.th h1 h2).mono fun e w' ⟨F', r1, r2, r3, r4⟩ => ⟨r1, two_c h h2 n1 n2 n3 n4 r2 r3 r4⟩
theorem two_leave (HS : ClockSpec w Rep) (h : TwoR Rep w p rb q tg tc mg mc N g a s s' W) (ok : a.ok w) : Calls Try.prog 17 #[.pointer (some ⟨p, 0, none⟩), .slice a.A a.l.length a.c] W fun e w' => e = .returned (.tuple #[.int .i64 (leaveN s a.l), .int .i64 (leaveE s a.l)]) ∧ TwoR Rep w p rb q tg tc mg mc N g a (leaveS s a.l) s' w' := by
  obtain ⟨F, h1, h2, n1, n2, n3, n4⟩ := h.rep
  exact (HS.leave a.A a.c a.l p F s W h.bel (h.may ok) ok.val ok.le ok.len (fun h0 b o e hF => by have := may_low ok h0 e; have := h2 b hF; omega) h1 h2).mono fun e w' ⟨F', r1, r2, r3, r4⟩ => ⟨r1, two_c h h2 n1 n2 n3 n4 r2 r3 r4⟩
theorem two_things (HS : ClockSpec w Rep) (h : TwoR Rep w p rb q tg tc mg mc N g a s s' W) : Calls Try.prog 21 #[.pointer (some ⟨p, 0, none⟩)] W fun e w' => ∃ A c, e = .returned (.slice A s.t.length c) ∧ Ints w' w'.heap.size .i64 A s.t ∧ TwoR Rep w p rb q tg tc mg mc N g a s s' w' := by
  obtain ⟨F, h1, h2, n1, n2, n3, n4⟩ := h.rep
  exact (HS.things p F s W h.bel h1 h2).mono fun e w' ⟨A, c, r1, r2, r3⟩ => ⟨A, c, r1, r2, two_c h h2 n1 n2 n3 n4 (HS.later h1 r3) (fun b hb => .inl hb) (Away.of_below r3)⟩
theorem two_rput (HS : ClockSpec w Rep) (h : TwoR Rep w p rb q tg tc mg mc N g a s s' W) : Calls Try.prog 12 #[.pointer (some ⟨q, 0, none⟩), .int .i64 a.thing] W fun e w' => e = .returned (.tuple #[.int .i64 (putA s' a.thing), .int .i64 (putE s' a.thing)]) ∧ TwoR Rep w p rb q tg tc mg mc N g a s (putS s' a.thing) w' :=
  (refPut_any h.ref a.thing).mono fun _ _ ⟨r1, r2, r3⟩ => ⟨r1, two_r HS h r2 r3⟩
theorem two_rtouch (HS : ClockSpec w Rep) (h : TwoR Rep w p rb q tg tc mg mc N g a s s' W) : Calls Try.prog 14 #[.pointer (some ⟨q, 0, none⟩), .int .i64 a.thing] W fun e w' => e = .returned (.int .i64 (touchE s' a.thing)) ∧ TwoR Rep w p rb q tg tc mg mc N g a s (touchS s' a.thing) w' :=
  (refTouch_any h.ref a.thing).mono fun _ _ ⟨r1, r2, r3⟩ => ⟨r1, two_r HS h r2 r3⟩
theorem two_rdrop (HS : ClockSpec w Rep) (h : TwoR Rep w p rb q tg tc mg mc N g a s s' W) : Calls Try.prog 16 #[.pointer (some ⟨q, 0, none⟩), .int .i64 a.thing] W fun e w' => e = .returned (.int .i64 (touchE s' a.thing)) ∧ TwoR Rep w p rb q tg tc mg mc N g a s (dropS s' a.thing) w' :=
  (refDrop_any h.ref a.thing).mono fun _ _ ⟨r1, r2, r3⟩ => ⟨r1, two_r HS h r2 r3⟩
theorem two_rany (h : TwoR Rep w p rb q tg tc mg mc N g a s s' W) (ok : a.ok w) : Calls Try.prog 18 #[.pointer (some ⟨q, 0, none⟩), .slice a.A a.l.length a.c] W fun e w' => e = .returned (.bool (anyK s' a.l)) ∧ w' = W :=
  refAny_any h.ref a.A a.l a.c (h.may ok) ok.len
theorem two_rleave (HS : ClockSpec w Rep) (h : TwoR Rep w p rb q tg tc mg mc N g a s s' W) (ok : a.ok w) (hany : anyK s' a.l = true) : Calls Try.prog 19 #[.pointer (some ⟨q, 0, none⟩), .slice a.A a.l.length a.c] W fun e w' => e = .returned (.tuple #[.int .i64 (leaveN s' a.l), .int .i64 0]) ∧ TwoR Rep w p rb q tg tc mg mc N g a s (leaveS s' a.l) w' :=
  (refLeave_any h.ref a.A a.l a.c (h.may ok) (fun h0 b o e hF => by have := may_low ok h0 e; have := h.hi; rcases hF with e | e | e <;> omega) hany ok.len).mono fun _ _ ⟨r1, r2, r3⟩ => ⟨r1, two_r HS h r2 r3⟩
/-- What both answer, if one may. -/
theorem leave_yes {s : Ck} {N : Nat} {l : List Int} (h : s.ok N) (ha : anyK s l = true) : leaveE s l = 0 := by
  obtain ⟨n, hn⟩ := leave_some h ha
  unfold leaveE
  rw [hn]
theorem leave_no {s : Ck} {l : List Int} (ha : anyK s l = false) : leaveE s l = 4 ∧ leaveN s l = 0 ∧ leaveS s l = s := by
  have h : leaveR s l = (s, none) := by unfold leaveR; rw [ha]; rfl
  exact ⟨by unfold leaveE; rw [h], by unfold leaveN; rw [h]; rfl, by unfold leaveS; rw [h]⟩
/-- The things of the document's ring. -/
theorem RefR.ints {b : Nat} (h : RefR b W q tg tc mg mc N s) : Ints W W.heap.size .i64 (some ⟨tg, 0, none⟩) s.t := Ints.of_own (n := N) (c := tc) (by rw [h.ok.len]; exact h.tow)
end

end Go.Proofs.Ytdfalnjdjkoofaa
