/-
  Two disks side by side: the layer's, and the document's own; a call that came in.
-/
import Derived.Test.YtnbgnllkikajpaaDiskRefN
import Derived.Deep.Onto
namespace Go.Proofs.Ytnbgnllkikajpaa
open Go.RowKit

structure Act14 where
  what : Int
  n : Int
  A : Option Addr
  c : Nat
  t : List Nat
  B : Option Addr
  k : Nat
  l : List Bool
structure Act14.ok (w : World) (a : Act14) : Prop where
  n64 : I64c a.n
  ints : Ints w w.heap.size .u8 a.A (up a.t)
  byte : ∀ y ∈ a.t, y < 256
  le : a.t.length ≤ a.c
  nil : a.A = none → a.c = 0
  len : a.t.length ≤ 140737488351232
  bools : Bools w w.heap.size a.B a.l
  ble : a.l.length ≤ a.k
  blen : a.l.length ≤ 140737488351232
def actC (a : Act14) : Array Value := #[.int .i64 a.what, .int .i64 a.n, .slice a.A a.t.length a.c, .slice a.B a.l.length a.k]
theorem RefD.since {b0 base : Nat} {W : World} {q lg lc : Nat} {v : Value} {z : Int} {s : Dk} (h : RefD base W q lg lc v z s) (hb : b0 ≤ base) : RefD b0 W q lg lc v z s :=
  ⟨h.cell, h.last.mono hb, h.pend.mono hb, h.lim, h.d1, h.d2, h.d3, Nat.le_trans hb h.bq, h.zi, h.ok⟩
/-- Both, beside one block g of the law's own. -/
structure TwoD (Rep : World → Nat → (Nat → Prop) → Dk → Prop) (w : World) (p q lg lc m g : Nat) (a : Act14) (s s' : Dk) (W : World) : Prop where
  bel : Below w.heap.size w W
  two : ∃ v z F, RefD w.heap.size W q lg lc v z s' ∧ Rep W p F s ∧ (∀ b, F b → w.heap.size ≤ b) ∧ ¬ F q ∧ ¬ F lg ∧ Free F v ∧ ¬ F g ∧ v.ownBlock ≠ some g
  act : W.heap[g]? = some (.cells (actC a) 33 (0, 0))
  ne : g ≠ q ∧ g ≠ lg
  pen : s.pend.length ≤ m ∧ s'.pend.length ≤ m
section
variable {w : World} {Rep : World → Nat → (Nat → Prop) → Dk → Prop} {p q lg lc m g : Nat} {a : Act14} {s s' : Dk} {W : World}
theorem TwoD.cells (h : TwoD Rep w p q lg lc m g a s s' W) : W.cell? ⟨g, 0, none⟩ = some (.int .i64 a.what) ∧ W.cell? ⟨g, 1, none⟩ = some (.int .i64 a.n) ∧ W.cell? ⟨g, 2, none⟩ = some (.slice a.A a.t.length a.c) ∧ W.cell? ⟨g, 3, none⟩ = some (.slice a.B a.l.length a.k) :=
  ⟨cell_of_row W g 0 _ _ _ h.act, cell_of_row W g 1 _ _ _ h.act, cell_of_row W g 2 _ _ _ h.act, cell_of_row W g 3 _ _ _ h.act⟩
/-- The layer's disk was called. -/
theorem two_layer (h : TwoD Rep w p q lg lc m g a s s' W) {v : Value} {z : Int} {F F' : Nat → Prop} {m2 : Nat} {W' : World} {s2 : Dk} (hr : RefD w.heap.size W q lg lc v z s') (h2 : ∀ b, F b → w.heap.size ≤ b) (n1 : ¬ F q) (n2 : ¬ F lg) (n3 : Free F v) (n4 : ¬ F g) (n5 : v.ownBlock ≠ some g) (hm2 : m ≤ m2) (hp : s2.pend.length ≤ m2)
    (r2 : Rep W' p F' s2) (r3 : More F F' W.heap.size) (r4 : Away F W W') : TwoD Rep w p q lg lc m2 g a s2 s' W' := by
  have lq := (Array.getElem?_eq_some_iff.1 hr.cell).1
  have ll := (hr.last.lt lg rfl).2
  have lgg := (Array.getElem?_eq_some_iff.1 h.act).1
  have no : ∀ b, b < W.heap.size → ¬ F b → ¬ F' b := fun b hb hn hF' => (r3 b hF').elim hn (fun e => by omega)
  exact ⟨r4.below h2 h.bel h.bel.size, ⟨v, z, F', hr.away r4 n1 n2 n3, r2, fun b hb => (r3 b hb).elim (h2 b) (fun q => Nat.le_trans h.bel.size q), no q lq n1, no lg ll n2, fun b hb => no b (hr.pend.lt b hb).2 (n3 b hb), no g lgg n4, n5⟩, (r4.block g lgg n4).trans h.act, h.ne, ⟨hp, Nat.le_trans h.pen.2 hm2⟩⟩
/-- The document's disk was called. -/
theorem two_ref (HS : DiskSpec w Rep) (h : TwoD Rep w p q lg lc m g a s s' W) {m2 : Nat} {W' : World} {s2 : Dk} {v : Value} {z : Int} (hr0 : RefD w.heap.size W q lg lc v z s') (hT : RefT w.heap.size W q lg lc v s2 W') (hm2 : m ≤ m2) (hp : s2.pend.length ≤ m2) : TwoD Rep w p q lg lc m2 g a s s2 W' := by
  obtain ⟨v0, z0, F, hr, h1, h2, n1, n2, n3, n4, n5⟩ := h.two
  have hvv : v0 = v := by
    have e1 := hr.cells.2.1
    rw [hr0.cells.2.1] at e1
    injection e1 with e1
    exact e1.symm
  subst hvv
  obtain ⟨v', z', r1, r2, r3⟩ := hT
  have lgg := (Array.getElem?_eq_some_iff.1 h.act).1
  have hrf : ∀ b, RefF q lg v0 b → w.heap.size ≤ b ∧ ¬ F b ∧ b ≠ g := fun b e => by
    rcases e with e | e | e
    · exact ⟨by rw [e]; exact hr.bq, e ▸ n1, fun e2 => h.ne.1 (by omega)⟩
    · exact ⟨by rw [e]; exact (hr.last.lt lg rfl).1, e ▸ n2, fun e2 => h.ne.2 (by omega)⟩
    · exact ⟨(hr.pend.lt b e).1, n3 b e, fun e2 => n5 (by rw [e, e2])⟩
  refine ⟨r2.below (fun b e => (hrf b e).1) h.bel h.bel.size, ⟨v', z', F, r1, HS.keep W W' p F s h1 (fun b hb => r2.block b (HS.lt W p F s h1 b hb) (fun e => (hrf b e).2.1 hb)), h2, n1, n2, fun b hb hF => ?_, n4, fun e => ?_⟩, (r2.block g lgg (fun e => (hrf g e).2.2 rfl)).trans h.act, h.ne, ⟨Nat.le_trans h.pen.1 hm2, hp⟩⟩
  · rcases r3 with e | e | ⟨g2, e, hl⟩
    · exact n3 b (e ▸ hb) hF
    · rw [e] at hb; cases hb
    · rw [e] at hb; injection hb with hb; have := HS.lt W p F s h1 b hF; omega
  · rcases r3 with e2 | e2 | ⟨g2, e2, hl⟩
    · exact n5 (e2.symm.trans e)
    · rw [e2] at e; cases e
    · rw [e2] at e; injection e with e; omega
/-- Only new memory came. -/
theorem TwoD.later (HS : DiskSpec w Rep) (h : TwoD Rep w p q lg lc m g a s s' W) {W' : World} (hb : Below W.heap.size W W') : TwoD Rep w p q lg lc m g a s s' W' := by
  obtain ⟨v, z, F, hr, h1, h2, n1, n2, n3, n4, n5⟩ := h.two
  exact ⟨chain h.bel hb, ⟨v, z, F, hr.grown hb, HS.later h1 hb, h2, n1, n2, n3, n4, n5⟩, (hb.block g (Array.getElem?_eq_some_iff.1 h.act).1).trans h.act, h.ne, h.pen⟩
theorem low_of {b o : Nat} (ok : a.ok w) (h0 : 0 < a.t.length) (e : a.A = some ⟨b, o, none⟩) : b < w.heap.size := by
  obtain ⟨b2, o2, e2, hb, _⟩ := ok.ints 0 (by rw [up_len]; exact h0)
  rw [e2] at e
  injection e with e
  injection e with e1 _
  omega
theorem lowB_of {b o : Nat} (ok : a.ok w) (h0 : 0 < a.l.length) (e : a.B = some ⟨b, o, none⟩) : b < w.heap.size := by
  obtain ⟨b2, o2, e2, hb, _⟩ := ok.bools 0 h0
  rw [e2] at e
  injection e with e
  injection e with e1 _
  omega
theorem ref_high {v : Value} {z : Int} {b : Nat} (hr : RefD w.heap.size W q lg lc v z s') (e : RefF q lg v b) : w.heap.size ≤ b := by
  rcases e with e | e | e
  · rw [e]; exact hr.bq
  · rw [e]; exact (hr.last.lt lg rfl).1
  · exact (hr.pend.lt b e).1

/-! ### The layer's calls -/
theorem two_write (HS : DiskSpec w Rep) {W0 : World} (h : TwoD Rep w p q lg lc m g a s s' W0) (hb : Below W0.heap.size W0 W) (ok : a.ok w) (hm : m ≤ 100000) (A : Option Addr) (c : Nat) (hI : Ints W W.heap.size .u8 A (up a.t)) (hc : a.t.length ≤ c) (hF : 0 < a.t.length → ∀ b o, A = some ⟨b, o, none⟩ → W0.heap.size ≤ b) :
    Calls Try.prog 12 #[.pointer (some ⟨p, 0, none⟩), .int .i64 a.n, .slice A a.t.length c] W fun e w' => e = .returned (.int .i64 (writeE s a.n a.t)) ∧ TwoD Rep w p q lg lc (m + 1) g a (writeS s a.n a.t) s' w' := by
  obtain ⟨v, z, F, hr, h1, h2, n1, n2, n3, n4, n5⟩ := h.two
  have hp := h.pen.1
  have hl := (write_len s a.n a.t).2
  have hlen := ok.len
  exact (HS.write a.n A c a.t p F s W (chain h.bel hb) ok.n64 hI ok.byte hc (by omega) (fun h0 b o e hF' => by have := HS.lt W0 p F s h1 b hF'; have := hF h0 b o e; omega) (by omega) (HS.later h1 hb) h2).mono fun e w' ⟨F', r1, r2, r3, r4⟩ =>
    ⟨r1, two_layer (h.later HS hb) (hr.grown hb) h2 n1 n2 n3 n4 n5 (Nat.le_succ m) (by omega) r2 r3 r4⟩
theorem two_flush (HS : DiskSpec w Rep) (h : TwoD Rep w p q lg lc m g a s s' W) : Calls Try.prog 16 #[.pointer (some ⟨p, 0, none⟩)] W fun e w' => e = .returned (.int .i64 (flushE s)) ∧ TwoD Rep w p q lg lc (m + 1) g a (flushS s) s' w' := by
  obtain ⟨v, z, F, hr, h1, h2, n1, n2, n3, n4, n5⟩ := h.two
  have hp := h.pen.1
  have hl := (flush_len s).2
  exact (HS.flush p F s W h.bel h1 h2).mono fun e w' ⟨F', r1, r2, r3, r4⟩ => ⟨r1, two_layer h hr h2 n1 n2 n3 n4 n5 (Nat.le_succ m) (by omega) r2 r3 r4⟩
theorem two_limit (HS : DiskSpec w Rep) (h : TwoD Rep w p q lg lc m g a s s' W) (ok : a.ok w) : Calls Try.prog 18 #[.pointer (some ⟨p, 0, none⟩), .int .i64 a.n] W fun e w' => e = .returned (.tuple #[]) ∧ TwoD Rep w p q lg lc (m + 1) g a (limitS s a.n) s' w' := by
  obtain ⟨v, z, F, hr, h1, h2, n1, n2, n3, n4, n5⟩ := h.two
  exact (HS.limit a.n p F s W h.bel ok.n64 h1 h2).mono fun e w' ⟨F', r1, r2, r3, r4⟩ => ⟨r1, two_layer h hr h2 n1 n2 n3 n4 n5 (Nat.le_succ m) (Nat.le_trans h.pen.1 (Nat.le_succ m)) r2 r3 r4⟩
theorem two_crash (HS : DiskSpec w Rep) (h : TwoD Rep w p q lg lc m g a s s' W) (ok : a.ok w) : Calls Try.prog 19 #[.pointer (some ⟨p, 0, none⟩), .slice a.B a.l.length a.k] W fun e w' => e = .returned (.tuple #[]) ∧ TwoD Rep w p q lg lc (m + 1) g a (crashS s a.l) s' w' := by
  obtain ⟨v, z, F, hr, h1, h2, n1, n2, n3, n4, n5⟩ := h.two
  have hlen := ok.blen
  exact (HS.crash a.B a.k a.l p F s W h.bel ((ok.bools.below h.bel).more h.bel.size) ok.ble (by omega) (fun h0 b o e hF' => by have := lowB_of ok h0 e; have := h2 b hF'; omega) h1 h2).mono fun e w' ⟨F', r1, r2, r3, r4⟩ => ⟨r1, two_layer h hr h2 n1 n2 n3 n4 n5 (Nat.le_succ m) (Nat.zero_le _) r2 r3 r4⟩
/-- What is read, as a text and a number. -/
theorem two_read (HS : DiskSpec w Rep) (h : TwoD Rep w p q lg lc m g a s s' W) (ok : a.ok w) : Calls Try.prog 14 #[.pointer (some ⟨p, 0, none⟩), .int .i64 a.n] W fun e w' => ∃ A l c, e = .returned (.tuple #[.slice A l c, .int .i64 (readE s a.n)]) ∧
    (convert 30 9 (.slice A l c)).run Try.prog w' = .ok (if readE s a.n = 0 then txtV (nowD s a.n.toNat) else .string ⟨#[]⟩) w' ∧ TwoD Rep w p q lg lc m g a s s' w' := by
  obtain ⟨v, z, F, hr, h1, h2, n1, n2, n3, n4, n5⟩ := h.two
  by_cases hE : readE s a.n = 0
  · have ho : ¬ outD s a.n := fun e => by unfold readE at hE; split at hE <;> simp_all
    obtain ⟨i, hi, hil⟩ := not_out ho
    have hsec := seenP_sec (HS.ok W p F s h1) hil
    rw [hE, if_pos rfl, hi, Int.toNat_natCast]
    rw [hi] at hE
    exact (HS.read i p F s W h.bel h1 h2 hE).mono fun e w' ⟨A, c, r1, _, r3, r4⟩ => ⟨A, 64, c, r1, text_later r3.ints hsec.1 (Below.refl _ _), h.later HS r4⟩
  · rw [if_neg hE]
    refine (HS.readNo a.n p F s W h.bel ok.n64 h1 h2 hE).mono fun e w' ⟨A, c, r1, r4⟩ => ⟨A, 0, c, r1, ?_, h.later HS r4⟩
    exact (Ints.nil w' 0 .u8 A).text (P := Try.prog) (src := 30) (e := 5) (dst := 9) Try.underlying30 Try.underlying5 Try.underlying9 c
theorem two_last (HS : DiskSpec w Rep) (h : TwoD Rep w p q lg lc m g a s s' W) (ok : a.ok w) : Calls Try.prog 21 #[.pointer (some ⟨p, 0, none⟩), .int .i64 a.n] W fun e w' => ∃ A l c, e = .returned (.tuple #[.slice A l c, .int .i64 (lastE s a.n)]) ∧
    (convert 30 9 (.slice A l c)).run Try.prog w' = .ok (if lastE s a.n = 0 then txtV (s.last.getD a.n.toNat []) else .string ⟨#[]⟩) w' ∧ TwoD Rep w p q lg lc m g a s s' w' := by
  obtain ⟨v, z, F, hr, h1, h2, n1, n2, n3, n4, n5⟩ := h.two
  by_cases hE : lastE s a.n = 0
  · have ho : ¬ outD s a.n := fun e => by unfold lastE at hE; rw [if_pos e] at hE; cases hE
    obtain ⟨i, hi, hil⟩ := not_out ho
    have hsec := (HS.ok W p F s h1).sec i hil
    rw [hE, if_pos rfl, hi, Int.toNat_natCast]
    rw [hi] at hE
    exact (HS.last i p F s W h.bel h1 h2 hE).mono fun e w' ⟨A, c, r1, _, r3, r4⟩ => ⟨A, 64, c, r1, text_later r3.ints hsec.1 (Below.refl _ _), h.later HS r4⟩
  · rw [if_neg hE]
    refine (HS.lastNo a.n p F s W h.bel ok.n64 h1 h2 hE).mono fun e w' ⟨A, c, r1, r4⟩ => ⟨A, 0, c, r1, ?_, h.later HS r4⟩
    exact (Ints.nil w' 0 .u8 A).text (P := Try.prog) (src := 30) (e := 5) (dst := 9) Try.underlying30 Try.underlying5 Try.underlying9 c
theorem two_pending (HS : DiskSpec w Rep) (h : TwoD Rep w p q lg lc m g a s s' W) : Calls Try.prog 22 #[.pointer (some ⟨p, 0, none⟩)] W fun e w' => e = .returned (.int .i64 (s.pend.length : Int)) ∧ TwoD Rep w p q lg lc m g a s s' w' := by
  obtain ⟨v, z, F, hr, h1, h2, n1, n2, n3, n4, n5⟩ := h.two
  exact (HS.pending p F s W h.bel h1 h2).mono fun e w' ⟨r1, r2⟩ => ⟨r1, h.later HS r2⟩

/-! ### The document's calls -/
theorem two_rwrite (HS : DiskSpec w Rep) (h : TwoD Rep w p q lg lc m g a s s' W) (ok : a.ok w) (hm : m ≤ 100000) : Calls Try.prog 13 #[.pointer (some ⟨q, 0, none⟩), .int .i64 a.n, .slice a.A a.t.length a.c] W fun e w' => e = .returned (.int .i64 (writeE s' a.n a.t)) ∧ TwoD Rep w p q lg lc (m + 1) g a s (writeS s' a.n a.t) w' := by
  obtain ⟨v, z, F, hr, _⟩ := h.two
  have hp := h.pen.2
  have hl := (write_len s' a.n a.t).2
  refine (refWrite_any hr a.n a.A a.c a.t ((ok.ints.below h.bel).more h.bel.size) ok.byte (fun h0 b o e hF => by have := low_of ok h0 e; have := ref_high hr hF; omega) (by omega)).mono fun e w' ⟨r1, r2⟩ => ⟨r1, two_ref HS h hr r2 (Nat.le_succ m) (by omega)⟩
theorem two_rflush (HS : DiskSpec w Rep) (h : TwoD Rep w p q lg lc m g a s s' W) (hm : m ≤ 100000) : Calls Try.prog 17 #[.pointer (some ⟨q, 0, none⟩)] W fun e w' => e = .returned (.int .i64 (flushE s')) ∧ TwoD Rep w p q lg lc (m + 1) g a s (flushS s') w' := by
  obtain ⟨v, z, F, hr, _⟩ := h.two
  have hp := h.pen.2
  have hl := (flush_len s').2
  exact (refFlush_any hr (by omega)).mono fun e w' ⟨r1, r2⟩ => ⟨r1, two_ref HS h hr r2 (Nat.le_succ m) (by omega)⟩
theorem two_rcrash (HS : DiskSpec w Rep) (h : TwoD Rep w p q lg lc m g a s s' W) (ok : a.ok w) (hm : m ≤ 100000) : Calls Try.prog 20 #[.pointer (some ⟨q, 0, none⟩), .slice a.B a.l.length a.k] W fun e w' => e = .returned (.tuple #[]) ∧ TwoD Rep w p q lg lc (m + 1) g a s (crashS s' a.l) w' := by
  obtain ⟨v, z, F, hr, _⟩ := h.two
  have hp := h.pen.2
  exact (refCrash_any hr (by omega) a.B a.k a.l ((ok.bools.below h.bel).more h.bel.size) (fun h0 b o e hF => by have := lowB_of ok h0 e; have := ref_high hr hF; omega)).mono fun e w' ⟨r1, r2⟩ => ⟨r1, two_ref HS h hr r2 (Nat.le_succ m) (Nat.zero_le _)⟩
theorem two_rread (h : TwoD Rep w p q lg lc m g a s s' W) (hm : m ≤ 100000) : Calls Try.prog 15 #[.pointer (some ⟨q, 0, none⟩), .int .i64 a.n] W fun e w' => e = .returned (.tuple #[if readE s' a.n = 0 then txtV (nowD s' a.n.toNat) else .string ⟨#[]⟩, .int .i64 (readE s' a.n)]) ∧ w' = W := by
  obtain ⟨v, z, F, hr, _⟩ := h.two
  have hp := h.pen.2
  exact refRead_any hr a.n (by omega)
end

end Go.Proofs.Ytnbgnllkikajpaa
