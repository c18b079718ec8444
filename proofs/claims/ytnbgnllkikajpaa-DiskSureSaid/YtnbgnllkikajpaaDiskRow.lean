/-
  A disk of one's own beside a row of texts of one's own; texts that came in, copied and written.
-/
import Derived.Test.YtnbgnllkikajpaaDiskOwn
import Derived.Test.YtnbgnllkikajpaaRows2
import Derived.Maps.AppendAt
import Derived.Deep.RegionHeld3
import Derived.Deep.CutRange
namespace Go.Proofs.Ytnbgnllkikajpaa
open Go.RowKit

section
variable {w : World} {Rep : World → Nat → (Nat → Prop) → Dk → Prop}
theorem off_of {B : Option Addr} {l : List Bool} {F : Nat → Prop} (h : Bools w w.heap.size B l) (hF : ∀ b, F b → w.heap.size ≤ b) : Off F B l.length := fun h0 b o e hb => by
  obtain ⟨b2, o2, e2, hlt, _⟩ := h 0 h0
  rw [e2] at e
  injection e with e
  injection e with e1 _
  have := hF b hb
  omega
/-- A write of bytes that were laid behind the disk. -/
theorem own_write (HS : DiskSpec w Rep) {N i k : Nat} {s : Dk} {W W3 : World} {p g : Nat} {t : List Nat} (hf : FreeD N i s) (hi : i ≤ 100000) (hk : k < N) (ht : Sec t) (h : OwnD Rep w W p s) (hb : Below W.heap.size W W3) (hgw : W.heap.size ≤ g) (hg : RwB g t W3) :
    Calls Try.prog 12 #[.pointer (some ⟨p, 0, none⟩), .int .i64 (k : Int), .slice (some ⟨g, 0, none⟩) 64 64] W3 fun e w' => e = .returned (.int .i64 0) ∧ OwnD Rep w w' p (writeS s (k : Int) t) ∧ RwB g t w' := by
  obtain ⟨F, h1, h2, h3⟩ := h
  have hlt := HS.lt W p F _ h1
  have hnF : ¬ F g := fun hF => by have := hlt _ hF; omega
  have hN := hf.ok.le
  have hl := hf.len
  have hpn := hf.pen
  have hc := HS.write (k : Int) (some ⟨g, 0, none⟩) 64 t p F s W3 (chain h3 hb) (by unfold I64c; omega) hg.ints ht.2 (Nat.le_of_eq ht.1) (by rw [ht.1]; decide) (fun _ b o e hF' => by
    injection e with e
    injection e with e1 _
    exact hnF (e1 ▸ hF')) (by omega) (HS.later h1 hb) h2
  rw [ht.1, (free_write hf hk ht).2.1] at hc
  exact hc.mono fun e w' ⟨F', r1, r2, r3, r4⟩ => ⟨r1, own_turn h2 (chain h3 hb) r2 r3 r4, (r4.block _ hg.lt hnF).trans hg⟩

/-- A row of texts of one's own beside. -/
structure RowD (Rep : World → Nat → (Nat → Prop) → Dk → Prop) (w : World) (p : Nat) (s : Dk) (v : Value) (k : Nat) (xs : List Value) (W : World) : Prop where
  below : Below w.heap.size w W
  row : W.ownsRow w.heap.size 9 1 v k xs
  rep : ∃ F, Rep W p F s ∧ (∀ b, F b → w.heap.size ≤ b) ∧ Free F v
variable {p : Nat} {s : Dk} {v : Value} {k : Nat} {xs : List Value} {W : World}
theorem RowD.own (h : RowD Rep w p s v k xs W) : OwnD Rep w W p s := by
  obtain ⟨F, h1, h2, _⟩ := h.rep
  exact ⟨F, h1, h2, h.below⟩
theorem RowD.later (HS : DiskSpec w Rep) {W' : World} (h : RowD Rep w p s v k xs W) (hb : Below W.heap.size W W') : RowD Rep w p s v k xs W' := by
  obtain ⟨F, h1, h2, h3⟩ := h.rep
  exact ⟨chain h.below hb, own_away h.row (Away.of_below hb) h3, F, HS.later h1 hb, h2, h3⟩
theorem RowD.turn {W' : World} {s' : Dk} {F F' : Nat → Prop} (h : RowD Rep w p s v k xs W) (h2 : ∀ b, F b → w.heap.size ≤ b) (h3 : Free F v) (hr : Rep W' p F' s') (hm : More F F' W.heap.size) (ha : Away F W W') : RowD Rep w p s' v k xs W' :=
  ⟨ha.below h2 h.below h.below.size, own_away h.row ha h3, F', hr, fun b q => (hm b q).elim (h2 b) (fun q => Nat.le_trans h.below.size q), free_more h.row h3 hm⟩
theorem RowD.app (HS : DiskSpec w Rep) {W' : World} {v' : Value} {o : Obj} {ys : List Value} {k' : Nat} (h : RowD Rep w p s v k xs W) (hown : W'.ownsRow w.heap.size 9 1 v' k' ys) (hg : (W.alloc o).grownBy W' v.ownBlock) (hl : v'.ownBlock = v.ownBlock ∨ v'.ownBlock = some (W.alloc o).heap.size) : RowD Rep w p s v' k' ys W' := by
  have h1 := h.later HS (W' := W.alloc o) ((Below.refl _ _).alloc (Nat.le_refl _) _)
  obtain ⟨F, q1, q2, q3⟩ := h1.rep
  refine ⟨h1.below.grown hg h1.below.size (fun j hj => (h1.row.lt j hj).1), hown, F, HS.keep _ _ p F s q1 fun b hb => hg.block b (HS.lt _ p F s q1 b hb) (fun e => q3 b e.symm hb), q2, fun q hq hF => ?_⟩
  rcases hl with e | e
  · exact q3 q (e ▸ hq) hF
  · rw [e] at hq
    injection hq with hq
    have := HS.lt _ p F s q1 q hF
    omega
theorem rowD_none (h : OwnD Rep w W p s) : RowD Rep w p s (.slice none 0 0) 0 [] W := by
  obtain ⟨F, h1, h2, h3⟩ := h
  exact ⟨h3, ⟨rfl, .inl ⟨rfl, rfl⟩⟩, F, h1, h2, fun q hq => by cases hq⟩
theorem RowD.read (HS : DiskSpec w Rep) {i : Nat} (hr : readE s (i : Int) = 0) (hs : Sec (nowD s i)) (h : RowD Rep w p s v k xs W) : Calls Try.prog 14 #[.pointer (some ⟨p, 0, none⟩), .int .i64 (i : Int)] W fun e w' => ∃ A c, e = .returned (.tuple #[.slice A 64 c, .int .i64 0]) ∧
    Ints w' w'.heap.size .u8 A (up (nowD s i)) ∧ (convert 30 9 (.slice A 64 c)).run Try.prog w' = .ok (.string (strOfNums (up (nowD s i)))) w' ∧ RowD Rep w p s v k xs w' := by
  obtain ⟨F, h1, h2, h3⟩ := h.rep
  refine (HS.read i p F s W h.below h1 h2 hr).mono fun e w' ⟨A, c, r1, _, r3, r4⟩ => ?_
  have ht := r3.ints.text (P := Try.prog) (src := 30) (e := 5) (dst := 9) Try.underlying30 Try.underlying5 Try.underlying9 c
  rw [up_len, hs.1] at ht
  exact ⟨A, c, r1, r3.ints, ht, h.later HS r4⟩
theorem RowD.last (HS : DiskSpec w Rep) {i : Nat} (hr : lastE s (i : Int) = 0) (h : RowD Rep w p s v k xs W) : Calls Try.prog 21 #[.pointer (some ⟨p, 0, none⟩), .int .i64 (i : Int)] W fun e w' => ∃ A c, e = .returned (.tuple #[.slice A 64 c, .int .i64 0]) ∧
    Ints w' w'.heap.size .u8 A (up (s.last.getD i [])) ∧ RowD Rep w p s v k xs w' ∧ Below W.heap.size W w' := by
  obtain ⟨F, h1, h2, h3⟩ := h.rep
  refine (HS.last i p F s W h.below h1 h2 hr).mono fun e w' ⟨A, c, r1, _, r3, r4⟩ => ?_
  exact ⟨A, c, r1, r3.ints, h.later HS r4, r4⟩
theorem text_later {W W' : World} {A : Option Addr} {c : Nat} {t : List Nat} (hI : Ints W W.heap.size .u8 A (up t)) (ht : t.length = 64) (hb : Below W.heap.size W W') : (convert 30 9 (.slice A 64 c)).run Try.prog W' = .ok (.string (strOfNums (up t))) W' := by
  have h := (hI.below hb).text (P := Try.prog) (src := 30) (e := 5) (dst := 9) Try.underlying30 Try.underlying5 Try.underlying9 c
  rw [up_len, ht] at h
  exact h
end

end Go.Proofs.Ytnbgnllkikajpaa
