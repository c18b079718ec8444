/-
  copy into bytes of one's own; DiskOwn: what is handed to a disk, and what it answers, is its own no more.
-/
import Derived.Test.YtnbgnllkikajpaaDiskSpec
import Derived.Laws.CopyOwn
namespace Go.Proofs.Ytnbgnllkikajpaa
open Go.RowKit

/-- The first bytes, with bytes 0 behind. -/
def fitB (l : List Nat) : List Nat := l.take 64 ++ List.replicate (64 - (l.take 64).length) 0
theorem fitB_sec {l : List Nat} (h : ∀ y ∈ l, y < 256) : Sec (fitB l) := by
  refine ⟨by unfold fitB; rw [List.length_append, List.length_replicate, List.length_take]; omega, fun y hy => ?_⟩
  unfold fitB at hy
  rcases List.mem_append.1 hy with h1 | h1
  · exact h y (List.mem_of_mem_take h1)
  · rw [List.eq_of_mem_replicate h1]; decide
theorem splice_fit (l : List Nat) : (Go.splice (zeroSec.map fun n : Nat => Value.int .u8 (n : Int)) 0 ((l.take 64).map fun n : Nat => Value.int .u8 (n : Int))).toArray = CB (fitB l) := by
  unfold Go.splice CB fitB zeroSec
  congr 1
  simp only [List.take_zero, List.nil_append, Nat.zero_add, List.length_map, List.map_append, List.map_replicate, List.drop_replicate]
/-- 'copy(b, x)' into 64 new bytes. -/
theorem wpList_copyB {w : World} {ops : Array Oper} {rest : List Oper} {o : Oper} {a : Act} {Q : Exit → Act → World → Prop} (hgd : o.guard = none) (d s : Operand)
    (ho : o.op = .call { callee := .builtin .copy, args := #[d, s], argTypes := #[30, 30] }) (g c : Nat) (A : Option Addr) (n k : Nat) (hd : a.eval d = .slice (some ⟨g, 0, none⟩) 64 k) (hs : a.eval s = .slice A n c)
    (l : List Nat) (hn : l.length = n) (hg : RwB g zeroSec w) (hI : Ints w w.heap.size .u8 A (up l)) (B : Nat) (w0 : World) (hb : Below B w0 w) (hBg : B ≤ g)
    (h : ∀ w' m, RwB g (fitB l) w' → Below B w0 w' → wpList Try.prog ops Q rest (a.put o.dst (goInt m)) w') : wpList Try.prog ops Q (o :: rest) a w := by
  subst hn
  refine wpList_copy_splice hgd d s 30 30 ho 5 Try.underlying30 (by kernel_rfl) _ _ 64 k l.length c hd hs g 0 (zeroSec.map fun n : Nat => Value.int .u8 (n : Int)) 5 hg ((l.take 64).map fun n : Nat => Value.int .u8 (n : Int)) ?_ (fun h0 => ?_) ?_ ?_ B w0 hb hBg fun w' q1 q2 => ?_
  · rw [List.length_map, List.length_take]; exact Nat.min_comm _ _
  · refine ⟨rfl, ?_⟩
    rw [List.length_map, List.length_take] at h0
    obtain ⟨b, off, rfl, _, hc⟩ := hI.at_ (by rw [up_len]; omega)
    refine ⟨_, rfl, fun j v hv => ?_⟩
    have hj : j < 64 ∧ j < l.length := by
      have : j < ((l.take 64).map fun n : Nat => Value.int .u8 (n : Int)).length := by
        rcases Nat.lt_or_ge j ((l.take 64).map fun n : Nat => Value.int .u8 (n : Int)).length with h | h
        · exact h
        · rw [List.getElem?_eq_none h] at hv; cases hv
      rw [List.length_map, List.length_take] at this
      omega
    rw [Addr.add_mid, hc j (by rw [up_len]; omega), up_getD, ← hv, List.getElem?_map, List.getElem?_take_of_lt hj.1, List.getElem?_eq_getElem hj.2]
    simp [List.getD_eq_getElem?_getD, hj.2]
  · rw [List.length_map, List.length_map, List.length_take, sec_zero.1]; omega
  · intro v hv; obtain ⟨z, _, rfl⟩ := List.mem_map.1 hv; rfl
  · have q3 := q1.out
    rw [splice_fit] at q3
    exact h w' _ q3 q2

section
variable {w : World} {Rep : World → Nat → (Nat → Prop) → Dk → Prop}
/-- What is known of a new slice that may be written, and of its text. -/
structure Mine (Rep : World → Nat → (Nat → Prop) → Dk → Prop) (w : World) (p : Nat) (s : Dk) (g o c : Nat) (t : List Nat) (W : World) : Prop where
  me : OwnD Rep w W p s
  own : ∀ i v, OwnD Rep w (W.setCell ⟨g, o + i, none⟩ v) p s
  text : (convert 30 9 (.slice (some ⟨g, o, none⟩) 64 c)).run Try.prog W = .ok (.string (strOfNums (up t))) W
  cell : ∀ i, i < 64 → W.cell? ⟨g, o + i, none⟩ = some (.int .u8 (t.getD i 0 : Nat)) ∧ W.frozen? ⟨g, o + i, none⟩ = false
theorem own_set {F : Nat → Prop} {W : World} {p : Nat} {s : Dk} (HS : DiskSpec w Rep) (h1 : Rep W p F s) (h2 : ∀ b, F b → w.heap.size ≤ b) (h3 : Below w.heap.size w W) {g : Nat} (hg : ¬ F g) (hgw : w.heap.size ≤ g) (o : Nat) (v : Value) : OwnD Rep w (W.setCell ⟨g, o, none⟩ v) p s :=
  ⟨F, HS.keep W _ p F s h1 (fun b hb => setc_other W g b o v (fun e => hg (e ▸ hb))), h2, h3.setCell (p := ⟨g, o, none⟩) hgw v⟩
theorem mine_read (HS : DiskSpec w Rep) {W : World} {p i : Nat} {s : Dk} (hr : readE s (i : Int) = 0) (hs : Sec (nowD s i)) (h : OwnD Rep w W p s) : Calls Try.prog 14 #[.pointer (some ⟨p, 0, none⟩), .int .i64 (i : Int)] W fun e w' => ∃ g o c, e = .returned (.tuple #[.slice (some ⟨g, o, none⟩) 64 c, .int .i64 0]) ∧ Mine Rep w p s g o c (nowD s i) w' := by
  obtain ⟨F, h1, h2, h3⟩ := h
  refine (HS.read i p F s W h3 h1 h2 hr).mono fun e w' ⟨A, c, r1, _, r3, r4⟩ => ?_
  have hI := r3.ints
  obtain ⟨g, o, hA, q1, q2, q3⟩ := r3
  subst hA
  have hlt := HS.lt W p F s h1
  refine ⟨g, o, c, r1, ⟨F, HS.later h1 r4, h2, chain h3 r4⟩, fun j v => own_set HS (HS.later h1 r4) h2 (chain h3 r4) (fun hF => by have := hlt g hF; omega) (Nat.le_trans h3.size q1) _ v, ?_, fun j hj => q3 j (by rw [hs.1]; exact hj)⟩
  have ht := hI.text (P := Try.prog) (src := 30) (e := 5) (dst := 9) Try.underlying30 Try.underlying5 Try.underlying9 c
  rw [up_len, hs.1] at ht
  exact ht
theorem mine_write (HS : DiskSpec w Rep) {W W3 : World} {p : Nat} {t : List Nat} (ht : Sec t) (h : OwnD Rep w W p (newD 1)) (hb : Below W.heap.size W W3) (hg : RwB W.heap.size t W3) :
    Calls Try.prog 12 #[.pointer (some ⟨p, 0, none⟩), .int .i64 0, .slice (some ⟨W.heap.size, 0, none⟩) 64 64] W3 fun e w' => e = .returned (.int .i64 0) ∧ Mine Rep w p (writeS (newD 1) (0 : Nat) t) W.heap.size 0 64 t w' := by
  obtain ⟨F, h1, h2, h3⟩ := h
  have hlt := HS.lt W p F _ h1
  have hnF : ¬ F W.heap.size := fun hF => by have := hlt _ hF; omega
  have hl : t.length = 64 := ht.1
  have hc := HS.write ((0 : Nat) : Int) (some ⟨W.heap.size, 0, none⟩) 64 t p F _ W3 (chain h3 hb) (by unfold I64c; omega) hg.ints ht.2 (Nat.le_of_eq hl) (by omega) (fun _ b o e hF' => by
    injection e with e
    injection e with e1 _
    exact hnF (e1 ▸ hF')) (Nat.zero_le _) (HS.later h1 hb) h2
  rw [hl, (free_write (free_new (N := 1) (by decide) (by decide)) (k := 0) (by decide) ht).2.1] at hc
  refine hc.mono fun e w' ⟨F', r1, r2, r3, r4⟩ => ⟨r1, ?_⟩
  have hnF' : ¬ F' W.heap.size := fun hF => (r3 _ hF).elim hnF (fun q => by have := hg.lt; omega)
  have hg4 : RwB W.heap.size t w' := (r4.block _ hg.lt hnF).trans hg
  have hown := own_turn (s' := writeS (newD 1) ((0 : Nat) : Int) t) h2 (chain h3 hb) r2 r3 r4
  have o3 := hown.below
  refine ⟨hown, fun j v => own_set HS r2 (fun b q => (r3 b q).elim (h2 b) (fun q => Nat.le_trans (chain h3 hb).size q)) o3 hnF' h3.size _ v, ?_, fun j hj => ?_⟩
  · have ht2 := hg4.ints.text (P := Try.prog) (src := 30) (e := 5) (dst := 9) Try.underlying30 Try.underlying5 Try.underlying9 64
    rw [up_len, hl] at ht2
    exact ht2
  · rw [Nat.zero_add]; exact ⟨hg4.cell (by rw [hl]; exact hj), hg4.thaw j⟩

set_option maxHeartbeats 1600000 in
set_option maxRecDepth 20000 in
/-- DiskOwn. -/
theorem diskOwn_go (A : Option Addr) (c : Nat) (l : List Nat) (at' turn : Nat) (w : World) (HS : DiskSpec w Rep) (hI : Ints w w.heap.size .u8 A (up l)) (hl : ∀ y ∈ l, y < 256) (ha : at' < 256) (ht : turn < 256) :
    Calls Try.prog 7 #[.slice A l.length c, .int .u8 (at' : Int), .int .u8 (turn : Int)] w fun e w' => e = .returned (.bool true) ∧ Below w.heap.size w w' := by
  have hsec := fitB_sec hl
  have HA := Lib.hid (fun (W : World) (hb : Below w.heap.size w W) => diskAwake HS W hb)
  have H1 : Hid (Calls Try.prog 9 #[.int .i64 1] w fun e w' => ∃ p, e = .returned (.tuple #[.pointer (some ⟨p, 0, none⟩), .int .i64 0]) ∧ OwnD Rep w w' p (newD 1)) := own_newD (Rep := Rep) HS (W := w) (n := 1) (Below.refl _ _) (by decide) (by decide)
  have HW : Hid (∀ (W W3 : World) (p : Nat), OwnD Rep w W p (newD 1) → Below W.heap.size W W3 → RwB W.heap.size (fitB l) W3 → Calls Try.prog 12 #[.pointer (some ⟨p, 0, none⟩), .int .i64 0, .slice (some ⟨W.heap.size, 0, none⟩) 64 64] W3 fun e w' => e = .returned (.int .i64 0) ∧ Mine Rep w p (writeS (newD 1) (0 : Nat) (fitB l)) W.heap.size 0 64 (fitB l) w') := fun W W3 p h hb hg => mine_write HS hsec h hb hg
  have hfw := free_write (free_new (N := 1) (by decide) (by decide)) (k := 0) (by decide) hsec
  have hrd := (free_read hfw.1 (k := 0) (by decide)).1
  have hnow : nowD (writeS (newD 1) ((0 : Nat) : Int) (fitB l)) 0 = fitB l := by
    rw [hfw.2.2]
    exact (seenP_app 0 (0, fitB l) [] _).trans (if_pos rfl)
  have HR : Hid (∀ (W : World) (p : Nat), OwnD Rep w W p (writeS (newD 1) (0 : Nat) (fitB l)) → Calls Try.prog 14 #[.pointer (some ⟨p, 0, none⟩), .int .i64 0] W fun e w' => ∃ g o c, e = .returned (.tuple #[.slice (some ⟨g, o, none⟩) 64 c, .int .i64 0]) ∧ Mine Rep w p (writeS (newD 1) (0 : Nat) (fitB l)) g o c (fitB l) w') := fun W p h => by
    have h2 := mine_read HS (i := 0) hrd (by rw [hnow]; exact hsec) h
    rw [hnow] at h2
    exact h2
  have HI : Hid (∀ (W : World), Below w.heap.size w W → Ints W W.heap.size .u8 A (up l)) := fun W hb => (hI.below hb).more hb.size
  have HOB : Hid (∀ W p s, OwnD Rep w W p s → Below w.heap.size w W) := fun W p s h => h.below
  have hmk := make64
  obtain ⟨Z, hZ⟩ : ∃ Z, Z = CB zeroSec := ⟨_, rfl⟩
  rw [← hZ] at hmk
  have HZ : Hid (∀ W : World, RwB W.heap.size zeroSec (W.alloc (.cells Z 5))) := fun W => by rw [hZ]; exact RwB.new W zeroSec
  obtain ⟨r, hr⟩ : ∃ r, r = at' % 64 := ⟨_, rfl⟩
  have hr64 : r < 64 := by omega
  have hm : (at' : Int).tmod 64 = (r : Int) := by rw [Int.tmod_eq_emod_of_nonneg (by omega)]; omega
  obtain ⟨T, hT⟩ : ∃ T, T = fitB l := ⟨_, rfl⟩
  have hy256 : T.getD r 0 < 256 := hsec.2 _ (by rw [← hT, List.getD_eq_getElem?_getD, List.getElem?_eq_getElem (by rw [hT, hsec.1]; exact hr64)]; exact List.getElem_mem _)
  obtain ⟨y, hy⟩ : ∃ y, y = T.getD r 0 := ⟨_, rfl⟩
  rw [← hy] at hy256
  have hx := u8_xor_nat y turn hy256 ht
  obtain ⟨x, hxx⟩ : ∃ x, x = y ^^^ turn := ⟨_, rfl⟩
  rw [← hxx] at hx
  rw [← hT] at HW HR
  have HM : Hid (∀ p g o c W, Mine Rep w p (writeS (newD 1) (0 : Nat) T) g o c T W → OwnD Rep w W p (writeS (newD 1) (0 : Nat) T) ∧ (∀ v, OwnD Rep w (W.setCell ⟨g, o + r, none⟩ v) p (writeS (newD 1) (0 : Nat) T)) ∧ (convert 30 9 (.slice (some ⟨g, o, none⟩) 64 c)).run Try.prog W = .ok (.string (strOfNums (up T))) W ∧ W.cell? ⟨g, o + r, none⟩ = some (.int .u8 (y : Nat)) ∧ W.frozen? ⟨g, o + r, none⟩ = false) := fun p g o c W h => ⟨h.me, h.own r, h.text, by rw [hy]; exact (h.cell r hr64).1, (h.cell r hr64).2⟩
  have HT : Hid (fitB l = T) := hT.symm
  obtain ⟨tx, htx⟩ : ∃ tx, tx = strOfNums (up T) := ⟨_, rfl⟩
  rw [← htx] at HM
  have hr0 : (0 : Int) ≤ (r : Int) := by omega
  have hr1 : (r : Int) < 64 := by omega
  obtain ⟨N, hN⟩ : ∃ N, N = l.length := ⟨_, rfl⟩
  have HN : Hid (l.length = N) := hN.symm
  rw [← hN]
  clear HS hI hl hsec hfw hrd hnow hZ hr hT hy hxx htx hN ha ht
  go_enter Try.func7, Try.ntmps7
  go_wp2_with (first
    | (go_at_call 9; with_reducible (refine Calls.mono H1.out ?_); rintro e w1 ⟨p, rfl, ho1⟩; have z1 := HZ.out w1; have bz1 : Below w1.heap.size w1 (w1.alloc (.cells Z 5)) := (Below.refl _ _).alloc (Nat.le_refl _) _; have iz1 := HI.out _ (chain (HOB.out _ _ _ ho1) bz1))
    | (with_reducible (refine wpList_copyB rfl _ _ rfl w1.heap.size c A N 64 rfl rfl l HN.out z1 iz1 w1.heap.size w1 bz1 (Nat.le_refl _) ?_); intro w2 m2 hg2 hb2; rw [HT.out] at hg2; clear z1 bz1 iz1)
    | (go_at_call 10; with_reducible (refine Calls.mono (HA.out _ ((HOB.out _ _ _ ho1).trans (hb2.mono (HOB.out _ _ _ ho1).size))) ?_); rintro e w3 ⟨rfl, hb3⟩; have hg3 := hg2.below hb3 hg2.lt; have hb3' := hb2.trans (hb3.mono hb2.size))
    | (go_at_call 12; with_reducible (refine Calls.mono (HW.out _ _ _ ho1 hb3' hg3) ?_); rintro e w4 ⟨rfl, hm4⟩; obtain ⟨m40, m41, m42, m43, m44⟩ := HM.out _ _ _ _ _ hm4; rw [Nat.zero_add] at m43 m44; simp only [Nat.zero_add] at m41; clear ho1 hb3' hg3 hg2 hb2 hb3 hm4 m40)
    | (go_at_call 14; with_reducible (refine Calls.mono (HR.out _ _ (m41 _)) ?_); rintro e w5 ⟨g5, o5, c5, rfl, hm5⟩; obtain ⟨m50, m51, m52, m53, m54⟩ := HM.out _ _ _ _ _ hm5; clear m50 hm5 m41 m42 m43 m44)
    | (go_at_call 14; with_reducible (refine Calls.mono (HR.out _ _ (m51 _)) ?_); rintro e w6 ⟨g6, o6, c6, rfl, hm6⟩; obtain ⟨m60, m61, m62, m63, m64⟩ := HM.out _ _ _ _ _ hm6; have hb6 := HOB.out _ _ _ m60; clear m60 hm6 m51 m52 m53 m54))
  go_ret
  exact ⟨rfl, hb6⟩
end

end Go.Proofs.Ytnbgnllkikajpaa
