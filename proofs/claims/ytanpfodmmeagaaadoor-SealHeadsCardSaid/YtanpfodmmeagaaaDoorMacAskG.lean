/-
  What is asked of the layer mac, as properties of its calls. The layer mac: all its calls, as they are asked for. The layer mac: a key for a purpose.
-/
import Derived.Test.YtanpfodmmeagaaaDoorShaNumsG
import Derived.Test.YtanpfodmmeagaaaDoorWordsG
import Derived.Lib.SlBytesConst
import Derived.Test.YtanpfodmmeagaaaDoorMacC1G
import Derived.Test.YtanpfodmmeagaaaDoorShaCodeG
namespace Go.Proofs.YtanpfodmmeagaaaDoor
open Go.RowKit

def cat (ps : List Part) : List Nat := (ps.map Part.b).flatten
def CodeSpec (w0 : World) : Prop := ∀ (A0 : Option Addr) (c0 : Nat) (key : List Nat) (A1 : Option Addr) (c1 : Nat) (ps : List Part) (w : World), Below w0.heap.size w0 w → Ints w w.heap.size .u8 A0 (up key) → (A0 = none → c0 = 0) → (∀ b ∈ key, b < 256) → key.length ≤ c0 → key.length ≤ 140737488355000 →
  Parts w w.heap.size A1 ps → ps.length ≤ c1 → ps.length ≤ 4096 → (cat ps).length ≤ 140737488354900 →
  Calls Tryd.prog 23 #[.slice A0 key.length c0, .slice A1 ps.length c1] w fun e w' => e = .returned (.agg (BA (macN key (cat ps)))) ∧ Below w.heap.size w w'
def SameSpec : Prop := ∀ (A0 A1 : Option Addr) (c0 c1 : Nat) (xs ys : List Nat) (w : World), Ints w w.heap.size .u8 A0 (up xs) → Ints w w.heap.size .u8 A1 (up ys) → (∀ b ∈ xs, b < 256) → (∀ b ∈ ys, b < 256) → xs.length ≤ c0 → ys.length ≤ c1 → xs.length ≤ 140737488355000 → ys.length ≤ 140737488355000 →
  Calls Tryd.prog 19 #[.slice A0 xs.length c0, .slice A1 ys.length c1] w fun e w' => e = .returned (.bool (xs == ys)) ∧ Below w.heap.size w w'
def DeriveSpec (w0 : World) : Prop := ∀ (A0 : Option Addr) (c0 : Nat) (key : List Nat) (s : ByteArray) (n : Int) (w : World), Below w0.heap.size w0 w → Ints w w.heap.size .u8 A0 (up key) → (A0 = none → c0 = 0) → (∀ b ∈ key, b < 256) → key.length ≤ c0 → key.length ≤ 140737488355000 → s.size ≤ 140737488354000 → -9223372036854775808 ≤ n → n ≤ 9223372036854775807 →
  Calls Tryd.prog 20 #[.slice A0 key.length c0, .string s, .int .i64 n] w fun e w' => ∃ A c, e = .returned (.slice A 16 c) ∧ 16 ≤ c ∧ Ints w' w'.heap.size .u8 A (up (deriveN key (textN s) n)) ∧ Below w.heap.size w w'

/-- A slice of one text, in a new block. -/
theorem parts_one (w : World) (p : Part) (t : TypeId) (hp : p.ok w w.heap.size) : Parts (w.alloc (.cells #[.slice p.A p.b.length p.c] t)) (w.heap.size + 1) (some ⟨w.heap.size, 0, none⟩) [p] := fun i hi => by
  have h0 : i = 0 := by simp at hi; omega
  subst h0
  exact ⟨w.heap.size, 0, rfl, Nat.lt_succ_self _, cell_of_row _ _ 0 _ _ _ (heap_alloc_new _ _), ⟨(hp.ints.alloc (Nat.le_refl _) _).more (Nat.le_succ _), hp.nil, hp.byte, hp.le⟩⟩
theorem Parts.more {w : World} {B B' : Nat} {A : Option Addr} {ps : List Part} (h : Parts w B A ps) (hB : B ≤ B') : Parts w B' A ps := fun i hi => by
  obtain ⟨b, off, h1, h2, h3, h4⟩ := h i hi
  exact ⟨b, off, h1, Nat.lt_of_lt_of_le h2 hB, h3, ⟨h4.ints.more hB, h4.nil, h4.byte, h4.le⟩⟩
theorem Parts.below {w w' : World} {B : Nat} {A : Option Addr} {ps : List Part} (h : Parts w B A ps) (hb : Below B w w') : Parts w' B A ps := fun i hi => by
  obtain ⟨b, off, h1, h2, h3, h4⟩ := h i hi
  exact ⟨b, off, h1, h2, (hb.cell (p := ⟨b, off + i, none⟩) h2).trans h3, h4.below hb⟩
theorem parts_of_row {w : World} {g : Nat} {t : TypeId} {fr : Nat × Nat} {ps : List Part} {vs : Array Value} (h : w.heap[g]? = some (.cells vs t fr)) (hv : vs = (ps.map fun p => Value.slice p.A p.b.length p.c).toArray) (hp : ∀ p ∈ ps, p.ok w w.heap.size) : Parts w w.heap.size (some ⟨g, 0, none⟩) ps := fun i hi => by
  have hg : g < w.heap.size := by
    by_cases hlt : g < w.heap.size
    · exact hlt
    · have hn : w.heap[g]? = none := by simp; omega
      rw [hn] at h
      cases h
  refine ⟨g, 0, rfl, hg, ?_, hp _ (List.getElem_mem hi)⟩
  rw [Nat.zero_add, cell_of_row w g i _ t fr h, hv]
  simp [hi]
theorem hn1 {w : World} {o : Obj} : (w.alloc o).heap[w.heap.size]? = some o := heap_alloc_new w o
theorem below_one {W w w' : World} {o : Obj} (h : Below W.heap.size W w) (h2 : Below (w.alloc o).heap.size (w.alloc o) w') : Below W.heap.size W w' := (h.alloc h.size _).trans (h2.mono (by have := h.size; simp; omega))

end Go.Proofs.YtanpfodmmeagaaaDoor

namespace Go.Proofs.YtanpfodmmeagaaaDoor
open Go.RowKit

/-- As one step of a region that draws: a whole array is laid into a block of one's own. -/
theorem step_store_fresh {P : Program} {ops : Array Oper} {o : Oper} {a : Act} {w w0 : World} {B : Nat} {K : Act → World → Prop} {Q : Exit → Act → World → Prop} {E : Prop} (hw : Region.wanted o (yielded ops a.tmps) = true) (ty : TypeId) (x y : Operand) (ho : o.op = .store ty x y)
    (g : Nat) (cells : Array Value) (hx : a.eval x = .pointer (some ⟨g, 0, none⟩)) (hy : a.eval y = .agg cells) (t : TypeId) (old : Array Value) (hg : w.heap[g]? = some (.cells old t (0, 0))) (hi : (P.info? ty).map (·.size) = some cells.size)
    (hold : old.size = cells.size) (h1 : cells.all (·.oneCell') = true) (hb : Below B w0 w) (hB : B ≤ g)
    (h : ∀ W : World, W.heap[g]? = some (.cells cells t (0, 0)) → Below B w0 W → K (a.put o.dst undef) W) : if Region.wanted o (yielded ops a.tmps) = true then Oper.wp P o a w K Q else E := by
  rw [if_pos hw]
  exact wp_store_row ty x y ho g cells hx hy t old hg hi hold h1 (h _ (setRow_heap w g old cells t (0, 0) hg) (below_setRow hb hB cells))
theorem range_of_BA {w : World} {g : Nat} {t : TypeId} {fr : Nat × Nat} {l : List Nat} (h : w.heap[g]? = some (.cells (BA l) t fr)) : w.rangeAt g 0 (l.map fun z : Nat => Value.int .u8 (z : Int)) := fun j v hv => by
  rw [Nat.zero_add, cell_of_row w g j _ t _ h]
  simpa [BA] using hv
theorem results_cell_mid {P : Program} {fn : Func} {p : Tmp} {ty : TypeId} (h : fn.results = #[.cell p ty]) (tmps : Array Value) (w : World) (g : Nat) (cs : List Value) (d : TypeDesc)
    (hp : tmps.getD p undef = .pointer (some ⟨g, 0, none⟩)) (hc : w.rangeAt g 0 cs) (hu : P.underlying ty = some d) (hd : d.isRow = true) (hi : (P.info? ty).map (·.size) = some cs.length) :
    (results fn tmps).run P w = .ok (.agg cs.toArray) w := by
  have hp' : tmps[p]?.getD undef = .pointer (some ⟨g, 0, none⟩) := by simpa using hp
  simp [results, h, hp', asAddr, run_loadVar_mid w g 0 ty cs d hc hu hd hi]
theorem ha1d {w w' : World} {o : Obj} (h : Below (w.alloc o).drew.heap.size (w.alloc o).drew w') : w'.heap[w.heap.size]? = some o := (h.block w.heap.size (by show _ < (w.alloc o).heap.size; simp)).trans (heap_alloc_new w o)
theorem below_ad (w : World) (o : Obj) : Below w.heap.size w (w.alloc o).drew := ((Below.refl _ _).alloc (Nat.le_refl _) _).drew
theorem fill_any {w0 : World} (HD : DigestSpec w0) (A : Option Addr) (c : Nat) (key : List Nat) (w : World) (hw0 : Below w0.heap.size w0 w) (hr : Ints w w.heap.size .u8 A (up key)) (hA : A = none → c = 0) (hb : ∀ x ∈ key, x < 256) (hc : key.length ≤ c) (hm : key.length ≤ 140737488355000) :
    Calls Tryd.prog 37 #[.slice A key.length c] w fun e w' => e = .returned (.agg (BA (fullN (keyN key)))) ∧ Below w.heap.size w w' := by
  rcases Nat.lt_or_ge 64 key.length with h | h
  · exact fill_long HD A c key w hw0 hr hA hb hc hm h
  · exact fill_short A c key w hr h
theorem xorK_full (l : List Nat) (x : Nat) : xorK (fullN l) x = xorK l x := by
  unfold xorK xorTo
  apply List.map_congr_left
  intro i _
  rw [fullN_at]
theorem xorK_lt {l : List Nat} (hl : ∀ b ∈ l, b < 256) {x : Nat} (hx : x < 256) : ∀ b ∈ xorK l x, b < 256 := xorTo_lt hl hx 64
theorem xorK_len (l : List Nat) (x : Nat) : (xorK l x).length = 64 := xorTo_len _ _ _
theorem cat_catTo (ps : List Part) : catTo ps ps.length = cat ps := by unfold catTo cat; rw [List.take_length]

set_option maxHeartbeats 1600000 in
set_option maxRecDepth 100000 in
theorem mac_code {w0 : World} (h : Laid w0) : CodeSpec w0 := fun A0 c0 key A1 c1 ps w hw0 hr hA hb hc hm hp hpc hpn hpl => by
  have HF := Lib.hid (fun (W : World) (hbw : Below w.heap.size w W) => fill_any (sha_digest h) A0 c0 key W (hw0.trans (hbw.mono hw0.size)) ((hr.below hbw).more hbw.size) hA hb hc hm)
  have hkl := keyN_len key
  have hkb := keyN_lt hb
  have M1 := fun (W : World) => masked_any (fullN (keyN key)) 54 W (fullN_len hkl) (fullN_lt hkb) (by decide)
  have M2 := fun (W : World) => masked_any (fullN (keyN key)) 92 W (fullN_len hkl) (fullN_lt hkb) (by decide)
  simp only [xorK_full] at M1 M2
  have D1 := fun (W : World) (hbw : Below w.heap.size w W) => digestKey_any (sha_hash h) (xorK (keyN key) 54) A1 c1 ps W (hw0.trans (hbw.mono hw0.size)) (xorK_len _ _) (xorK_lt hkb (by decide)) ((hp.below hbw).more hbw.size) hpn (by rw [cat_catTo]; exact hpl)
  have D2 := fun (W : World) (g gp : Nat) (t : TypeId) (hbw : Below w.heap.size w W) (hg : W.heap[g]? = some (.cells (BA (innerN key (cat ps))) 41 (0, 0))) (hgp : W.heap[gp]? = some (.cells #[.slice (some ⟨g, 0, none⟩) 32 32] t (0, 0))) =>
    digestKey_any (sha_hash h) (xorK (keyN key) 92) (some ⟨gp, 0, none⟩) 1 [⟨some ⟨g, 0, none⟩, 32, innerN key (cat ps)⟩] W (hw0.trans (hbw.mono hw0.size)) (xorK_len _ _) (xorK_lt hkb (by decide))
      (parts_of_row hgp (by simp [innerN, digestN_len]) (fun p hp => by
        simp only [List.mem_singleton] at hp
        subst hp
        exact ⟨ints_of_BA hg (lt_of_row hg), (fun h => by cases h), digestN_lt _, Nat.le_of_eq (digestN_len _)⟩)) (by simp) (by simp [catTo, innerN, digestN_len])
  simp only [cat_catTo] at D1 D2
  have ecat : ∀ g, cat [⟨some ⟨g, 0, none⟩, 32, innerN key (cat ps)⟩] = innerN key (cat ps) := fun g => by simp [cat]
  simp only [ecat] at D2
  have e1 : digestN (xorK (keyN key) 54 ++ cat ps) = innerN key (cat ps) := rfl
  have e2 : digestN (xorK (keyN key) 92 ++ innerN key (cat ps)) = macN key (cat ps) := rfl
  simp only [e1] at D1
  simp only [e2] at D2
  simp only [List.length_singleton] at D2
  have hz := (zero_of_info (P := Tryd.prog) (t := 41) (v := .agg zero32) (n := 32) (by kernel_rfl)).1
  have hu := Tryd.underlying41
  have hli : (innerN key (cat ps)).length = 32 := digestN_len _
  have hlm : (macN key (cat ps)).length = 32 := macN_len _ _
  have hii : (Tryd.prog.info? 41).map (·.size) = some (BA (innerN key (cat ps))).size := by rw [BA_size, hli]; kernel_rfl
  have him : (Tryd.prog.info? 41).map (·.size) = some (BA (macN key (cat ps))).size := by rw [BA_size, hlm]; kernel_rfl
  have hzi : zero32.size = (BA (innerN key (cat ps))).size := by rw [BA_size, hli]; rfl
  have hzm : zero32.size = (BA (macN key (cat ps))).size := by rw [BA_size, hlm]; rfl
  have h1i := BA_one (innerN key (cat ps))
  have h1m := BA_one (macN key (cat ps))
  have huf := Tryd.underlying65
  have hfl := fullN_len hkl
  have hif : (Tryd.prog.info? 65).map (·.size) = some (BA (fullN (keyN key))).size := by rw [BA_size, hfl]; kernel_rfl
  have hzf : (BA zero64).size = (BA (fullN (keyN key))).size := by rw [BA_size, BA_size, hfl]; rfl
  have h1f := BA_one (fullN (keyN key))
  have hz64 := (zero_of_info (P := Tryd.prog) (t := 65) (v := .agg (BA zero64)) (n := 64) (by kernel_rfl)).1
  have hr0 : (w.alloc (.cells zero32 41)).heap[w.heap.size]? = some (.cells zero32 41 (0, 0)) := heap_alloc_new _ _
  have hb0 : Below w.heap.size w (w.alloc (.cells zero32 41)) := (Below.refl _ _).alloc (Nat.le_refl _) _
  obtain ⟨F, hFe⟩ : ∃ F, F = fullN (keyN key) := ⟨_, rfl⟩
  rw [← hFe] at HF hif hzf h1f
  simp only [← hFe] at M1 M2
  obtain ⟨I, hI⟩ : ∃ I, I = innerN key (cat ps) := ⟨_, rfl⟩
  obtain ⟨X, hX⟩ : ∃ X, X = macN key (cat ps) := ⟨_, rfl⟩
  obtain ⟨K1, hK1⟩ : ∃ K, K = xorK (keyN key) 54 := ⟨_, rfl⟩
  obtain ⟨K2, hK2⟩ : ∃ K, K = xorK (keyN key) 92 := ⟨_, rfl⟩
  rw [← hK1] at D1
  rw [← hK2] at D2
  rw [← hI] at D1 D2 hii hzi h1i
  rw [← hX] at D2 him hzm h1m ⊢
  simp only [← hK1] at M1
  simp only [← hK2] at M2
  obtain ⟨Z, hZ⟩ : ∃ Z, Z = zero32 := ⟨_, rfl⟩
  rw [← hZ] at hz hzi hzm hr0 hb0
  have HD1 := Lib.hid D1
  have HD2 := Lib.hid D2
  have HM1 := Lib.hid M1
  have HM2 := Lib.hid M2
  clear hZ hX hI hK1 hK2 hFe hfl hli hlm D1 D2 M1 M2 e1 e2 ecat hkl hkb hw0 hr hA hb hc hm hp hpc hpn hpl h
  go_enter Tryd.func23, Tryd.ntmps23
  go_wp2_with (first
    | (go_at_call 37; with_reducible (refine Calls.mono (HF.out _ hb0) ?_); rintro e w1 ⟨rfl, hb1⟩; have hbw1 := hb0.trans (hb1.mono hb0.size); have hz1 := (hb1.block w.heap.size (by simp)).trans hr0; have hs1 := hb1.size; simp only [World.size_alloc] at hs1)
    | (refine wpList_store_fresh rfl 65 _ _ rfl w1.heap.size (BA F) rfl rfl 65 (BA zero64) (heap_alloc_new _ _) hif hzf h1f (hbw1.alloc hbw1.size _) hbw1.size ?_; intro W1 hW1 hbW1 hkW1 hsW1; have hzW1 := (hkW1 w.heap.size (by omega)).trans ((Below.heap_alloc _ _ _ (by omega)).trans hz1); clear hkW1; simp only [World.size_alloc] at hsW1)
    | (with_reducible (refine wpList_load_row rfl 65 _ rfl w1.heap.size rfl 65 _ (0, 0) _ hW1 huf rfl hif ?_))
    | (go_at_call 39; with_reducible (refine Calls.mono (HM1.out _) ?_); rintro e w2 ⟨rfl, hb2⟩; have hbw2 := hbW1.trans (hb2.mono hbW1.size); have hs2 := hb2.size)
    | (go_at_call 38; with_reducible (refine Calls.mono (HD1.out _ hbw2) ?_); rintro e w3 ⟨rfl, hb3⟩; have hbw3 := hbw2.trans (hb3.mono hbw2.size); have hs3 := hb3.size; have hz3 := (hb3.block w.heap.size (by omega)).trans ((hb2.block w.heap.size (by omega)).trans hzW1); have hf3 := (hb3.block w1.heap.size (by omega)).trans ((hb2.block w1.heap.size (by omega)).trans hW1))
    | (refine wpList_store_fresh rfl 41 _ _ rfl w3.heap.size (BA I) rfl rfl 41 Z (heap_alloc_new _ _) hii hzi h1i (hbw3.alloc hbw3.size _) hbw3.size ?_; intro W4 hW4 hbW4 hkW4 hsW4; have hzW4 := (hkW4 w.heap.size (by omega)).trans ((Below.heap_alloc _ _ _ (by omega)).trans hz3); have hfW4 := (hkW4 w1.heap.size (by omega)).trans ((Below.heap_alloc _ _ _ (by omega)).trans hf3); clear hkW4; simp only [World.size_alloc] at hsW4))
  have HSS : Hid (∀ W' : World, Below W4.heap.size W4 W' → W'.rangeAt w1.heap.size 0 (F.map fun z : Nat => Value.int .u8 (z : Int)) ∧ W'.there w.heap.size 0 (X.map fun z : Nat => Value.int .u8 (z : Int)).length ∧ Below w.heap.size w W') := fun W' hb =>
    ⟨range_of_BA ((hb.block _ (by omega)).trans hfW4), (by
      have hq := (hb.block _ (by omega)).trans hzW4
      intro j hj
      refine ⟨?_, frozen_of_row _ _ _ _ _ hq⟩
      rw [Nat.zero_add, cell_of_row _ _ j _ _ _ hq]
      have hz9 : j < Z.size := by rw [hzm, BA_size]; simpa using hj
      simp [hz9]), hbW4.trans (hb.mono hbW4.size)⟩
  have HS2 : Hid (∀ W' : World, W'.rangeAt w1.heap.size 0 (F.map fun z : Nat => Value.int .u8 (z : Int)) ∧ W'.there w.heap.size 0 (X.map fun z : Nat => Value.int .u8 (z : Int)).length ∧ Below w.heap.size w W' →
      (W'.setCells w.heap.size 0 (X.map fun z : Nat => Value.int .u8 (z : Int))).rangeAt w1.heap.size 0 (F.map fun z : Nat => Value.int .u8 (z : Int)) ∧ (W'.setCells w.heap.size 0 (X.map fun z : Nat => Value.int .u8 (z : Int))).there w.heap.size 0 (X.map fun z : Nat => Value.int .u8 (z : Int)).length ∧ Below w.heap.size w (W'.setCells w.heap.size 0 (X.map fun z : Nat => Value.int .u8 (z : Int)))) := fun W' h =>
    ⟨World.rangeAt_setCells_apart h.1 _ _ _ (Or.inl (by omega)), World.there_setCells h.2.1 _ _ _, below_setCells h.2.2 (Nat.le_refl _) _ _⟩
  have HD3 : Hid (∀ (W' : World) (gp : Nat) (t : TypeId), Below W4.heap.size W4 W' → W'.heap[gp]? = some (.cells #[.slice (some ⟨w3.heap.size, 0, none⟩) 32 32] t (0, 0)) → Calls Tryd.prog 38 #[.agg (BA K2), .slice (some ⟨gp, 0, none⟩) 1 1] W' fun e w' => e = .returned (.agg (BA X)) ∧ Below W'.heap.size W' w') := fun W' gp t hb h =>
    HD2.out W' w3.heap.size gp t (hbW4.trans (hb.mono hbW4.size)) ((hb.block _ (by omega)).trans hW4) h
  have hlF : (Tryd.prog.info? 65).map (·.size) = some (F.map fun z : Nat => Value.int .u8 (z : Int)).length := by rw [hif, BA_size, List.length_map]
  have hbx : Below W4.heap.size W4 W4.drew := (Below.refl _ _).drew
  obtain ⟨L, hL⟩ : ∃ L, L = F.map fun z : Nat => Value.int .u8 (z : Int) := ⟨_, rfl⟩
  have hLA : BA F = L.toArray := by rw [hL]; rfl
  rw [hLA] at HM2
  rw [← hL] at HSS HS2 hlF
  obtain ⟨M, hM⟩ : ∃ M, M = X.map fun z : Nat => Value.int .u8 (z : Int) := ⟨_, rfl⟩
  have hMA : BA X = M.toArray := by rw [hM]; rfl
  have hlM : (Tryd.prog.info? 41).map (·.size) = some M.length := by rw [him, hMA, List.size_toArray]
  have h1M : ∀ v ∈ M, v.oneCell' = true := by rw [hM]; intro v hv; obtain ⟨z, _, rfl⟩ := List.mem_map.1 hv; rfl
  rw [hMA] at HD3
  have HMA := Lib.hid hMA
  rw [← hM] at HSS HS2
  clear hM hMA him hzm h1m hL hLA hb0 hr0 HD1 HM1 HF HD2 hb1 hz1 hW1 hbW1 hzW1 hb2 hbw1 hbw2 hs2 hs1 hsW1 hb3 hs3 hbw3 hz3 hf3 hbW4 hzW4 hfW4 hsW4 hW4 h1f hzf hif hii h1i hzi hz64 hz
  obtain ⟨g5, hg5⟩ : ∃ g5, g5 = w1.heap.size := ⟨_, rfl⟩
  obtain ⟨g6, hg6⟩ : ∃ g6, g6 = w3.heap.size := ⟨_, rfl⟩
  simp only [← hg5, ← hg6] at HSS HS2 HD3 ⊢
  clear hg5 hg6
  go_region_held3 (fun W' => W'.rangeAt g5 0 L ∧ W'.there w.heap.size 0 M.length ∧ Below w.heap.size w W')
    (first
      | exact HSS.out _ hbx
      | exact HSS.out _ (hbx.alloc hbx.size _)
      | exact HSS.out _ (below_ad _ _)
      | exact HS2.out _ (HSS.out _ hbx))
    (first
      | (go_at_call 39; with_reducible (refine Calls.mono (HM2.out _) ?_); rintro e wq ⟨rfl, hbq⟩; have hbx : Below W4.heap.size W4 wq := (by first | exact chain hbx hbq | exact chain (below_ad _ _) hbq))
      | (go_at_call 38; with_reducible (refine Calls.mono (HD3.out _ _ 24 ?hb ?hc) ?_); (case hb => first | exact hbx | exact hbx.alloc hbx.size _); (case hc => first | exact hn1 | exact ha1d hbq); rintro e wd ⟨rfl, hbd⟩; have hbx : Below W4.heap.size W4 wd := (by first | exact chain hbx hbd | exact below_one hbx hbd))
      | fail)
  all_goals
    have h8 := HSS.out _ hbx
    have h9 := HS2.out wd h8
    have h7 := World.rangeAt_setCells_same wd w.heap.size 0 M h8.2.1
    clear h8
    go_wp2
    refine bodyPost_ret (v := .agg M.toArray) ?_ rfl ⟨by rw [HMA.out], h9.2.2⟩
    exact results_cell_mid rfl _ _ w.heap.size M _ rfl h7 hu rfl hlM

theorem mac_same : SameSpec := fun A0 A1 c0 c1 xs ys w h0 h1 hx hy _ _ hm0 _ => same_any A0 A1 c0 c1 xs ys w h0 h1 hx hy hm0

end Go.Proofs.YtanpfodmmeagaaaDoor

namespace Go.Proofs.YtanpfodmmeagaaaDoor
open Go.RowKit

theorem bytes_eight (m : Nat) : bytesOf (m : Int) (8 : Int).toNat = up (eightTo m 8) := by
  unfold bytesOf bytesTo eightTo up
  rw [List.map_map]
  apply List.map_congr_left
  intro i hi
  simp only [Function.comp_apply]
  rw [show (8 : Int).toNat - 1 - i = 7 - i from rfl, Int.natCast_emod, Int.natCast_ediv, Int.natCast_pow]
  rfl
theorem put_eight (n : Int) : fieldsE [n % 18446744073709551616] [8] = 0 ∧ fieldsB [n % 18446744073709551616] [8] = up (eightN n) := by
  have h1 : szs [8] = true := by decide
  have hf : fitB (n % 18446744073709551616) 8 = true := by
    unfold fitB
    have : (256 : Int) ^ (8 : Int).toNat = 18446744073709551616 := by decide
    rw [this, decide_eq_true_eq]; omega
  have e : fieldsE [n % 18446744073709551616] [8] = 0 := by
    unfold fieldsE
    rw [if_pos ⟨h1, rfl⟩, if_pos (by simp only [List.zip_cons_cons, List.zip_nil_right, List.all_cons, List.all_nil, Bool.and_true]; exact hf)]
  refine ⟨e, ?_⟩
  unfold fieldsB
  rw [if_pos e]
  simp only [List.zip_cons_cons, List.zip_nil_right, List.flatMap_cons, List.flatMap_nil, List.append_nil]
  have hm : ((n % 18446744073709551616).toNat : Int) = n % 18446744073709551616 := by omega
  rw [← hm, bytes_eight]
  simp only [eightN]
theorem eightN_len (n : Int) : (eightN n).length = 8 := rfl

theorem derive_code {w0 : World} (HC : CodeSpec w0) (A0 : Option Addr) (c0 : Nat) (key : List Nat) (s : ByteArray) (n : Int) (w w1 : World) (hw0 : Below w0.heap.size w0 w) (hr : Ints w w.heap.size .u8 A0 (up key)) (hA : A0 = none → c0 = 0) (hb : ∀ b ∈ key, b < 256) (hc : key.length ≤ c0) (hm : key.length ≤ 140737488355000) (hs : s.size ≤ 140737488354000)
    (A1 : Option Addr) (c1 : Nat) (hc1 : 8 ≤ c1) (hi1 : Ints w1 w1.heap.size .u8 A1 (up (eightN n))) (hb1 : Below w.heap.size w w1) (e1 e2 : TypeId) :
    Calls Tryd.prog 23 #[.slice A0 key.length c0, .slice (some ⟨(Lib.bytesWorld w1 5 s).heap.size + 1, 0, none⟩) 3 3]
      (((Lib.bytesWorld w1 5 s).alloc (.cells #[.int .u8 0] e1)).alloc (.cells #[.slice (some ⟨w1.heap.size, 0, none⟩) s.size (grownCap w1 s.size 0 5), .slice (some ⟨(Lib.bytesWorld w1 5 s).heap.size, 0, none⟩) 1 1, .slice A1 8 c1] e2))
      fun e w' => e = .returned (.agg (BA (macN key (textN s ++ [0] ++ eightN n)))) ∧ Below w.heap.size w w' := by
  obtain ⟨hroom, hbB⟩ := room_of_text w1 5 s (by unfold maxLen; omega)
  obtain ⟨AT, cT, hv, hcT, hiT, hnT⟩ := hroom.form
  injection hv with hv1 hv2 hv3
  obtain ⟨B, hB⟩ : ∃ B, B = Lib.bytesWorld w1 5 s := ⟨_, rfl⟩
  rw [← hB] at hiT hbB ⊢
  have hbw : Below w.heap.size w B := hb1.trans (hbB.mono hb1.size)
  have hT : s.data.toList.map UInt8.toNat = textN s := rfl
  rw [hT] at hiT hcT
  have htl := textN_len s
  have hX := fun (k : IntKind) (A : Option Addr) (zs : List Int) (h : Ints B B.heap.size k A zs) (o1 o2 : Obj) => ((h.alloc (Nat.le_refl _) o1).alloc (by simp) o2).more (show B.heap.size ≤ ((B.alloc o1).alloc o2).heap.size by simp; omega)
  have h0 : Ints (B.alloc (.cells #[.int .u8 0] e1)) (B.heap.size + 1) .u8 (some ⟨B.heap.size, 0, none⟩) (up [0]) := Ints.new B e1 .u8 (up [0]) _ rfl
  have hcat : cat [⟨some ⟨w1.heap.size, 0, none⟩, grownCap w1 s.size 0 5, textN s⟩, ⟨some ⟨B.heap.size, 0, none⟩, 1, [0]⟩, ⟨A1, c1, eightN n⟩] = textN s ++ [0] ++ eightN n := by simp [cat]
  have H := HC A0 c0 key (some ⟨B.heap.size + 1, 0, none⟩) 3 [⟨some ⟨w1.heap.size, 0, none⟩, grownCap w1 s.size 0 5, textN s⟩, ⟨some ⟨B.heap.size, 0, none⟩, 1, [0]⟩, ⟨A1, c1, eightN n⟩]
    ((B.alloc (.cells #[.int .u8 0] e1)).alloc (.cells #[.slice (some ⟨w1.heap.size, 0, none⟩) s.size (grownCap w1 s.size 0 5), .slice (some ⟨B.heap.size, 0, none⟩) 1 1, .slice A1 8 c1] e2))
    (hw0.trans (((hbw.alloc hbw.size _).alloc (by have := hbw.size; simp; omega) _).mono hw0.size))
    (((hr.below ((hbw.alloc hbw.size _).alloc (by have := hbw.size; simp; omega) _))).more (by have := hbw.size; simp; omega)) hA hb hc hm
    (parts_of_row (heap_alloc_new' _ _ _ (by simp)) (by simp [htl, eightN_len]) (fun p hp => by
      simp only [List.mem_cons, List.not_mem_nil, or_false] at hp
      rcases hp with rfl | rfl | rfl
      · exact ⟨hX _ _ _ (by rw [hv1]; exact hiT) _ _, (fun h => by cases h), textN_lt s, by show (textN s).length ≤ grownCap w1 s.size 0 5; rw [hv3]; exact hcT⟩
      · exact ⟨(h0.alloc (by simp) _).more (by simp), (fun h => by cases h), (by simp), Nat.le_refl _⟩
      · exact ⟨hX _ _ _ ((hi1.below hbB).more hbB.size) _ _, nil_of_ints hi1 (by rw [up_len, eightN_len]; decide), eightN_lt n, by show (eightN n).length ≤ c1; rw [eightN_len]; exact hc1⟩))
    (by simp) (by simp) (by rw [hcat, List.length_append, List.length_append, htl, eightN_len]; simp; omega)
  rw [hcat] at H
  refine H.mono fun e w' ⟨h1, h2⟩ => ⟨h1, ?_⟩
  exact ((hbw.alloc hbw.size _).alloc (by have := hbw.size; simp; omega) _).trans (h2.mono (by have := hbw.size; simp; omega))

set_option maxHeartbeats 1600000 in
set_option maxRecDepth 100000 in
/-- 'Derive'. -/
theorem mac_derive {w0 : World} (h : Laid w0) : DeriveSpec w0 := fun A0 c0 key s n w hw0 hr hA hb hc hm hs hn1 hn2 => by
  have HP : Hid (Calls Tryd.prog 30 #[.int .u64 (n % 18446744073709551616), .int .i64 8] w fun e w' => ∃ A c, e = .returned (.tuple #[.slice A 8 c, .int .i64 0]) ∧ 8 ≤ c ∧ Ints w' w'.heap.size .u8 A (up (eightN n)) ∧ Below w.heap.size w w') := by
    have := put_any (n % 18446744073709551616) 8 w (by omega)
    rw [(put_eight n).1, (put_eight n).2] at this
    exact this.mono fun e w' ⟨A, c, h1, h2, h3, h4⟩ => ⟨A, c, by rw [h1, up_len, eightN_len], by rw [up_len, eightN_len] at h2; exact h2, h3, h4⟩
  have kc := fun (w : World) => Lib.run_convert_string_bytes (P := Tryd.prog) w 9 24 5 s Tryd.underlying9 Tryd.underlying24 Tryd.underlying5
  have HC := Lib.hid (fun (w1 : World) A1 c1 hc1 hi1 hb1 e1 e2 => derive_code (mac_code h) A0 c0 key s n w w1 hw0 hr hA hb hc hm hs A1 c1 hc1 hi1 hb1 e1 e2)
  have v1 : IntKind.u64.wrap n = n % 18446744073709551616 := by rw [IntKind.wrap_u64]
  have HDER : Hid ((macN key (textN s ++ [0] ++ eightN n)).take 16 = deriveN key (textN s) n) := rfl
  have hu := Tryd.underlying41
  have hz := (zero_of_info (P := Tryd.prog) (t := 41) (v := .agg zero32) (n := 32) (by kernel_rfl)).1
  have hlm : (macN key (textN s ++ [0] ++ eightN n)).length = 32 := macN_len _ _
  have him : (Tryd.prog.info? 41).map (·.size) = some (BA (macN key (textN s ++ [0] ++ eightN n))).size := by rw [BA_size, hlm]; kernel_rfl
  have hzm : zero32.size = (BA (macN key (textN s ++ [0] ++ eightN n))).size := by rw [BA_size, hlm]; rfl
  have h1m := BA_one (macN key (textN s ++ [0] ++ eightN n))
  obtain ⟨X, hX⟩ : ∃ X, X = macN key (textN s ++ [0] ++ eightN n) := ⟨_, rfl⟩
  rw [← hX] at him hzm h1m HDER
  simp only [← hX] at HC
  obtain ⟨Z, hZ⟩ : ∃ Z, Z = zero32 := ⟨_, rfl⟩
  rw [← hZ] at hz hzm
  clear hr hA hb h hX hZ hlm hw0 hn1 hn2 hc
  go_enter Tryd.func20, Tryd.ntmps20
  go_wp2_with (first
    | (go_at_call 30; with_reducible (refine Calls.mono HP.out ?_); rintro e w1 ⟨A1, c1, rfl, hc1, hi1, hb1⟩)
    | (go_at_call 23; with_reducible (refine Calls.mono (HC.out w1 A1 c1 hc1 hi1 hb1 _ _) ?_); rintro e w2 ⟨rfl, hb2⟩)
    | (refine wpList_store_fresh rfl 41 _ _ rfl w2.heap.size (BA X) rfl rfl 41 Z (heap_alloc_new _ _) him hzm h1m (hb2.alloc hb2.size _) hb2.size ?_; intro W hW hbW hkW hsW; clear hkW; simp only [World.size_alloc] at hsW))
  go_ret
  refine ⟨_, _, rfl, by omega, ?_, hbW⟩
  rw [← HDER.out]
  have h := (ints_of_BA (B := W.heap.size) hW (by omega)).take 16
  rw [show (up X).take 16 = up (X.take 16) by simp [up]] at h
  exact h

end Go.Proofs.YtanpfodmmeagaaaDoor
