/-
  The landed table: slices.Clone, clone, New.
-/
import Derived.Test.YtbnhkplhmanmoaaGreatTableC7G
import Derived.Test.YtbnhkplhmanmoaaGreatTableDrG
import Derived.Maps.AppendAt
import Derived.Deep.OwnRows
import Derived.Deep.RegionHeld3
namespace Go.Proofs.YtbnhkplhmanmoaaGreat
open Go.RowKit

theorem Tryz.infoTenD : (Tryz.prog.info? 52).map (fun i => (i.zero, i.size, i.bytes)) = some (some (.agg #[.int .i64 0, .int .i64 0, .int .i64 0, .int .i64 0, .string ⟨#[]⟩, .bool false]), 6, 56) := by kernel_rfl
theorem Tryz.infoVolD : (Tryz.prog.info? 82).map (fun i => (i.zero, i.size, i.bytes)) = some (some (.agg #[.int .i64 0, .int .i64 0, .int .i64 0, .int .i64 0]), 4, 32) := by kernel_rfl
theorem Tryz.infoIntD : (Tryz.prog.info? 3).map (fun i => (i.zero, i.size, i.bytes)) = some (some (.int .i64 0), 1, 8) := by kernel_rfl
theorem results_row_tmpT {P : Program} {fn : Func} {p u : Tmp} {ty : TypeId} (h : fn.results = #[.cell p ty, .tmp u]) (tmps : Array Value) (w : World) (g : Nat) (t : TypeId) (cs : Array Value) (fr : Nat × Nat) (d : TypeDesc)
    (hp : tmps.getD p undef = .pointer (some ⟨g, 0, none⟩)) (hg : w.heap[g]? = some (.cells cs t fr))
    (hu : P.underlying ty = some d) (hd : (match d with | .struct _ | .array _ _ => true | _ => false) = true) (hi : (P.info? ty).map (·.size) = some cs.size) :
    (results fn tmps).run P w = .ok (.tuple #[.agg cs, tmps.getD u undef]) w := by
  have hp' : tmps[p]?.getD undef = .pointer (some ⟨g, 0, none⟩) := by simpa using hp
  simp [results, h, hp', asAddr, run_loadVar_row w g t ty cs fr d hg hu hd hi]
theorem own_lower {w : World} {base base' e n size : Nat} {v : Value} {xs : List Value} (h : w.ownsRow base e size v n xs) (hb : base' ≤ base) : w.ownsRow base' e size v n xs := by
  refine ⟨h.1, ?_⟩
  rcases h.2 with hn | ⟨g, cap, cur, hv, hbg, rest⟩
  · exact .inl hn
  · exact .inr ⟨g, cap, cur, hv, Nat.le_trans hb hbg, rest⟩
theorem own_A {w : World} {base e n size : Nat} {v : Value} {xs : List Value} (h : w.ownsRow base e size v n xs) : ∃ A c, v = .slice A n c := by
  rcases h.2 with ⟨rfl, rfl⟩ | ⟨g, cap, cur, rfl, _⟩
  · exact ⟨none, 0, rfl⟩
  · exact ⟨_, _, rfl⟩

set_option maxHeartbeats 1600000 in
/-- 'slices.Clone' of tenants. -/
theorem cloneTen_any (A : Option Addr) (c : Nat) (l : List Ten) (w : World) (h : TensAt w w.heap.size A l) (h64 : l.length ≤ 64) :
    Calls Tryz.prog 62 #[.slice A l.length c] w fun e w' => ∃ A' c', e = .returned (.slice A' l.length c') ∧ w'.ownsRow w.heap.size 52 6 (.slice A' l.length c') l.length (flat tenC l) ∧ Below w.heap.size w w' := by
  cases A with
  | none =>
    have h0 : l = [] := by
      cases l with
      | nil => rfl
      | cons x l => obtain ⟨b, off, e, _⟩ := h 0 (Nat.zero_lt_succ _); cases e
    subst h0
    have hnil : ∀ W, (binOp .eql 32 (.slice none 0 c) (.slice none 0 0)).run Tryz.prog W = .ok (.bool true) W := fun W => by kernel_rfl
    have R : Hid (w.ownsRow w.heap.size 52 6 (.slice none 0 0) 0 []) := World.ownsRow_nil w w.heap.size 52 6
    clear h h64
    go_enter Tryz.func62, Tryz.ntmps62
    go_wp2
    go_ret
    exact ⟨none, 0, rfl, R.out, Below.refl _ _⟩
  | some ad =>
    obtain ⟨i0, hi, hz0, hz1, hz2⟩ := info_parts Tryz.infoTenD
    have hnil : ∀ W, (binOp .eql 32 (.slice (some ad) l.length c) (.slice none 0 0)).run Tryz.prog W = .ok (.bool false) W := fun W => by kernel_rfl
    have hba : Below w.heap.size w (w.alloc (.cells #[] 52)) := (Below.refl _ _).alloc (Nat.le_refl _) _
    have HNW := Lib.hid (tens_news (h.below hba))
    have hfl := flat_len tenC_len l
    have hf1 := flat_one tenC_one l
    obtain ⟨F, hF⟩ : ∃ F, F = flat tenC l := ⟨_, rfl⟩
    rw [← hF] at hfl hf1 HNW ⊢
    obtain ⟨N, hN⟩ : ∃ N, N = l.length := ⟨_, rfl⟩
    rw [← hN] at hfl h64 hnil ⊢
    clear h hF hN
    go_enter Tryz.func62, Tryz.ntmps62
    go_wp2_with (at_builtin; refine wpList_append_own_at _ rfl _ _ 32 rfl w.heap.size 52 i0 (.agg #[.int .i64 0, .int .i64 0, .int .i64 0, .int .i64 0, .string ⟨#[]⟩, .bool false]) 6 56 Tryz.underlying32 hi hz0 hz1 hz2 rfl (by decide) (.slice (some ⟨w.heap.size, 0, none⟩) 0 0) 0 [] rfl (World.ownsRow_made w #[] 0 (Nat.le_refl _) (Nat.zero_le _) rfl) ad N c F rfl hfl HNW.out hf1 ?d1 ?d2 (by simp) ?_)
    case d1 => unfold maxLen; omega
    case d2 => omega
    intro v4 w4 hown4 hg4 _ _
    have hb4 : Below w.heap.size w w4 := hba.grown hg4 (by simp) fun q hq => by simp [Value.ownBlock] at hq; omega
    obtain ⟨A4, c4, rfl⟩ := own_A hown4
    have R := Lib.hid (And.intro hown4 hb4)
    clear hown4 hg4 hb4 hba HNW
    go_wp2
    go_ret
    exact ⟨A4, c4, rfl, R.out.1, R.out.2⟩

set_option maxHeartbeats 1600000 in
/-- 'slices.Clone' of volumes. -/
theorem cloneVol_any (A : Option Addr) (c : Nat) (l : List Vol) (w : World) (h : VolsAt w w.heap.size A l) (h64 : l.length ≤ 64) :
    Calls Tryz.prog 63 #[.slice A l.length c] w fun e w' => ∃ A' c', e = .returned (.slice A' l.length c') ∧ w'.ownsRow w.heap.size 82 4 (.slice A' l.length c') l.length (flat volC l) ∧ Below w.heap.size w w' := by
  cases A with
  | none =>
    have h0 : l = [] := by
      cases l with
      | nil => rfl
      | cons x l => obtain ⟨b, off, e, _⟩ := h 0 (Nat.zero_lt_succ _); cases e
    subst h0
    have hnil : ∀ W, (binOp .eql 33 (.slice none 0 c) (.slice none 0 0)).run Tryz.prog W = .ok (.bool true) W := fun W => by kernel_rfl
    have R : Hid (w.ownsRow w.heap.size 82 4 (.slice none 0 0) 0 []) := World.ownsRow_nil w w.heap.size 82 4
    clear h h64
    go_enter Tryz.func63, Tryz.ntmps63
    go_wp2
    go_ret
    exact ⟨none, 0, rfl, R.out, Below.refl _ _⟩
  | some ad =>
    obtain ⟨i0, hi, hz0, hz1, hz2⟩ := info_parts Tryz.infoVolD
    have hnil : ∀ W, (binOp .eql 33 (.slice (some ad) l.length c) (.slice none 0 0)).run Tryz.prog W = .ok (.bool false) W := fun W => by kernel_rfl
    have hba : Below w.heap.size w (w.alloc (.cells #[] 82)) := (Below.refl _ _).alloc (Nat.le_refl _) _
    have HNW := Lib.hid (vols_news (h.below hba))
    have hfl := flat_len volC_len l
    have hf1 := flat_one volC_one l
    obtain ⟨F, hF⟩ : ∃ F, F = flat volC l := ⟨_, rfl⟩
    rw [← hF] at hfl hf1 HNW ⊢
    obtain ⟨N, hN⟩ : ∃ N, N = l.length := ⟨_, rfl⟩
    rw [← hN] at hfl h64 hnil ⊢
    clear h hF hN
    go_enter Tryz.func63, Tryz.ntmps63
    go_wp2_with (at_builtin; refine wpList_append_own_at _ rfl _ _ 33 rfl w.heap.size 82 i0 (.agg #[.int .i64 0, .int .i64 0, .int .i64 0, .int .i64 0]) 4 32 Tryz.underlying33 hi hz0 hz1 hz2 rfl (by decide) (.slice (some ⟨w.heap.size, 0, none⟩) 0 0) 0 [] rfl (World.ownsRow_made w #[] 0 (Nat.le_refl _) (Nat.zero_le _) rfl) ad N c F rfl hfl HNW.out hf1 ?d1 ?d2 (by simp) ?_)
    case d1 => unfold maxLen; omega
    case d2 => omega
    intro v4 w4 hown4 hg4 _ _
    have hb4 : Below w.heap.size w w4 := hba.grown hg4 (by simp) fun q hq => by simp [Value.ownBlock] at hq; omega
    obtain ⟨A4, c4, rfl⟩ := own_A hown4
    have R := Lib.hid (And.intro hown4 hb4)
    clear hown4 hg4 hb4 hba HNW
    go_wp2
    go_ret
    exact ⟨A4, c4, rfl, R.out.1, R.out.2⟩

set_option maxHeartbeats 1600000 in
/-- 'slices.Clone' of numbers. -/
theorem cloneInt_any (A : Option Addr) (c : Nat) (l : List Int) (w : World) (h : Ints w w.heap.size .i64 A l) (h64 : l.length ≤ 64) :
    Calls Tryz.prog 64 #[.slice A l.length c] w fun e w' => ∃ A' c', e = .returned (.slice A' l.length c') ∧ w'.ownsRow w.heap.size 3 1 (.slice A' l.length c') l.length (flat intC l) ∧ Below w.heap.size w w' := by
  cases A with
  | none =>
    have h0 : l = [] := by
      cases l with
      | nil => rfl
      | cons x l => obtain ⟨b, off, e, _⟩ := h 0 (Nat.zero_lt_succ _); cases e
    subst h0
    have hnil : ∀ W, (binOp .eql 31 (.slice none 0 c) (.slice none 0 0)).run Tryz.prog W = .ok (.bool true) W := fun W => by kernel_rfl
    have R : Hid (w.ownsRow w.heap.size 3 1 (.slice none 0 0) 0 []) := World.ownsRow_nil w w.heap.size 3 1
    clear h h64
    go_enter Tryz.func64, Tryz.ntmps64
    go_wp2
    go_ret
    exact ⟨none, 0, rfl, R.out, Below.refl _ _⟩
  | some ad =>
    obtain ⟨i0, hi, hz0, hz1, hz2⟩ := info_parts Tryz.infoIntD
    have hnil : ∀ W, (binOp .eql 31 (.slice (some ad) l.length c) (.slice none 0 0)).run Tryz.prog W = .ok (.bool false) W := fun W => by kernel_rfl
    have hba : Below w.heap.size w (w.alloc (.cells #[] 3)) := (Below.refl _ _).alloc (Nat.le_refl _) _
    have HNW := Lib.hid (ints_news (h.below hba))
    have hfl := flat_len intC_len l
    have hf1 := flat_one intC_one l
    obtain ⟨F, hF⟩ : ∃ F, F = flat intC l := ⟨_, rfl⟩
    rw [← hF] at hfl hf1 HNW ⊢
    obtain ⟨N, hN⟩ : ∃ N, N = l.length := ⟨_, rfl⟩
    rw [← hN] at hfl h64 hnil ⊢
    clear h hF hN
    go_enter Tryz.func64, Tryz.ntmps64
    go_wp2_with (at_builtin; refine wpList_append_own_at _ rfl _ _ 31 rfl w.heap.size 3 i0 (.int .i64 0) 1 8 Tryz.underlying31 hi hz0 hz1 hz2 rfl (by decide) (.slice (some ⟨w.heap.size, 0, none⟩) 0 0) 0 [] rfl (World.ownsRow_made w #[] 0 (Nat.le_refl _) (Nat.zero_le _) rfl) ad N c F rfl hfl HNW.out hf1 ?d1 ?d2 (by simp) ?_)
    case d1 => unfold maxLen; omega
    case d2 => omega
    intro v4 w4 hown4 hg4 _ _
    have hb4 : Below w.heap.size w w4 := hba.grown hg4 (by simp) fun q hq => by simp [Value.ownBlock] at hq; omega
    obtain ⟨A4, c4, rfl⟩ := own_A hown4
    have R := Lib.hid (And.intro hown4 hb4)
    clear hown4 hg4 hb4 hba HNW
    go_wp2
    go_ret
    exact ⟨A4, c4, rfl, R.out.1, R.out.2⟩

set_option maxHeartbeats 1600000 in
/-- 'New', of a number that may be. -/
theorem new_yes (n : Nat) (w : World) (h1 : 1 ≤ n) (h2 : n ≤ 64) :
    Calls Tryz.prog 19 #[.int .i64 (n : Int)] w fun e w' => ∃ V, e = .returned (.tuple #[.agg (tabV V (newR n)), .int .i64 0]) ∧ TabAt w' w'.heap.size V (newR n) ∧ TabFrom w.heap.size V ∧ Below w.heap.size w w' := by
  have hmk : ∀ W : World, (Instr.makeSlice 31 (.int .i64 (n : Int)) (.int .i64 (n : Int))).run Tryz.prog W = .ok (.slice (some ⟨W.heap.size, 0, none⟩) n n) (W.alloc (.cells (madeCells #[Value.int .i64 0] n) 3)) := fun W => run_make_row' (P := Tryz.prog) 31 3 (.int .i64 0) 8 Tryz.underlying31 Tryz.infoIntD rfl .i64 .i64 n (by omega) (by omega) W
  have hZl : (madeCells #[Value.int .i64 0] n).toList = (List.replicate n (0 : Int)).map (Value.int .i64) := by rw [toList_madeCells_one, List.map_replicate]
  obtain ⟨Z, hZ⟩ : ∃ Z, Z = madeCells #[Value.int .i64 0] n := ⟨_, rfl⟩
  rw [← hZ] at hmk hZl
  have k1 : ¬ ((n : Int) < 1) := by omega
  have k2 : ¬ ((n : Int) > 64) := by omega
  have HZL := Lib.hid hZl
  have hn : (newR n).os.length = n := by show (List.replicate n (0 : Int)).length = n; rw [List.length_replicate]
  have htv : ∀ a, tabV ⟨none, 0, none, 0, some a, n⟩ (newR n) = #[.slice none 0 0, .slice none 0 0, .slice (some a) n n] := fun a => by unfold tabV; rw [hn]; rfl
  have HTV := Lib.hid htv
  clear hZ hZl htv hn
  go_enter Tryz.func19, Tryz.ntmps19
  go_wp2
  have hb0 : Below w.heap.size w (w.alloc (.cells #[.slice none 0 0, .slice none 0 0, .slice (some ⟨w.heap.size + 1, 0, none⟩) n n] 35)) := (Below.refl _ _).alloc (Nat.le_refl _) _
  have hs0 : (w.alloc (.cells #[.slice none 0 0, .slice none 0 0, .slice (some ⟨w.heap.size + 1, 0, none⟩) n n] 35)).heap.size = w.heap.size + 1 := by simp
  have hi := (Ints.new (w.alloc (.cells #[.slice none 0 0, .slice none 0 0, .slice (some ⟨w.heap.size + 1, 0, none⟩) n n] 35)) 3 .i64 (List.replicate n 0) Z HZL.out)
  rw [hs0] at hi
  have hh : ((w.alloc (.cells #[.slice none 0 0, .slice none 0 0, .slice (some ⟨w.heap.size + 1, 0, none⟩) n n] 35)).alloc (.cells Z 3)).heap[w.heap.size]? = some (.cells #[.slice none 0 0, .slice none 0 0, .slice (some ⟨w.heap.size + 1, 0, none⟩) n n] 35 (0, 0)) := by
    rw [Below.heap_alloc _ _ _ (by simp)]; exact heap_alloc_new _ _
  refine bodyPost_ret (results_row_tmpT rfl _ _ w.heap.size _ _ _ _ rfl hh Tryz.underlying35 rfl (by kernel_rfl)) rfl ⟨⟨none, 0, none, 0, some ⟨w.heap.size + 1, 0, none⟩, n⟩, ?_, ⟨TensAt.nil _ _ _, VolsAt.nil _ _ _, hi.more (by simp), Nat.le_refl _, Nat.le_refl _, ?_⟩, fun a ha => ?_, hb0.alloc hb0.size _⟩
  · rw [HTV.out]; rfl
  · show (List.replicate n (0 : Int)).length ≤ n; rw [List.length_replicate]; exact Nat.le_refl _
  · rcases ha with ha | ha | ha
    · cases ha
    · cases ha
    · injection ha with ha; subst ha; exact Nat.le_succ _

set_option maxHeartbeats 1600000 in
/-- 'New', of a number that may not be. -/
theorem new_no (n : Int) (w : World) (hr : ¬ inR n 1 64) :
    Calls Tryz.prog 19 #[.int .i64 n] w fun e w' => ∃ V, e = .returned (.tuple #[.agg (tabV V Tab.zero), .int .i64 1]) ∧ Below w.heap.size w w' := by
  unfold inR at hr
  by_cases h1 : n < 1
  all_goals
    first | (have h2 : n > 64 := by omega) | skip
    clear hr
    go_enter Tryz.func19, Tryz.ntmps19
    go_wp2
    refine bodyPost_ret (results_row_tmpT rfl _ _ w.heap.size _ _ _ _ rfl (heap_alloc_new w _) Tryz.underlying35 rfl (by kernel_rfl)) rfl ?_
    first
      | exact ⟨⟨(⟨none, 0, none, 0, none, 0⟩ : TabW), rfl⟩, (Below.refl _ _).alloc (Nat.le_refl _) _⟩
      | exact ⟨(⟨none, 0, none, 0, none, 0⟩ : TabW), rfl, (Below.refl _ _).alloc (Nat.le_refl _) _⟩

/-- Three cells of a block of one's own are written. -/
theorem set3 {X : World} {g : Nat} {T : TypeId} {v0 v1 v2 : Value} (x y z : Value) (h : X.heap[g]? = some (.cells #[v0, v1, v2] T (0, 0))) :
    (((X.setCell ⟨g, 0, none⟩ x).setCell ⟨g, 1, none⟩ y).setCell ⟨g, 2, none⟩ z).heap[g]? = some (.cells #[x, y, z] T (0, 0)) ∧ X.grownBy (((X.setCell ⟨g, 0, none⟩ x).setCell ⟨g, 1, none⟩ y).setCell ⟨g, 2, none⟩ z) (some g) := by
  refine ⟨?_, setCells_grown X g 0 [x, y, z]⟩
  simp [World.setCell, Array.getElem?_modify, h]

set_option maxHeartbeats 3200000 in
set_option maxRecDepth 20000 in
/-- 'clone'. -/
theorem cloneTab_any (V : TabW) (t : Tab) (w : World) (h : TabAt w w.heap.size V t) (h1 : t.ts.length ≤ 64) (h2 : t.vs.length ≤ 64) (h3 : t.os.length ≤ 64) :
    Calls Tryz.prog 37 #[.agg (tabV V t)] w fun e w' => ∃ V', e = .returned (.agg (tabV V' t)) ∧ RowsOwn w.heap.size w' V' t ∧ Below w.heap.size w w' := by
  have hb1 : Below w.heap.size w (w.alloc (.cells (tabV V t) 35)) := (Below.refl _ _).alloc (Nat.le_refl _) _
  have hb2 := hb1.alloc hb1.size (.cells #[.slice none 0 0, .slice none 0 0, .slice none 0 0] 35)
  have hs1 : (w.alloc (.cells (tabV V t) 35)).heap.size = w.heap.size + 1 := by simp
  have hg1 : ((w.alloc (.cells (tabV V t) 35)).alloc (.cells #[.slice none 0 0, .slice none 0 0, .slice none 0 0] 35)).heap[w.heap.size]? = some (.cells (tabV V t) 35 (0, 0)) := by
    rw [Below.heap_alloc _ _ _ (by simp)]; exact heap_alloc_new _ _
  have hg2 := heap_alloc_new (w.alloc (.cells (tabV V t) 35)) (.cells #[.slice none 0 0, .slice none 0 0, .slice none 0 0] 35)
  rw [hs1] at hg2
  obtain ⟨W0, hW0⟩ : ∃ W, W = (w.alloc (.cells (tabV V t) 35)).alloc (.cells #[.slice none 0 0, .slice none 0 0, .slice none 0 0] 35) := ⟨_, rfl⟩
  rw [← hW0] at hg1 hg2 hb2
  have hcell1 : ∀ X : World, X.heap[w.heap.size]? = some (.cells (tabV V t) 35 (0, 0)) → X.cell? ⟨w.heap.size, 0, none⟩ = some (.slice V.A1 t.ts.length V.c1) ∧ X.cell? ⟨w.heap.size, 1, none⟩ = some (.slice V.A2 t.vs.length V.c2) ∧ X.cell? ⟨w.heap.size, 2, none⟩ = some (.slice V.A3 t.os.length V.c3) := fun X q => cells3 q
  have HF : Hid (∀ X, Below W0.heap.size W0 X → X.cell? ⟨w.heap.size, 0, none⟩ = some (.slice V.A1 t.ts.length V.c1) ∧ X.cell? ⟨w.heap.size, 1, none⟩ = some (.slice V.A2 t.vs.length V.c2) ∧ X.cell? ⟨w.heap.size, 2, none⟩ = some (.slice V.A3 t.os.length V.c3)) := fun X hb => hcell1 X ((hb.block _ (Array.getElem?_eq_some_iff.1 hg1).1).trans hg1)
  have HFS : Hid (∀ (X : World) (x y z : Value), Below W0.heap.size W0 X → (((X.setCell ⟨w.heap.size + 1, 0, none⟩ x).setCell ⟨w.heap.size + 1, 1, none⟩ y).setCell ⟨w.heap.size + 1, 2, none⟩ z).cell? ⟨w.heap.size, 0, none⟩ = some (.slice V.A1 t.ts.length V.c1) ∧ (((X.setCell ⟨w.heap.size + 1, 0, none⟩ x).setCell ⟨w.heap.size + 1, 1, none⟩ y).setCell ⟨w.heap.size + 1, 2, none⟩ z).cell? ⟨w.heap.size, 1, none⟩ = some (.slice V.A2 t.vs.length V.c2) ∧ (((X.setCell ⟨w.heap.size + 1, 0, none⟩ x).setCell ⟨w.heap.size + 1, 1, none⟩ y).setCell ⟨w.heap.size + 1, 2, none⟩ z).cell? ⟨w.heap.size, 2, none⟩ = some (.slice V.A3 t.os.length V.c3)) := fun X x y z hb =>
    hcell1 _ ((setCells_other (w.heap.size + 1) w.heap.size (Nat.ne_of_lt (Nat.lt_succ_self _)) [x, y, z] 0 X).trans ((hb.block _ (Array.getElem?_eq_some_iff.1 hg1).1).trans hg1))
  have HR2 : Hid (∀ X, Below W0.heap.size W0 X → (X.cell? ⟨w.heap.size + 1, 0, none⟩ = some (.slice none 0 0) ∧ X.cell? ⟨w.heap.size + 1, 1, none⟩ = some (.slice none 0 0) ∧ X.cell? ⟨w.heap.size + 1, 2, none⟩ = some (.slice none 0 0)) ∧
      X.frozen? ⟨w.heap.size + 1, 0, none⟩ = false ∧ X.frozen? ⟨w.heap.size + 1, 1, none⟩ = false ∧ X.frozen? ⟨w.heap.size + 1, 2, none⟩ = false) := fun X hb => by
    have q2 := (hb.block _ (Array.getElem?_eq_some_iff.1 hg2).1).trans hg2
    exact ⟨cells3 q2, frozen_of_row _ _ _ _ _ q2, frozen_of_row _ _ _ _ _ q2, frozen_of_row _ _ _ _ _ q2⟩
  have HG2 : Hid (∀ X, Below W0.heap.size W0 X → X.heap[w.heap.size + 1]? = some (.cells #[.slice none 0 0, .slice none 0 0, .slice none 0 0] 35 (0, 0))) := fun X hb => (hb.block _ (Array.getElem?_eq_some_iff.1 hg2).1).trans hg2
  have HSZ : Hid (w.heap.size + 2 ≤ W0.heap.size) := by rw [hW0]; show _ ≤ _; simp
  have hT : ∀ X, Below W0.heap.size W0 X → TabAt X X.heap.size V t := fun X hb => (h.below (chain hb2 hb)).more (chain hb2 hb).size
  have H1 := Lib.hid (fun X (hb : Below W0.heap.size W0 X) => cloneTen_any V.A1 V.c1 t.ts X (hT X hb).ts h1)
  have H2 := Lib.hid (fun X (hb : Below W0.heap.size W0 X) => cloneVol_any V.A2 V.c2 t.vs X (hT X hb).vs h2)
  have H3 := Lib.hid (fun X (hb : Below W0.heap.size W0 X) => cloneInt_any V.A3 V.c3 t.os X (hT X hb).os h3)
  have HB2 := Lib.hid hb2
  unfold tabV at hW0 ⊢
  clear h h1 h2 h3 hT hb1 hb2 hs1 hg1 hg2 hcell1
  go_enter Tryz.func37, Tryz.ntmps37
  go_wp2_with fail
  rw [← hW0]
  clear hW0
  have hbx : Below W0.heap.size W0 W0.drew := (Below.refl _ _).drew
  go_region_held3 (fun X => X.cell? ⟨w.heap.size, 0, none⟩ = some (.slice V.A1 t.ts.length V.c1) ∧ X.cell? ⟨w.heap.size, 1, none⟩ = some (.slice V.A2 t.vs.length V.c2) ∧ X.cell? ⟨w.heap.size, 2, none⟩ = some (.slice V.A3 t.os.length V.c3))
    (first | exact HF.out _ hbx | exact HFS.out _ _ _ _ hbx)
    (first
      | (go_at_call 62; with_reducible (refine Calls.mono (H1.out _ hbx) ?_); rintro e w3 ⟨A4, c4, rfl, r4, hb3⟩; have l3 := hbx.size; have hbx : Below W0.heap.size W0 w3 := hbx.trans (hb3.mono hbx.size); obtain ⟨⟨g0, g1, g2⟩, g3, g4, g5⟩ := HR2.out _ hbx)
      | (go_at_call 63; with_reducible (refine Calls.mono (H2.out _ hbx) ?_); rintro e w4 ⟨A5, c5, rfl, r5, hb4⟩; have l4 := hbx.size; have hbx : Below W0.heap.size W0 w4 := hbx.trans (hb4.mono hbx.size); obtain ⟨⟨g0, g1, g2⟩, g3, g4, g5⟩ := HR2.out _ hbx)
      | (go_at_call 64; with_reducible (refine Calls.mono (H3.out _ hbx) ?_); rintro e w5 ⟨A6, c6, rfl, r6, hb5⟩; have l5 := hbx.size; have hbx : Below W0.heap.size W0 w5 := hbx.trans (hb5.mono hbx.size); obtain ⟨⟨g0, g1, g2⟩, g3, g4, g5⟩ := HR2.out _ hbx)
      | fail)
  go_wp2
  have hs := set3 (.slice A4 t.ts.length c4) (.slice A5 t.vs.length c5) (.slice A6 t.os.length c6) (HG2.out w5 hbx)
  have hz := HSZ.out
  have hB2 := HB2.out.size
  refine bodyPost_ret (results_cell_row rfl _ _ (w.heap.size + 1) 35 _ (0, 0) _ rfl hs.1 Tryz.underlying35 rfl (by kernel_rfl)) rfl ?_
  refine ⟨⟨A4, c4, A5, c5, A6, c6⟩, rfl, ⟨?_, ?_, ?_, ?_, ?_, ?_⟩, grown_below (chain HB2.out hbx) hs.2 (Nat.le_trans hB2 hbx.size) (Nat.le_succ _)⟩
  · refine own_lower (own_grown (own_keep (own_keep r4 hb4) hb5) hs.2 fun b hb q => ?_) (Nat.le_trans hB2 l3)
    have := (r4.lt b hb).1; injection q with q; omega
  · refine own_lower (own_grown (own_keep r5 hb5) hs.2 fun b hb q => ?_) (Nat.le_trans hB2 l4)
    have := (r5.lt b hb).1; injection q with q; omega
  · refine own_lower (own_grown r6 hs.2 fun b hb q => ?_) (Nat.le_trans hB2 l5)
    have := (r6.lt b hb).1; injection q with q; omega
  · intro b hb hb2
    have h1 := (row_lt r4 b hb).2; have h2 := (row_lt r5 b hb2).1; omega
  · intro b hb hb2
    have h1 := (row_lt r4 b hb).2; have h2 := (row_lt r6 b hb2).1; have := hb4.size; omega
  · intro b hb hb2
    have h1 := (row_lt r5 b hb).2; have h2 := (row_lt r6 b hb2).1; omega

end Go.Proofs.YtbnhkplhmanmoaaGreat
