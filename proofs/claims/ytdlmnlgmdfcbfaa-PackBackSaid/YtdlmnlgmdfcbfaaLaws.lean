/-
  The statements of layer 1 as walks: whatever comes in, each returns true, and nothing that was there is changed. Conditions: what comes in is of its type.
-/
import Derived.Test.YtdlmnlgmdfcbfaaGet
namespace Go.Proofs.Ytdlmnlgmdfcbfaa
open Go.RowKit

theorem awake_put (w : World) : Calls Try.prog 11 #[.int .u64 258, .int .i64 3] w (Made w 0 [0, 1, 2]) :=
  put_any 258 3 w (by omega)
theorem awake_get (w : World) (t : TypeId) : Calls Try.prog 14 #[.slice (some ⟨w.heap.size, 0, none⟩) 2 2, .int .i64 2] (w.alloc (.cells #[.int .u8 1, .int .u8 2] t)) fun e w' => e = .returned (.tuple #[.int .u64 258, .int .i64 0]) ∧ Below w.heap.size w w' :=
  (get_any (some ⟨w.heap.size, 0, none⟩) 2 [1, 2] 2 (w.alloc (.cells #[.int .u8 1, .int .u8 2] t)) ((Ints.new w t .u8 [1, 2] #[.int .u8 1, .int .u8 2] rfl).more (by simp)) (by intro z hz; simp at hz; omega) (by simp)).mono
    fun e w' ⟨he, hb⟩ => ⟨he, ((Below.refl _ _).alloc (Nat.le_refl _) _).trans (hb.mono (by simp))⟩

/-- 'awake'. -/
theorem awake_any (w : World) : Calls Try.prog 13 #[] w fun e w' => e = .returned (.bool true) ∧ Below w.heap.size w w' := by
  go_enter Try.func13, Try.ntmps13
  go_wp2_with (first
    | (go_at_call 11; refine Calls.mono (awake_put _) ?_; rintro e w1 ⟨A1, c1, rfl, _, hi1, hb1⟩)
    | (go_at_call 14; refine Calls.mono (awake_get _ _) ?_; rintro e w2 ⟨rfl, hb2⟩; have hk := (hi1.below hb2).textAs (P := Try.prog) (n := 3) (t := ⟨#[0, 1, 2]⟩) Try.underlying23 Try.underlying5 Try.underlying9 rfl rfl c1))
  go_ret
  exact ⟨rfl, hb1.trans (hb2.mono hb1.size)⟩

/-- The document's Fields of one number, behind two new blocks. -/
theorem refOne_any (n s : Int) (w : World) (t1 t2 : TypeId) (hn : 0 ≤ n ∧ n ≤ 18446744073709551615) :
    Calls Try.prog 12 #[.slice (some ⟨w.heap.size, 0, none⟩) 1 1, .slice (some ⟨w.heap.size + 1, 0, none⟩) 1 1] ((w.alloc (.cells #[.int .u64 n] t1)).alloc (.cells #[.int .i64 s] t2))
      (Made w (fieldsE [n] [s]) (fieldsB [n] [s])) := by
  have hb : Below w.heap.size w ((w.alloc (.cells #[.int .u64 n] t1)).alloc (.cells #[.int .i64 s] t2)) := ((Below.refl _ _).alloc (Nat.le_refl _) _).alloc (by simp) _
  refine Calls.mono (refFields_any (some ⟨w.heap.size + 1, 0, none⟩) (some ⟨w.heap.size, 0, none⟩) 1 1 [s] [n] _ ?_ ?_ ?_) fun e w' h => h.below hb
  · have := Ints.new (w.alloc (.cells #[.int .u64 n] t1)) t2 .i64 [s] #[.int .i64 s] rfl
    simp only [World.size_alloc] at this ⊢
    exact this
  · exact ((Ints.new w t1 .u64 [n] #[.int .u64 n] rfl).alloc (by simp) _).more (by simp)
  · intro z hz
    simp only [List.mem_singleton] at hz
    subst hz; exact hn

theorem packPuts_go (n s : Int) (w : World) (hn : 0 ≤ n ∧ n ≤ 18446744073709551615) :
    Calls Try.prog 3 #[.int .u64 n, .int .i64 s] w fun e w' => e = .returned (.bool true) ∧ Below w.heap.size w w' := by
  have hP := put_any n s
  have hR := fun (w : World) t1 t2 => refOne_any n s w t1 t2 hn
  obtain ⟨l, hl⟩ : ∃ l, l = fieldsB [n] [s] := ⟨_, rfl⟩
  obtain ⟨E, hE⟩ : ∃ E, E = fieldsE [n] [s] := ⟨_, rfl⟩
  rw [← hl, ← hE] at hP hR
  clear hl hE
  have HP := Lib.hid hP
  have HR := Lib.hid hR
  clear hP hR
  go_enter Try.func3, Try.ntmps3
  go_wp2_with (first
    | (go_at_call 11; refine Calls.mono (HP.out _ hn) ?_; rintro e w1 ⟨A1, c1, rfl, hc1, hi1, hb1⟩)
    | (go_at_call 12; refine Calls.mono (HR.out _ _ _) ?_; rintro e w2 ⟨A2, c2, rfl, hc2, hi2, hb2⟩)
    | (go_at_call 13; refine Calls.mono (awake_any _) ?_; rintro e w3 ⟨rfl, hb3⟩; have hk1 := ((hi1.below hb2).below (hb3.mono hb2.size)).text (P := Try.prog) Try.underlying23 Try.underlying5 Try.underlying9 c1; have hk2 := (hi2.below hb3).text (P := Try.prog) Try.underlying23 Try.underlying5 Try.underlying9 c2))
  go_ret
  exact ⟨rfl, hb1.trans ((hb2.mono hb1.size).trans (hb3.mono (Nat.le_trans hb1.size hb2.size)))⟩

theorem packGets_go (A : Option Addr) (c : Nat) (zs : List Int) (s : Int) (w : World) (hr : Ints w w.heap.size .u8 A zs) (hz : ∀ z ∈ zs, 0 ≤ z ∧ z ≤ 255) (hc : zs.length ≤ c) :
    Calls Try.prog 4 #[.slice A zs.length c, .int .i64 s] w fun e w' => e = .returned (.bool true) ∧ Below w.heap.size w w' := by
  have HG := Lib.hid (get_any A c zs s w hr hz hc)
  have HR := Lib.hid (fun w1 (hb : Below w.heap.size w w1) => refGet_any A c w.heap.size zs s w1 (hr.below hb) hz)
  clear hz
  obtain ⟨v, hv⟩ : ∃ v, v = getV zs s := ⟨_, rfl⟩
  obtain ⟨E, hE⟩ : ∃ E, E = getE zs s := ⟨_, rfl⟩
  rw [← hv, ← hE] at HG HR
  clear hv hE
  go_enter Try.func4, Try.ntmps4
  go_wp2_with (first
    | (go_at_call 14; refine Calls.mono HG.out ?_; rintro e w1 ⟨rfl, hb1⟩)
    | (go_at_call 15; refine Calls.mono (HR.out _ hb1) ?_; rintro e w' ⟨rfl, rfl⟩)
    | (go_at_call 13; refine Calls.mono (awake_any _) ?_; rintro e w3 ⟨rfl, hb3⟩))
  go_ret
  exact ⟨rfl, hb1.trans (hb3.mono hb1.size)⟩

theorem packFields_go (A1 A2 : Option Addr) (c1 c2 : Nat) (sizes list : List Int) (w : World) (hs : Ints w w.heap.size .i64 A1 sizes) (hn : Ints w w.heap.size .u64 A2 list)
    (hb : ∀ z ∈ list, 0 ≤ z ∧ z ≤ 18446744073709551615) :
    Calls Try.prog 5 #[.slice A2 list.length c2, .slice A1 sizes.length c1] w fun e w' => e = .returned (.bool true) ∧ Below w.heap.size w w' := by
  have HP := Lib.hid (fields_any A1 A2 c1 c2 sizes list w hs hn hb)
  have HR := Lib.hid (fun w1 (hb1 : Below w.heap.size w w1) => refFields_any A1 A2 c1 c2 sizes list w1 ((hs.below hb1).more hb1.size) ((hn.below hb1).more hb1.size) hb)
  clear hb
  obtain ⟨l, hl⟩ : ∃ l, l = fieldsB list sizes := ⟨_, rfl⟩
  obtain ⟨E, hE⟩ : ∃ E, E = fieldsE list sizes := ⟨_, rfl⟩
  rw [← hl, ← hE] at HP HR
  clear hl hE
  go_enter Try.func5, Try.ntmps5
  go_wp2_with (first
    | (go_at_call 16; refine Calls.mono HP.out ?_; rintro e w1 ⟨A1, c1, rfl, hc1, hi1, hb1⟩)
    | (go_at_call 12; refine Calls.mono (HR.out _ hb1) ?_; rintro e w2 ⟨A2, c2, rfl, hc2, hi2, hb2⟩)
    | (go_at_call 13; refine Calls.mono (awake_any _) ?_; rintro e w3 ⟨rfl, hb3⟩; have hk1 := ((hi1.below hb2).below (hb3.mono hb2.size)).text (P := Try.prog) Try.underlying23 Try.underlying5 Try.underlying9 c1; have hk2 := (hi2.below hb3).text (P := Try.prog) Try.underlying23 Try.underlying5 Try.underlying9 c2))
  go_ret
  exact ⟨rfl, hb1.trans ((hb2.mono hb1.size).trans (hb3.mono (Nat.le_trans hb1.size hb2.size)))⟩

end Go.Proofs.Ytdlmnlgmdfcbfaa
