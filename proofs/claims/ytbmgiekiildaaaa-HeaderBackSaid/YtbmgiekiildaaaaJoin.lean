/-
  'Put' of the layer pack: whatever the size and the number are, what it answers; nothing that was there is changed.
-/
import Derived.Test.YtbmgiekiildaaaaPJoin
namespace Go.Proofs.Ytbmgiekiildaaaa
open Go.RowKit

/-- 'Put'. -/
theorem put_any (n s : Int) (w : World) (hn : 0 ≤ n ∧ n ≤ 18446744073709551615) :
    Calls Try.prog 21 #[.int .u64 n, .int .i64 s] w (Made w (fieldsE [n] [s]) (fieldsB [n] [s])) := by
  have HJ : ∀ t1 t2 : Nat, Hid (Calls Try.prog 31 #[.slice (some ⟨w.heap.size, 0, none⟩) 1 1, .slice (some ⟨w.heap.size + 1, 0, none⟩) 1 1] ((w.alloc (.cells #[.int .i64 s] t1)).alloc (.cells #[.int .u64 n] t2))
      (Made w (fieldsE [n] [s]) (fieldsB [n] [s]))) := fun t1 t2 => by
    have hb : Below w.heap.size w ((w.alloc (.cells #[.int .i64 s] t1)).alloc (.cells #[.int .u64 n] t2)) := ((Below.refl _ _).alloc (Nat.le_refl _) _).alloc (by simp) _
    refine Calls.mono (join_any (some ⟨w.heap.size, 0, none⟩) (some ⟨w.heap.size + 1, 0, none⟩) 1 1 [s] [n] _ ?_ ?_ ?_) fun e w' h => h.below hb
    · exact ((Ints.new w t1 .i64 [s] #[.int .i64 s] rfl).alloc (by simp) _).more (by simp)
    · have := Ints.new (w.alloc (.cells #[.int .i64 s] t1)) t2 .u64 [n] #[.int .u64 n] rfl
      simp only [World.size_alloc] at this ⊢
      exact this
    · intro z hz
      simp only [List.mem_singleton] at hz
      subst hz; exact hn
  go_enter Try.func21, Try.ntmps21
  go_wp2_with (go_at_call 31; refine Calls.mono (HJ _ _).out ?_; rintro e w1 ⟨A, c, rfl, hcap, hi, hbel⟩)
  go_ret2
  exact ⟨A, c, rfl, hcap, hi, hbel⟩

end Go.Proofs.Ytbmgiekiildaaaa
