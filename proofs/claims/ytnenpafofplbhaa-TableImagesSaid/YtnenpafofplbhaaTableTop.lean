/-
  What is asked of the landed table.
-/
import Derived.Test.YtnenpafofplbhaaTableC21
namespace Go.Proofs.Ytnenpafofplbhaa
open Go.RowKit

theorem table_spec (w0 : World) : TableSpec w0 where
  new := fun n w _ h1 h2 => new_yes n w h1 h2
  newNo := fun n w _ _ hr => new_no n w hr
  check := fun V t w _ h ho hs => by
    have := check_any V t w h ho true (by simp [hs])
    exact this
  checkNo := fun V t w _ h ho hs => by
    have := check_any V t w h ho false (by simp [hs])
    exact this
  owned := fun V t id w _ h ho _ => owned_any V t id w h ho.no
  apply := fun V t A c l w _ h ho hl _ _ hm => by
    by_cases hs : t.sound
    · rw [apply_one hs]
      exact apply_yes V t A c l w h hl hs hm
    · exact apply_no V t A c l w h ho hs
  image := fun V t w _ h _ hs => image_yes V t w h hs
  imageNo := fun V t w _ h ho hs => image_no V t w h ho hs

end Go.Proofs.Ytnenpafofplbhaa
