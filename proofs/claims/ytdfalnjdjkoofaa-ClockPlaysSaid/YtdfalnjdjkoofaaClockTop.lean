/-
  The landed clock does what is asked.
-/
import Derived.Test.YtdfalnjdjkoofaaClockSpec
import Derived.Test.YtdfalnjdjkoofaaClockC4
import Derived.Test.YtdfalnjdjkoofaaClockC5
import Derived.Test.YtdfalnjdjkoofaaClockC6
import Derived.Test.YtdfalnjdjkoofaaClockC7
import Derived.Test.YtdfalnjdjkoofaaClockC8
namespace Go.Proofs.Ytdfalnjdjkoofaa
open Go.RowKit

theorem more_refl (F : Nat → Prop) (n : Nat) : More F F n := fun _ h => .inl h

theorem clock_spec (w0 : World) : ClockSpec w0 ClockRep where
  keep := clock_keep
  lt := clock_lt
  no := fun n w _ _ hbad => newBad_go n w hbad
  new := fun n w _ h1 h2 => new_go n w h1 h2
  put := fun n p F s w _ hn ⟨gt, gm, gb, ct, cm, D, e, hi⟩ _ => by
    subst e
    exact (put_go hi n hn).mono fun e w' ⟨q1, ⟨D', q2⟩, q3⟩ => ⟨_, q1, ⟨gt, gm, gb, ct, cm, D', rfl, q2⟩, more_refl _ _, q3⟩
  touch := fun n p F s w _ hn ⟨gt, gm, gb, ct, cm, D, e, hi⟩ _ => by
    subst e
    exact (touch_go hi n hn).mono fun e w' ⟨q1, q2, q3⟩ => ⟨_, q1, ⟨gt, gm, gb, ct, cm, D, rfl, q2⟩, more_refl _ _, q3⟩
  drop := fun n p F s w _ hn ⟨gt, gm, gb, ct, cm, D, e, hi⟩ _ => by
    subst e
    exact (drop_go hi n hn).mono fun e w' ⟨q1, ⟨D', q2⟩, q3⟩ => ⟨_, q1, ⟨gt, gm, gb, ct, cm, D', rfl, q2⟩, more_refl _ _, q3⟩
  leave := fun A c l p F s w _ hI hz _ hl _ ⟨gt, gm, gb, ct, cm, D, e, hi⟩ _ => by
    subst e
    exact (leave_go hi A c l hI hz hl).mono fun e w' ⟨q1, ⟨D', q2⟩, q3⟩ => ⟨_, q1, ⟨gt, gm, gb, ct, cm, D', rfl, q2⟩, more_refl _ _, q3⟩
  things := fun p F s w _ ⟨gt, gm, gb, ct, cm, D, _, hi⟩ _ => things_go hi
  nput := fun n w _ => put_nil n w
  ntouch := fun n w _ => touch_nil n w
  ndrop := fun n w _ => drop_nil n w
  nleave := fun A n c w _ => leave_nil A n c w
  nthings := fun w _ => things_nil w

end Go.Proofs.Ytdfalnjdjkoofaa
