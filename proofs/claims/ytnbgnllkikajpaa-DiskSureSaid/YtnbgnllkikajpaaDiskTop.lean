/-
  The landed disk is what is asked.
-/
import Derived.Test.YtnbgnllkikajpaaDiskCD
namespace Go.Proofs.Ytnbgnllkikajpaa
open Go.RowKit

theorem disk_spec (w0 : World) : DiskSpec w0 DiskRep where
  keep := fun w w' p F s h hk => disk_keep w w' p F s h hk
  lt := fun w p F s h => disk_lt w p F s h
  ok := fun w p F s ⟨_, _, _, _, _, _, _, h⟩ => h.ok
  no := fun n w _ _ hbad => new_no n hbad w
  new := fun n w _ h1 h2 => new_yes n h1 h2 w
  read := fun i p F s w _ ⟨_, _, _, _, _, _, _, h⟩ _ hE => read_go h i hE
  readNo := fun n p F s w _ _ ⟨_, _, _, _, _, _, _, h⟩ _ hE => read_not h n hE
  write := fun n A c t p F s w _ hn hI ht _ _ hF hm ⟨_, _, _, _, _, _, e, h⟩ _ => by
    subst e
    exact write_go h n hn A c t hI ht hF hm
  flush := fun p F s w _ ⟨_, _, _, _, _, _, e, h⟩ _ => by
    subst e
    exact flush_go h
  limit := fun n p F s w _ hn ⟨_, _, _, _, _, _, e, h⟩ _ => by
    subst e
    exact limit_go h n hn
  crash := fun A c l p F s w _ hB _ _ hF ⟨_, _, _, _, _, _, e, h⟩ _ => by
    subst e
    exact crash_go h A c l hB hF
  last := fun i p F s w _ ⟨_, _, _, _, _, _, _, h⟩ _ hE => lasting_go h i hE
  lastNo := fun n p F s w _ _ ⟨_, _, _, _, _, _, _, h⟩ _ hE => lasting_not h n hE
  pending := fun p F s w _ ⟨_, _, _, _, _, _, _, h⟩ _ => pending_go h
  nread := fun n w _ => read_nil n w
  nwrite := fun n A l c w _ => write_nil n A l c w
  nflush := fun w _ => flush_nil w
  nlimit := fun n w _ => limit_nil n w
  ncrash := fun A l c w _ => crash_nil A l c w
  nlast := fun n w _ => lasting_nil n w
  npending := fun w _ => pending_nil w

end Go.Proofs.Ytnbgnllkikajpaa
