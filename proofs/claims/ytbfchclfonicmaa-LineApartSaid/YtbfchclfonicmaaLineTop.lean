/-
  All that is asked of the layer line, of the landed code.
-/
import Derived.Test.YtbfchclfonicmaaLineC7
namespace Go.Proofs.Ytbfchclfonicmaa
open Go.RowKit

theorem line_spec (w : World) : LineSpec w :=
  ⟨fun l W _ _ hE => encode_yes l W hE,
   fun l W _ _ hE => encode_no l W hE,
   fun A c b W _ h hz hc _ => decode_any A c b W h hz hc,
   fun A c ps g W _ h _ hm hg => replay_any A c ps g W h (by omega) hg⟩

end Go.Proofs.Ytbfchclfonicmaa
