/-
  All that the frames of stage 13 want.
-/
import Derived.Test.YtdfalnjdjkoofaaActs
import Derived.Test.YtdfalnjdjkoofaaClockUsed
import Derived.Test.YtdfalnjdjkoofaaClockPlays
import Derived.Test.YtdfalnjdjkoofaaClockAll
import Derived.Test.YtdfalnjdjkoofaaClockFirst
import Derived.Test.YtdfalnjdjkoofaaClockTop
namespace Go.Proofs.Ytdfalnjdjkoofaa
end Go.Proofs.Ytdfalnjdjkoofaa
