/-
  ProcSource: what is to be seen of the program as a whole. No condition.
-/
import Derived.Test.YtmkkpogbjbjfeaaGreatKa
import Derived.Test.YtmkkpogbjbjfeaaGreatKb
namespace Go.Proofs.YtmkkpogbjbjfeaaGreat.procSource
open Go Go.Proofs
theorem closed : joinedFacts Tryz.pinned.checked.prog 7 Tryz.f7 Rows.procSourceSpec Rows.procSourceRow = true := by
  unfold joinedFacts
  rw [closed1, closed2, closed3, closed4]
  kernel_rfl
end Go.Proofs.YtmkkpogbjbjfeaaGreat.procSource
