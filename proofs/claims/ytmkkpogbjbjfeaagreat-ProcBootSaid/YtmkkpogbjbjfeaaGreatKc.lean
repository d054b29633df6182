/-
  ProcBoot: what is to be seen of the program as a whole. No condition.
-/
import Derived.Test.YtmkkpogbjbjfeaaGreatKa
import Derived.Test.YtmkkpogbjbjfeaaGreatKb
namespace Go.Proofs.YtmkkpogbjbjfeaaGreat.procBoot
open Go Go.Proofs
theorem closed : joinedFacts Tryz.pinned.checked.prog 8 Tryz.f8 Rows.procBootSpec Rows.procBootRow = true := by
  unfold joinedFacts
  rw [closed1, closed2, closed3, closed4]
  kernel_rfl
end Go.Proofs.YtmkkpogbjbjfeaaGreat.procBoot

