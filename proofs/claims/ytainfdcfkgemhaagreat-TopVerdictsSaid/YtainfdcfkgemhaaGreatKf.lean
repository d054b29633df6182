/-
  TopVerdicts: what is to be seen of the program as a whole. No condition.
-/
import Derived.Test.YtainfdcfkgemhaaGreatKd
import Derived.Test.YtainfdcfkgemhaaGreatKe
namespace Go.Proofs.YtainfdcfkgemhaaGreat.topVerdicts
open Go Go.Proofs
theorem closed : joinedFacts Tryz.pinned.checked.prog 13 Tryz.f13 Rows.topVerdictsSpec Rows.topVerdictsRow = true := by
  unfold joinedFacts
  rw [closed1, closed2, closed3, closed4]
  kernel_rfl
end Go.Proofs.YtainfdcfkgemhaaGreat.topVerdicts

