/-
  TopKeeps: what is to be seen of the program as a whole. No condition.
-/
import Derived.Test.YtainfdcfkgemhaaGreatKa
import Derived.Test.YtainfdcfkgemhaaGreatKb
namespace Go.Proofs.YtainfdcfkgemhaaGreat.topKeeps
open Go Go.Proofs
theorem closed : joinedFacts Tryz.pinned.checked.prog 11 Tryz.f11 Rows.topKeepsSpec Rows.topKeepsRow = true := by
  unfold joinedFacts
  rw [closed1, closed2, closed3, closed4]
  kernel_rfl
end Go.Proofs.YtainfdcfkgemhaaGreat.topKeeps

