/-
  UnitNil: what is to be seen of the program as a whole. No condition.
-/
import Derived.Test.YtagaiddomhpdmaaGreatKd
import Derived.Test.YtagaiddomhpdmaaGreatKe
namespace Go.Proofs.YtagaiddomhpdmaaGreat.unitNil
open Go Go.Proofs
theorem closed : joinedFacts Tryz.pinned.checked.prog 9 Tryz.f9 Rows.unitNilSpec Rows.unitNilRow = true := by
  unfold joinedFacts
  rw [closed1, closed2, closed3, closed4]
  kernel_rfl
end Go.Proofs.YtagaiddomhpdmaaGreat.unitNil

