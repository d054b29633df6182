/-
  UnitSafe. No condition.
-/
import Derived.Test.YtagaiddomhpdmaaGreatKa
import Derived.Test.YtagaiddomhpdmaaGreatKb
namespace Go.Proofs.YtagaiddomhpdmaaGreat.unitSafe
open Go Go.Proofs
theorem closed : joinedFacts Tryz.pinned.checked.prog 8 Tryz.f8 Rows.unitSafeSpec Rows.unitSafeRow = true := by
  unfold joinedFacts
  rw [closed1, closed2, closed3, closed4]
  kernel_rfl
end Go.Proofs.YtagaiddomhpdmaaGreat.unitSafe

