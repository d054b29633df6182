/-
  UnitSafe. No condition.
-/
import Derived.Test.YtagaiddomhpdmaaGreatRows
import Derived.WalkKit
import Derived.ProofKit
import Derived.OpenShut
import Derived.JoinedOf
namespace Go.Proofs.YtagaiddomhpdmaaGreat.unitSafe
open Go Go.Proofs
theorem closed1 : (Rows.unitSafeRow.inPlace == Tryz.pinned.checked.prog.inPlace 8) = true := by kernel_rfl
theorem closed2 : (Rows.unitSafeRow.unfollowed == Tryz.pinned.checked.prog.unfollowed 8) = true := by kernel_rfl
end Go.Proofs.YtagaiddomhpdmaaGreat.unitSafe

