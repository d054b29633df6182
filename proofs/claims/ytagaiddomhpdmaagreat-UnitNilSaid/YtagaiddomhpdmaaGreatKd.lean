/-
  UnitNil: which functions it reaches, in place and unfollowed. No condition.
-/
import Derived.Test.YtagaiddomhpdmaaGreatRows
import Derived.WalkKit
import Derived.ProofKit
import Derived.OpenShut
import Derived.JoinedOf
namespace Go.Proofs.YtagaiddomhpdmaaGreat.unitNil
open Go Go.Proofs
theorem closed1 : (Rows.unitNilRow.inPlace == Tryz.pinned.checked.prog.inPlace 9) = true := by kernel_rfl
theorem closed2 : (Rows.unitNilRow.unfollowed == Tryz.pinned.checked.prog.unfollowed 9) = true := by kernel_rfl
end Go.Proofs.YtagaiddomhpdmaaGreat.unitNil

