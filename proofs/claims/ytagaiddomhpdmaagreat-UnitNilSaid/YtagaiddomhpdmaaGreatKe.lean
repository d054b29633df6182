/-
  UnitNil: whether it recurs, and which variables it names. No condition.
-/
import Derived.Test.YtagaiddomhpdmaaGreatRows
import Derived.WalkKit
import Derived.ProofKit
import Derived.OpenShut
import Derived.JoinedOf
namespace Go.Proofs.YtagaiddomhpdmaaGreat.unitNil
open Go Go.Proofs
theorem closed3 : (Rows.unitNilRow.recurses == Tryz.pinned.checked.prog.recurses 9) = true := by kernel_rfl
theorem closed4 : (Rows.unitNilRow.named == Tryz.pinned.checked.prog.varsNamed 9) = true := by kernel_rfl
end Go.Proofs.YtagaiddomhpdmaaGreat.unitNil

