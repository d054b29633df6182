/-
  UnitSafe. No condition.
-/
import Derived.Test.YtagaiddomhpdmaaGreatRows
import Derived.WalkKit
import Derived.ProofKit
import Derived.OpenShut
import Derived.JoinedOf
namespace Go.Proofs.YtagaiddomhpdmaaGreat.unitSafe
open Go Go.Proofs
theorem closed3 : (Rows.unitSafeRow.recurses == Tryz.pinned.checked.prog.recurses 8) = true := by kernel_rfl
theorem closed4 : (Rows.unitSafeRow.named == Tryz.pinned.checked.prog.varsNamed 8) = true := by kernel_rfl
end Go.Proofs.YtagaiddomhpdmaaGreat.unitSafe

