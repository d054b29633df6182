/-
  UnitTwo: whether it recurs, and which variables it names. No condition.
-/
import Derived.Test.YtainfdcfkgemhaaGreatRows
import Derived.WalkKit
import Derived.ProofKit
import Derived.OpenShut
import Derived.JoinedOf
namespace Go.Proofs.YtainfdcfkgemhaaGreat.unitTwo
open Go Go.Proofs
theorem closed3 : (Rows.unitTwoRow.recurses == Tryz.pinned.checked.prog.recurses 5) = true := by kernel_rfl
theorem closed4 : (Rows.unitTwoRow.named == Tryz.pinned.checked.prog.varsNamed 5) = true := by kernel_rfl
end Go.Proofs.YtainfdcfkgemhaaGreat.unitTwo

