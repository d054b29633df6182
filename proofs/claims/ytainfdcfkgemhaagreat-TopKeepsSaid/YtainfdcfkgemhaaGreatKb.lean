/-
  TopKeeps: whether it recurs, and which variables it names. No condition.
-/
import Derived.Test.YtainfdcfkgemhaaGreatRows
import Derived.WalkKit
import Derived.ProofKit
import Derived.OpenShut
import Derived.JoinedOf
namespace Go.Proofs.YtainfdcfkgemhaaGreat.topKeeps
open Go Go.Proofs
theorem closed3 : (Rows.topKeepsRow.recurses == Tryz.pinned.checked.prog.recurses 11) = true := by kernel_rfl
theorem closed4 : (Rows.topKeepsRow.named == Tryz.pinned.checked.prog.varsNamed 11) = true := by kernel_rfl
end Go.Proofs.YtainfdcfkgemhaaGreat.topKeeps

