/-
  TopVerdicts: whether it recurs, and which variables it names. No condition.
-/
import Derived.Test.YtainfdcfkgemhaaGreatRows
import Derived.WalkKit
import Derived.ProofKit
import Derived.OpenShut
import Derived.JoinedOf
namespace Go.Proofs.YtainfdcfkgemhaaGreat.topVerdicts
open Go Go.Proofs
theorem closed3 : (Rows.topVerdictsRow.recurses == Tryz.pinned.checked.prog.recurses 13) = true := by kernel_rfl
theorem closed4 : (Rows.topVerdictsRow.named == Tryz.pinned.checked.prog.varsNamed 13) = true := by kernel_rfl
end Go.Proofs.YtainfdcfkgemhaaGreat.topVerdicts

