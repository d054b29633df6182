/-
  TopTells: whether it recurs, and which variables it names. No condition.
-/
import Derived.Test.YtainfdcfkgemhaaGreatRows
import Derived.WalkKit
import Derived.ProofKit
import Derived.OpenShut
import Derived.JoinedOf
namespace Go.Proofs.YtainfdcfkgemhaaGreat.topTells
open Go Go.Proofs
theorem closed3 : (Rows.topTellsRow.recurses == Tryz.pinned.checked.prog.recurses 12) = true := by kernel_rfl
theorem closed4 : (Rows.topTellsRow.named == Tryz.pinned.checked.prog.varsNamed 12) = true := by kernel_rfl
end Go.Proofs.YtainfdcfkgemhaaGreat.topTells

