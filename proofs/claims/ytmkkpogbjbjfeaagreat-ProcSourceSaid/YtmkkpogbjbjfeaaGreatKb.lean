/-
  ProcSource: whether it recurs, and which variables it names. No condition.
-/
import Derived.Test.YtmkkpogbjbjfeaaGreatRows
import Derived.WalkKit
import Derived.ProofKit
import Derived.OpenShut
import Derived.JoinedOf
namespace Go.Proofs.YtmkkpogbjbjfeaaGreat.procSource
open Go Go.Proofs
theorem closed3 : (Rows.procSourceRow.recurses == Tryz.pinned.checked.prog.recurses 7) = true := by kernel_rfl
theorem closed4 : (Rows.procSourceRow.named == Tryz.pinned.checked.prog.varsNamed 7) = true := by kernel_rfl
end Go.Proofs.YtmkkpogbjbjfeaaGreat.procSource
