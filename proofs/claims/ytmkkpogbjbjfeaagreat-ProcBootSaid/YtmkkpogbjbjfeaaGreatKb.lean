/-
  ProcBoot: whether it recurs, and which variables it names. No condition.
-/
import Derived.Test.YtmkkpogbjbjfeaaGreatRows
import Derived.WalkKit
import Derived.ProofKit
import Derived.OpenShut
import Derived.JoinedOf
namespace Go.Proofs.YtmkkpogbjbjfeaaGreat.procBoot
open Go Go.Proofs
theorem closed3 : (Rows.procBootRow.recurses == Tryz.pinned.checked.prog.recurses 8) = true := by kernel_rfl
theorem closed4 : (Rows.procBootRow.named == Tryz.pinned.checked.prog.varsNamed 8) = true := by kernel_rfl
end Go.Proofs.YtmkkpogbjbjfeaaGreat.procBoot

