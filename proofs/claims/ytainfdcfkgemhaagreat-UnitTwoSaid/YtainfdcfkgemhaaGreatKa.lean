/-
  UnitTwo: which functions it reaches, in place and unfollowed. No condition.
-/
import Derived.Test.YtainfdcfkgemhaaGreatRows
import Derived.WalkKit
import Derived.ProofKit
import Derived.OpenShut
import Derived.JoinedOf
namespace Go.Proofs.YtainfdcfkgemhaaGreat.unitTwo
open Go Go.Proofs
theorem closed1 : (Rows.unitTwoRow.inPlace == Tryz.pinned.checked.prog.inPlace 5) = true := by kernel_rfl
theorem closed2 : (Rows.unitTwoRow.unfollowed == Tryz.pinned.checked.prog.unfollowed 5) = true := by kernel_rfl
end Go.Proofs.YtainfdcfkgemhaaGreat.unitTwo

