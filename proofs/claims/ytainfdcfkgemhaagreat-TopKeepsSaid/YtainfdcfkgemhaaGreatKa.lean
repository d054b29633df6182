/-
  TopKeeps: which functions it reaches, in place and unfollowed. No condition.
-/
import Derived.Test.YtainfdcfkgemhaaGreatRows
import Derived.WalkKit
import Derived.ProofKit
import Derived.OpenShut
import Derived.JoinedOf
namespace Go.Proofs.YtainfdcfkgemhaaGreat.topKeeps
open Go Go.Proofs
theorem closed1 : (Rows.topKeepsRow.inPlace == Tryz.pinned.checked.prog.inPlace 11) = true := by kernel_rfl
theorem closed2 : (Rows.topKeepsRow.unfollowed == Tryz.pinned.checked.prog.unfollowed 11) = true := by kernel_rfl
end Go.Proofs.YtainfdcfkgemhaaGreat.topKeeps

