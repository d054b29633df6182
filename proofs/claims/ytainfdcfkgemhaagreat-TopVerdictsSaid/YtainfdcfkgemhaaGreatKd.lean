/-
  TopVerdicts: which functions it reaches, in place and unfollowed. No condition.
-/
import Derived.Test.YtainfdcfkgemhaaGreatRows
import Derived.WalkKit
import Derived.ProofKit
import Derived.OpenShut
import Derived.JoinedOf
namespace Go.Proofs.YtainfdcfkgemhaaGreat.topVerdicts
open Go Go.Proofs
theorem closed1 : (Rows.topVerdictsRow.inPlace == Tryz.pinned.checked.prog.inPlace 13) = true := by kernel_rfl
theorem closed2 : (Rows.topVerdictsRow.unfollowed == Tryz.pinned.checked.prog.unfollowed 13) = true := by kernel_rfl
end Go.Proofs.YtainfdcfkgemhaaGreat.topVerdicts

