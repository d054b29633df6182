/-
  ProcSource: which functions it reaches, in place and unfollowed. No condition.
-/
import Derived.Test.YtmkkpogbjbjfeaaGreatRows
import Derived.WalkKit
import Derived.ProofKit
import Derived.OpenShut
import Derived.JoinedOf
namespace Go.Proofs.YtmkkpogbjbjfeaaGreat.procSource
open Go Go.Proofs
theorem closed1 : (Rows.procSourceRow.inPlace == Tryz.pinned.checked.prog.inPlace 7) = true := by kernel_rfl
theorem closed2 : (Rows.procSourceRow.unfollowed == Tryz.pinned.checked.prog.unfollowed 7) = true := by kernel_rfl
end Go.Proofs.YtmkkpogbjbjfeaaGreat.procSource
