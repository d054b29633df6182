/-
  ProcBoot: which functions it reaches, in place and unfollowed. No condition.
-/
import Derived.Test.YtmkkpogbjbjfeaaGreatRows
import Derived.WalkKit
import Derived.ProofKit
import Derived.OpenShut
import Derived.JoinedOf
namespace Go.Proofs.YtmkkpogbjbjfeaaGreat.procBoot
open Go Go.Proofs
theorem closed1 : (Rows.procBootRow.inPlace == Tryz.pinned.checked.prog.inPlace 8) = true := by kernel_rfl
theorem closed2 : (Rows.procBootRow.unfollowed == Tryz.pinned.checked.prog.unfollowed 8) = true := by kernel_rfl
end Go.Proofs.YtmkkpogbjbjfeaaGreat.procBoot

