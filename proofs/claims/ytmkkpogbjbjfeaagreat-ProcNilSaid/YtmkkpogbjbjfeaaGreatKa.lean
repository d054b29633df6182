/-
  ProcNil: which functions it reaches, in place and unfollowed. No condition.
-/
import Derived.Test.YtmkkpogbjbjfeaaGreatRows
import Derived.WalkKit
import Derived.ProofKit
import Derived.OpenShut
import Derived.JoinedOf
namespace Go.Proofs.YtmkkpogbjbjfeaaGreat.procNil
open Go Go.Proofs
theorem closed1 : (Rows.procNilRow.inPlace == Tryz.pinned.checked.prog.inPlace 6) = true := by kernel_rfl
theorem closed2 : (Rows.procNilRow.unfollowed == Tryz.pinned.checked.prog.unfollowed 6) = true := by kernel_rfl
end Go.Proofs.YtmkkpogbjbjfeaaGreat.procNil

