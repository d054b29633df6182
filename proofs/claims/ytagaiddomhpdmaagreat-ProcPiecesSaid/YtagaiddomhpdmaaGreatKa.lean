/-
  ProcPieces: which functions it reaches, in place and unfollowed. No condition.
-/
import Derived.Test.YtagaiddomhpdmaaGreatRows
import Derived.WalkKit
import Derived.ProofKit
import Derived.OpenShut
import Derived.JoinedOf
namespace Go.Proofs.YtagaiddomhpdmaaGreat.procPieces
open Go Go.Proofs
theorem closed1 : (Rows.procPiecesRow.inPlace == Tryz.pinned.checked.prog.inPlace 4) = true := by kernel_rfl
theorem closed2 : (Rows.procPiecesRow.unfollowed == Tryz.pinned.checked.prog.unfollowed 4) = true := by kernel_rfl
end Go.Proofs.YtagaiddomhpdmaaGreat.procPieces

