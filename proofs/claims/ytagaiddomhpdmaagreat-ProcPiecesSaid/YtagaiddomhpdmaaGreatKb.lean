/-
  ProcPieces: whether it recurs, and which variables it names. No condition.
-/
import Derived.Test.YtagaiddomhpdmaaGreatRows
import Derived.WalkKit
import Derived.ProofKit
import Derived.OpenShut
import Derived.JoinedOf
namespace Go.Proofs.YtagaiddomhpdmaaGreat.procPieces
open Go Go.Proofs
theorem closed3 : (Rows.procPiecesRow.recurses == Tryz.pinned.checked.prog.recurses 4) = true := by kernel_rfl
theorem closed4 : (Rows.procPiecesRow.named == Tryz.pinned.checked.prog.varsNamed 4) = true := by kernel_rfl
end Go.Proofs.YtagaiddomhpdmaaGreat.procPieces

