/-
  ProcPieces: what is to be seen of the program as a whole. No condition.
-/
import Derived.Test.YtagaiddomhpdmaaGreatKa
import Derived.Test.YtagaiddomhpdmaaGreatKb
namespace Go.Proofs.YtagaiddomhpdmaaGreat.procPieces
open Go Go.Proofs
theorem closed : joinedFacts Tryz.pinned.checked.prog 4 Tryz.f4 Rows.procPiecesSpec Rows.procPiecesRow = true := by
  unfold joinedFacts
  rw [closed1, closed2, closed3, closed4]
  kernel_rfl
end Go.Proofs.YtagaiddomhpdmaaGreat.procPieces

