/-
  TopTells: which functions it reaches, in place and unfollowed. No condition.
-/
import Derived.Test.YtainfdcfkgemhaaGreatRows
import Derived.WalkKit
import Derived.ProofKit
import Derived.OpenShut
import Derived.JoinedOf
namespace Go.Proofs.YtainfdcfkgemhaaGreat.topTells
open Go Go.Proofs
theorem closed1 : (Rows.topTellsRow.inPlace == Tryz.pinned.checked.prog.inPlace 12) = true := by kernel_rfl
theorem closed2 : (Rows.topTellsRow.unfollowed == Tryz.pinned.checked.prog.unfollowed 12) = true := by kernel_rfl
end Go.Proofs.YtainfdcfkgemhaaGreat.topTells

