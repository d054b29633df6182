/-
  ProcNil: what is to be seen of the program as a whole. No condition.
-/
import Derived.Test.YtmkkpogbjbjfeaaGreatKa
import Derived.Test.YtmkkpogbjbjfeaaGreatKb
namespace Go.Proofs.YtmkkpogbjbjfeaaGreat.procNil
open Go Go.Proofs
theorem closed : joinedFacts Tryz.pinned.checked.prog 6 Tryz.f6 Rows.procNilSpec Rows.procNilRow = true := by
  unfold joinedFacts
  rw [closed1, closed2, closed3, closed4]
  kernel_rfl
end Go.Proofs.YtmkkpogbjbjfeaaGreat.procNil

