/-
  No cell of these rows narrows 'for every input' (looked for: loops, veiled, ifaces, maps, wideKeys, modest, calm, conditions, laid).
  DERIVED. THE GIVEN ROWS OF THIS SEAT. 14 by the template 'for every input the law returns true; each argument reads behind the call as it read before'; 0 by the template 'total and deterministic' (their statements: YtlhgaehjkpjniaaTotals.lean).
  GIVEN WITH THE SEED: the statements are not yours to turn. If you find one false, say at which input.
  Laid BY PROGRAM, IN A SANDBOX (cutbox-rows.mjs): the forced cells as the released guide's own fill.sh prints them over the translation d67f540ab219be92… (all of the seat's roots in one cut). By AI agents, Wed Nov 11 2026. No macro, syntax, notation, axiom, sorry.
-/
import Derived.Test.YtlhgaehjkpjniaaChecked
import GoSem.Claim
import GoSem.ClaimJoined
import GoSem.ClaimMapViews
import Derived.JoinedTies
import Derived.KernelRfl
namespace Go.Proofs.Ytlhgaehjkpjniaa
/- THE CELL 'sum', in the pinned program and in every row, IS THE sha256 OF THE DUMP (.gsa) THAT YtlhgaehjkpjniaaProg.lean LOADS. Nothing in Lean hashes anything: it is a label: what it is worth is what the hold of that sum in a sandbox is worth. -/
noncomputable def Try.pinned : Pinned := { name := "ytlhgaehjkpjniaa", sum := "d67f540ab219be929addf0915a9c1bdecd1f6eac017df87b06eb6c4e50a64348", checked := Try.checked }
namespace Rows
def none {H : Type} : Left H := { results := [], args := [] }

/-- 'apogeelaw08.FlashTorn': WHATEVER THE INPUT: true; the input reads as it did. -/
def flashTornSpec : ChangeSpec := { name := "flashTorn", fn := fun _ => fun
  | [d1, d2, d3, d4] => { results := [.lit (.bool true)], args := [d1, d2, d3, d4] }
  | _ => none }
def flashTornRow : OpenClaim := { program := "ytlhgaehjkpjniaa", sum := "d67f540ab219be929addf0915a9c1bdecd1f6eac017df87b06eb6c4e50a64348", func := "apogee/apogeelaw08.FlashTorn", spec := "flashTorn", inPlace := ["internal/bytealg.MakeNoZero", "sync/atomic.LoadInt64", "sync/atomic.CompareAndSwapInt64"], apart := false }
def FlashTornSaid : Prop := flashTornRow.holds Try.pinned (OpenSpec.ofChange flashTornSpec)

/-- ITS FALSE NEIGHBOUR: 'it returns false'. Refute it at one input. -/
def flashTornWrong : ChangeSpec := { name := "flashTorn", fn := fun _ => fun
  | [d1, d2, d3, d4] => { results := [.lit (.bool false)], args := [d1, d2, d3, d4] }
  | _ => none }
def FlashTornWrongFalsely : Prop := flashTornRow.holds Try.pinned (OpenSpec.ofChange flashTornWrong)

/-- 'apogeelaw08.FlashKeeps': WHATEVER THE INPUT: true; the input reads as it did. -/
def flashKeepsSpec : ChangeSpec := { name := "flashKeeps", fn := fun _ => fun
  | [d1, d2, d3] => { results := [.lit (.bool true)], args := [d1, d2, d3] }
  | _ => none }
def flashKeepsRow : OpenClaim := { program := "ytlhgaehjkpjniaa", sum := "d67f540ab219be929addf0915a9c1bdecd1f6eac017df87b06eb6c4e50a64348", func := "apogee/apogeelaw08.FlashKeeps", spec := "flashKeeps", inPlace := ["internal/bytealg.MakeNoZero", "sync/atomic.LoadInt64", "sync/atomic.CompareAndSwapInt64"], apart := false }
def FlashKeepsSaid : Prop := flashKeepsRow.holds Try.pinned (OpenSpec.ofChange flashKeepsSpec)

/-- ITS FALSE NEIGHBOUR: 'it returns false'. Refute it at one input. -/
def flashKeepsWrong : ChangeSpec := { name := "flashKeeps", fn := fun _ => fun
  | [d1, d2, d3] => { results := [.lit (.bool false)], args := [d1, d2, d3] }
  | _ => none }
def FlashKeepsWrongFalsely : Prop := flashKeepsRow.holds Try.pinned (OpenSpec.ofChange flashKeepsWrong)

/-- 'apogeelaw08.FlashNil': WHATEVER THE INPUT: true; the input reads as it did. -/
def flashNilSpec : ChangeSpec := { name := "flashNil", fn := fun _ => fun
  | [d] => { results := [.lit (.bool true)], args := [d] }
  | _ => none }
def flashNilRow : OpenClaim := { program := "ytlhgaehjkpjniaa", sum := "d67f540ab219be929addf0915a9c1bdecd1f6eac017df87b06eb6c4e50a64348", func := "apogee/apogeelaw08.FlashNil", spec := "flashNil", inPlace := ["internal/bytealg.MakeNoZero", "sync/atomic.LoadInt64", "sync/atomic.CompareAndSwapInt64"], apart := false }
def FlashNilSaid : Prop := flashNilRow.holds Try.pinned (OpenSpec.ofChange flashNilSpec)

/-- ITS FALSE NEIGHBOUR: 'it returns false'. Refute it at one input. -/
def flashNilWrong : ChangeSpec := { name := "flashNil", fn := fun _ => fun
  | [d] => { results := [.lit (.bool false)], args := [d] }
  | _ => none }
def FlashNilWrongFalsely : Prop := flashNilRow.holds Try.pinned (OpenSpec.ofChange flashNilWrong)

/-- 'apogeelaw08.FlashTwice': WHATEVER THE INPUT: true; the input reads as it did. -/
def flashTwiceSpec : ChangeSpec := { name := "flashTwice", fn := fun _ => fun
  | [d1, d2, d3, d4] => { results := [.lit (.bool true)], args := [d1, d2, d3, d4] }
  | _ => none }
def flashTwiceRow : OpenClaim := { program := "ytlhgaehjkpjniaa", sum := "d67f540ab219be929addf0915a9c1bdecd1f6eac017df87b06eb6c4e50a64348", func := "apogee/apogeelaw08.FlashTwice", spec := "flashTwice", inPlace := ["internal/bytealg.MakeNoZero", "sync/atomic.LoadInt64", "sync/atomic.CompareAndSwapInt64"], apart := false }
def FlashTwiceSaid : Prop := flashTwiceRow.holds Try.pinned (OpenSpec.ofChange flashTwiceSpec)

/-- ITS FALSE NEIGHBOUR: 'it returns false'. Refute it at one input. -/
def flashTwiceWrong : ChangeSpec := { name := "flashTwice", fn := fun _ => fun
  | [d1, d2, d3, d4] => { results := [.lit (.bool false)], args := [d1, d2, d3, d4] }
  | _ => none }
def FlashTwiceWrongFalsely : Prop := flashTwiceRow.holds Try.pinned (OpenSpec.ofChange flashTwiceWrong)

/-- 'apogeelaw09.LatchPrints': WHATEVER THE INPUT: true; the input reads as it did. -/
def latchPrintsSpec : ChangeSpec := { name := "latchPrints", fn := fun _ => fun
  | [d1, d2] => { results := [.lit (.bool true)], args := [d1, d2] }
  | _ => none }
def latchPrintsRow : OpenClaim := { program := "ytlhgaehjkpjniaa", sum := "d67f540ab219be929addf0915a9c1bdecd1f6eac017df87b06eb6c4e50a64348", func := "apogee/apogeelaw09.LatchPrints", spec := "latchPrints", inPlace := ["internal/bytealg.MakeNoZero", "sync/atomic.LoadInt64", "sync/atomic.CompareAndSwapInt64"], apart := false }
def LatchPrintsSaid : Prop := latchPrintsRow.holds Try.pinned (OpenSpec.ofChange latchPrintsSpec)

/-- ITS FALSE NEIGHBOUR: 'it returns false'. Refute it at one input. -/
def latchPrintsWrong : ChangeSpec := { name := "latchPrints", fn := fun _ => fun
  | [d1, d2] => { results := [.lit (.bool false)], args := [d1, d2] }
  | _ => none }
def LatchPrintsWrongFalsely : Prop := latchPrintsRow.holds Try.pinned (OpenSpec.ofChange latchPrintsWrong)

/-- 'apogeelaw09.LatchSlots': WHATEVER THE INPUT: true; the input reads as it did. -/
def latchSlotsSpec : ChangeSpec := { name := "latchSlots", fn := fun _ => fun
  | [d1, d2, d3] => { results := [.lit (.bool true)], args := [d1, d2, d3] }
  | _ => none }
def latchSlotsRow : OpenClaim := { program := "ytlhgaehjkpjniaa", sum := "d67f540ab219be929addf0915a9c1bdecd1f6eac017df87b06eb6c4e50a64348", func := "apogee/apogeelaw09.LatchSlots", spec := "latchSlots", inPlace := ["internal/bytealg.MakeNoZero", "sync/atomic.LoadInt64", "sync/atomic.CompareAndSwapInt64"], apart := false }
def LatchSlotsSaid : Prop := latchSlotsRow.holds Try.pinned (OpenSpec.ofChange latchSlotsSpec)

/-- ITS FALSE NEIGHBOUR: 'it returns false'. Refute it at one input. -/
def latchSlotsWrong : ChangeSpec := { name := "latchSlots", fn := fun _ => fun
  | [d1, d2, d3] => { results := [.lit (.bool false)], args := [d1, d2, d3] }
  | _ => none }
def LatchSlotsWrongFalsely : Prop := latchSlotsRow.holds Try.pinned (OpenSpec.ofChange latchSlotsWrong)

/-- 'apogeelaw09.LatchBits': WHATEVER THE INPUT: true; the input reads as it did. -/
def latchBitsSpec : ChangeSpec := { name := "latchBits", fn := fun _ => fun
  | [d1, d2] => { results := [.lit (.bool true)], args := [d1, d2] }
  | _ => none }
def latchBitsRow : OpenClaim := { program := "ytlhgaehjkpjniaa", sum := "d67f540ab219be929addf0915a9c1bdecd1f6eac017df87b06eb6c4e50a64348", func := "apogee/apogeelaw09.LatchBits", spec := "latchBits", inPlace := ["internal/bytealg.MakeNoZero", "sync/atomic.LoadInt64", "sync/atomic.CompareAndSwapInt64"], apart := false }
def LatchBitsSaid : Prop := latchBitsRow.holds Try.pinned (OpenSpec.ofChange latchBitsSpec)

/-- ITS FALSE NEIGHBOUR: 'it returns false'. Refute it at one input. -/
def latchBitsWrong : ChangeSpec := { name := "latchBits", fn := fun _ => fun
  | [d1, d2] => { results := [.lit (.bool false)], args := [d1, d2] }
  | _ => none }
def LatchBitsWrongFalsely : Prop := latchBitsRow.holds Try.pinned (OpenSpec.ofChange latchBitsWrong)

/-- 'apogeelaw09.LatchNil': WHATEVER THE INPUT: true; the input reads as it did. -/
def latchNilSpec : ChangeSpec := { name := "latchNil", fn := fun _ => fun
  | [d1, d2] => { results := [.lit (.bool true)], args := [d1, d2] }
  | _ => none }
def latchNilRow : OpenClaim := { program := "ytlhgaehjkpjniaa", sum := "d67f540ab219be929addf0915a9c1bdecd1f6eac017df87b06eb6c4e50a64348", func := "apogee/apogeelaw09.LatchNil", spec := "latchNil", inPlace := ["internal/bytealg.MakeNoZero", "sync/atomic.LoadInt64", "sync/atomic.CompareAndSwapInt64"], apart := false }
def LatchNilSaid : Prop := latchNilRow.holds Try.pinned (OpenSpec.ofChange latchNilSpec)

/-- ITS FALSE NEIGHBOUR: 'it returns false'. Refute it at one input. -/
def latchNilWrong : ChangeSpec := { name := "latchNil", fn := fun _ => fun
  | [d1, d2] => { results := [.lit (.bool false)], args := [d1, d2] }
  | _ => none }
def LatchNilWrongFalsely : Prop := latchNilRow.holds Try.pinned (OpenSpec.ofChange latchNilWrong)

/-- 'apogeelaw10.PointTells': WHATEVER THE INPUT: true; the input reads as it did. -/
def pointTellsSpec : ChangeSpec := { name := "pointTells", fn := fun _ => fun
  | [d1, d2, d3, d4] => { results := [.lit (.bool true)], args := [d1, d2, d3, d4] }
  | _ => none }
def pointTellsRow : OpenClaim := { program := "ytlhgaehjkpjniaa", sum := "d67f540ab219be929addf0915a9c1bdecd1f6eac017df87b06eb6c4e50a64348", func := "apogee/apogeelaw10.PointTells", spec := "pointTells", inPlace := ["math/bits.Add64"], apart := false }
def PointTellsSaid : Prop := pointTellsRow.holds Try.pinned (OpenSpec.ofChange pointTellsSpec)

/-- ITS FALSE NEIGHBOUR: 'it returns false'. Refute it at one input. -/
def pointTellsWrong : ChangeSpec := { name := "pointTells", fn := fun _ => fun
  | [d1, d2, d3, d4] => { results := [.lit (.bool false)], args := [d1, d2, d3, d4] }
  | _ => none }
def PointTellsWrongFalsely : Prop := pointTellsRow.holds Try.pinned (OpenSpec.ofChange pointTellsWrong)

/-- 'apogeelaw10.PointTurns': WHATEVER THE INPUT: true; the input reads as it did. -/
def pointTurnsSpec : ChangeSpec := { name := "pointTurns", fn := fun _ => fun
  | [d1, d2, d3] => { results := [.lit (.bool true)], args := [d1, d2, d3] }
  | _ => none }
def pointTurnsRow : OpenClaim := { program := "ytlhgaehjkpjniaa", sum := "d67f540ab219be929addf0915a9c1bdecd1f6eac017df87b06eb6c4e50a64348", func := "apogee/apogeelaw10.PointTurns", spec := "pointTurns", inPlace := ["math/bits.Add64"], apart := false }
def PointTurnsSaid : Prop := pointTurnsRow.holds Try.pinned (OpenSpec.ofChange pointTurnsSpec)

/-- ITS FALSE NEIGHBOUR: 'it returns false'. Refute it at one input. -/
def pointTurnsWrong : ChangeSpec := { name := "pointTurns", fn := fun _ => fun
  | [d1, d2, d3] => { results := [.lit (.bool false)], args := [d1, d2, d3] }
  | _ => none }
def PointTurnsWrongFalsely : Prop := pointTurnsRow.holds Try.pinned (OpenSpec.ofChange pointTurnsWrong)

/-- 'apogeelaw10.PointMoves': WHATEVER THE INPUT: true; the input reads as it did. -/
def pointMovesSpec : ChangeSpec := { name := "pointMoves", fn := fun _ => fun
  | [d1, d2, d3, d4, d5, d6] => { results := [.lit (.bool true)], args := [d1, d2, d3, d4, d5, d6] }
  | _ => none }
def pointMovesRow : OpenClaim := { program := "ytlhgaehjkpjniaa", sum := "d67f540ab219be929addf0915a9c1bdecd1f6eac017df87b06eb6c4e50a64348", func := "apogee/apogeelaw10.PointMoves", spec := "pointMoves", inPlace := ["math/bits.Add64"], apart := false }
def PointMovesSaid : Prop := pointMovesRow.holds Try.pinned (OpenSpec.ofChange pointMovesSpec)

/-- ITS FALSE NEIGHBOUR: 'it returns false'. Refute it at one input. -/
def pointMovesWrong : ChangeSpec := { name := "pointMoves", fn := fun _ => fun
  | [d1, d2, d3, d4, d5, d6] => { results := [.lit (.bool false)], args := [d1, d2, d3, d4, d5, d6] }
  | _ => none }
def PointMovesWrongFalsely : Prop := pointMovesRow.holds Try.pinned (OpenSpec.ofChange pointMovesWrong)

/-- 'apogeelaw10.PointMeets': WHATEVER THE INPUT: true; the input reads as it did. -/
def pointMeetsSpec : ChangeSpec := { name := "pointMeets", fn := fun _ => fun
  | [d1, d2, d3, d4] => { results := [.lit (.bool true)], args := [d1, d2, d3, d4] }
  | _ => none }
def pointMeetsRow : OpenClaim := { program := "ytlhgaehjkpjniaa", sum := "d67f540ab219be929addf0915a9c1bdecd1f6eac017df87b06eb6c4e50a64348", func := "apogee/apogeelaw10.PointMeets", spec := "pointMeets", inPlace := ["math/bits.Add64"], apart := false }
def PointMeetsSaid : Prop := pointMeetsRow.holds Try.pinned (OpenSpec.ofChange pointMeetsSpec)

/-- ITS FALSE NEIGHBOUR: 'it returns false'. Refute it at one input. -/
def pointMeetsWrong : ChangeSpec := { name := "pointMeets", fn := fun _ => fun
  | [d1, d2, d3, d4] => { results := [.lit (.bool false)], args := [d1, d2, d3, d4] }
  | _ => none }
def PointMeetsWrongFalsely : Prop := pointMeetsRow.holds Try.pinned (OpenSpec.ofChange pointMeetsWrong)

/-- 'apogeelaw10.PointMirror': WHATEVER THE INPUT: true; the input reads as it did. -/
def pointMirrorSpec : ChangeSpec := { name := "pointMirror", fn := fun _ => fun
  | [d1, d2, d3, d4] => { results := [.lit (.bool true)], args := [d1, d2, d3, d4] }
  | _ => none }
def pointMirrorRow : OpenClaim := { program := "ytlhgaehjkpjniaa", sum := "d67f540ab219be929addf0915a9c1bdecd1f6eac017df87b06eb6c4e50a64348", func := "apogee/apogeelaw10.PointMirror", spec := "pointMirror", inPlace := ["math/bits.Add64"], apart := false }
def PointMirrorSaid : Prop := pointMirrorRow.holds Try.pinned (OpenSpec.ofChange pointMirrorSpec)

/-- ITS FALSE NEIGHBOUR: 'it returns false'. Refute it at one input. -/
def pointMirrorWrong : ChangeSpec := { name := "pointMirror", fn := fun _ => fun
  | [d1, d2, d3, d4] => { results := [.lit (.bool false)], args := [d1, d2, d3, d4] }
  | _ => none }
def PointMirrorWrongFalsely : Prop := pointMirrorRow.holds Try.pinned (OpenSpec.ofChange pointMirrorWrong)

/-- 'apogeelaw10.PointGrid': WHATEVER THE INPUT: true; the input reads as it did. -/
def pointGridSpec : ChangeSpec := { name := "pointGrid", fn := fun _ => fun
  | [d1, d2, d3] => { results := [.lit (.bool true)], args := [d1, d2, d3] }
  | _ => none }
def pointGridRow : OpenClaim := { program := "ytlhgaehjkpjniaa", sum := "d67f540ab219be929addf0915a9c1bdecd1f6eac017df87b06eb6c4e50a64348", func := "apogee/apogeelaw10.PointGrid", spec := "pointGrid", inPlace := ["math/bits.Add64"], unfollowed := true, recurses := true, apart := false }
def PointGridSaid : Prop := pointGridRow.holds Try.pinned (OpenSpec.ofChange pointGridSpec)

/-- ITS FALSE NEIGHBOUR: 'it returns false'. Refute it at one input. -/
def pointGridWrong : ChangeSpec := { name := "pointGrid", fn := fun _ => fun
  | [d1, d2, d3] => { results := [.lit (.bool false)], args := [d1, d2, d3] }
  | _ => none }
def PointGridWrongFalsely : Prop := pointGridRow.holds Try.pinned (OpenSpec.ofChange pointGridWrong)

/- THE SECOND FORM. 'bulk': how many values and letters a reading holds, each counted each time it is reached (what is shared counts as often as it is met; a slice's spare places count too). A statement '..UptoSaid' is the law's where the arguments, and the package variables that the reading takes, are together of bulk at most 1048576: NARROWER than '..Said'. Prove '..Said' where nothing that the law and all that it calls make is longer than what came in: it says more and counts as full. Else prove '..UptoSaid'. A law counts once. -/
mutual
def uptoBulk {H : Type} : DataW H → Nat
  | .lit (.string bytes) => bytes.length + 1
  | .lit _ => 1
  | .nil => 1
  | .ptr d => uptoBulk d + 1
  | .slice elems spare => uptoBulkAll elems + uptoBulkAll spare + 1
  | .agg parts => uptoBulkAll parts + 1
  | .iface _ d => uptoBulk d + 1
  | .map entries => uptoBulkEntries entries + 1
  | .held _ => 1
def uptoBulkAll {H : Type} : List (DataW H) → Nat
  | [] => 0
  | d :: r => uptoBulk d + uptoBulkAll r
def uptoBulkEntries {H : Type} : List (Lit × DataW H) → Nat
  | [] => 0
  | x :: r => uptoBulkEntry x + uptoBulkEntries r
def uptoBulkEntry {H : Type} : Lit × DataW H → Nat
  | (.string bytes, d) => bytes.length + uptoBulk d + 1
  | (_, d) => uptoBulk d + 1
 end
def uptoSmall : (H : Type) → List (DataW H) → Bool := fun _ ds => decide (uptoBulkAll ds ≤ 1048576)
def OpenSpec.upto (s : _root_.Go.ChangeSpec) : _root_.Go.OpenSpec := { _root_.Go.OpenSpec.ofChange s with cond := some uptoSmall }

/-- 'apogeelaw08.FlashTorn', WHERE WHAT IT READS IS OF BULK AT MOST 1048576: true; the input reads as it did. -/
def flashTornUptoRow : OpenClaim := { program := "ytlhgaehjkpjniaa", sum := "d67f540ab219be929addf0915a9c1bdecd1f6eac017df87b06eb6c4e50a64348", func := "apogee/apogeelaw08.FlashTorn", spec := "flashTorn", inPlace := ["internal/bytealg.MakeNoZero", "sync/atomic.LoadInt64", "sync/atomic.CompareAndSwapInt64"], apart := false, narrowed := true }
def FlashTornUptoSaid : Prop := flashTornUptoRow.holds Try.pinned (OpenSpec.upto flashTornSpec)

/-- 'apogeelaw08.FlashKeeps', WHERE WHAT IT READS IS OF BULK AT MOST 1048576: true; the input reads as it did. -/
def flashKeepsUptoRow : OpenClaim := { program := "ytlhgaehjkpjniaa", sum := "d67f540ab219be929addf0915a9c1bdecd1f6eac017df87b06eb6c4e50a64348", func := "apogee/apogeelaw08.FlashKeeps", spec := "flashKeeps", inPlace := ["internal/bytealg.MakeNoZero", "sync/atomic.LoadInt64", "sync/atomic.CompareAndSwapInt64"], apart := false, narrowed := true }
def FlashKeepsUptoSaid : Prop := flashKeepsUptoRow.holds Try.pinned (OpenSpec.upto flashKeepsSpec)

/-- 'apogeelaw08.FlashNil', WHERE WHAT IT READS IS OF BULK AT MOST 1048576: true; the input reads as it did. -/
def flashNilUptoRow : OpenClaim := { program := "ytlhgaehjkpjniaa", sum := "d67f540ab219be929addf0915a9c1bdecd1f6eac017df87b06eb6c4e50a64348", func := "apogee/apogeelaw08.FlashNil", spec := "flashNil", inPlace := ["internal/bytealg.MakeNoZero", "sync/atomic.LoadInt64", "sync/atomic.CompareAndSwapInt64"], apart := false, narrowed := true }
def FlashNilUptoSaid : Prop := flashNilUptoRow.holds Try.pinned (OpenSpec.upto flashNilSpec)

/-- 'apogeelaw08.FlashTwice', WHERE WHAT IT READS IS OF BULK AT MOST 1048576: true; the input reads as it did. -/
def flashTwiceUptoRow : OpenClaim := { program := "ytlhgaehjkpjniaa", sum := "d67f540ab219be929addf0915a9c1bdecd1f6eac017df87b06eb6c4e50a64348", func := "apogee/apogeelaw08.FlashTwice", spec := "flashTwice", inPlace := ["internal/bytealg.MakeNoZero", "sync/atomic.LoadInt64", "sync/atomic.CompareAndSwapInt64"], apart := false, narrowed := true }
def FlashTwiceUptoSaid : Prop := flashTwiceUptoRow.holds Try.pinned (OpenSpec.upto flashTwiceSpec)

/-- 'apogeelaw09.LatchPrints', WHERE WHAT IT READS IS OF BULK AT MOST 1048576: true; the input reads as it did. -/
def latchPrintsUptoRow : OpenClaim := { program := "ytlhgaehjkpjniaa", sum := "d67f540ab219be929addf0915a9c1bdecd1f6eac017df87b06eb6c4e50a64348", func := "apogee/apogeelaw09.LatchPrints", spec := "latchPrints", inPlace := ["internal/bytealg.MakeNoZero", "sync/atomic.LoadInt64", "sync/atomic.CompareAndSwapInt64"], apart := false, narrowed := true }
def LatchPrintsUptoSaid : Prop := latchPrintsUptoRow.holds Try.pinned (OpenSpec.upto latchPrintsSpec)

/-- 'apogeelaw09.LatchSlots', WHERE WHAT IT READS IS OF BULK AT MOST 1048576: true; the input reads as it did. -/
def latchSlotsUptoRow : OpenClaim := { program := "ytlhgaehjkpjniaa", sum := "d67f540ab219be929addf0915a9c1bdecd1f6eac017df87b06eb6c4e50a64348", func := "apogee/apogeelaw09.LatchSlots", spec := "latchSlots", inPlace := ["internal/bytealg.MakeNoZero", "sync/atomic.LoadInt64", "sync/atomic.CompareAndSwapInt64"], apart := false, narrowed := true }
def LatchSlotsUptoSaid : Prop := latchSlotsUptoRow.holds Try.pinned (OpenSpec.upto latchSlotsSpec)

/-- 'apogeelaw09.LatchBits', WHERE WHAT IT READS IS OF BULK AT MOST 1048576: true; the input reads as it did. -/
def latchBitsUptoRow : OpenClaim := { program := "ytlhgaehjkpjniaa", sum := "d67f540ab219be929addf0915a9c1bdecd1f6eac017df87b06eb6c4e50a64348", func := "apogee/apogeelaw09.LatchBits", spec := "latchBits", inPlace := ["internal/bytealg.MakeNoZero", "sync/atomic.LoadInt64", "sync/atomic.CompareAndSwapInt64"], apart := false, narrowed := true }
def LatchBitsUptoSaid : Prop := latchBitsUptoRow.holds Try.pinned (OpenSpec.upto latchBitsSpec)

/-- 'apogeelaw09.LatchNil', WHERE WHAT IT READS IS OF BULK AT MOST 1048576: true; the input reads as it did. -/
def latchNilUptoRow : OpenClaim := { program := "ytlhgaehjkpjniaa", sum := "d67f540ab219be929addf0915a9c1bdecd1f6eac017df87b06eb6c4e50a64348", func := "apogee/apogeelaw09.LatchNil", spec := "latchNil", inPlace := ["internal/bytealg.MakeNoZero", "sync/atomic.LoadInt64", "sync/atomic.CompareAndSwapInt64"], apart := false, narrowed := true }
def LatchNilUptoSaid : Prop := latchNilUptoRow.holds Try.pinned (OpenSpec.upto latchNilSpec)

/-- 'apogeelaw10.PointTells', WHERE WHAT IT READS IS OF BULK AT MOST 1048576: true; the input reads as it did. -/
def pointTellsUptoRow : OpenClaim := { program := "ytlhgaehjkpjniaa", sum := "d67f540ab219be929addf0915a9c1bdecd1f6eac017df87b06eb6c4e50a64348", func := "apogee/apogeelaw10.PointTells", spec := "pointTells", inPlace := ["math/bits.Add64"], apart := false, narrowed := true }
def PointTellsUptoSaid : Prop := pointTellsUptoRow.holds Try.pinned (OpenSpec.upto pointTellsSpec)

/-- 'apogeelaw10.PointTurns', WHERE WHAT IT READS IS OF BULK AT MOST 1048576: true; the input reads as it did. -/
def pointTurnsUptoRow : OpenClaim := { program := "ytlhgaehjkpjniaa", sum := "d67f540ab219be929addf0915a9c1bdecd1f6eac017df87b06eb6c4e50a64348", func := "apogee/apogeelaw10.PointTurns", spec := "pointTurns", inPlace := ["math/bits.Add64"], apart := false, narrowed := true }
def PointTurnsUptoSaid : Prop := pointTurnsUptoRow.holds Try.pinned (OpenSpec.upto pointTurnsSpec)

/-- 'apogeelaw10.PointMoves', WHERE WHAT IT READS IS OF BULK AT MOST 1048576: true; the input reads as it did. -/
def pointMovesUptoRow : OpenClaim := { program := "ytlhgaehjkpjniaa", sum := "d67f540ab219be929addf0915a9c1bdecd1f6eac017df87b06eb6c4e50a64348", func := "apogee/apogeelaw10.PointMoves", spec := "pointMoves", inPlace := ["math/bits.Add64"], apart := false, narrowed := true }
def PointMovesUptoSaid : Prop := pointMovesUptoRow.holds Try.pinned (OpenSpec.upto pointMovesSpec)

/-- 'apogeelaw10.PointMeets', WHERE WHAT IT READS IS OF BULK AT MOST 1048576: true; the input reads as it did. -/
def pointMeetsUptoRow : OpenClaim := { program := "ytlhgaehjkpjniaa", sum := "d67f540ab219be929addf0915a9c1bdecd1f6eac017df87b06eb6c4e50a64348", func := "apogee/apogeelaw10.PointMeets", spec := "pointMeets", inPlace := ["math/bits.Add64"], apart := false, narrowed := true }
def PointMeetsUptoSaid : Prop := pointMeetsUptoRow.holds Try.pinned (OpenSpec.upto pointMeetsSpec)

/-- 'apogeelaw10.PointMirror', WHERE WHAT IT READS IS OF BULK AT MOST 1048576: true; the input reads as it did. -/
def pointMirrorUptoRow : OpenClaim := { program := "ytlhgaehjkpjniaa", sum := "d67f540ab219be929addf0915a9c1bdecd1f6eac017df87b06eb6c4e50a64348", func := "apogee/apogeelaw10.PointMirror", spec := "pointMirror", inPlace := ["math/bits.Add64"], apart := false, narrowed := true }
def PointMirrorUptoSaid : Prop := pointMirrorUptoRow.holds Try.pinned (OpenSpec.upto pointMirrorSpec)

/-- 'apogeelaw10.PointGrid', WHERE WHAT IT READS IS OF BULK AT MOST 1048576: true; the input reads as it did. -/
def pointGridUptoRow : OpenClaim := { program := "ytlhgaehjkpjniaa", sum := "d67f540ab219be929addf0915a9c1bdecd1f6eac017df87b06eb6c4e50a64348", func := "apogee/apogeelaw10.PointGrid", spec := "pointGrid", inPlace := ["math/bits.Add64"], unfollowed := true, recurses := true, apart := false, narrowed := true }
def PointGridUptoSaid : Prop := pointGridUptoRow.holds Try.pinned (OpenSpec.upto pointGridSpec)

end Rows
end Go.Proofs.Ytlhgaehjkpjniaa
