/-
  No cell of these rows narrows 'for every input' (looked for: loops, veiled, ifaces, maps, wideKeys, modest, calm, conditions, laid).
  DERIVED. THE GIVEN ROWS OF THIS SEAT. 12 by the template 'for every input the law returns true; each argument reads behind the call as it read before'; 0 by the template 'total and deterministic' (their statements: YtcjkkfhdnealpaaTotals.lean).
  GIVEN WITH THE SEED: the statements are not yours to turn. If you find one false, say at which input.
  Laid BY PROGRAM, IN A SANDBOX (cutbox-rows.mjs): the forced cells as the released guide's own fill.sh prints them over the translation ca76d2b805e3cf88… (all of the seat's roots in one cut). By AI agents, Wed Nov 11 2026. No macro, syntax, notation, axiom, sorry.
-/
import Derived.Test.YtcjkkfhdnealpaaChecked
import GoSem.Claim
import GoSem.ClaimJoined
import GoSem.ClaimMapViews
import Derived.JoinedTies
import Derived.KernelRfl
namespace Go.Proofs.Ytcjkkfhdnealpaa
/- THE CELL 'sum', in the pinned program and in every row, IS THE sha256 OF THE DUMP (.gsa) THAT YtcjkkfhdnealpaaProg.lean LOADS. Nothing in Lean hashes anything: it is a label: what it is worth is what the hold of that sum in a sandbox is worth. -/
noncomputable def Try.pinned : Pinned := { name := "ytcjkkfhdnealpaa", sum := "ca76d2b805e3cf88d98391d8f9ab0e041bf679b51e377e919a49cd2e6ed82c5d", checked := Try.checked }
namespace Rows
def none {H : Type} : Left H := { results := [], args := [] }

/-- 'apogeelaw11.PolyTells': WHATEVER THE INPUT: true; the input reads as it did. -/
def polyTellsSpec : ChangeSpec := { name := "polyTells", fn := fun _ => fun
  | [d1, d2] => { results := [.lit (.bool true)], args := [d1, d2] }
  | _ => none }
def polyTellsRow : OpenClaim := { program := "ytcjkkfhdnealpaa", sum := "ca76d2b805e3cf88d98391d8f9ab0e041bf679b51e377e919a49cd2e6ed82c5d", func := "apogee/apogeelaw11.PolyTells", spec := "polyTells", inPlace := ["math/bits.Add64", "math/bits.Sub64"], unfollowed := true, recurses := true, apart := false }
def PolyTellsSaid : Prop := polyTellsRow.holds Try.pinned (OpenSpec.ofChange polyTellsSpec)

/-- ITS FALSE NEIGHBOUR: 'it returns false'. Refute it at one input. -/
def polyTellsWrong : ChangeSpec := { name := "polyTells", fn := fun _ => fun
  | [d1, d2] => { results := [.lit (.bool false)], args := [d1, d2] }
  | _ => none }
def PolyTellsWrongFalsely : Prop := polyTellsRow.holds Try.pinned (OpenSpec.ofChange polyTellsWrong)

/-- 'apogeelaw11.PolyRound': WHATEVER THE INPUT: true; the input reads as it did. -/
def polyRoundSpec : ChangeSpec := { name := "polyRound", fn := fun _ => fun
  | [d1, d2, d3] => { results := [.lit (.bool true)], args := [d1, d2, d3] }
  | _ => none }
def polyRoundRow : OpenClaim := { program := "ytcjkkfhdnealpaa", sum := "ca76d2b805e3cf88d98391d8f9ab0e041bf679b51e377e919a49cd2e6ed82c5d", func := "apogee/apogeelaw11.PolyRound", spec := "polyRound", inPlace := ["math/bits.Add64", "math/bits.Sub64"], unfollowed := true, recurses := true, apart := false }
def PolyRoundSaid : Prop := polyRoundRow.holds Try.pinned (OpenSpec.ofChange polyRoundSpec)

/-- ITS FALSE NEIGHBOUR: 'it returns false'. Refute it at one input. -/
def polyRoundWrong : ChangeSpec := { name := "polyRound", fn := fun _ => fun
  | [d1, d2, d3] => { results := [.lit (.bool false)], args := [d1, d2, d3] }
  | _ => none }
def PolyRoundWrongFalsely : Prop := polyRoundRow.holds Try.pinned (OpenSpec.ofChange polyRoundWrong)

/-- 'apogeelaw11.PolyMoves': WHATEVER THE INPUT: true; the input reads as it did. -/
def polyMovesSpec : ChangeSpec := { name := "polyMoves", fn := fun _ => fun
  | [d1, d2, d3, d4] => { results := [.lit (.bool true)], args := [d1, d2, d3, d4] }
  | _ => none }
def polyMovesRow : OpenClaim := { program := "ytcjkkfhdnealpaa", sum := "ca76d2b805e3cf88d98391d8f9ab0e041bf679b51e377e919a49cd2e6ed82c5d", func := "apogee/apogeelaw11.PolyMoves", spec := "polyMoves", inPlace := ["math/bits.Add64", "math/bits.Sub64"], unfollowed := true, recurses := true, apart := false }
def PolyMovesSaid : Prop := polyMovesRow.holds Try.pinned (OpenSpec.ofChange polyMovesSpec)

/-- ITS FALSE NEIGHBOUR: 'it returns false'. Refute it at one input. -/
def polyMovesWrong : ChangeSpec := { name := "polyMoves", fn := fun _ => fun
  | [d1, d2, d3, d4] => { results := [.lit (.bool false)], args := [d1, d2, d3, d4] }
  | _ => none }
def PolyMovesWrongFalsely : Prop := polyMovesRow.holds Try.pinned (OpenSpec.ofChange polyMovesWrong)

/-- 'apogeelaw11.PolyWays': WHATEVER THE INPUT: true; the input reads as it did. -/
def polyWaysSpec : ChangeSpec := { name := "polyWays", fn := fun _ => fun
  | [d1, d2, d3] => { results := [.lit (.bool true)], args := [d1, d2, d3] }
  | _ => none }
def polyWaysRow : OpenClaim := { program := "ytcjkkfhdnealpaa", sum := "ca76d2b805e3cf88d98391d8f9ab0e041bf679b51e377e919a49cd2e6ed82c5d", func := "apogee/apogeelaw11.PolyWays", spec := "polyWays", inPlace := ["math/bits.Add64", "math/bits.Sub64"], unfollowed := true, recurses := true, apart := false }
def PolyWaysSaid : Prop := polyWaysRow.holds Try.pinned (OpenSpec.ofChange polyWaysSpec)

/-- ITS FALSE NEIGHBOUR: 'it returns false'. Refute it at one input. -/
def polyWaysWrong : ChangeSpec := { name := "polyWays", fn := fun _ => fun
  | [d1, d2, d3] => { results := [.lit (.bool false)], args := [d1, d2, d3] }
  | _ => none }
def PolyWaysWrongFalsely : Prop := polyWaysRow.holds Try.pinned (OpenSpec.ofChange polyWaysWrong)

/-- 'apogeelaw11.PolyTriangle': WHATEVER THE INPUT: true; the input reads as it did. -/
def polyTriangleSpec : ChangeSpec := { name := "polyTriangle", fn := fun _ => fun
  | [d1, d2, d3, d4] => { results := [.lit (.bool true)], args := [d1, d2, d3, d4] }
  | _ => none }
def polyTriangleRow : OpenClaim := { program := "ytcjkkfhdnealpaa", sum := "ca76d2b805e3cf88d98391d8f9ab0e041bf679b51e377e919a49cd2e6ed82c5d", func := "apogee/apogeelaw11.PolyTriangle", spec := "polyTriangle", inPlace := ["math/bits.Add64", "math/bits.Sub64"], unfollowed := true, recurses := true, apart := false }
def PolyTriangleSaid : Prop := polyTriangleRow.holds Try.pinned (OpenSpec.ofChange polyTriangleSpec)

/-- ITS FALSE NEIGHBOUR: 'it returns false'. Refute it at one input. -/
def polyTriangleWrong : ChangeSpec := { name := "polyTriangle", fn := fun _ => fun
  | [d1, d2, d3, d4] => { results := [.lit (.bool false)], args := [d1, d2, d3, d4] }
  | _ => none }
def PolyTriangleWrongFalsely : Prop := polyTriangleRow.holds Try.pinned (OpenSpec.ofChange polyTriangleWrong)

/-- 'apogeelaw11.PolyDown': WHATEVER THE INPUT: true; the input reads as it did. -/
def polyDownSpec : ChangeSpec := { name := "polyDown", fn := fun _ => fun
  | [d] => { results := [.lit (.bool true)], args := [d] }
  | _ => none }
def polyDownRow : OpenClaim := { program := "ytcjkkfhdnealpaa", sum := "ca76d2b805e3cf88d98391d8f9ab0e041bf679b51e377e919a49cd2e6ed82c5d", func := "apogee/apogeelaw11.PolyDown", spec := "polyDown", inPlace := ["math/bits.Add64", "math/bits.Sub64"], unfollowed := true, recurses := true, apart := false }
def PolyDownSaid : Prop := polyDownRow.holds Try.pinned (OpenSpec.ofChange polyDownSpec)

/-- ITS FALSE NEIGHBOUR: 'it returns false'. Refute it at one input. -/
def polyDownWrong : ChangeSpec := { name := "polyDown", fn := fun _ => fun
  | [d] => { results := [.lit (.bool false)], args := [d] }
  | _ => none }
def PolyDownWrongFalsely : Prop := polyDownRow.holds Try.pinned (OpenSpec.ofChange polyDownWrong)

/-- 'apogeelaw12.BoxTells': WHATEVER THE INPUT: true; the input reads as it did. -/
def boxTellsSpec : ChangeSpec := { name := "boxTells", fn := fun _ => fun
  | [d1, d2, d3, d4] => { results := [.lit (.bool true)], args := [d1, d2, d3, d4] }
  | _ => none }
def boxTellsRow : OpenClaim := { program := "ytcjkkfhdnealpaa", sum := "ca76d2b805e3cf88d98391d8f9ab0e041bf679b51e377e919a49cd2e6ed82c5d", func := "apogee/apogeelaw12.BoxTells", spec := "boxTells", inPlace := ["math/bits.Add64"], unfollowed := true, recurses := true, apart := false }
def BoxTellsSaid : Prop := boxTellsRow.holds Try.pinned (OpenSpec.ofChange boxTellsSpec)

/-- ITS FALSE NEIGHBOUR: 'it returns false'. Refute it at one input. -/
def boxTellsWrong : ChangeSpec := { name := "boxTells", fn := fun _ => fun
  | [d1, d2, d3, d4] => { results := [.lit (.bool false)], args := [d1, d2, d3, d4] }
  | _ => none }
def BoxTellsWrongFalsely : Prop := boxTellsRow.holds Try.pinned (OpenSpec.ofChange boxTellsWrong)

/-- 'apogeelaw12.BoxMeets': WHATEVER THE INPUT: true; the input reads as it did. -/
def boxMeetsSpec : ChangeSpec := { name := "boxMeets", fn := fun _ => fun
  | [d1, d2, d3] => { results := [.lit (.bool true)], args := [d1, d2, d3] }
  | _ => none }
def boxMeetsRow : OpenClaim := { program := "ytcjkkfhdnealpaa", sum := "ca76d2b805e3cf88d98391d8f9ab0e041bf679b51e377e919a49cd2e6ed82c5d", func := "apogee/apogeelaw12.BoxMeets", spec := "boxMeets", inPlace := ["math/bits.Add64"], unfollowed := true, recurses := true, apart := false }
def BoxMeetsSaid : Prop := boxMeetsRow.holds Try.pinned (OpenSpec.ofChange boxMeetsSpec)

/-- ITS FALSE NEIGHBOUR: 'it returns false'. Refute it at one input. -/
def boxMeetsWrong : ChangeSpec := { name := "boxMeets", fn := fun _ => fun
  | [d1, d2, d3] => { results := [.lit (.bool false)], args := [d1, d2, d3] }
  | _ => none }
def BoxMeetsWrongFalsely : Prop := boxMeetsRow.holds Try.pinned (OpenSpec.ofChange boxMeetsWrong)

/-- 'apogeelaw12.BoxRelates': WHATEVER THE INPUT: true; the input reads as it did. -/
def boxRelatesSpec : ChangeSpec := { name := "boxRelates", fn := fun _ => fun
  | [d1, d2] => { results := [.lit (.bool true)], args := [d1, d2] }
  | _ => none }
def boxRelatesRow : OpenClaim := { program := "ytcjkkfhdnealpaa", sum := "ca76d2b805e3cf88d98391d8f9ab0e041bf679b51e377e919a49cd2e6ed82c5d", func := "apogee/apogeelaw12.BoxRelates", spec := "boxRelates", inPlace := ["math/bits.Add64"], unfollowed := true, recurses := true, apart := false }
def BoxRelatesSaid : Prop := boxRelatesRow.holds Try.pinned (OpenSpec.ofChange boxRelatesSpec)

/-- ITS FALSE NEIGHBOUR: 'it returns false'. Refute it at one input. -/
def boxRelatesWrong : ChangeSpec := { name := "boxRelates", fn := fun _ => fun
  | [d1, d2] => { results := [.lit (.bool false)], args := [d1, d2] }
  | _ => none }
def BoxRelatesWrongFalsely : Prop := boxRelatesRow.holds Try.pinned (OpenSpec.ofChange boxRelatesWrong)

/-- 'apogeelaw12.BoxStays': WHATEVER THE INPUT: true; the input reads as it did. -/
def boxStaysSpec : ChangeSpec := { name := "boxStays", fn := fun _ => fun
  | [d1, d2, d3, d4] => { results := [.lit (.bool true)], args := [d1, d2, d3, d4] }
  | _ => none }
def boxStaysRow : OpenClaim := { program := "ytcjkkfhdnealpaa", sum := "ca76d2b805e3cf88d98391d8f9ab0e041bf679b51e377e919a49cd2e6ed82c5d", func := "apogee/apogeelaw12.BoxStays", spec := "boxStays", inPlace := ["math/bits.Add64"], unfollowed := true, recurses := true, apart := false }
def BoxStaysSaid : Prop := boxStaysRow.holds Try.pinned (OpenSpec.ofChange boxStaysSpec)

/-- ITS FALSE NEIGHBOUR: 'it returns false'. Refute it at one input. -/
def boxStaysWrong : ChangeSpec := { name := "boxStays", fn := fun _ => fun
  | [d1, d2, d3, d4] => { results := [.lit (.bool false)], args := [d1, d2, d3, d4] }
  | _ => none }
def BoxStaysWrongFalsely : Prop := boxStaysRow.holds Try.pinned (OpenSpec.ofChange boxStaysWrong)

/-- 'apogeelaw12.BoxPoint': WHATEVER THE INPUT: true; the input reads as it did. -/
def boxPointSpec : ChangeSpec := { name := "boxPoint", fn := fun _ => fun
  | [d1, d2] => { results := [.lit (.bool true)], args := [d1, d2] }
  | _ => none }
def boxPointRow : OpenClaim := { program := "ytcjkkfhdnealpaa", sum := "ca76d2b805e3cf88d98391d8f9ab0e041bf679b51e377e919a49cd2e6ed82c5d", func := "apogee/apogeelaw12.BoxPoint", spec := "boxPoint", inPlace := ["math/bits.Add64"], unfollowed := true, recurses := true, apart := false }
def BoxPointSaid : Prop := boxPointRow.holds Try.pinned (OpenSpec.ofChange boxPointSpec)

/-- ITS FALSE NEIGHBOUR: 'it returns false'. Refute it at one input. -/
def boxPointWrong : ChangeSpec := { name := "boxPoint", fn := fun _ => fun
  | [d1, d2] => { results := [.lit (.bool false)], args := [d1, d2] }
  | _ => none }
def BoxPointWrongFalsely : Prop := boxPointRow.holds Try.pinned (OpenSpec.ofChange boxPointWrong)

/-- 'apogeelaw12.BoxOrder': WHATEVER THE INPUT: true; the input reads as it did. -/
def boxOrderSpec : ChangeSpec := { name := "boxOrder", fn := fun _ => fun
  | [d1, d2, d3, d4, d5, d6] => { results := [.lit (.bool true)], args := [d1, d2, d3, d4, d5, d6] }
  | _ => none }
def boxOrderRow : OpenClaim := { program := "ytcjkkfhdnealpaa", sum := "ca76d2b805e3cf88d98391d8f9ab0e041bf679b51e377e919a49cd2e6ed82c5d", func := "apogee/apogeelaw12.BoxOrder", spec := "boxOrder", inPlace := ["math/bits.Add64"], unfollowed := true, recurses := true, apart := false }
def BoxOrderSaid : Prop := boxOrderRow.holds Try.pinned (OpenSpec.ofChange boxOrderSpec)

/-- ITS FALSE NEIGHBOUR: 'it returns false'. Refute it at one input. -/
def boxOrderWrong : ChangeSpec := { name := "boxOrder", fn := fun _ => fun
  | [d1, d2, d3, d4, d5, d6] => { results := [.lit (.bool false)], args := [d1, d2, d3, d4, d5, d6] }
  | _ => none }
def BoxOrderWrongFalsely : Prop := boxOrderRow.holds Try.pinned (OpenSpec.ofChange boxOrderWrong)

/- THE SECOND FORM. 'bulk': how many values and letters a reading holds, each counted each time it is reached (what is shared counts as often as it is met; a slice's spare places count too). A statement '..UptoSaid' is the law's where the arguments, and the package variables that the reading takes, are together of bulk at most 1048576: NARROWER than '..Said'. Prove '..Said' where nothing that the law and all that it calls make is longer than what came in: it says more and counts as full. Else prove '..UptoSaid'. A law counts once. -/
mutual
def uptoBulk {H : Type} : DataW H → Nat
  | .lit (.string bytes) => bytes.length + 1
  | .lit _ => 1
  | .nil => 1
  | .ptr d => uptoBulk d + 1
  | .slice elems spare => uptoBulkAll elems + uptoBulkAll spare + 1
  | .agg parts => uptoBulkAll parts + 1
  | .iface _ d => uptoBulk d + 1
  | .map entries => uptoBulkEntries entries + 1
  | .held _ => 1
def uptoBulkAll {H : Type} : List (DataW H) → Nat
  | [] => 0
  | d :: r => uptoBulk d + uptoBulkAll r
def uptoBulkEntries {H : Type} : List (Lit × DataW H) → Nat
  | [] => 0
  | x :: r => uptoBulkEntry x + uptoBulkEntries r
def uptoBulkEntry {H : Type} : Lit × DataW H → Nat
  | (.string bytes, d) => bytes.length + uptoBulk d + 1
  | (_, d) => uptoBulk d + 1
 end
def uptoSmall : (H : Type) → List (DataW H) → Bool := fun _ ds => decide (uptoBulkAll ds ≤ 1048576)
def OpenSpec.upto (s : _root_.Go.ChangeSpec) : _root_.Go.OpenSpec := { _root_.Go.OpenSpec.ofChange s with cond := some uptoSmall }

/-- 'apogeelaw11.PolyTells', WHERE WHAT IT READS IS OF BULK AT MOST 1048576: true; the input reads as it did. -/
def polyTellsUptoRow : OpenClaim := { program := "ytcjkkfhdnealpaa", sum := "ca76d2b805e3cf88d98391d8f9ab0e041bf679b51e377e919a49cd2e6ed82c5d", func := "apogee/apogeelaw11.PolyTells", spec := "polyTells", inPlace := ["math/bits.Add64", "math/bits.Sub64"], unfollowed := true, recurses := true, apart := false, narrowed := true }
def PolyTellsUptoSaid : Prop := polyTellsUptoRow.holds Try.pinned (OpenSpec.upto polyTellsSpec)

/-- 'apogeelaw11.PolyRound', WHERE WHAT IT READS IS OF BULK AT MOST 1048576: true; the input reads as it did. -/
def polyRoundUptoRow : OpenClaim := { program := "ytcjkkfhdnealpaa", sum := "ca76d2b805e3cf88d98391d8f9ab0e041bf679b51e377e919a49cd2e6ed82c5d", func := "apogee/apogeelaw11.PolyRound", spec := "polyRound", inPlace := ["math/bits.Add64", "math/bits.Sub64"], unfollowed := true, recurses := true, apart := false, narrowed := true }
def PolyRoundUptoSaid : Prop := polyRoundUptoRow.holds Try.pinned (OpenSpec.upto polyRoundSpec)

/-- 'apogeelaw11.PolyMoves', WHERE WHAT IT READS IS OF BULK AT MOST 1048576: true; the input reads as it did. -/
def polyMovesUptoRow : OpenClaim := { program := "ytcjkkfhdnealpaa", sum := "ca76d2b805e3cf88d98391d8f9ab0e041bf679b51e377e919a49cd2e6ed82c5d", func := "apogee/apogeelaw11.PolyMoves", spec := "polyMoves", inPlace := ["math/bits.Add64", "math/bits.Sub64"], unfollowed := true, recurses := true, apart := false, narrowed := true }
def PolyMovesUptoSaid : Prop := polyMovesUptoRow.holds Try.pinned (OpenSpec.upto polyMovesSpec)

/-- 'apogeelaw11.PolyWays', WHERE WHAT IT READS IS OF BULK AT MOST 1048576: true; the input reads as it did. -/
def polyWaysUptoRow : OpenClaim := { program := "ytcjkkfhdnealpaa", sum := "ca76d2b805e3cf88d98391d8f9ab0e041bf679b51e377e919a49cd2e6ed82c5d", func := "apogee/apogeelaw11.PolyWays", spec := "polyWays", inPlace := ["math/bits.Add64", "math/bits.Sub64"], unfollowed := true, recurses := true, apart := false, narrowed := true }
def PolyWaysUptoSaid : Prop := polyWaysUptoRow.holds Try.pinned (OpenSpec.upto polyWaysSpec)

/-- 'apogeelaw11.PolyTriangle', WHERE WHAT IT READS IS OF BULK AT MOST 1048576: true; the input reads as it did. -/
def polyTriangleUptoRow : OpenClaim := { program := "ytcjkkfhdnealpaa", sum := "ca76d2b805e3cf88d98391d8f9ab0e041bf679b51e377e919a49cd2e6ed82c5d", func := "apogee/apogeelaw11.PolyTriangle", spec := "polyTriangle", inPlace := ["math/bits.Add64", "math/bits.Sub64"], unfollowed := true, recurses := true, apart := false, narrowed := true }
def PolyTriangleUptoSaid : Prop := polyTriangleUptoRow.holds Try.pinned (OpenSpec.upto polyTriangleSpec)

/-- 'apogeelaw11.PolyDown', WHERE WHAT IT READS IS OF BULK AT MOST 1048576: true; the input reads as it did. -/
def polyDownUptoRow : OpenClaim := { program := "ytcjkkfhdnealpaa", sum := "ca76d2b805e3cf88d98391d8f9ab0e041bf679b51e377e919a49cd2e6ed82c5d", func := "apogee/apogeelaw11.PolyDown", spec := "polyDown", inPlace := ["math/bits.Add64", "math/bits.Sub64"], unfollowed := true, recurses := true, apart := false, narrowed := true }
def PolyDownUptoSaid : Prop := polyDownUptoRow.holds Try.pinned (OpenSpec.upto polyDownSpec)

/-- 'apogeelaw12.BoxTells', WHERE WHAT IT READS IS OF BULK AT MOST 1048576: true; the input reads as it did. -/
def boxTellsUptoRow : OpenClaim := { program := "ytcjkkfhdnealpaa", sum := "ca76d2b805e3cf88d98391d8f9ab0e041bf679b51e377e919a49cd2e6ed82c5d", func := "apogee/apogeelaw12.BoxTells", spec := "boxTells", inPlace := ["math/bits.Add64"], unfollowed := true, recurses := true, apart := false, narrowed := true }
def BoxTellsUptoSaid : Prop := boxTellsUptoRow.holds Try.pinned (OpenSpec.upto boxTellsSpec)

/-- 'apogeelaw12.BoxMeets', WHERE WHAT IT READS IS OF BULK AT MOST 1048576: true; the input reads as it did. -/
def boxMeetsUptoRow : OpenClaim := { program := "ytcjkkfhdnealpaa", sum := "ca76d2b805e3cf88d98391d8f9ab0e041bf679b51e377e919a49cd2e6ed82c5d", func := "apogee/apogeelaw12.BoxMeets", spec := "boxMeets", inPlace := ["math/bits.Add64"], unfollowed := true, recurses := true, apart := false, narrowed := true }
def BoxMeetsUptoSaid : Prop := boxMeetsUptoRow.holds Try.pinned (OpenSpec.upto boxMeetsSpec)

/-- 'apogeelaw12.BoxRelates', WHERE WHAT IT READS IS OF BULK AT MOST 1048576: true; the input reads as it did. -/
def boxRelatesUptoRow : OpenClaim := { program := "ytcjkkfhdnealpaa", sum := "ca76d2b805e3cf88d98391d8f9ab0e041bf679b51e377e919a49cd2e6ed82c5d", func := "apogee/apogeelaw12.BoxRelates", spec := "boxRelates", inPlace := ["math/bits.Add64"], unfollowed := true, recurses := true, apart := false, narrowed := true }
def BoxRelatesUptoSaid : Prop := boxRelatesUptoRow.holds Try.pinned (OpenSpec.upto boxRelatesSpec)

/-- 'apogeelaw12.BoxStays', WHERE WHAT IT READS IS OF BULK AT MOST 1048576: true; the input reads as it did. -/
def boxStaysUptoRow : OpenClaim := { program := "ytcjkkfhdnealpaa", sum := "ca76d2b805e3cf88d98391d8f9ab0e041bf679b51e377e919a49cd2e6ed82c5d", func := "apogee/apogeelaw12.BoxStays", spec := "boxStays", inPlace := ["math/bits.Add64"], unfollowed := true, recurses := true, apart := false, narrowed := true }
def BoxStaysUptoSaid : Prop := boxStaysUptoRow.holds Try.pinned (OpenSpec.upto boxStaysSpec)

/-- 'apogeelaw12.BoxPoint', WHERE WHAT IT READS IS OF BULK AT MOST 1048576: true; the input reads as it did. -/
def boxPointUptoRow : OpenClaim := { program := "ytcjkkfhdnealpaa", sum := "ca76d2b805e3cf88d98391d8f9ab0e041bf679b51e377e919a49cd2e6ed82c5d", func := "apogee/apogeelaw12.BoxPoint", spec := "boxPoint", inPlace := ["math/bits.Add64"], unfollowed := true, recurses := true, apart := false, narrowed := true }
def BoxPointUptoSaid : Prop := boxPointUptoRow.holds Try.pinned (OpenSpec.upto boxPointSpec)

/-- 'apogeelaw12.BoxOrder', WHERE WHAT IT READS IS OF BULK AT MOST 1048576: true; the input reads as it did. -/
def boxOrderUptoRow : OpenClaim := { program := "ytcjkkfhdnealpaa", sum := "ca76d2b805e3cf88d98391d8f9ab0e041bf679b51e377e919a49cd2e6ed82c5d", func := "apogee/apogeelaw12.BoxOrder", spec := "boxOrder", inPlace := ["math/bits.Add64"], unfollowed := true, recurses := true, apart := false, narrowed := true }
def BoxOrderUptoSaid : Prop := boxOrderUptoRow.holds Try.pinned (OpenSpec.upto boxOrderSpec)

end Rows
end Go.Proofs.Ytcjkkfhdnealpaa
