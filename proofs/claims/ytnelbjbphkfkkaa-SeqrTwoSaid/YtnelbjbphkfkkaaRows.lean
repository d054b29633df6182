/-
  No cell of these rows narrows 'for every input' (looked for: loops, veiled, ifaces, maps, wideKeys, modest, calm, conditions, laid).
  DERIVED. THE GIVEN ROWS OF THIS SEAT. 17 by the template 'for every input the law returns true; each argument reads behind the call as it read before'; 0 by the template 'total and deterministic' (their statements: YtnelbjbphkfkkaaTotals.lean).
  GIVEN WITH THE SEED: the statements are not yours to turn. If you find one false, say at which input.
  Laid BY PROGRAM, IN A SANDBOX (cutbox-rows.mjs): the forced cells as the released guide's own fill.sh prints them over the translation 3e3067c498137840… (all of the seat's roots in one cut). By AI agents, Wed Nov 11 2026. No macro, syntax, notation, axiom, sorry.
-/
import Derived.Test.YtnelbjbphkfkkaaChecked
import GoSem.Claim
import GoSem.ClaimJoined
import GoSem.ClaimMapViews
import Derived.JoinedTies
import Derived.KernelRfl
namespace Go.Proofs.Ytnelbjbphkfkkaa
/- THE CELL 'sum', in the pinned program and in every row, IS THE sha256 OF THE DUMP (.gsa) THAT YtnelbjbphkfkkaaProg.lean LOADS. Nothing in Lean hashes anything: it is a label: what it is worth is what the hold of that sum in a sandbox is worth. -/
noncomputable def Try.pinned : Pinned := { name := "ytnelbjbphkfkkaa", sum := "3e3067c498137840a68cc66c70c6318f8240befed9524c190d5a7c60cfede5ce", checked := Try.checked }
namespace Rows
def none {H : Type} : Left H := { results := [], args := [] }

/-- 'apogeelaw16.PairTells': WHATEVER THE INPUT: true; the input reads as it did. -/
def pairTellsSpec : ChangeSpec := { name := "pairTells", fn := fun _ => fun
  | [d1, d2, d3, d4, d5] => { results := [.lit (.bool true)], args := [d1, d2, d3, d4, d5] }
  | _ => none }
def pairTellsRow : OpenClaim := { program := "ytnelbjbphkfkkaa", sum := "3e3067c498137840a68cc66c70c6318f8240befed9524c190d5a7c60cfede5ce", func := "apogee/apogeelaw16.PairTells", spec := "pairTells", recurses := true, apart := false }
def PairTellsSaid : Prop := pairTellsRow.holds Try.pinned (OpenSpec.ofChange pairTellsSpec)

/-- ITS FALSE NEIGHBOUR: 'it returns false'. Refute it at one input. -/
def pairTellsWrong : ChangeSpec := { name := "pairTells", fn := fun _ => fun
  | [d1, d2, d3, d4, d5] => { results := [.lit (.bool false)], args := [d1, d2, d3, d4, d5] }
  | _ => none }
def PairTellsWrongFalsely : Prop := pairTellsRow.holds Try.pinned (OpenSpec.ofChange pairTellsWrong)

/-- 'apogeelaw16.PairStates': WHATEVER THE INPUT: true; the input reads as it did. -/
def pairStatesSpec : ChangeSpec := { name := "pairStates", fn := fun _ => fun
  | [d] => { results := [.lit (.bool true)], args := [d] }
  | _ => none }
def pairStatesRow : OpenClaim := { program := "ytnelbjbphkfkkaa", sum := "3e3067c498137840a68cc66c70c6318f8240befed9524c190d5a7c60cfede5ce", func := "apogee/apogeelaw16.PairStates", spec := "pairStates", apart := false }
def PairStatesSaid : Prop := pairStatesRow.holds Try.pinned (OpenSpec.ofChange pairStatesSpec)

/-- ITS FALSE NEIGHBOUR: 'it returns false'. Refute it at one input. -/
def pairStatesWrong : ChangeSpec := { name := "pairStates", fn := fun _ => fun
  | [d] => { results := [.lit (.bool false)], args := [d] }
  | _ => none }
def PairStatesWrongFalsely : Prop := pairStatesRow.holds Try.pinned (OpenSpec.ofChange pairStatesWrong)

/-- 'apogeelaw16.PairEps': WHATEVER THE INPUT: true; the input reads as it did. -/
def pairEpsSpec : ChangeSpec := { name := "pairEps", fn := fun _ => fun
  | [d1, d2, d3, d4] => { results := [.lit (.bool true)], args := [d1, d2, d3, d4] }
  | _ => none }
def pairEpsRow : OpenClaim := { program := "ytnelbjbphkfkkaa", sum := "3e3067c498137840a68cc66c70c6318f8240befed9524c190d5a7c60cfede5ce", func := "apogee/apogeelaw16.PairEps", spec := "pairEps", apart := false }
def PairEpsSaid : Prop := pairEpsRow.holds Try.pinned (OpenSpec.ofChange pairEpsSpec)

/-- ITS FALSE NEIGHBOUR: 'it returns false'. Refute it at one input. -/
def pairEpsWrong : ChangeSpec := { name := "pairEps", fn := fun _ => fun
  | [d1, d2, d3, d4] => { results := [.lit (.bool false)], args := [d1, d2, d3, d4] }
  | _ => none }
def PairEpsWrongFalsely : Prop := pairEpsRow.holds Try.pinned (OpenSpec.ofChange pairEpsWrong)

/-- 'apogeelaw16.PairHeight': WHATEVER THE INPUT: true; the input reads as it did. -/
def pairHeightSpec : ChangeSpec := { name := "pairHeight", fn := fun _ => fun
  | [d1, d2] => { results := [.lit (.bool true)], args := [d1, d2] }
  | _ => none }
def pairHeightRow : OpenClaim := { program := "ytnelbjbphkfkkaa", sum := "3e3067c498137840a68cc66c70c6318f8240befed9524c190d5a7c60cfede5ce", func := "apogee/apogeelaw16.PairHeight", spec := "pairHeight", apart := false }
def PairHeightSaid : Prop := pairHeightRow.holds Try.pinned (OpenSpec.ofChange pairHeightSpec)

/-- ITS FALSE NEIGHBOUR: 'it returns false'. Refute it at one input. -/
def pairHeightWrong : ChangeSpec := { name := "pairHeight", fn := fun _ => fun
  | [d1, d2] => { results := [.lit (.bool false)], args := [d1, d2] }
  | _ => none }
def PairHeightWrongFalsely : Prop := pairHeightRow.holds Try.pinned (OpenSpec.ofChange pairHeightWrong)

/-- 'apogeelaw17.FallTells': WHATEVER THE INPUT: true; the input reads as it did. -/
def fallTellsSpec : ChangeSpec := { name := "fallTells", fn := fun _ => fun
  | [d1, d2, d3, d4] => { results := [.lit (.bool true)], args := [d1, d2, d3, d4] }
  | _ => none }
def fallTellsRow : OpenClaim := { program := "ytnelbjbphkfkkaa", sum := "3e3067c498137840a68cc66c70c6318f8240befed9524c190d5a7c60cfede5ce", func := "apogee/apogeelaw17.FallTells", spec := "fallTells", apart := false }
def FallTellsSaid : Prop := fallTellsRow.holds Try.pinned (OpenSpec.ofChange fallTellsSpec)

/-- ITS FALSE NEIGHBOUR: 'it returns false'. Refute it at one input. -/
def fallTellsWrong : ChangeSpec := { name := "fallTells", fn := fun _ => fun
  | [d1, d2, d3, d4] => { results := [.lit (.bool false)], args := [d1, d2, d3, d4] }
  | _ => none }
def FallTellsWrongFalsely : Prop := fallTellsRow.holds Try.pinned (OpenSpec.ofChange fallTellsWrong)

/-- 'apogeelaw17.FallSure': WHATEVER THE INPUT: true; the input reads as it did. -/
def fallSureSpec : ChangeSpec := { name := "fallSure", fn := fun _ => fun
  | [d1, d2, d3] => { results := [.lit (.bool true)], args := [d1, d2, d3] }
  | _ => none }
def fallSureRow : OpenClaim := { program := "ytnelbjbphkfkkaa", sum := "3e3067c498137840a68cc66c70c6318f8240befed9524c190d5a7c60cfede5ce", func := "apogee/apogeelaw17.FallSure", spec := "fallSure", apart := false }
def FallSureSaid : Prop := fallSureRow.holds Try.pinned (OpenSpec.ofChange fallSureSpec)

/-- ITS FALSE NEIGHBOUR: 'it returns false'. Refute it at one input. -/
def fallSureWrong : ChangeSpec := { name := "fallSure", fn := fun _ => fun
  | [d1, d2, d3] => { results := [.lit (.bool false)], args := [d1, d2, d3] }
  | _ => none }
def FallSureWrongFalsely : Prop := fallSureRow.holds Try.pinned (OpenSpec.ofChange fallSureWrong)

/-- 'apogeelaw17.FallRises': WHATEVER THE INPUT: true; the input reads as it did. -/
def fallRisesSpec : ChangeSpec := { name := "fallRises", fn := fun _ => fun
  | [d1, d2, d3, d4, d5] => { results := [.lit (.bool true)], args := [d1, d2, d3, d4, d5] }
  | _ => none }
def fallRisesRow : OpenClaim := { program := "ytnelbjbphkfkkaa", sum := "3e3067c498137840a68cc66c70c6318f8240befed9524c190d5a7c60cfede5ce", func := "apogee/apogeelaw17.FallRises", spec := "fallRises", apart := false }
def FallRisesSaid : Prop := fallRisesRow.holds Try.pinned (OpenSpec.ofChange fallRisesSpec)

/-- ITS FALSE NEIGHBOUR: 'it returns false'. Refute it at one input. -/
def fallRisesWrong : ChangeSpec := { name := "fallRises", fn := fun _ => fun
  | [d1, d2, d3, d4, d5] => { results := [.lit (.bool false)], args := [d1, d2, d3, d4, d5] }
  | _ => none }
def FallRisesWrongFalsely : Prop := fallRisesRow.holds Try.pinned (OpenSpec.ofChange fallRisesWrong)

/-- 'apogeelaw17.FallSpan': WHATEVER THE INPUT: true; the input reads as it did. -/
def fallSpanSpec : ChangeSpec := { name := "fallSpan", fn := fun _ => fun
  | [d1, d2, d3, d4, d5, d6] => { results := [.lit (.bool true)], args := [d1, d2, d3, d4, d5, d6] }
  | _ => none }
def fallSpanRow : OpenClaim := { program := "ytnelbjbphkfkkaa", sum := "3e3067c498137840a68cc66c70c6318f8240befed9524c190d5a7c60cfede5ce", func := "apogee/apogeelaw17.FallSpan", spec := "fallSpan", apart := false }
def FallSpanSaid : Prop := fallSpanRow.holds Try.pinned (OpenSpec.ofChange fallSpanSpec)

/-- ITS FALSE NEIGHBOUR: 'it returns false'. Refute it at one input. -/
def fallSpanWrong : ChangeSpec := { name := "fallSpan", fn := fun _ => fun
  | [d1, d2, d3, d4, d5, d6] => { results := [.lit (.bool false)], args := [d1, d2, d3, d4, d5, d6] }
  | _ => none }
def FallSpanWrongFalsely : Prop := fallSpanRow.holds Try.pinned (OpenSpec.ofChange fallSpanWrong)

/-- 'apogeelaw17.FallIn': WHATEVER THE INPUT: true; the input reads as it did. -/
def fallInSpec : ChangeSpec := { name := "fallIn", fn := fun _ => fun
  | [d1, d2, d3, d4, d5, d6, d7] => { results := [.lit (.bool true)], args := [d1, d2, d3, d4, d5, d6, d7] }
  | _ => none }
def fallInRow : OpenClaim := { program := "ytnelbjbphkfkkaa", sum := "3e3067c498137840a68cc66c70c6318f8240befed9524c190d5a7c60cfede5ce", func := "apogee/apogeelaw17.FallIn", spec := "fallIn", apart := false }
def FallInSaid : Prop := fallInRow.holds Try.pinned (OpenSpec.ofChange fallInSpec)

/-- ITS FALSE NEIGHBOUR: 'it returns false'. Refute it at one input. -/
def fallInWrong : ChangeSpec := { name := "fallIn", fn := fun _ => fun
  | [d1, d2, d3, d4, d5, d6, d7] => { results := [.lit (.bool false)], args := [d1, d2, d3, d4, d5, d6, d7] }
  | _ => none }
def FallInWrongFalsely : Prop := fallInRow.holds Try.pinned (OpenSpec.ofChange fallInWrong)

/-- 'apogeelaw17.FallTop': WHATEVER THE INPUT: true; the input reads as it did. -/
def fallTopSpec : ChangeSpec := { name := "fallTop", fn := fun _ => fun
  | [d1, d2, d3, d4] => { results := [.lit (.bool true)], args := [d1, d2, d3, d4] }
  | _ => none }
def fallTopRow : OpenClaim := { program := "ytnelbjbphkfkkaa", sum := "3e3067c498137840a68cc66c70c6318f8240befed9524c190d5a7c60cfede5ce", func := "apogee/apogeelaw17.FallTop", spec := "fallTop", apart := false }
def FallTopSaid : Prop := fallTopRow.holds Try.pinned (OpenSpec.ofChange fallTopSpec)

/-- ITS FALSE NEIGHBOUR: 'it returns false'. Refute it at one input. -/
def fallTopWrong : ChangeSpec := { name := "fallTop", fn := fun _ => fun
  | [d1, d2, d3, d4] => { results := [.lit (.bool false)], args := [d1, d2, d3, d4] }
  | _ => none }
def FallTopWrongFalsely : Prop := fallTopRow.holds Try.pinned (OpenSpec.ofChange fallTopWrong)

/-- 'apogeelaw20.TallyQuiet': WHATEVER THE INPUT: true; the input reads as it did. -/
def tallyQuietSpec : ChangeSpec := { name := "tallyQuiet", fn := fun _ => fun
  | [d1, d2] => { results := [.lit (.bool true)], args := [d1, d2] }
  | _ => none }
def tallyQuietRow : OpenClaim := { program := "ytnelbjbphkfkkaa", sum := "3e3067c498137840a68cc66c70c6318f8240befed9524c190d5a7c60cfede5ce", func := "apogee/apogeelaw20.TallyQuiet", spec := "tallyQuiet", inPlace := ["sync/atomic.LoadInt64", "sync/atomic.CompareAndSwapInt64", "sync/atomic.StoreInt64"], apart := false }
def TallyQuietSaid : Prop := tallyQuietRow.holds Try.pinned (OpenSpec.ofChange tallyQuietSpec)

/-- ITS FALSE NEIGHBOUR: 'it returns false'. Refute it at one input. -/
def tallyQuietWrong : ChangeSpec := { name := "tallyQuiet", fn := fun _ => fun
  | [d1, d2] => { results := [.lit (.bool false)], args := [d1, d2] }
  | _ => none }
def TallyQuietWrongFalsely : Prop := tallyQuietRow.holds Try.pinned (OpenSpec.ofChange tallyQuietWrong)

/-- 'apogeelaw20.TallySides': WHATEVER THE INPUT: true; the input reads as it did. -/
def tallySidesSpec : ChangeSpec := { name := "tallySides", fn := fun _ => fun
  | [d1, d2, d3, d4, d5] => { results := [.lit (.bool true)], args := [d1, d2, d3, d4, d5] }
  | _ => none }
def tallySidesRow : OpenClaim := { program := "ytnelbjbphkfkkaa", sum := "3e3067c498137840a68cc66c70c6318f8240befed9524c190d5a7c60cfede5ce", func := "apogee/apogeelaw20.TallySides", spec := "tallySides", inPlace := ["sync/atomic.LoadInt64", "sync/atomic.CompareAndSwapInt64", "sync/atomic.StoreInt64"], apart := false }
def TallySidesSaid : Prop := tallySidesRow.holds Try.pinned (OpenSpec.ofChange tallySidesSpec)

/-- ITS FALSE NEIGHBOUR: 'it returns false'. Refute it at one input. -/
def tallySidesWrong : ChangeSpec := { name := "tallySides", fn := fun _ => fun
  | [d1, d2, d3, d4, d5] => { results := [.lit (.bool false)], args := [d1, d2, d3, d4, d5] }
  | _ => none }
def TallySidesWrongFalsely : Prop := tallySidesRow.holds Try.pinned (OpenSpec.ofChange tallySidesWrong)

/-- 'apogeelaw20.TallyNil': WHATEVER THE INPUT: true; the input reads as it did. -/
def tallyNilSpec : ChangeSpec := { name := "tallyNil", fn := fun _ => fun
  | [d1, d2] => { results := [.lit (.bool true)], args := [d1, d2] }
  | _ => none }
def tallyNilRow : OpenClaim := { program := "ytnelbjbphkfkkaa", sum := "3e3067c498137840a68cc66c70c6318f8240befed9524c190d5a7c60cfede5ce", func := "apogee/apogeelaw20.TallyNil", spec := "tallyNil", inPlace := ["sync/atomic.LoadInt64", "sync/atomic.CompareAndSwapInt64", "sync/atomic.StoreInt64"], apart := false }
def TallyNilSaid : Prop := tallyNilRow.holds Try.pinned (OpenSpec.ofChange tallyNilSpec)

/-- ITS FALSE NEIGHBOUR: 'it returns false'. Refute it at one input. -/
def tallyNilWrong : ChangeSpec := { name := "tallyNil", fn := fun _ => fun
  | [d1, d2] => { results := [.lit (.bool false)], args := [d1, d2] }
  | _ => none }
def TallyNilWrongFalsely : Prop := tallyNilRow.holds Try.pinned (OpenSpec.ofChange tallyNilWrong)

/-- 'apogeelaw22.SeqrPlays': WHATEVER THE INPUT: true; the input reads as it did. -/
def seqrPlaysSpec : ChangeSpec := { name := "seqrPlays", fn := fun _ => fun
  | [d1, d2, d3] => { results := [.lit (.bool true)], args := [d1, d2, d3] }
  | _ => none }
def seqrPlaysRow : OpenClaim := { program := "ytnelbjbphkfkkaa", sum := "3e3067c498137840a68cc66c70c6318f8240befed9524c190d5a7c60cfede5ce", func := "apogee/apogeelaw22.SeqrPlays", spec := "seqrPlays", apart := false }
def SeqrPlaysSaid : Prop := seqrPlaysRow.holds Try.pinned (OpenSpec.ofChange seqrPlaysSpec)

/-- ITS FALSE NEIGHBOUR: 'it returns false'. Refute it at one input. -/
def seqrPlaysWrong : ChangeSpec := { name := "seqrPlays", fn := fun _ => fun
  | [d1, d2, d3] => { results := [.lit (.bool false)], args := [d1, d2, d3] }
  | _ => none }
def SeqrPlaysWrongFalsely : Prop := seqrPlaysRow.holds Try.pinned (OpenSpec.ofChange seqrPlaysWrong)

/-- 'apogeelaw22.SeqrFlight': WHATEVER THE INPUT: true; the input reads as it did. -/
def seqrFlightSpec : ChangeSpec := { name := "seqrFlight", fn := fun _ => fun
  | [d1, d2] => { results := [.lit (.bool true)], args := [d1, d2] }
  | _ => none }
def seqrFlightRow : OpenClaim := { program := "ytnelbjbphkfkkaa", sum := "3e3067c498137840a68cc66c70c6318f8240befed9524c190d5a7c60cfede5ce", func := "apogee/apogeelaw22.SeqrFlight", spec := "seqrFlight", apart := false }
def SeqrFlightSaid : Prop := seqrFlightRow.holds Try.pinned (OpenSpec.ofChange seqrFlightSpec)

/-- ITS FALSE NEIGHBOUR: 'it returns false'. Refute it at one input. -/
def seqrFlightWrong : ChangeSpec := { name := "seqrFlight", fn := fun _ => fun
  | [d1, d2] => { results := [.lit (.bool false)], args := [d1, d2] }
  | _ => none }
def SeqrFlightWrongFalsely : Prop := seqrFlightRow.holds Try.pinned (OpenSpec.ofChange seqrFlightWrong)

/-- 'apogeelaw22.SeqrTwo': WHATEVER THE INPUT: true; the input reads as it did. -/
def seqrTwoSpec : ChangeSpec := { name := "seqrTwo", fn := fun _ => fun
  | [d1, d2] => { results := [.lit (.bool true)], args := [d1, d2] }
  | _ => none }
def seqrTwoRow : OpenClaim := { program := "ytnelbjbphkfkkaa", sum := "3e3067c498137840a68cc66c70c6318f8240befed9524c190d5a7c60cfede5ce", func := "apogee/apogeelaw22.SeqrTwo", spec := "seqrTwo", unfollowed := true, recurses := true, apart := false }
def SeqrTwoSaid : Prop := seqrTwoRow.holds Try.pinned (OpenSpec.ofChange seqrTwoSpec)

/-- ITS FALSE NEIGHBOUR: 'it returns false'. Refute it at one input. -/
def seqrTwoWrong : ChangeSpec := { name := "seqrTwo", fn := fun _ => fun
  | [d1, d2] => { results := [.lit (.bool false)], args := [d1, d2] }
  | _ => none }
def SeqrTwoWrongFalsely : Prop := seqrTwoRow.holds Try.pinned (OpenSpec.ofChange seqrTwoWrong)

/-- 'apogeelaw22.SeqrNil': WHATEVER THE INPUT: true; the input reads as it did. -/
def seqrNilSpec : ChangeSpec := { name := "seqrNil", fn := fun _ => fun
  | [d] => { results := [.lit (.bool true)], args := [d] }
  | _ => none }
def seqrNilRow : OpenClaim := { program := "ytnelbjbphkfkkaa", sum := "3e3067c498137840a68cc66c70c6318f8240befed9524c190d5a7c60cfede5ce", func := "apogee/apogeelaw22.SeqrNil", spec := "seqrNil", apart := false }
def SeqrNilSaid : Prop := seqrNilRow.holds Try.pinned (OpenSpec.ofChange seqrNilSpec)

/-- ITS FALSE NEIGHBOUR: 'it returns false'. Refute it at one input. -/
def seqrNilWrong : ChangeSpec := { name := "seqrNil", fn := fun _ => fun
  | [d] => { results := [.lit (.bool false)], args := [d] }
  | _ => none }
def SeqrNilWrongFalsely : Prop := seqrNilRow.holds Try.pinned (OpenSpec.ofChange seqrNilWrong)

/- THE SECOND FORM. 'bulk': how many values and letters a reading holds, each counted each time it is reached (what is shared counts as often as it is met; a slice's spare places count too). A statement '..UptoSaid' is the law's where the arguments, and the package variables that the reading takes, are together of bulk at most 1048576: NARROWER than '..Said'. Prove '..Said' where nothing that the law and all that it calls make is longer than what came in: it says more and counts as full. Else prove '..UptoSaid'. A law counts once. -/
mutual
def uptoBulk {H : Type} : DataW H → Nat
  | .lit (.string bytes) => bytes.length + 1
  | .lit _ => 1
  | .nil => 1
  | .ptr d => uptoBulk d + 1
  | .slice elems spare => uptoBulkAll elems + uptoBulkAll spare + 1
  | .agg parts => uptoBulkAll parts + 1
  | .iface _ d => uptoBulk d + 1
  | .map entries => uptoBulkEntries entries + 1
  | .held _ => 1
def uptoBulkAll {H : Type} : List (DataW H) → Nat
  | [] => 0
  | d :: r => uptoBulk d + uptoBulkAll r
def uptoBulkEntries {H : Type} : List (Lit × DataW H) → Nat
  | [] => 0
  | x :: r => uptoBulkEntry x + uptoBulkEntries r
def uptoBulkEntry {H : Type} : Lit × DataW H → Nat
  | (.string bytes, d) => bytes.length + uptoBulk d + 1
  | (_, d) => uptoBulk d + 1
 end
def uptoSmall : (H : Type) → List (DataW H) → Bool := fun _ ds => decide (uptoBulkAll ds ≤ 1048576)
def OpenSpec.upto (s : _root_.Go.ChangeSpec) : _root_.Go.OpenSpec := { _root_.Go.OpenSpec.ofChange s with cond := some uptoSmall }

/-- 'apogeelaw16.PairTells', WHERE WHAT IT READS IS OF BULK AT MOST 1048576: true; the input reads as it did. -/
def pairTellsUptoRow : OpenClaim := { program := "ytnelbjbphkfkkaa", sum := "3e3067c498137840a68cc66c70c6318f8240befed9524c190d5a7c60cfede5ce", func := "apogee/apogeelaw16.PairTells", spec := "pairTells", recurses := true, apart := false, narrowed := true }
def PairTellsUptoSaid : Prop := pairTellsUptoRow.holds Try.pinned (OpenSpec.upto pairTellsSpec)

/-- 'apogeelaw16.PairStates', WHERE WHAT IT READS IS OF BULK AT MOST 1048576: true; the input reads as it did. -/
def pairStatesUptoRow : OpenClaim := { program := "ytnelbjbphkfkkaa", sum := "3e3067c498137840a68cc66c70c6318f8240befed9524c190d5a7c60cfede5ce", func := "apogee/apogeelaw16.PairStates", spec := "pairStates", apart := false, narrowed := true }
def PairStatesUptoSaid : Prop := pairStatesUptoRow.holds Try.pinned (OpenSpec.upto pairStatesSpec)

/-- 'apogeelaw16.PairEps', WHERE WHAT IT READS IS OF BULK AT MOST 1048576: true; the input reads as it did. -/
def pairEpsUptoRow : OpenClaim := { program := "ytnelbjbphkfkkaa", sum := "3e3067c498137840a68cc66c70c6318f8240befed9524c190d5a7c60cfede5ce", func := "apogee/apogeelaw16.PairEps", spec := "pairEps", apart := false, narrowed := true }
def PairEpsUptoSaid : Prop := pairEpsUptoRow.holds Try.pinned (OpenSpec.upto pairEpsSpec)

/-- 'apogeelaw16.PairHeight', WHERE WHAT IT READS IS OF BULK AT MOST 1048576: true; the input reads as it did. -/
def pairHeightUptoRow : OpenClaim := { program := "ytnelbjbphkfkkaa", sum := "3e3067c498137840a68cc66c70c6318f8240befed9524c190d5a7c60cfede5ce", func := "apogee/apogeelaw16.PairHeight", spec := "pairHeight", apart := false, narrowed := true }
def PairHeightUptoSaid : Prop := pairHeightUptoRow.holds Try.pinned (OpenSpec.upto pairHeightSpec)

/-- 'apogeelaw17.FallTells', WHERE WHAT IT READS IS OF BULK AT MOST 1048576: true; the input reads as it did. -/
def fallTellsUptoRow : OpenClaim := { program := "ytnelbjbphkfkkaa", sum := "3e3067c498137840a68cc66c70c6318f8240befed9524c190d5a7c60cfede5ce", func := "apogee/apogeelaw17.FallTells", spec := "fallTells", apart := false, narrowed := true }
def FallTellsUptoSaid : Prop := fallTellsUptoRow.holds Try.pinned (OpenSpec.upto fallTellsSpec)

/-- 'apogeelaw17.FallSure', WHERE WHAT IT READS IS OF BULK AT MOST 1048576: true; the input reads as it did. -/
def fallSureUptoRow : OpenClaim := { program := "ytnelbjbphkfkkaa", sum := "3e3067c498137840a68cc66c70c6318f8240befed9524c190d5a7c60cfede5ce", func := "apogee/apogeelaw17.FallSure", spec := "fallSure", apart := false, narrowed := true }
def FallSureUptoSaid : Prop := fallSureUptoRow.holds Try.pinned (OpenSpec.upto fallSureSpec)

/-- 'apogeelaw17.FallRises', WHERE WHAT IT READS IS OF BULK AT MOST 1048576: true; the input reads as it did. -/
def fallRisesUptoRow : OpenClaim := { program := "ytnelbjbphkfkkaa", sum := "3e3067c498137840a68cc66c70c6318f8240befed9524c190d5a7c60cfede5ce", func := "apogee/apogeelaw17.FallRises", spec := "fallRises", apart := false, narrowed := true }
def FallRisesUptoSaid : Prop := fallRisesUptoRow.holds Try.pinned (OpenSpec.upto fallRisesSpec)

/-- 'apogeelaw17.FallSpan', WHERE WHAT IT READS IS OF BULK AT MOST 1048576: true; the input reads as it did. -/
def fallSpanUptoRow : OpenClaim := { program := "ytnelbjbphkfkkaa", sum := "3e3067c498137840a68cc66c70c6318f8240befed9524c190d5a7c60cfede5ce", func := "apogee/apogeelaw17.FallSpan", spec := "fallSpan", apart := false, narrowed := true }
def FallSpanUptoSaid : Prop := fallSpanUptoRow.holds Try.pinned (OpenSpec.upto fallSpanSpec)

/-- 'apogeelaw17.FallIn', WHERE WHAT IT READS IS OF BULK AT MOST 1048576: true; the input reads as it did. -/
def fallInUptoRow : OpenClaim := { program := "ytnelbjbphkfkkaa", sum := "3e3067c498137840a68cc66c70c6318f8240befed9524c190d5a7c60cfede5ce", func := "apogee/apogeelaw17.FallIn", spec := "fallIn", apart := false, narrowed := true }
def FallInUptoSaid : Prop := fallInUptoRow.holds Try.pinned (OpenSpec.upto fallInSpec)

/-- 'apogeelaw17.FallTop', WHERE WHAT IT READS IS OF BULK AT MOST 1048576: true; the input reads as it did. -/
def fallTopUptoRow : OpenClaim := { program := "ytnelbjbphkfkkaa", sum := "3e3067c498137840a68cc66c70c6318f8240befed9524c190d5a7c60cfede5ce", func := "apogee/apogeelaw17.FallTop", spec := "fallTop", apart := false, narrowed := true }
def FallTopUptoSaid : Prop := fallTopUptoRow.holds Try.pinned (OpenSpec.upto fallTopSpec)

/-- 'apogeelaw20.TallyQuiet', WHERE WHAT IT READS IS OF BULK AT MOST 1048576: true; the input reads as it did. -/
def tallyQuietUptoRow : OpenClaim := { program := "ytnelbjbphkfkkaa", sum := "3e3067c498137840a68cc66c70c6318f8240befed9524c190d5a7c60cfede5ce", func := "apogee/apogeelaw20.TallyQuiet", spec := "tallyQuiet", inPlace := ["sync/atomic.LoadInt64", "sync/atomic.CompareAndSwapInt64", "sync/atomic.StoreInt64"], apart := false, narrowed := true }
def TallyQuietUptoSaid : Prop := tallyQuietUptoRow.holds Try.pinned (OpenSpec.upto tallyQuietSpec)

/-- 'apogeelaw20.TallySides', WHERE WHAT IT READS IS OF BULK AT MOST 1048576: true; the input reads as it did. -/
def tallySidesUptoRow : OpenClaim := { program := "ytnelbjbphkfkkaa", sum := "3e3067c498137840a68cc66c70c6318f8240befed9524c190d5a7c60cfede5ce", func := "apogee/apogeelaw20.TallySides", spec := "tallySides", inPlace := ["sync/atomic.LoadInt64", "sync/atomic.CompareAndSwapInt64", "sync/atomic.StoreInt64"], apart := false, narrowed := true }
def TallySidesUptoSaid : Prop := tallySidesUptoRow.holds Try.pinned (OpenSpec.upto tallySidesSpec)

/-- 'apogeelaw20.TallyNil', WHERE WHAT IT READS IS OF BULK AT MOST 1048576: true; the input reads as it did. -/
def tallyNilUptoRow : OpenClaim := { program := "ytnelbjbphkfkkaa", sum := "3e3067c498137840a68cc66c70c6318f8240befed9524c190d5a7c60cfede5ce", func := "apogee/apogeelaw20.TallyNil", spec := "tallyNil", inPlace := ["sync/atomic.LoadInt64", "sync/atomic.CompareAndSwapInt64", "sync/atomic.StoreInt64"], apart := false, narrowed := true }
def TallyNilUptoSaid : Prop := tallyNilUptoRow.holds Try.pinned (OpenSpec.upto tallyNilSpec)

/-- 'apogeelaw22.SeqrPlays', WHERE WHAT IT READS IS OF BULK AT MOST 1048576: true; the input reads as it did. -/
def seqrPlaysUptoRow : OpenClaim := { program := "ytnelbjbphkfkkaa", sum := "3e3067c498137840a68cc66c70c6318f8240befed9524c190d5a7c60cfede5ce", func := "apogee/apogeelaw22.SeqrPlays", spec := "seqrPlays", apart := false, narrowed := true }
def SeqrPlaysUptoSaid : Prop := seqrPlaysUptoRow.holds Try.pinned (OpenSpec.upto seqrPlaysSpec)

/-- 'apogeelaw22.SeqrFlight', WHERE WHAT IT READS IS OF BULK AT MOST 1048576: true; the input reads as it did. -/
def seqrFlightUptoRow : OpenClaim := { program := "ytnelbjbphkfkkaa", sum := "3e3067c498137840a68cc66c70c6318f8240befed9524c190d5a7c60cfede5ce", func := "apogee/apogeelaw22.SeqrFlight", spec := "seqrFlight", apart := false, narrowed := true }
def SeqrFlightUptoSaid : Prop := seqrFlightUptoRow.holds Try.pinned (OpenSpec.upto seqrFlightSpec)

/-- 'apogeelaw22.SeqrTwo', WHERE WHAT IT READS IS OF BULK AT MOST 1048576: true; the input reads as it did. -/
def seqrTwoUptoRow : OpenClaim := { program := "ytnelbjbphkfkkaa", sum := "3e3067c498137840a68cc66c70c6318f8240befed9524c190d5a7c60cfede5ce", func := "apogee/apogeelaw22.SeqrTwo", spec := "seqrTwo", unfollowed := true, recurses := true, apart := false, narrowed := true }
def SeqrTwoUptoSaid : Prop := seqrTwoUptoRow.holds Try.pinned (OpenSpec.upto seqrTwoSpec)

/-- 'apogeelaw22.SeqrNil', WHERE WHAT IT READS IS OF BULK AT MOST 1048576: true; the input reads as it did. -/
def seqrNilUptoRow : OpenClaim := { program := "ytnelbjbphkfkkaa", sum := "3e3067c498137840a68cc66c70c6318f8240befed9524c190d5a7c60cfede5ce", func := "apogee/apogeelaw22.SeqrNil", spec := "seqrNil", apart := false, narrowed := true }
def SeqrNilUptoSaid : Prop := seqrNilUptoRow.holds Try.pinned (OpenSpec.upto seqrNilSpec)

end Rows
end Go.Proofs.Ytnelbjbphkfkkaa
