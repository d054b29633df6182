/-
  Two laws of rules over values.
-/
import Derived.Test.YtmfeioinhpdebaaYc
namespace Go.Proofs.Ytmfeioinhpdebaa
open Go Go.Proofs Go.Sx
set_option linter.unusedVariables false
/-! norm -/
/-! cast -/
/-! rep [CK.sl 39 [CK0.num IntKind.i64, CK0.num IntKind.i64], .num .i64, .num .i64, .num .i64, .num .i64] => kPh -/
/-! rep (dropT (0 : Nat) (L.getD k.toNat [])) => (L.getD k.toNat []) -/
/-! rep (dropT (0 : Nat) (L2.getD k.toNat [])) => (L2.getD k.toNat []) -/
/-! rep (dropT (0 : Nat) (L.getD i.toNat [])) => (L.getD i.toNat []) -/
/-! rep (dropT (0 : Nat) (M.getD k.toNat [])) => (M.getD k.toNat []) -/
/-! repp (List.brecOn.go (motive := fun x => Nat → List Dat → List (List Dat)) M List.set._f).1 k.toNat ==> M.set k.toNat -/
/-! rep (((L.getD i.toNat []).headD (Dat.n (0 : Int))).toL) => (phA L i) -/
/-! rep ((L.getD i.toNat []).headD (Dat.n (0 : Int))).toL => (phA L i) -/
/-! rep (((L.getD i.toNat []).tail.headD (Dat.n (0 : Int))).toI) => (phG L i) -/
/-! rep ((L.getD i.toNat []).tail.headD (Dat.n (0 : Int))).toI => (phG L i) -/
/-! rep (((L.getD i.toNat []).tail.tail.headD (Dat.n (0 : Int))).toI) => (phV L i) -/
/-! rep ((L.getD i.toNat []).tail.tail.headD (Dat.n (0 : Int))).toI => (phV L i) -/
/-! rep (((L.getD i.toNat []).tail.tail.tail.headD (Dat.n (0 : Int))).toI) => (phM L i) -/
/-! rep ((L.getD i.toNat []).tail.tail.tail.headD (Dat.n (0 : Int))).toI => (phM L i) -/
/-! rep (((L.getD i.toNat []).tail.tail.tail.tail.headD (Dat.n (0 : Int))).toI) => (phU L i) -/
/-! rep ((L.getD i.toNat []).tail.tail.tail.tail.headD (Dat.n (0 : Int))).toI => (phU L i) -/
/-! rep (((L2.getD i.toNat []).headD (Dat.n (0 : Int))).toL) => (phA L2 i) -/
/-! rep ((L2.getD i.toNat []).headD (Dat.n (0 : Int))).toL => (phA L2 i) -/
/-! rep (((L2.getD i.toNat []).tail.headD (Dat.n (0 : Int))).toI) => (phG L2 i) -/
/-! rep ((L2.getD i.toNat []).tail.headD (Dat.n (0 : Int))).toI => (phG L2 i) -/
/-! rep (((L2.getD i.toNat []).tail.tail.headD (Dat.n (0 : Int))).toI) => (phV L2 i) -/
/-! rep ((L2.getD i.toNat []).tail.tail.headD (Dat.n (0 : Int))).toI => (phV L2 i) -/
/-! rep (((L2.getD i.toNat []).tail.tail.tail.headD (Dat.n (0 : Int))).toI) => (phM L2 i) -/
/-! rep ((L2.getD i.toNat []).tail.tail.tail.headD (Dat.n (0 : Int))).toI => (phM L2 i) -/
/-! rep (((L2.getD i.toNat []).tail.tail.tail.tail.headD (Dat.n (0 : Int))).toI) => (phU L2 i) -/
/-! rep ((L2.getD i.toNat []).tail.tail.tail.tail.headD (Dat.n (0 : Int))).toI => (phU L2 i) -/
/-! rep (((M.getD i.toNat []).headD (Dat.n (0 : Int))).toL) => (phA M i) -/
/-! rep ((M.getD i.toNat []).headD (Dat.n (0 : Int))).toL => (phA M i) -/
/-! rep (((M.getD i.toNat []).tail.headD (Dat.n (0 : Int))).toI) => (phG M i) -/
/-! rep ((M.getD i.toNat []).tail.headD (Dat.n (0 : Int))).toI => (phG M i) -/
/-! rep (((M.getD i.toNat []).tail.tail.headD (Dat.n (0 : Int))).toI) => (phV M i) -/
/-! rep ((M.getD i.toNat []).tail.tail.headD (Dat.n (0 : Int))).toI => (phV M i) -/
/-! rep (((M.getD i.toNat []).tail.tail.tail.headD (Dat.n (0 : Int))).toI) => (phM M i) -/
/-! rep ((M.getD i.toNat []).tail.tail.tail.headD (Dat.n (0 : Int))).toI => (phM M i) -/
/-! rep (((M.getD i.toNat []).tail.tail.tail.tail.headD (Dat.n (0 : Int))).toI) => (phU M i) -/
/-! rep ((M.getD i.toNat []).tail.tail.tail.tail.headD (Dat.n (0 : Int))).toI => (phU M i) -/
/-! rep (((L.getD k.toNat []).headD (Dat.n (0 : Int))).toL) => (phA L k) -/
/-! rep ((L.getD k.toNat []).headD (Dat.n (0 : Int))).toL => (phA L k) -/
/-! rep (((L.getD k.toNat []).tail.headD (Dat.n (0 : Int))).toI) => (phG L k) -/
/-! rep ((L.getD k.toNat []).tail.headD (Dat.n (0 : Int))).toI => (phG L k) -/
/-! rep (((L.getD k.toNat []).tail.tail.headD (Dat.n (0 : Int))).toI) => (phV L k) -/
/-! rep ((L.getD k.toNat []).tail.tail.headD (Dat.n (0 : Int))).toI => (phV L k) -/
/-! rep (((L.getD k.toNat []).tail.tail.tail.headD (Dat.n (0 : Int))).toI) => (phM L k) -/
/-! rep ((L.getD k.toNat []).tail.tail.tail.headD (Dat.n (0 : Int))).toI => (phM L k) -/
/-! rep (((L.getD k.toNat []).tail.tail.tail.tail.headD (Dat.n (0 : Int))).toI) => (phU L k) -/
/-! rep ((L.getD k.toNat []).tail.tail.tail.tail.headD (Dat.n (0 : Int))).toI => (phU L k) -/
/-! rep (((L2.getD k.toNat []).headD (Dat.n (0 : Int))).toL) => (phA L2 k) -/
/-! rep ((L2.getD k.toNat []).headD (Dat.n (0 : Int))).toL => (phA L2 k) -/
/-! rep (((L2.getD k.toNat []).tail.headD (Dat.n (0 : Int))).toI) => (phG L2 k) -/
/-! rep ((L2.getD k.toNat []).tail.headD (Dat.n (0 : Int))).toI => (phG L2 k) -/
/-! rep (((L2.getD k.toNat []).tail.tail.headD (Dat.n (0 : Int))).toI) => (phV L2 k) -/
/-! rep ((L2.getD k.toNat []).tail.tail.headD (Dat.n (0 : Int))).toI => (phV L2 k) -/
/-! rep (((L2.getD k.toNat []).tail.tail.tail.headD (Dat.n (0 : Int))).toI) => (phM L2 k) -/
/-! rep ((L2.getD k.toNat []).tail.tail.tail.headD (Dat.n (0 : Int))).toI => (phM L2 k) -/
/-! rep (((L2.getD k.toNat []).tail.tail.tail.tail.headD (Dat.n (0 : Int))).toI) => (phU L2 k) -/
/-! rep ((L2.getD k.toNat []).tail.tail.tail.tail.headD (Dat.n (0 : Int))).toI => (phU L2 k) -/
/-! rep (((M.getD k.toNat []).headD (Dat.n (0 : Int))).toL) => (phA M k) -/
/-! rep ((M.getD k.toNat []).headD (Dat.n (0 : Int))).toL => (phA M k) -/
/-! rep (((M.getD k.toNat []).tail.headD (Dat.n (0 : Int))).toI) => (phG M k) -/
/-! rep ((M.getD k.toNat []).tail.headD (Dat.n (0 : Int))).toI => (phG M k) -/
/-! rep (((M.getD k.toNat []).tail.tail.headD (Dat.n (0 : Int))).toI) => (phV M k) -/
/-! rep ((M.getD k.toNat []).tail.tail.headD (Dat.n (0 : Int))).toI => (phV M k) -/
/-! rep (((M.getD k.toNat []).tail.tail.tail.headD (Dat.n (0 : Int))).toI) => (phM M k) -/
/-! rep ((M.getD k.toNat []).tail.tail.tail.headD (Dat.n (0 : Int))).toI => (phM M k) -/
/-! rep (((M.getD k.toNat []).tail.tail.tail.tail.headD (Dat.n (0 : Int))).toI) => (phU M k) -/
/-! rep ((M.getD k.toNat []).tail.tail.tail.tail.headD (Dat.n (0 : Int))).toI => (phU M k) -/

set_option maxRecDepth 20000 in
theorem treeWin (r1 : Int) (r2 : Int) (r3 : Int) (r4 : Int) (r5 : Int) (r6 : Int) (r7 : Int) (r8 : Int) (L : List (List Dat)) : runG ΓA13 L0 Try.prog Try.f6 [.ag [.row 0, .v (I r1), .v (I r2), .v (I r3), .v (I r4), .v (I r5), .v (I r6), .v (I r7), .v (I r8)]] ⟨[], [], [rH L false false]⟩ = 
    (bif L.length.ble (9223372036854775807) then (bif !fewB L then some (.v (Bo true), ⟨[], [], [.live ⟨30, kPh, L, false, false⟩]⟩) else (bif phOk L then (bif phOk L then (bif wrR L r1 r2 r3 r4 r5 r6 r7 r8 != (0 : Int) then some (.v (Bo ((bif !wrB L r1 r2 r3 r4 r5 r6 r7 r8 == (0 : Int) then (0 : Int) else wI (wI (r1 + r2) + (2 : Int))) == (0 : Int))), ⟨[], [], [.live ⟨30, kPh, L, false, false⟩]⟩) else (bif decide ((bif !wrB L r1 r2 r3 r4 r5 r6 r7 r8 == (0 : Int) then (0 : Int) else wI (wI (r1 + r2) + (2 : Int))) > r1) then (bif decide ((bif !wrB L r1 r2 r3 r4 r5 r6 r7 r8 == (0 : Int) then (0 : Int) else wI (wI (r1 + r2) + (2 : Int))) > r2) then (bif decide ((bif !wrB L r1 r2 r3 r4 r5 r6 r7 r8 == (0 : Int) then (0 : Int) else wI (wI (r1 + r2) + (2 : Int))) ≥ (4 : Int)) then some (.v (Bo (decide ((bif !wrB L r1 r2 r3 r4 r5 r6 r7 r8 == (0 : Int) then (0 : Int) else wI (wI (r1 + r2) + (2 : Int))) ≤ (102 : Int)))), ⟨[], [], [.live ⟨30, kPh, L, false, false⟩]⟩) else some (.v (Bo false), ⟨[], [], [.live ⟨30, kPh, L, false, false⟩]⟩)) else some (.v (Bo false), ⟨[], [], [.live ⟨30, kPh, L, false, false⟩]⟩)) else some (.v (Bo false), ⟨[], [], [.live ⟨30, kPh, L, false, false⟩]⟩))) else none) else none)) else none) := by kernel_rfl
set_option maxRecDepth 20000 in
theorem treeFirst (r1 : Int) (r2 : Int) (r3 : Int) (r4 : Int) (r5 : Int) (r6 : Int) (r7 : Int) (r8 : Int) (wh n : Int) (L : List (List Dat)) : runG ΓA13 L0 Try.prog Try.f5 [.ag [.row 0, .v (I r1), .v (I r2), .v (I r3), .v (I r4), .v (I r5), .v (I r6), .v (I r7), .v (I r8)], .v (I wh), .v (I n)] ⟨[], [], [rH L false false]⟩ = 
    (bif L.length.ble (9223372036854775807) then (bif !fewB L then some (.v (Bo true), ⟨[], [], [.live ⟨30, kPh, L, false, false⟩]⟩) else (bif phOk L then (bif wrR L r1 r2 r3 r4 r5 r6 r7 r8 != (0 : Int) then some (.v (Bo true), ⟨[], [], [.live ⟨30, kPh, L, false, false⟩]⟩) else (bif phOk L && (phNe L && Nat.blt (0 : Nat) L.length) then (bif (L.length : Int) == (0 : Int) then some (.v (Bo false), ⟨[], [], [.live ⟨30, kPh, L, false, false⟩]⟩) else (bif decide ((0 : Int) ≤ wI ((IntKind.u64.wrap n).tmod (3 : Int))) && decide (wI ((IntKind.u64.wrap n).tmod (3 : Int)) < (3 : Int)) then (bif wI ((2 : Int) + wI ((IntKind.u64.wrap wh).tmod (7 : Int))) == (2 : Int) then (bif IntKind.u64.wrap (L.length : Int) == (0 : Int) then none else (bif decide ((0 : Int) ≤ wI ((IntKind.u64.wrap n).tmod (IntKind.u64.wrap (L.length : Int)))) && decide (wI ((IntKind.u64.wrap n).tmod (IntKind.u64.wrap (L.length : Int))) < (L.length : Int)) then (bif phOk (L.set (wI ((IntKind.u64.wrap n).tmod (IntKind.u64.wrap (L.length : Int)))).toNat (setD (L.getD (wI ((IntKind.u64.wrap n).tmod (IntKind.u64.wrap (L.length : Int)))).toNat []) (2 : Nat) [Dat.n (([[Dat.n (0 : Int)], [Dat.n (-1 : Int)], [Dat.n (1099511627776 : Int)]].getD (wI ((IntKind.u64.wrap n).tmod (3 : Int))).toNat []).headD (Dat.n (0 : Int))).toI])) then (bif wrB (L.set (wI ((IntKind.u64.wrap n).tmod (IntKind.u64.wrap (L.length : Int)))).toNat (setD (L.getD (wI ((IntKind.u64.wrap n).tmod (IntKind.u64.wrap (L.length : Int)))).toNat []) (2 : Nat) [Dat.n (([[Dat.n (0 : Int)], [Dat.n (-1 : Int)], [Dat.n (1099511627776 : Int)]].getD (wI ((IntKind.u64.wrap n).tmod (3 : Int))).toNat []).headD (Dat.n (0 : Int))).toI])) r1 r2 r3 r4 r5 r6 r7 r8 == wI ((2 : Int) + wI ((IntKind.u64.wrap wh).tmod (7 : Int))) then (bif phOk (L.set (wI ((IntKind.u64.wrap n).tmod (IntKind.u64.wrap (L.length : Int)))).toNat (setD (L.getD (wI ((IntKind.u64.wrap n).tmod (IntKind.u64.wrap (L.length : Int)))).toNat []) (2 : Nat) [Dat.n (([[Dat.n (0 : Int)], [Dat.n (-1 : Int)], [Dat.n (1099511627776 : Int)]].getD (wI ((IntKind.u64.wrap n).tmod (3 : Int))).toNat []).headD (Dat.n (0 : Int))).toI])) then some (.v (Bo (!wrB (L.set (wI ((IntKind.u64.wrap n).tmod (IntKind.u64.wrap (L.length : Int)))).toNat (setD (L.getD (wI ((IntKind.u64.wrap n).tmod (IntKind.u64.wrap (L.length : Int)))).toNat []) (2 : Nat) [Dat.n (([[Dat.n (0 : Int)], [Dat.n (-1 : Int)], [Dat.n (1099511627776 : Int)]].getD (wI ((IntKind.u64.wrap n).tmod (3 : Int))).toNat []).headD (Dat.n (0 : Int))).toI])) r1 r2 r3 r4 r5 r6 r7 r8 == (0 : Int))), ⟨[], [], [.live ⟨30, kPh, L, false, false⟩]⟩) else none) else some (.v (Bo false), ⟨[], [], [.live ⟨30, kPh, L, false, false⟩]⟩)) else none) else none)) else (bif wI ((2 : Int) + wI ((IntKind.u64.wrap wh).tmod (7 : Int))) == (3 : Int) then (bif phOk L then (bif wrB L r1 r2 (([[Dat.n (0 : Int)], [Dat.n (-1 : Int)], [Dat.n (1099511627776 : Int)]].getD (wI ((IntKind.u64.wrap n).tmod (3 : Int))).toNat []).headD (Dat.n (0 : Int))).toI r4 r5 r6 r7 r8 == wI ((2 : Int) + wI ((IntKind.u64.wrap wh).tmod (7 : Int))) then (bif phOk L then some (.v (Bo (!wrB L r1 r2 (([[Dat.n (0 : Int)], [Dat.n (-1 : Int)], [Dat.n (1099511627776 : Int)]].getD (wI ((IntKind.u64.wrap n).tmod (3 : Int))).toNat []).headD (Dat.n (0 : Int))).toI r4 r5 r6 r7 r8 == (0 : Int))), ⟨[], [], [.live ⟨30, kPh, L, false, false⟩]⟩) else none) else some (.v (Bo false), ⟨[], [], [.live ⟨30, kPh, L, false, false⟩]⟩)) else none) else (bif wI ((2 : Int) + wI ((IntKind.u64.wrap wh).tmod (7 : Int))) == (4 : Int) then (bif phOk L then (bif wrB L r1 r2 r3 (if (-1 : Int) < (([[Dat.n (0 : Int)], [Dat.n (-1 : Int)], [Dat.n (1099511627776 : Int)]].getD (wI ((IntKind.u64.wrap n).tmod (3 : Int))).toNat []).headD (Dat.n (0 : Int))).toI then (-1 : Int) else (([[Dat.n (0 : Int)], [Dat.n (-1 : Int)], [Dat.n (1099511627776 : Int)]].getD (wI ((IntKind.u64.wrap n).tmod (3 : Int))).toNat []).headD (Dat.n (0 : Int))).toI) r5 r6 r7 r8 == wI ((2 : Int) + wI ((IntKind.u64.wrap wh).tmod (7 : Int))) then (bif phOk L then some (.v (Bo (!wrB L r1 r2 r3 (if (-1 : Int) < (([[Dat.n (0 : Int)], [Dat.n (-1 : Int)], [Dat.n (1099511627776 : Int)]].getD (wI ((IntKind.u64.wrap n).tmod (3 : Int))).toNat []).headD (Dat.n (0 : Int))).toI then (-1 : Int) else (([[Dat.n (0 : Int)], [Dat.n (-1 : Int)], [Dat.n (1099511627776 : Int)]].getD (wI ((IntKind.u64.wrap n).tmod (3 : Int))).toNat []).headD (Dat.n (0 : Int))).toI) r5 r6 r7 r8 == (0 : Int))), ⟨[], [], [.live ⟨30, kPh, L, false, false⟩]⟩) else none) else some (.v (Bo false), ⟨[], [], [.live ⟨30, kPh, L, false, false⟩]⟩)) else none) else (bif wI ((2 : Int) + wI ((IntKind.u64.wrap wh).tmod (7 : Int))) == (5 : Int) then (bif phOk L then (bif wrB L r1 r2 r3 r4 (([[Dat.n (0 : Int)], [Dat.n (-1 : Int)], [Dat.n (1099511627776 : Int)]].getD (wI ((IntKind.u64.wrap n).tmod (3 : Int))).toNat []).headD (Dat.n (0 : Int))).toI r6 r7 r8 == wI ((2 : Int) + wI ((IntKind.u64.wrap wh).tmod (7 : Int))) then (bif phOk L then some (.v (Bo (!wrB L r1 r2 r3 r4 (([[Dat.n (0 : Int)], [Dat.n (-1 : Int)], [Dat.n (1099511627776 : Int)]].getD (wI ((IntKind.u64.wrap n).tmod (3 : Int))).toNat []).headD (Dat.n (0 : Int))).toI r6 r7 r8 == (0 : Int))), ⟨[], [], [.live ⟨30, kPh, L, false, false⟩]⟩) else none) else some (.v (Bo false), ⟨[], [], [.live ⟨30, kPh, L, false, false⟩]⟩)) else none) else (bif wI ((2 : Int) + wI ((IntKind.u64.wrap wh).tmod (7 : Int))) == (6 : Int) then (bif phOk L then (bif wrB L r1 r2 r3 r4 r5 (([[Dat.n (0 : Int)], [Dat.n (-1 : Int)], [Dat.n (1099511627776 : Int)]].getD (wI ((IntKind.u64.wrap n).tmod (3 : Int))).toNat []).headD (Dat.n (0 : Int))).toI r7 r8 == wI ((2 : Int) + wI ((IntKind.u64.wrap wh).tmod (7 : Int))) then (bif phOk L then some (.v (Bo (!wrB L r1 r2 r3 r4 r5 (([[Dat.n (0 : Int)], [Dat.n (-1 : Int)], [Dat.n (1099511627776 : Int)]].getD (wI ((IntKind.u64.wrap n).tmod (3 : Int))).toNat []).headD (Dat.n (0 : Int))).toI r7 r8 == (0 : Int))), ⟨[], [], [.live ⟨30, kPh, L, false, false⟩]⟩) else none) else some (.v (Bo false), ⟨[], [], [.live ⟨30, kPh, L, false, false⟩]⟩)) else none) else (bif wI ((2 : Int) + wI ((IntKind.u64.wrap wh).tmod (7 : Int))) == (7 : Int) then (bif phOk L then (bif wrB L r1 r2 r3 r4 r5 r6 (([[Dat.n (0 : Int)], [Dat.n (-1 : Int)], [Dat.n (1099511627776 : Int)]].getD (wI ((IntKind.u64.wrap n).tmod (3 : Int))).toNat []).headD (Dat.n (0 : Int))).toI r8 == wI ((2 : Int) + wI ((IntKind.u64.wrap wh).tmod (7 : Int))) then (bif phOk L then some (.v (Bo (!wrB L r1 r2 r3 r4 r5 r6 (([[Dat.n (0 : Int)], [Dat.n (-1 : Int)], [Dat.n (1099511627776 : Int)]].getD (wI ((IntKind.u64.wrap n).tmod (3 : Int))).toNat []).headD (Dat.n (0 : Int))).toI r8 == (0 : Int))), ⟨[], [], [.live ⟨30, kPh, L, false, false⟩]⟩) else none) else some (.v (Bo false), ⟨[], [], [.live ⟨30, kPh, L, false, false⟩]⟩)) else none) else (bif phOk L then (bif wrB L r1 r2 r3 r4 r5 r6 r7 (wI ((-1 : Int) - wI ((IntKind.u64.wrap n).tmod (3 : Int)))) == wI ((2 : Int) + wI ((IntKind.u64.wrap wh).tmod (7 : Int))) then (bif phOk L then some (.v (Bo (!wrB L r1 r2 r3 r4 r5 r6 r7 (wI ((-1 : Int) - wI ((IntKind.u64.wrap n).tmod (3 : Int)))) == (0 : Int))), ⟨[], [], [.live ⟨30, kPh, L, false, false⟩]⟩) else none) else some (.v (Bo false), ⟨[], [], [.live ⟨30, kPh, L, false, false⟩]⟩)) else none))))))) else none)) else none)) else none)) else none) := by kernel_rfl
end Go.Proofs.Ytmfeioinhpdebaa

namespace Go.Proofs.Ytmfeioinhpdebaa
open Go Go.Proofs Go.Sx
set_option linter.unusedVariables false
theorem fr_iff {lo hi n : Int} : frB lo hi n = true ↔ lo ≤ n ∧ n ≤ hi := by
  unfold frB
  cases h : decide (lo ≤ n)
  · have := of_decide_eq_false h
    exact ⟨fun h => (by cases h), fun h => absurd h.1 this⟩
  · have := of_decide_eq_true h
    exact ⟨fun h => ⟨this, of_decide_eq_true h⟩, fun h => decide_eq_true h.2⟩
theorem fr_no {lo hi n : Int} (h : ¬ (lo ≤ n ∧ n ≤ hi)) : frB lo hi n = false := by
  cases hf : frB lo hi n
  · rfl
  · exact absurd (fr_iff.1 hf) h
structure RulesOk (L : List (List Dat)) (r1 r2 r3 r4 r5 r6 r7 r8 : Int) : Prop where
  few : frB 1 4 (L.length : Int) = true
  ph : anyN (bphB L) L.length 0 = false
  n : frB 1 50 r1 = true
  d : frB 1 50 r2 = true
  g : frB 1 50 r3 = true
  e : frB 0 1024 r4 = true
  s : frB 1 65536 r5 = true
  a : frB 1 50 r6 = true
  l : frB 1 1073741824 r7 = true
  f : frB 0 (L.length : Int) r8 = true
theorem wr_zero {L : List (List Dat)} {r1 r2 r3 r4 r5 r6 r7 r8 : Int} (h : wrB L r1 r2 r3 r4 r5 r6 r7 r8 = 0) : RulesOk L r1 r2 r3 r4 r5 r6 r7 r8 := by
  unfold wrB at h
  cases h1 : frB 1 4 (L.length : Int)
  · rw [h1] at h; cases h
  cases h2 : anyN (bphB L) L.length 0
  case true => rw [h1, h2] at h; cases h
  cases h3 : frB 1 50 r1
  · rw [h1, h2, h3] at h; cases h
  cases h4 : frB 1 50 r2
  · rw [h1, h2, h3, h4] at h; cases h
  cases h5 : frB 1 50 r3
  · rw [h1, h2, h3, h4, h5] at h; cases h
  cases h6 : frB 0 1024 r4
  · rw [h1, h2, h3, h4, h5, h6] at h; cases h
  cases h7 : frB 1 65536 r5
  · rw [h1, h2, h3, h4, h5, h6, h7] at h; cases h
  cases h8 : frB 1 50 r6
  · rw [h1, h2, h3, h4, h5, h6, h7, h8] at h; cases h
  cases h9 : frB 1 1073741824 r7
  · rw [h1, h2, h3, h4, h5, h6, h7, h8, h9] at h; cases h
  cases h10 : frB 0 (L.length : Int) r8
  · rw [h1, h2, h3, h4, h5, h6, h7, h8, h9, h10] at h; cases h
  exact ⟨h1, h2, h3, h4, h5, h6, h7, h8, h9, h10⟩
theorem RulesOk.zero {L : List (List Dat)} {r1 r2 r3 r4 r5 r6 r7 r8 : Int} (h : RulesOk L r1 r2 r3 r4 r5 r6 r7 r8) : wrB L r1 r2 r3 r4 r5 r6 r7 r8 = 0 := by
  unfold wrB
  rw [h.few, h.ph, h.n, h.d, h.g, h.e, h.s, h.a, h.l, h.f]
  rfl
theorem RulesOk.ne {L : List (List Dat)} {r1 r2 r3 r4 r5 r6 r7 r8 : Int} (h : RulesOk L r1 r2 r3 r4 r5 r6 r7 r8) (hp : phOk L = true) : phNe L = true := by
  unfold phNe
  refine List.all_eq_true.2 fun l hl => ?_
  obtain ⟨i, hi⟩ := List.getElem?_of_mem hl
  have hlt := (List.getElem?_eq_some_iff.1 hi).1
  have hm := anyN_none.1 h.ph (i : Int) (by omega) (by omega)
  unfold bphB rpB at hm
  rw [Bool.not_eq_false', Bool.and_eq_true, Bool.and_eq_true, Bool.and_eq_true, Bool.and_eq_true] at hm
  have ha := (isArea hm.2.2.2.2).lo
  have e : phA L (i : Int) = (l.headD (.n 0)).toL := by
    unfold phA
    rw [show (i : Int).toNat = i from rfl, List.getD, hi]
    rfl
  rw [e] at ha
  rw [Nat.blt_eq]
  omega
abbrev mH (L : List (List Dat)) : Mem := ⟨[], [], [rH L false false]⟩
theorem rulesWindow (r1 r2 r3 r4 r5 r6 r7 r8 : Int) (L : List (List Dat)) (hw : ∀ o ∈ L, WfN kPh o) (hl : L.length ≤ 9223372036854775807) : runG ΓA13 L0 Try.prog Try.f6 [.ag [.row 0, .v (I r1), .v (I r2), .v (I r3), .v (I r4), .v (I r5), .v (I r6), .v (I r7), .v (I r8)]] (mH L) = some (.v (Bo true), mH L) := by
  refine (treeWin r1 r2 r3 r4 r5 r6 r7 r8 L).trans ?_
  rw [Nat.ble_eq_true_of_le hl]
  cases hf : fewB L
  · rfl
  obtain ⟨hp, _⟩ := few_ok hf hw
  rw [hp, wrRB]
  simp only [Bool.not_true, cond_false, cond_true]
  by_cases hz : wrB L r1 r2 r3 r4 r5 r6 r7 r8 = 0
  · have h := wr_zero hz
    have n := fr_iff.1 h.n
    have d := fr_iff.1 h.d
    rw [hz]
    rw [wI_id (n := r1 + r2) (by omega), wI_id (n := r1 + r2 + 2) (by omega)]
    rw [show (bif !((0 : Int) == 0) then (0 : Int) else r1 + r2 + 2) = r1 + r2 + 2 from rfl]
    rw [decide_eq_true (show r1 + r2 + 2 > r1 by omega), decide_eq_true (show r1 + r2 + 2 > r2 by omega), decide_eq_true (show r1 + r2 + 2 ≥ 4 by omega), decide_eq_true (show r1 + r2 + 2 ≤ 102 by omega)]
    rfl
  · have e : (wrB L r1 r2 r3 r4 r5 r6 r7 r8 == 0) = false := beq_eq_false_iff_ne.2 hz
    simp only [bne, e]
    rfl
theorem u_nonneg (n : Int) : 0 ≤ IntKind.u64.wrap n := by
  rw [← wr_eq true]
  show 0 ≤ n % 18446744073709551616
  omega
theorem u_id {n : Int} (h0 : 0 ≤ n) (h1 : n < 18446744073709551616) : IntKind.u64.wrap n = n := by
  rw [← wr_eq true]
  show n % 18446744073709551616 = n
  omega
theorem u_mod (n : Int) {m : Int} (hm : 0 < m) : 0 ≤ (IntKind.u64.wrap n).tmod m ∧ (IntKind.u64.wrap n).tmod m < m :=
  ⟨Int.tmod_nonneg _ (u_nonneg n), Int.tmod_lt_of_pos _ hm⟩
abbrev badV (u : Int) : Int := (([[Dat.n (0 : Int)], [Dat.n (-1 : Int)], [Dat.n (1099511627776 : Int)]].getD u.toNat []).headD (Dat.n (0 : Int))).toI
theorem bad_is {u : Int} (h0 : 0 ≤ u) (h1 : u < 3) : badV u = 0 ∨ badV u = -1 ∨ badV u = 1099511627776 := by
  obtain rfl | rfl | rfl : u = 0 ∨ u = 1 ∨ u = 2 := by omega
  · exact .inl rfl
  · exact .inr (.inl rfl)
  · exact .inr (.inr rfl)
theorem getD_set {L : List (List Dat)} {j : Nat} {x : List Dat} (hj : j < L.length) : (L.set j x).getD j [] = x := by
  rw [List.getD, List.getElem?_set_self hj]
  rfl
theorem phOk_set {L : List (List Dat)} (h : phOk L = true) {k : Int} (h0 : 0 ≤ k) (h1 : k < (L.length : Int)) (b : Int) : phOk (L.set k.toNat (setD (L.getD k.toNat []) 2 [.n b])) = true := by
  obtain ⟨e, hA⟩ := phOk_get h h0 h1
  rw [e]
  unfold phOk at h ⊢
  rw [Bool.and_eq_true] at h ⊢
  refine ⟨List.all_eq_true.2 fun l hl => ?_, by rw [List.length_set]; exact h.2⟩
  rcases List.mem_or_eq_of_mem_set hl with hl | rfl
  · exact List.all_eq_true.1 h.1 l hl
  · exact hA
theorem ph_set {L : List (List Dat)} (h : phOk L = true) {k : Int} (h0 : 0 ≤ k) (h1 : k < (L.length : Int)) {b : Int} (hb : frB 1 65536 b = false) : anyN (bphB (L.set k.toNat (setD (L.getD k.toNat []) 2 [.n b]))) (L.set k.toNat (setD (L.getD k.toNat []) 2 [.n b])).length 0 = true := by
  cases hn : anyN (bphB (L.set k.toNat (setD (L.getD k.toNat []) 2 [.n b]))) (L.set k.toNat (setD (L.getD k.toNat []) 2 [.n b])).length 0
  · have := anyN_none.1 hn k h0 (by rw [List.length_set]; omega)
    unfold bphB rpB at this
    rw [Bool.not_eq_false', Bool.and_eq_true, Bool.and_eq_true] at this
    have hv := this.2.1
    obtain ⟨e, _⟩ := phOk_get h h0 h1
    unfold phV at hv
    rw [getD_set (by omega), e] at hv
    have : frB 1 65536 b = true := hv
    rw [hb] at this
    cases this
  · rfl
theorem wr_is (c : Int) {x : Int} (h : x = c) (hc : (c == 0) = false) : ∃ b : Bool, (x == c) = true ∧ !(x == 0) = true := ⟨true, by rw [h]; simp, by rw [h, hc]; rfl⟩
theorem rulesFirst (r1 r2 r3 r4 r5 r6 r7 r8 wh n : Int) (L : List (List Dat)) (hw : ∀ o ∈ L, WfN kPh o) (hl : L.length ≤ 9223372036854775807) : runG ΓA13 L0 Try.prog Try.f5 [.ag [.row 0, .v (I r1), .v (I r2), .v (I r3), .v (I r4), .v (I r5), .v (I r6), .v (I r7), .v (I r8)], .v (I wh), .v (I n)] (mH L) = some (.v (Bo true), mH L) := by
  refine (treeFirst r1 r2 r3 r4 r5 r6 r7 r8 wh n L).trans ?_
  rw [Nat.ble_eq_true_of_le hl]
  cases hf : fewB L
  · rfl
  obtain ⟨hp, _⟩ := few_ok hf hw
  rw [hp, wrRB]
  simp only [Bool.not_true, cond_false, cond_true]
  by_cases hz : wrB L r1 r2 r3 r4 r5 r6 r7 r8 = 0
  case neg =>
    have e : (wrB L r1 r2 r3 r4 r5 r6 r7 r8 == 0) = false := beq_eq_false_iff_ne.2 hz
    simp only [bne, e]
    rfl
  have h := wr_zero hz
  have hfew := fr_iff.1 h.few
  have hne := h.ne hp
  rw [hz, hne, show Nat.blt 0 L.length = true by rw [Nat.blt_eq]; omega]
  have e0 : ((L.length : Int) == 0) = false := beq_eq_false_iff_ne.2 (by omega)
  rw [e0, u_id (n := (L.length : Int)) (by omega) (by omega)]
  have hu := u_mod n (m := 3) (by omega)
  have hj := u_mod n (m := (L.length : Int)) (by omega)
  have ht := u_mod wh (m := 7) (by omega)
  generalize (IntKind.u64.wrap n).tmod 3 = u at *
  generalize (IntKind.u64.wrap n).tmod (L.length : Int) = j at *
  generalize (IntKind.u64.wrap wh).tmod 7 = t at *
  rw [wI_id (n := u) (by omega), wI_id (n := j) (by omega), wI_id (n := t) (by omega), wI_id (n := 2 + t) (by omega), decide_eq_true hu.1, decide_eq_true hu.2, decide_eq_true hj.1, decide_eq_true hj.2, e0]
  have hb := bad_is hu.1 hu.2
  have hbn : ∀ lo hi, (1 ≤ lo) → hi ≤ 1073741824 → frB lo hi (badV u) = false := fun lo hi h1 h2 => fr_no (by rcases hb with e | e | e <;> rw [e] <;> omega)
  simp only [badV] at hb hbn
  generalize (([[Dat.n (0 : Int)], [Dat.n (-1 : Int)], [Dat.n (1099511627776 : Int)]].getD u.toNat []).headD (Dat.n (0 : Int))).toI = b at *
  obtain rfl | rfl | rfl | rfl | rfl | rfl | rfl : t = 0 ∨ t = 1 ∨ t = 2 ∨ t = 3 ∨ t = 4 ∨ t = 5 ∨ t = 6 := by omega
  · have e1 : wrB (L.set j.toNat (setD (L.getD j.toNat []) 2 [.n b])) r1 r2 r3 r4 r5 r6 r7 r8 = 2 := by
      unfold wrB
      rw [ph_set hp hj.1 hj.2 (hbn 1 65536 (by omega) (by omega)), List.length_set, h.few]
      rfl
    rw [phOk_set hp hj.1 hj.2 b, e1]
    rfl
  · have e1 : wrB L r1 r2 b r4 r5 r6 r7 r8 = 3 := by
      unfold wrB
      rw [h.few, h.ph, h.n, h.d, hbn 1 50 (by omega) (by omega)]
      rfl
    rw [e1]
    rfl
  · have e1 : wrB L r1 r2 r3 (if (-1 : Int) < b then (-1 : Int) else b) r5 r6 r7 r8 = 4 := by
      unfold wrB
      rw [h.few, h.ph, h.n, h.d, h.g, fr_no (lo := 0) (hi := 1024) (n := if (-1 : Int) < b then (-1 : Int) else b) (by split <;> omega)]
      rfl
    rw [e1]
    rfl
  · have e1 : wrB L r1 r2 r3 r4 b r6 r7 r8 = 5 := by
      unfold wrB
      rw [h.few, h.ph, h.n, h.d, h.g, h.e, hbn 1 65536 (by omega) (by omega)]
      rfl
    rw [e1]
    rfl
  · have e1 : wrB L r1 r2 r3 r4 r5 b r7 r8 = 6 := by
      unfold wrB
      rw [h.few, h.ph, h.n, h.d, h.g, h.e, h.s, hbn 1 50 (by omega) (by omega)]
      rfl
    rw [e1]
    rfl
  · have e1 : wrB L r1 r2 r3 r4 r5 r6 b r8 = 7 := by
      unfold wrB
      rw [h.few, h.ph, h.n, h.d, h.g, h.e, h.s, h.a, hbn 1 1073741824 (by omega) (by omega)]
      rfl
    rw [e1]
    rfl
  · have e1 : wrB L r1 r2 r3 r4 r5 r6 r7 (wI (-1 - u)) = 8 := by
      unfold wrB
      rw [h.few, h.ph, h.n, h.d, h.g, h.e, h.s, h.a, h.l, wI_id (n := -1 - u) (by omega), fr_no (lo := 0) (hi := (L.length : Int)) (n := -1 - u) (by omega)]
      rfl
    rw [e1]
    rfl
/-! the laws' forms -/
theorem rulesWindowLaw (l0 : List TD) (w0 : WfT kR l0) : ∃ m', runG ΓA13 L0 Try.prog Try.f6 (inArgs [.ag (tkIn kR l0)] 0) (inMem [.ag (tkIn kR l0)]) = some (.v (.bool true), m') := by
  obtain ⟨L, r1, r2, r3, r4, r5, r6, r7, r8, rfl, ⟨hw, hl⟩, _⟩ := rul_is w0
  exact ⟨_, rulesWindow r1 r2 r3 r4 r5 r6 r7 r8 L hw hl⟩
theorem rulesFirstLaw (l0 : List TD) (a1 a2 : Int) (w0 : WfT kR l0) (u1 : (Lit.int .i64 a1).wf = true) (u2 : (Lit.int .i64 a2).wf = true) : ∃ m', runG ΓA13 L0 Try.prog Try.f5 (inArgs [.ag (tkIn kR l0), .v (.int .i64 a1), .v (.int .i64 a2)] 0) (inMem [.ag (tkIn kR l0), .v (.int .i64 a1), .v (.int .i64 a2)]) = some (.v (.bool true), m') := by
  obtain ⟨L, r1, r2, r3, r4, r5, r6, r7, r8, rfl, ⟨hw, hl⟩, _⟩ := rul_is w0
  exact ⟨_, rulesFirst r1 r2 r3 r4 r5 r6 r7 r8 a1 a2 L hw hl⟩
end Go.Proofs.Ytmfeioinhpdebaa

