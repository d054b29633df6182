/-
  An area is the same one from whichever corner on, and round the other way: a law over values.
-/
import Derived.Test.YtcjkkfhdnealpaaYd
import Derived.Test.YtcjkkfhdnealpaaYe
namespace Go.Proofs.Ytcjkkfhdnealpaa
open Go Go.Proofs Go.Sx
set_option linter.unusedVariables false
/-! norm -/
/-! cast -/
/-! rep wI ((IntKind.u64.wrap fr).tmod (IntKind.u64.wrap (L.length : Int))) => (frI L fr) -/
/-! rep ([] ++ List.take ((L.length : Int) - (frI L fr)).toNat (List.drop ((frI L fr)).toNat L) ++ List.take ((frI L fr) - (0 : Int)).toNat (List.drop (0 : Nat) L)) => (tnL L fr) -/
def frI (L : List (List Dat)) (fr : Int) : Int := wI ((IntKind.u64.wrap fr).tmod (IntKind.u64.wrap (L.length : Int)))
def tnL (L : List (List Dat)) (fr : Int) : List (List Dat) := [] ++ List.take ((L.length : Int) - (frI L fr)).toNat (List.drop ((frI L fr)).toNat L) ++ List.take ((frI L fr) - (0 : Int)).toNat (List.drop (0 : Nat) L)
noncomputable def ΓPR : Orc := { ΓMv with av := true }
theorem OkPR : ΓPR.Ok Try.prog := ⟨OkMv.call, OkMv.rd, OkMv.eqv⟩
set_option maxRecDepth 20000 in
theorem runPRound (L : List (List Dat)) (fr : Int) (p1 : Int) (p2 : Int) : runG ΓPR L0 Try.prog Try.f4 [.row 0, .v (I fr), .v (.agg #[I p1, I p2])] ⟨[], [], [rP L false false]⟩ = 
    (bif !decide ((L.length : Int) ≤ (12 : Int)) then some (.v (Bo true), ⟨[], [], [.live ⟨24, [.num .i64, .num .i64], L, false, false⟩]⟩) else (bif (L.length : Int) == (0 : Int) then some (.v (Bo true), ⟨[], [], [.live ⟨24, [.num .i64, .num .i64], L, false, false⟩]⟩) else (bif IntKind.u64.wrap (L.length : Int) == (0 : Int) then none else (same ((bif decide ((0 : Int) ≤ (frI L fr)) && (decide ((frI L fr) ≤ (L.length : Int)) && decide ((L.length : Int) ≤ (L.length : Int))) then (same ((bif decide (((0 : Nat) + (List.take ((L.length : Int) - (frI L fr)).toNat (List.drop ((frI L fr)).toNat L)).length) * (16 : Nat) ≤ (140737488355328 : Nat) ∧ (0 : Nat) + (List.take ((L.length : Int) - (frI L fr)).toNat (List.drop ((frI L fr)).toNat L)).length ≤ (9223372036854775807 : Nat)) then (bif true && (decide ((0 : Int) ≤ (frI L fr)) && decide ((frI L fr) ≤ (L.length : Int))) then (bif decide ((([] ++ List.take ((L.length : Int) - (frI L fr)).toNat (List.drop ((frI L fr)).toNat L)).length + (List.take ((frI L fr) - (0 : Int)).toNat (List.drop (0 : Nat) L)).length) * (16 : Nat) ≤ (140737488355328 : Nat) ∧ ([] ++ List.take ((L.length : Int) - (frI L fr)).toNat (List.drop ((frI L fr)).toNat L)).length + (List.take ((frI L fr) - (0 : Int)).toNat (List.drop (0 : Nat) L)).length ≤ (9223372036854775807 : Nat)) then (bif L.length.ble (1000000) then (bif (tnL L fr).length.ble (1000000) then (bif L.length.ble (1000000) then (bif !areaB (tnL L fr) == areaB L then some (.v (Bo false), ⟨[], [], [.live ⟨24, [.num .i64, .num .i64], L, false, false⟩]⟩) else (bif (backL L).length.ble (1000000) then (bif L.length.ble (1000000) then (bif !areaB (backL L) == areaB L then some (.v (Bo false), ⟨[], [], [.live ⟨24, [.num .i64, .num .i64], L, false, false⟩]⟩) else (bif (tnL L fr).length.ble (1000000) then (bif L.length.ble (1000000) then (bif sideI (tnL L fr) p1 p2 != sideI L p1 p2 then some (.v (Bo false), ⟨[], [], [.live ⟨24, [.num .i64, .num .i64], L, false, false⟩]⟩) else (bif (backL L).length.ble (1000000) then (bif L.length.ble (1000000) then (bif sideI (backL L) p1 p2 != sideI L p1 p2 then some (.v (Bo false), ⟨[], [], [.live ⟨24, [.num .i64, .num .i64], L, false, false⟩]⟩) else (bif (tnL L fr).length.ble (1000000) then (bif L.length.ble (1000000) then (bif !leftB (tnL L fr) == leftB L then some (.v (Bo false), ⟨[], [], [.live ⟨24, [.num .i64, .num .i64], L, false, false⟩]⟩) else (bif L.length.ble (1000000) then (bif !areaB L then some (.v (Bo true), ⟨[], [], [.live ⟨24, [.num .i64, .num .i64], L, false, false⟩]⟩) else (bif (backL L).length.ble (1000000) then (bif L.length.ble (1000000) then some (.v (Bo (!leftB (backL L) == leftB L)), ⟨[], [], [.live ⟨24, [.num .i64, .num .i64], L, false, false⟩]⟩) else none) else none)) else none)) else none) else none)) else none) else none)) else none) else none)) else none) else none)) else none) else none) else none) else none) else none) else none)) ((bif true && (decide ((0 : Int) ≤ (frI L fr)) && decide ((frI L fr) ≤ (L.length : Int))) then (bif decide (((0 : Nat) + (List.take ((L.length : Int) - (frI L fr)).toNat (List.drop ((frI L fr)).toNat L)).length) * (16 : Nat) ≤ (140737488355328 : Nat) ∧ (0 : Nat) + (List.take ((L.length : Int) - (frI L fr)).toNat (List.drop ((frI L fr)).toNat L)).length ≤ (9223372036854775807 : Nat)) then (bif decide ((([] ++ List.take ((L.length : Int) - (frI L fr)).toNat (List.drop ((frI L fr)).toNat L)).length + (List.take ((frI L fr) - (0 : Int)).toNat (List.drop (0 : Nat) L)).length) * (16 : Nat) ≤ (140737488355328 : Nat) ∧ ([] ++ List.take ((L.length : Int) - (frI L fr)).toNat (List.drop ((frI L fr)).toNat L)).length + (List.take ((frI L fr) - (0 : Int)).toNat (List.drop (0 : Nat) L)).length ≤ (9223372036854775807 : Nat)) then (bif L.length.ble (1000000) then (bif (tnL L fr).length.ble (1000000) then (bif L.length.ble (1000000) then (bif !areaB (tnL L fr) == areaB L then some (.v (Bo false), ⟨[], [], [.live ⟨24, [.num .i64, .num .i64], L, false, false⟩]⟩) else (bif (backL L).length.ble (1000000) then (bif L.length.ble (1000000) then (bif !areaB (backL L) == areaB L then some (.v (Bo false), ⟨[], [], [.live ⟨24, [.num .i64, .num .i64], L, false, false⟩]⟩) else (bif (tnL L fr).length.ble (1000000) then (bif L.length.ble (1000000) then (bif sideI (tnL L fr) p1 p2 != sideI L p1 p2 then some (.v (Bo false), ⟨[], [], [.live ⟨24, [.num .i64, .num .i64], L, false, false⟩]⟩) else (bif (backL L).length.ble (1000000) then (bif L.length.ble (1000000) then (bif sideI (backL L) p1 p2 != sideI L p1 p2 then some (.v (Bo false), ⟨[], [], [.live ⟨24, [.num .i64, .num .i64], L, false, false⟩]⟩) else (bif (tnL L fr).length.ble (1000000) then (bif L.length.ble (1000000) then (bif !leftB (tnL L fr) == leftB L then some (.v (Bo false), ⟨[], [], [.live ⟨24, [.num .i64, .num .i64], L, false, false⟩]⟩) else (bif L.length.ble (1000000) then (bif !areaB L then some (.v (Bo true), ⟨[], [], [.live ⟨24, [.num .i64, .num .i64], L, false, false⟩]⟩) else (bif (backL L).length.ble (1000000) then (bif L.length.ble (1000000) then some (.v (Bo (!leftB (backL L) == leftB L)), ⟨[], [], [.live ⟨24, [.num .i64, .num .i64], L, false, false⟩]⟩) else none) else none)) else none)) else none) else none)) else none) else none)) else none) else none)) else none) else none)) else none) else none) else none) else none) else none) else none))) else none)) ((same ((bif decide ((0 : Int) ≤ (frI L fr)) && (decide ((frI L fr) ≤ (L.length : Int)) && decide ((L.length : Int) ≤ (L.length : Int))) then (same ((same ((bif decide (((0 : Nat) + (List.take ((L.length : Int) - (frI L fr)).toNat (List.drop ((frI L fr)).toNat L)).length) * (16 : Nat) ≤ (140737488355328 : Nat) ∧ (0 : Nat) + (List.take ((L.length : Int) - (frI L fr)).toNat (List.drop ((frI L fr)).toNat L)).length ≤ (9223372036854775807 : Nat)) then (bif true && (decide ((0 : Int) ≤ (frI L fr)) && decide ((frI L fr) ≤ (L.length : Int))) then (bif decide ((([] ++ List.take ((L.length : Int) - (frI L fr)).toNat (List.drop ((frI L fr)).toNat L)).length + (List.take ((frI L fr) - (0 : Int)).toNat (List.drop (0 : Nat) L)).length) * (16 : Nat) ≤ (140737488355328 : Nat) ∧ ([] ++ List.take ((L.length : Int) - (frI L fr)).toNat (List.drop ((frI L fr)).toNat L)).length + (List.take ((frI L fr) - (0 : Int)).toNat (List.drop (0 : Nat) L)).length ≤ (9223372036854775807 : Nat)) then (bif L.length.ble (1000000) then (bif (tnL L fr).length.ble (1000000) then (bif L.length.ble (1000000) then (bif !areaB (tnL L fr) == areaB L then some (.v (Bo false), ⟨[], [], [.live ⟨24, [.num .i64, .num .i64], L, false, false⟩]⟩) else (bif (backL L).length.ble (1000000) then (bif L.length.ble (1000000) then (bif !areaB (backL L) == areaB L then some (.v (Bo false), ⟨[], [], [.live ⟨24, [.num .i64, .num .i64], L, false, false⟩]⟩) else (bif (tnL L fr).length.ble (1000000) then (bif L.length.ble (1000000) then (bif sideI (tnL L fr) p1 p2 != sideI L p1 p2 then some (.v (Bo false), ⟨[], [], [.live ⟨24, [.num .i64, .num .i64], L, false, false⟩]⟩) else (bif (backL L).length.ble (1000000) then (bif L.length.ble (1000000) then (bif sideI (backL L) p1 p2 != sideI L p1 p2 then some (.v (Bo false), ⟨[], [], [.live ⟨24, [.num .i64, .num .i64], L, false, false⟩]⟩) else (bif (tnL L fr).length.ble (1000000) then (bif L.length.ble (1000000) then (bif !leftB (tnL L fr) == leftB L then some (.v (Bo false), ⟨[], [], [.live ⟨24, [.num .i64, .num .i64], L, false, false⟩]⟩) else (bif L.length.ble (1000000) then (bif !areaB L then some (.v (Bo true), ⟨[], [], [.live ⟨24, [.num .i64, .num .i64], L, false, false⟩]⟩) else (bif (backL L).length.ble (1000000) then (bif L.length.ble (1000000) then some (.v (Bo (!leftB (backL L) == leftB L)), ⟨[], [], [.live ⟨24, [.num .i64, .num .i64], L, false, false⟩]⟩) else none) else none)) else none)) else none) else none)) else none) else none)) else none) else none)) else none) else none)) else none) else none) else none) else none) else none) else none)) ((bif true && (decide ((0 : Int) ≤ (frI L fr)) && decide ((frI L fr) ≤ (L.length : Int))) then (bif decide (((0 : Nat) + (List.take ((L.length : Int) - (frI L fr)).toNat (List.drop ((frI L fr)).toNat L)).length) * (16 : Nat) ≤ (140737488355328 : Nat) ∧ (0 : Nat) + (List.take ((L.length : Int) - (frI L fr)).toNat (List.drop ((frI L fr)).toNat L)).length ≤ (9223372036854775807 : Nat)) then (bif decide ((([] ++ List.take ((L.length : Int) - (frI L fr)).toNat (List.drop ((frI L fr)).toNat L)).length + (List.take ((frI L fr) - (0 : Int)).toNat (List.drop (0 : Nat) L)).length) * (16 : Nat) ≤ (140737488355328 : Nat) ∧ ([] ++ List.take ((L.length : Int) - (frI L fr)).toNat (List.drop ((frI L fr)).toNat L)).length + (List.take ((frI L fr) - (0 : Int)).toNat (List.drop (0 : Nat) L)).length ≤ (9223372036854775807 : Nat)) then (bif L.length.ble (1000000) then (bif (tnL L fr).length.ble (1000000) then (bif L.length.ble (1000000) then (bif !areaB (tnL L fr) == areaB L then some (.v (Bo false), ⟨[], [], [.live ⟨24, [.num .i64, .num .i64], L, false, false⟩]⟩) else (bif (backL L).length.ble (1000000) then (bif L.length.ble (1000000) then (bif !areaB (backL L) == areaB L then some (.v (Bo false), ⟨[], [], [.live ⟨24, [.num .i64, .num .i64], L, false, false⟩]⟩) else (bif (tnL L fr).length.ble (1000000) then (bif L.length.ble (1000000) then (bif sideI (tnL L fr) p1 p2 != sideI L p1 p2 then some (.v (Bo false), ⟨[], [], [.live ⟨24, [.num .i64, .num .i64], L, false, false⟩]⟩) else (bif (backL L).length.ble (1000000) then (bif L.length.ble (1000000) then (bif sideI (backL L) p1 p2 != sideI L p1 p2 then some (.v (Bo false), ⟨[], [], [.live ⟨24, [.num .i64, .num .i64], L, false, false⟩]⟩) else (bif (tnL L fr).length.ble (1000000) then (bif L.length.ble (1000000) then (bif !leftB (tnL L fr) == leftB L then some (.v (Bo false), ⟨[], [], [.live ⟨24, [.num .i64, .num .i64], L, false, false⟩]⟩) else (bif L.length.ble (1000000) then (bif !areaB L then some (.v (Bo true), ⟨[], [], [.live ⟨24, [.num .i64, .num .i64], L, false, false⟩]⟩) else (bif (backL L).length.ble (1000000) then (bif L.length.ble (1000000) then some (.v (Bo (!leftB (backL L) == leftB L)), ⟨[], [], [.live ⟨24, [.num .i64, .num .i64], L, false, false⟩]⟩) else none) else none)) else none)) else none) else none)) else none) else none)) else none) else none)) else none) else none)) else none) else none) else none) else none) else none) else none)))) ((bif true && (decide ((0 : Int) ≤ (frI L fr)) && decide ((frI L fr) ≤ (L.length : Int))) then (bif decide (((0 : Nat) + (List.take ((L.length : Int) - (frI L fr)).toNat (List.drop ((frI L fr)).toNat L)).length) * (16 : Nat) ≤ (140737488355328 : Nat) ∧ (0 : Nat) + (List.take ((L.length : Int) - (frI L fr)).toNat (List.drop ((frI L fr)).toNat L)).length ≤ (9223372036854775807 : Nat)) then (bif decide ((([] ++ List.take ((L.length : Int) - (frI L fr)).toNat (List.drop ((frI L fr)).toNat L)).length + (List.take ((frI L fr) - (0 : Int)).toNat (List.drop (0 : Nat) L)).length) * (16 : Nat) ≤ (140737488355328 : Nat) ∧ ([] ++ List.take ((L.length : Int) - (frI L fr)).toNat (List.drop ((frI L fr)).toNat L)).length + (List.take ((frI L fr) - (0 : Int)).toNat (List.drop (0 : Nat) L)).length ≤ (9223372036854775807 : Nat)) then (bif L.length.ble (1000000) then (bif (tnL L fr).length.ble (1000000) then (bif L.length.ble (1000000) then (bif !areaB (tnL L fr) == areaB L then some (.v (Bo false), ⟨[], [], [.live ⟨24, [.num .i64, .num .i64], L, false, false⟩]⟩) else (bif (backL L).length.ble (1000000) then (bif L.length.ble (1000000) then (bif !areaB (backL L) == areaB L then some (.v (Bo false), ⟨[], [], [.live ⟨24, [.num .i64, .num .i64], L, false, false⟩]⟩) else (bif (tnL L fr).length.ble (1000000) then (bif L.length.ble (1000000) then (bif sideI (tnL L fr) p1 p2 != sideI L p1 p2 then some (.v (Bo false), ⟨[], [], [.live ⟨24, [.num .i64, .num .i64], L, false, false⟩]⟩) else (bif (backL L).length.ble (1000000) then (bif L.length.ble (1000000) then (bif sideI (backL L) p1 p2 != sideI L p1 p2 then some (.v (Bo false), ⟨[], [], [.live ⟨24, [.num .i64, .num .i64], L, false, false⟩]⟩) else (bif (tnL L fr).length.ble (1000000) then (bif L.length.ble (1000000) then (bif !leftB (tnL L fr) == leftB L then some (.v (Bo false), ⟨[], [], [.live ⟨24, [.num .i64, .num .i64], L, false, false⟩]⟩) else (bif L.length.ble (1000000) then (bif !areaB L then some (.v (Bo true), ⟨[], [], [.live ⟨24, [.num .i64, .num .i64], L, false, false⟩]⟩) else (bif (backL L).length.ble (1000000) then (bif L.length.ble (1000000) then some (.v (Bo (!leftB (backL L) == leftB L)), ⟨[], [], [.live ⟨24, [.num .i64, .num .i64], L, false, false⟩]⟩) else none) else none)) else none)) else none) else none)) else none) else none)) else none) else none)) else none) else none)) else none) else none) else none) else none) else none) else none))) else none)) ((bif true && (decide ((0 : Int) ≤ (frI L fr)) && decide ((frI L fr) ≤ (L.length : Int))) then (same ((bif decide ((0 : Int) ≤ (frI L fr)) && (decide ((frI L fr) ≤ (L.length : Int)) && decide ((L.length : Int) ≤ (L.length : Int))) then (bif decide (((0 : Nat) + (List.take ((L.length : Int) - (frI L fr)).toNat (List.drop ((frI L fr)).toNat L)).length) * (16 : Nat) ≤ (140737488355328 : Nat) ∧ (0 : Nat) + (List.take ((L.length : Int) - (frI L fr)).toNat (List.drop ((frI L fr)).toNat L)).length ≤ (9223372036854775807 : Nat)) then (bif decide ((([] ++ List.take ((L.length : Int) - (frI L fr)).toNat (List.drop ((frI L fr)).toNat L)).length + (List.take ((frI L fr) - (0 : Int)).toNat (List.drop (0 : Nat) L)).length) * (16 : Nat) ≤ (140737488355328 : Nat) ∧ ([] ++ List.take ((L.length : Int) - (frI L fr)).toNat (List.drop ((frI L fr)).toNat L)).length + (List.take ((frI L fr) - (0 : Int)).toNat (List.drop (0 : Nat) L)).length ≤ (9223372036854775807 : Nat)) then (bif L.length.ble (1000000) then (bif (tnL L fr).length.ble (1000000) then (bif L.length.ble (1000000) then (bif !areaB (tnL L fr) == areaB L then some (.v (Bo false), ⟨[], [], [.live ⟨24, [.num .i64, .num .i64], L, false, false⟩]⟩) else (bif (backL L).length.ble (1000000) then (bif L.length.ble (1000000) then (bif !areaB (backL L) == areaB L then some (.v (Bo false), ⟨[], [], [.live ⟨24, [.num .i64, .num .i64], L, false, false⟩]⟩) else (bif (tnL L fr).length.ble (1000000) then (bif L.length.ble (1000000) then (bif sideI (tnL L fr) p1 p2 != sideI L p1 p2 then some (.v (Bo false), ⟨[], [], [.live ⟨24, [.num .i64, .num .i64], L, false, false⟩]⟩) else (bif (backL L).length.ble (1000000) then (bif L.length.ble (1000000) then (bif sideI (backL L) p1 p2 != sideI L p1 p2 then some (.v (Bo false), ⟨[], [], [.live ⟨24, [.num .i64, .num .i64], L, false, false⟩]⟩) else (bif (tnL L fr).length.ble (1000000) then (bif L.length.ble (1000000) then (bif !leftB (tnL L fr) == leftB L then some (.v (Bo false), ⟨[], [], [.live ⟨24, [.num .i64, .num .i64], L, false, false⟩]⟩) else (bif L.length.ble (1000000) then (bif !areaB L then some (.v (Bo true), ⟨[], [], [.live ⟨24, [.num .i64, .num .i64], L, false, false⟩]⟩) else (bif (backL L).length.ble (1000000) then (bif L.length.ble (1000000) then some (.v (Bo (!leftB (backL L) == leftB L)), ⟨[], [], [.live ⟨24, [.num .i64, .num .i64], L, false, false⟩]⟩) else none) else none)) else none)) else none) else none)) else none) else none)) else none) else none)) else none) else none)) else none) else none) else none) else none) else none) else none)) ((bif decide ((0 : Int) ≤ (frI L fr)) && (decide ((frI L fr) ≤ (L.length : Int)) && decide ((L.length : Int) ≤ (L.length : Int))) then (bif decide (((0 : Nat) + (List.take ((L.length : Int) - (frI L fr)).toNat (List.drop ((frI L fr)).toNat L)).length) * (16 : Nat) ≤ (140737488355328 : Nat) ∧ (0 : Nat) + (List.take ((L.length : Int) - (frI L fr)).toNat (List.drop ((frI L fr)).toNat L)).length ≤ (9223372036854775807 : Nat)) then (bif decide ((([] ++ List.take ((L.length : Int) - (frI L fr)).toNat (List.drop ((frI L fr)).toNat L)).length + (List.take ((frI L fr) - (0 : Int)).toNat (List.drop (0 : Nat) L)).length) * (16 : Nat) ≤ (140737488355328 : Nat) ∧ ([] ++ List.take ((L.length : Int) - (frI L fr)).toNat (List.drop ((frI L fr)).toNat L)).length + (List.take ((frI L fr) - (0 : Int)).toNat (List.drop (0 : Nat) L)).length ≤ (9223372036854775807 : Nat)) then (bif L.length.ble (1000000) then (bif (tnL L fr).length.ble (1000000) then (bif L.length.ble (1000000) then (bif !areaB (tnL L fr) == areaB L then some (.v (Bo false), ⟨[], [], [.live ⟨24, [.num .i64, .num .i64], L, false, false⟩]⟩) else (bif (backL L).length.ble (1000000) then (bif L.length.ble (1000000) then (bif !areaB (backL L) == areaB L then some (.v (Bo false), ⟨[], [], [.live ⟨24, [.num .i64, .num .i64], L, false, false⟩]⟩) else (bif (tnL L fr).length.ble (1000000) then (bif L.length.ble (1000000) then (bif sideI (tnL L fr) p1 p2 != sideI L p1 p2 then some (.v (Bo false), ⟨[], [], [.live ⟨24, [.num .i64, .num .i64], L, false, false⟩]⟩) else (bif (backL L).length.ble (1000000) then (bif L.length.ble (1000000) then (bif sideI (backL L) p1 p2 != sideI L p1 p2 then some (.v (Bo false), ⟨[], [], [.live ⟨24, [.num .i64, .num .i64], L, false, false⟩]⟩) else (bif (tnL L fr).length.ble (1000000) then (bif L.length.ble (1000000) then (bif !leftB (tnL L fr) == leftB L then some (.v (Bo false), ⟨[], [], [.live ⟨24, [.num .i64, .num .i64], L, false, false⟩]⟩) else (bif L.length.ble (1000000) then (bif !areaB L then some (.v (Bo true), ⟨[], [], [.live ⟨24, [.num .i64, .num .i64], L, false, false⟩]⟩) else (bif (backL L).length.ble (1000000) then (bif L.length.ble (1000000) then some (.v (Bo (!leftB (backL L) == leftB L)), ⟨[], [], [.live ⟨24, [.num .i64, .num .i64], L, false, false⟩]⟩) else none) else none)) else none)) else none) else none)) else none) else none)) else none) else none)) else none) else none)) else none) else none) else none) else none) else none) else none))) else none)))))))) := by kernel_rfl
end Go.Proofs.Ytcjkkfhdnealpaa

namespace Go.Proofs.Ytcjkkfhdnealpaa
open Go Go.Proofs Go.Sx
open Go.Pg (Pt tW pe ed Smp ar)
set_option linter.unusedVariables false
/-! An area's corners and edges as lists: it is the same one from whichever corner on, and round the other way. -/
def pAt (L : List (List Dat)) (k : Int) : Pt := (pX L k, pY L k)
def ptOf (e : List Dat) : Pt := ((e.headD (.n 0)).toI, (e.tail.headD (.n 0)).toI)
def pts (L : List (List Dat)) : List Pt := L.map ptOf
theorem pts_len {L : List (List Dat)} : (pts L).length = L.length := List.length_map ..
theorem pts_el {L : List (List Dat)} {j : Nat} (h : j < L.length) : (pts L)[j]'(by rw [pts_len]; exact h) = pAt L (j : Int) := by
  unfold pAt pX pY pts
  rw [List.getElem_map, Int.toNat_natCast, List.getD_eq_getElem?_getD, List.getElem?_eq_getElem h]
  rfl
theorem pts_mem {L : List (List Dat)} {w : Pt} : w ∈ pts L ↔ ∃ j : Nat, j < L.length ∧ w = pAt L (j : Int) := by
  constructor
  · intro h
    obtain ⟨j, hj, e⟩ := List.getElem_of_mem h
    rw [pts_len] at hj
    exact ⟨j, hj, by rw [← e, pts_el hj]⟩
  · rintro ⟨j, hj, rfl⟩
    rw [← pts_el hj]
    exact List.getElem_mem _
def eL (L : List (List Dat)) : Nat → Int → List (Pt × Pt)
  | 0, _ => []
  | m + 1, k => (pAt L k, pAt L (nx L k)) :: eL L m (k + 1)
theorem nx_nat {L : List (List Dat)} (hl : L.length ≤ 1000000) {j : Nat} (hj : j < L.length) : nx L (j : Int) = if j + 1 = L.length then 0 else ((j + 1 : Nat) : Int) := by
  rw [nx_val (atG_iff.2 ⟨by omega, by omega, hl⟩)]
  by_cases h : j + 1 = L.length
  · rw [if_pos (by omega), if_pos h]
  · rw [if_neg (by omega), if_neg h]; omega
theorem eL_pe {L : List (List Dat)} (hl : L.length ≤ 1000000) : ∀ (m j : Nat), j + (m + 1) = L.length → eL L (m + 1) (j : Int) = pe (pAt L (j : Int)) ((pts L).drop (j + 1) ++ [pAt L 0])
  | 0, j, h => by
    show (_, pAt L (nx L (j : Int))) :: [] = _
    rw [nx_nat hl (by omega), if_pos (by omega), List.drop_of_length_le (by rw [pts_len]; omega)]
    rfl
  | m + 1, j, h => by
    have ih := eL_pe hl m (j + 1) (by omega)
    rw [List.drop_eq_getElem_cons (by rw [pts_len]; omega), pts_el (by omega)]
    show (_, pAt L (nx L (j : Int))) :: eL L (m + 1) ((j : Int) + 1) = (pAt L (j : Int), pAt L ((j + 1 : Nat) : Int)) :: pe _ (_ ++ _)
    rw [nx_nat hl (by omega), if_neg (by omega), show ((j : Int) + 1) = ((j + 1 : Nat) : Int) by omega, ih]
theorem eL_ed {L : List (List Dat)} (h0 : 0 < L.length) (hl : L.length ≤ 1000000) : eL L L.length 0 = ed (pts L) := by
  have := eL_pe hl (L.length - 1) 0 (by omega)
  rw [show L.length - 1 + 1 = L.length by omega] at this
  refine this.trans ?_
  have e : pts L = pAt L 0 :: (pts L).drop 1 := by
    have := List.drop_eq_getElem_cons (l := pts L) (i := 0) (by rw [pts_len]; exact h0)
    rw [List.drop_zero, pts_el h0] at this
    exact this
  rw [e]
  rfl
theorem any_eL {L : List (List Dat)} (q : Pt × Pt → Bool) : ∀ (m : Nat) (k : Int), anyN (fun k => q (pAt L k, pAt L (nx L k))) m k = (eL L m k).any q
  | 0, _ => rfl
  | m + 1, k => by
    show (_ || anyN _ m (k + 1)) = (_ || (eL L m (k + 1)).any q)
    rw [any_eL q m (k + 1)]
def par (r : Pt × Pt → Bool) : List (Pt × Pt) → Bool
  | [] => false
  | e :: l => r e ^^ par r l
theorem par_eL {L : List (List Dat)} (r : Pt × Pt → Bool) : ∀ (m : Nat) (k : Int) (s : Bool), foF (fun k s => s ^^ r (pAt L k, pAt L (nx L k))) m k s = (s ^^ par r (eL L m k))
  | 0, _, s => (Bool.xor_false s).symm
  | m + 1, k, s => by
    show foF _ m (k + 1) (s ^^ r (pAt L k, pAt L (nx L k))) = (s ^^ (r (pAt L k, pAt L (nx L k)) ^^ par r (eL L m (k + 1))))
    rw [par_eL r m (k + 1), Bool.xor_assoc]
theorem ar_eL {L : List (List Dat)} : ∀ (m : Nat) (k : Int) (s : Int), foF (arS L) m k s = s + ar (eL L m k)
  | 0, _, s => (Int.add_zero s).symm
  | m + 1, k, s => by
    show foF (arS L) m (k + 1) (arS L k s) = s + ((pX L k * pY L (nx L k) - pY L k * pX L (nx L k)) + ar (eL L m (k + 1)))
    rw [ar_eL m (k + 1)]
    unfold arS
    omega
/-! Lists turned, and turned round. -/
theorem par_app (r : Pt × Pt → Bool) : ∀ l m, par r (l ++ m) = (par r l ^^ par r m)
  | [], m => (Bool.false_xor _).symm
  | e :: l, m => by
    show (r e ^^ par r (l ++ m)) = ((r e ^^ par r l) ^^ par r m)
    rw [par_app r l m, Bool.xor_assoc]
theorem rot_any (q : Pt × Pt → Bool) (A B : List Pt) : (ed (A ++ B)).any q = (ed (B ++ A)).any q := by
  rw [Bool.eq_iff_iff, List.any_eq_true, List.any_eq_true]
  exact ⟨fun ⟨e, h1, h2⟩ => ⟨e, Pg.rot_mem h1, h2⟩, fun ⟨e, h1, h2⟩ => ⟨e, Pg.rot_mem h1, h2⟩⟩
theorem rot_par (r : Pt × Pt → Bool) (A B : List Pt) : par r (ed (A ++ B)) = par r (ed (B ++ A)) := by
  cases A with
  | nil => simp
  | cons x l =>
    cases B with
    | nil => simp
    | cons y m => rw [Pg.ed_rot, Pg.ed_rot, par_app, par_app, Bool.xor_comm]
def pl : List Pt → List (Pt × Pt)
  | [] => []
  | a :: t => pe a t
theorem pl_snoc (b c : Pt) : ∀ l : List Pt, pl (l ++ [b] ++ [c]) = pl (l ++ [b]) ++ [(b, c)]
  | [] => rfl
  | x :: l => Pg.pe_end x b l c
def swE (e : Pt × Pt) : Pt × Pt := (e.2, e.1)
theorem pl_rev : ∀ l : List Pt, pl l.reverse = ((pl l).map swE).reverse
  | [] => rfl
  | [a] => rfl
  | a :: b :: t => by
    rw [List.reverse_cons, List.reverse_cons, pl_snoc, ← List.reverse_cons, pl_rev (b :: t)]
    show _ = (swE (a, b) :: (pl (b :: t)).map swE).reverse
    rw [List.reverse_cons]
    rfl
theorem ed_rev (x : Pt) (l : List Pt) : ed (x :: l.reverse) = ((ed (x :: l)).map swE).reverse := by
  have := pl_rev (x :: (l ++ [x]))
  rw [List.reverse_cons, List.reverse_append] at this
  exact this
theorem any_sw {q : Pt × Pt → Bool} {l : List (Pt × Pt)} (h : ∀ e ∈ l, q (swE e) = q e) : ((l.map swE).reverse).any q = l.any q := by
  rw [List.any_reverse, List.any_map]
  rw [Bool.eq_iff_iff, List.any_eq_true, List.any_eq_true]
  exact ⟨fun ⟨e, h1, h2⟩ => ⟨e, h1, by rw [← h e h1]; exact h2⟩, fun ⟨e, h1, h2⟩ => ⟨e, h1, by show q (swE e) = true; rw [h e h1]; exact h2⟩⟩
theorem par_sw {r : Pt × Pt → Bool} : ∀ {l : List (Pt × Pt)}, (∀ e ∈ l, r (swE e) = r e) → par r ((l.map swE).reverse) = par r l
  | [], _ => rfl
  | e :: l, h => by
    rw [List.map_cons, List.reverse_cons, par_app, par_sw (fun e he => h e (List.mem_cons_of_mem _ he))]
    show (par r l ^^ (r (swE e) ^^ false)) = (r e ^^ par r l)
    rw [h e List.mem_cons_self, Bool.xor_false, Bool.xor_comm]
theorem ar_sw : ∀ l : List (Pt × Pt), ar ((l.map swE).reverse) = - ar l
  | [] => rfl
  | e :: l => by
    rw [List.map_cons, List.reverse_cons, Pg.ar_app, ar_sw l]
    show - ar l + ((e.2.1 * e.1.2 - e.2.2 * e.1.1) + 0) = -((e.1.1 * e.2.2 - e.1.2 * e.2.1) + ar l)
    grind
theorem smp_rev {x : Pt} {l : List Pt} (h : Smp (x :: l)) : Smp (x :: l.reverse) := by
  have m : ∀ {w}, w ∈ x :: l.reverse → w ∈ x :: l := fun h => by
    rcases List.mem_cons.1 h with rfl | h
    · exact List.mem_cons_self
    · exact List.mem_cons_of_mem _ (List.mem_reverse.1 h)
  have em : ∀ {e}, e ∈ ed (x :: l.reverse) → swE e ∈ ed (x :: l) := fun {e} he => by
    rw [ed_rev, List.mem_reverse, List.mem_map] at he
    obtain ⟨f, hf, rfl⟩ := he
    exact hf
  refine ⟨?_, fun w hw e he ho => (h.vx w (m hw) (swE e) (em he) ho.comm).symm, fun e he f hf hx => h.cr (swE e) (em he) (swE f) (em hf) hx.sw.sw'⟩
  have := h.nd
  rw [List.nodup_cons] at this ⊢
  exact ⟨fun hx => this.1 (List.mem_reverse.1 hx), (List.reverse_perm l).nodup_iff.2 this.2⟩
/-! An area is a simple polygon. -/
theorem near_pl {w : Pt} (h : -1073741824 ≤ w.1 ∧ w.1 ≤ 1073741824 ∧ -1073741824 ≤ w.2 ∧ w.2 ≤ 1073741824) : plR w.1 w.2 = true := by
  rw [plR_iff]; omega
def Near (P : List Pt) : Prop := ∀ w ∈ P, -1073741824 ≤ w.1 ∧ w.1 ≤ 1073741824 ∧ -1073741824 ≤ w.2 ∧ w.2 ≤ 1073741824
theorem eqP_at {L : List (List Dat)} {i j : Int} : eqP L i j = true ↔ pAt L i = pAt L j := by
  show (pX L i == pX L j && (pY L i == pY L j && true)) = true ↔ _
  unfold pAt
  rw [Bool.and_true, Bool.and_eq_true, beq_iff_eq, beq_iff_eq, Prod.mk.injEq]
theorem ed_at {L : List (List Dat)} (h0 : 0 < L.length) (hl : L.length ≤ 1000000) {e : Pt × Pt} : e ∈ ed (pts L) ↔ ∃ j : Nat, j < L.length ∧ e = (pAt L (j : Int), pAt L (nx L (j : Int))) := by
  rw [← eL_ed h0 hl]
  have key : ∀ (m j : Nat), e ∈ eL L m (j : Int) ↔ ∃ i : Nat, j ≤ i ∧ i < j + m ∧ e = (pAt L (i : Int), pAt L (nx L (i : Int))) := by
    intro m
    induction m with
    | zero => intro j; exact ⟨fun h => (by cases h), fun ⟨i, h1, h2, _⟩ => absurd h2 (by omega)⟩
    | succ m ih =>
      intro j
      show e ∈ _ :: eL L m ((j : Int) + 1) ↔ _
      rw [List.mem_cons, show ((j : Int) + 1) = ((j + 1 : Nat) : Int) by omega, ih]
      constructor
      · rintro (h | ⟨i, h1, h2, h3⟩)
        · exact ⟨j, by omega, by omega, h⟩
        · exact ⟨i, by omega, by omega, h3⟩
      · rintro ⟨i, h1, h2, h3⟩
        by_cases hi : i = j
        · subst hi; exact .inl h3
        · exact .inr ⟨i, by omega, by omega, h3⟩
  have := key L.length 0
  rw [show ((0 : Nat) : Int) = 0 from rfl] at this
  rw [this]
  exact ⟨fun ⟨i, h1, h2, h3⟩ => ⟨i, by omega, h3⟩, fun ⟨i, h1, h2⟩ => ⟨i, by omega, by omega, h2⟩⟩
theorem smp_of {L : List (List Dat)} (h : IsArea L) : Near (pts L) ∧ Smp (pts L) := by
  have l1 := h.lo
  have l2 := h.hi
  have h0 : 0 < L.length := by omega
  have hl : L.length ≤ 1000000 := by omega
  have nr : Near (pts L) := fun w hw => by
    obtain ⟨j, hj, rfl⟩ := pts_mem.1 hw
    exact h.near _ (by omega) (by omega)
  have ne : ∀ {i j : Nat}, i < L.length → j < L.length → i ≠ j → pAt L (i : Int) ≠ pAt L (j : Int) := by
    have lt : ∀ {i j : Nat}, i < j → j < L.length → pAt L (i : Int) ≠ pAt L (j : Int) := fun {i j} h1 h2 e => by
      have := h.apt (i : Int) (j : Int) (by omega) (by omega) (by omega)
      unfold badB at this
      rw [eqP_at.2 e] at this
      cases this
    intro i j hi hj hn
    rcases Nat.lt_or_gt_of_ne hn with g | g
    · exact lt g hj
    · exact (lt g hi).symm
  -- two edges that aren't neighbours are apart; neighbours don't lie on one another
  have far : ∀ {i j : Nat}, i < L.length → j < L.length → i ≠ j → nx L (i : Int) ≠ (j : Int) → nx L (j : Int) ≠ (i : Int) → Apart (pX L (i : Int)) (pY L (i : Int)) (pX L (nx L (i : Int))) (pY L (nx L (i : Int))) (pX L (j : Int)) (pY L (j : Int)) (pX L (nx L (j : Int))) (pY L (nx L (j : Int))) := by
    have lt : ∀ {i j : Nat}, i < j → j < L.length → nx L (i : Int) ≠ (j : Int) → nx L (j : Int) ≠ (i : Int) → Apart (pX L (i : Int)) (pY L (i : Int)) (pX L (nx L (i : Int))) (pY L (nx L (i : Int))) (pX L (j : Int)) (pY L (j : Int)) (pX L (nx L (j : Int))) (pY L (nx L (j : Int))) := fun {i j} h1 h2 n1 n2 => by
      have b := h.apt (i : Int) (j : Int) (by omega) (by omega) (by omega)
      unfold badB mwB at b
      rw [Bool.or_eq_false_iff, wI_id (n := (i : Int) + 1) (by omega)] at b
      have n1' : ¬ ((i : Int) + 1 = (j : Int)) := fun e => n1 (by rw [nx_nat hl (by omega), if_neg (by omega)]; omega)
      rw [beq_eq_false_iff_ne.2 n1', beq_eq_false_iff_ne.2 n2] at b
      have ni := nx_lt h (k := (i : Int)) (by omega) (by omega)
      have nj := nx_lt h (k := (j : Int)) (by omega) (by omega)
      exact (meet_apart (h.pl _ (by omega) (by omega)) (h.pl _ ni.1 ni.2) (h.pl _ (by omega) (by omega)) (h.pl _ nj.1 nj.2)).1 b.2
    intro i j hi hj hn n1 n2
    rcases Nat.lt_or_gt_of_ne hn with g | g
    · exact lt g hj n1 n2
    · exact (lt g hi n2 n1).swap
  have adj : ∀ {i k : Nat}, i < L.length → k < L.length → nx L (k : Int) = (i : Int) → ¬ OnP (pX L (k : Int)) (pY L (k : Int)) (pX L (i : Int)) (pY L (i : Int)) (pX L (nx L (i : Int))) (pY L (nx L (i : Int))) := by
    intro i k hi hk e ho
    have ni := nx_lt h (k := (i : Int)) (by omega) (by omega)
    have on := (on_iff (h.pl (k : Int) (by omega) (by omega)) (h.pl (i : Int) (by omega) (by omega)) (h.pl _ ni.1 ni.2)).2 ho
    rcases Nat.lt_or_ge k i with g | g
    · have b := h.apt (k : Int) (i : Int) (by omega) (by omega) (by omega)
      have e' : (k : Int) + 1 = (i : Int) := by rw [nx_nat hl hk] at e; split at e <;> omega
      unfold badB mwB at b
      rw [Bool.or_eq_false_iff, wI_id (n := (k : Int) + 1) (by omega), beq_iff_eq.2 e'] at b
      have b2 := b.2
      rw [cond_true, Bool.or_eq_false_iff, e, on] at b2
      exact absurd b2.2 (by decide)
    · have gi : i = 0 ∧ k + 1 = L.length := by rw [nx_nat hl hk] at e; split at e <;> omega
      have b := h.apt (i : Int) (k : Int) (by omega) (by omega) (by omega)
      unfold badB mwB at b
      rw [Bool.or_eq_false_iff, wI_id (n := (i : Int) + 1) (by omega), beq_eq_false_iff_ne.2 (show (i : Int) + 1 ≠ (k : Int) by omega), beq_iff_eq.2 e] at b
      have b2 := b.2
      rw [cond_false, cond_true, Bool.or_eq_false_iff, e, on] at b2
      exact absurd b2.2 (by decide)
  refine ⟨nr, ?_, fun w hw e he ho => ?_, fun e he f hf hx => ?_⟩
  · rw [List.nodup_iff_pairwise_ne, List.pairwise_iff_getElem]
    intro i j hi hj hij
    rw [pts_len] at hi hj
    rw [pts_el hi, pts_el hj]
    exact ne hi hj (by omega)
  · obtain ⟨k, hk, rfl⟩ := pts_mem.1 hw
    obtain ⟨i, hi, rfl⟩ := (ed_at h0 hl).1 he
    by_cases e1 : k = i
    · subst e1; exact .inl rfl
    by_cases e2 : nx L (i : Int) = (k : Int)
    · right; show _ = pAt L (nx L (i : Int)); rw [e2]
    exfalso
    by_cases e3 : nx L (k : Int) = (i : Int)
    · exact adj hi hk e3 ho
    · exact (far hi hk (Ne.symm e1) e2 e3).c ho
  · obtain ⟨i, hi, rfl⟩ := (ed_at h0 hl).1 he
    obtain ⟨j, hj, rfl⟩ := (ed_at h0 hl).1 hf
    by_cases e1 : i = j
    · subst e1; exact hx.ne1 rfl
    by_cases e2 : nx L (i : Int) = (j : Int)
    · exact hx.ne3 (by show pAt L (nx L (i : Int)) = _; rw [e2])
    by_cases e3 : nx L (j : Int) = (i : Int)
    · exact hx.ne2 (by show _ = pAt L (nx L (j : Int)); rw [e3])
    · exact (far hi hj e1 e2 e3).x hx
theorem area_smp {L : List (List Dat)} (l1 : 3 ≤ L.length) (l2 : L.length ≤ 8) (nr : Near (pts L)) (h : Smp (pts L)) : IsArea L := by
  have h0 : 0 < L.length := by omega
  have hl : L.length ≤ 1000000 := by omega
  have near : ∀ k, 0 ≤ k → k < (L.length : Int) → -1073741824 ≤ pX L k ∧ pX L k ≤ 1073741824 ∧ -1073741824 ≤ pY L k ∧ pY L k ≤ 1073741824 := fun k k0 k1 => by
    have := nr _ (pts_mem.2 ⟨k.toNat, by omega, rfl⟩)
    rw [show ((k.toNat : Nat) : Int) = k by omega] at this
    exact this
  have plA : ∀ k, 0 ≤ k → k < (L.length : Int) → plR (pX L k) (pY L k) = true := fun k k0 k1 => by
    have := near k k0 k1
    rw [plR_iff]; omega
  have inj : ∀ {i j : Nat}, i < L.length → j < L.length → pAt L (i : Int) = pAt L (j : Int) → i = j := fun {i j} hi hj e => by
    have := h.nd
    rw [List.nodup_iff_pairwise_ne, List.pairwise_iff_getElem] at this
    rcases Nat.lt_trichotomy i j with g | g | g
    · exact absurd (by rw [pts_el hi, pts_el hj]; exact e) (this i j (by rw [pts_len]; exact hi) (by rw [pts_len]; exact hj) g)
    · exact g
    · exact absurd (by rw [pts_el hi, pts_el hj]; exact e.symm) (this j i (by rw [pts_len]; exact hj) (by rw [pts_len]; exact hi) g)
  have nxN : ∀ {j : Nat}, j < L.length → ∃ m : Nat, m < L.length ∧ nx L (j : Int) = (m : Int) := fun {j} hj => by
    rw [nx_nat hl hj]
    by_cases g : j + 1 = L.length
    · exact ⟨0, h0, by rw [if_pos g]; rfl⟩
    · exact ⟨j + 1, by omega, by rw [if_neg g]⟩
  have memE : ∀ {j : Nat}, j < L.length → (pAt L (j : Int), pAt L (nx L (j : Int))) ∈ ed (pts L) := fun hj => (ed_at h0 hl).2 ⟨_, hj, rfl⟩
  have memP : ∀ {j : Nat}, j < L.length → pAt L (j : Int) ∈ pts L := fun hj => pts_mem.2 ⟨_, hj, rfl⟩
  -- a corner on an edge is one of its ends
  have on : ∀ {k i m : Nat}, k < L.length → i < L.length → m < L.length → nx L (i : Int) = (m : Int) → k ≠ i → k ≠ m → onB (pX L (k : Int)) (pY L (k : Int)) (pX L (i : Int)) (pY L (i : Int)) (pX L (m : Int)) (pY L (m : Int)) = false := fun {k i m} hk hi hm e n1 n2 => by
    rw [Bool.eq_false_iff]
    intro ho
    have := (on_iff (plA _ (by omega) (by omega)) (plA _ (by omega) (by omega)) (plA _ (by omega) (by omega))).1 ho
    rcases h.vx _ (memP hk) _ (memE hi) (by rw [e]; exact this) with g | g
    · exact n1 (inj hk hi g)
    · refine n2 (inj hk hm ?_)
      rw [e] at g; exact g
  refine ⟨by omega, by omega, plA, near, fun i j i0 ij j1 => ?_⟩
  obtain ⟨i, rfl⟩ := Int.eq_ofNat_of_zero_le i0
  obtain ⟨j, rfl⟩ := Int.eq_ofNat_of_zero_le (show 0 ≤ j by omega)
  have hi : i < L.length := by omega
  have hj : j < L.length := by omega
  obtain ⟨a, ha, ea⟩ := nxN hi
  obtain ⟨b, hb, eb⟩ := nxN hj
  have va : a = if i + 1 = L.length then 0 else i + 1 := by rw [nx_nat hl hi] at ea; split at ea <;> split <;> omega
  have vb : b = if j + 1 = L.length then 0 else j + 1 := by rw [nx_nat hl hj] at eb; split at eb <;> split <;> omega
  unfold badB mwB
  rw [Bool.or_eq_false_iff]
  refine ⟨?_, ?_⟩
  · rw [Bool.eq_false_iff]
    intro e
    have := inj hi hj (eqP_at.1 e)
    omega
  rw [wI_id (n := (i : Int) + 1) (by omega), ea, eb]
  by_cases c1 : (i : Int) + 1 = (j : Int)
  · have aj : a = j := by rw [va]; split <;> omega
    subst aj
    rw [beq_iff_eq.2 c1, cond_true, on hb hi ha ea (by rw [vb]; split <;> omega) (by rw [vb]; split <;> omega), on hi ha hb eb (by omega) (by rw [vb]; split <;> omega)]
    rfl
  rw [beq_eq_false_iff_ne.2 c1, cond_false]
  by_cases c2 : (b : Int) = (i : Int)
  · have bi : b = i := by omega
    subst bi
    rw [beq_iff_eq.2 c2, cond_true, on ha hj hb eb (by rw [va]; split <;> omega) (by rw [va]; split <;> omega), on hj hb ha ea (by omega) (by rw [va]; split <;> omega)]
    rfl
  rw [beq_eq_false_iff_ne.2 c2, cond_false]
  have naj : a ≠ j := by rw [va]; split <;> omega
  refine (meet_apart (plA _ (by omega) (by omega)) (plA _ (by omega) (by omega)) (plA _ (by omega) (by omega)) (plA _ (by omega) (by omega))).2 ?_
  have f : ∀ {k i m : Nat}, k < L.length → i < L.length → m < L.length → onB (pX L (k : Int)) (pY L (k : Int)) (pX L (i : Int)) (pY L (i : Int)) (pX L (m : Int)) (pY L (m : Int)) = false → ¬ OnP (pX L (k : Int)) (pY L (k : Int)) (pX L (i : Int)) (pY L (i : Int)) (pX L (m : Int)) (pY L (m : Int)) := fun {k i m} hk hi hm hf ho => by
    rw [(on_iff (plA _ (by omega) (by omega)) (plA _ (by omega) (by omega)) (plA _ (by omega) (by omega))).2 ho] at hf
    cases hf
  have ab : a ≠ b := by rw [va, vb]; split <;> split <;> omega
  refine ⟨f hi hj hb (on hi hj hb eb (by omega) (by omega)), f ha hj hb (on ha hj hb eb naj ab), f hj hi ha (on hj hi ha ea (by omega) (by omega)), f hb hi ha (on hb hi ha ea (by omega) (by omega)), ?_⟩
  have := h.cr _ (memE hi) _ (memE hj)
  rw [ea, eb] at this
  exact this
theorem area_iff {L : List (List Dat)} : areaB L = true ↔ (3 ≤ L.length ∧ L.length ≤ 8) ∧ Near (pts L) ∧ Smp (pts L) := by
  constructor
  · intro h
    have a := isArea h
    have := smp_of a
    exact ⟨⟨by have := a.lo; omega, by have := a.hi; omega⟩, this.1, this.2⟩
  · rintro ⟨⟨l1, l2⟩, n, s⟩
    exact area_of (area_smp l1 l2 n s)
/-- As it is told by lists. -/
theorem side_ed {L : List (List Dat)} {p1 p2 : Int} (ha : areaB L = true) : sideI L p1 p2 = bif !plR p1 p2 then -1 else bif (ed (pts L)).any (fun e => onB p1 p2 e.1.1 e.1.2 e.2.1 e.2.2) then 0 else bif par (fun e => rgO p1 p2 e.1.1 e.1.2 e.2.1 e.2.2) (ed (pts L)) then 1 else -1 := by
  have a := isArea ha
  have h0 : 0 < L.length := by have := a.lo; omega
  have hl : L.length ≤ 1000000 := by have := a.hi; omega
  rw [← side_eq]
  unfold sideR oddB
  rw [area_eq, ha, ← eL_ed h0 hl]
  have e1 := any_eL (L := L) (fun e => onB p1 p2 e.1.1 e.1.2 e.2.1 e.2.2) L.length 0
  have e2 := par_eL (L := L) (fun e => rgO p1 p2 e.1.1 e.1.2 e.2.1 e.2.2) L.length 0 false
  rw [Bool.false_xor] at e2
  rw [← e1, ← e2]
  rfl
theorem left_ed {L : List (List Dat)} (ha : areaB L = true) : leftB L = decide (0 < ar (ed (pts L))) := by
  have a := isArea ha
  have h0 : 0 < L.length := by have := a.lo; omega
  have hl : L.length ≤ 1000000 := by have := a.hi; omega
  unfold leftB area2
  rw [ha, ar_eL, eL_ed h0 hl, Int.zero_add]
  rfl
theorem side_none {L : List (List Dat)} {p1 p2 : Int} (ha : areaB L = false) : sideI L p1 p2 = -1 := by
  unfold sideI; rw [ha]; rfl
/-- From another corner on. -/
theorem turned {L : List (List Dat)} (f : Nat) (p1 p2 : Int) : areaB (L.drop f ++ L.take f) = areaB L ∧ sideI (L.drop f ++ L.take f) p1 p2 = sideI L p1 p2 ∧ leftB (L.drop f ++ L.take f) = leftB L := by
  have e1 : pts L = pts (L.take f) ++ pts (L.drop f) := by unfold pts; rw [← List.map_append, List.take_append_drop]
  have e2 : pts (L.drop f ++ L.take f) = pts (L.drop f) ++ pts (L.take f) := by unfold pts; rw [List.map_append]
  have len : (L.drop f ++ L.take f).length = L.length := by rw [List.length_append, List.length_drop, List.length_take]; omega
  have ha : areaB (L.drop f ++ L.take f) = areaB L := by
    rw [Bool.eq_iff_iff, area_iff, area_iff, len, e1, e2]
    refine and_congr_right fun _ => and_congr ?_ ⟨fun h => h.rot, fun h => h.rot⟩
    exact ⟨fun h w hw => h w (by rw [List.mem_append] at hw ⊢; exact hw.symm), fun h w hw => h w (by rw [List.mem_append] at hw ⊢; exact hw.symm)⟩
  refine ⟨ha, ?_, ?_⟩
  · cases h : areaB L
    · rw [side_none h, side_none (ha.trans h)]
    · rw [side_ed h, side_ed (ha.trans h), e1, e2, rot_any, rot_par]
  · cases h : areaB L
    · unfold leftB; rw [ha, h]; rfl
    · rw [left_ed h, left_ed (ha.trans h), e1, e2, Pg.rot_ar]
theorem pts_back {L : List (List Dat)} {x : Pt} {l : List Pt} (hl : L.length ≤ 1000000) (e : pts L = x :: l) : pts (backL L) = x :: l.reverse := by
  have n : L.length = l.length + 1 := by rw [← pts_len, e]; rfl
  refine List.ext_getElem (by rw [pts_len, back_len, n, List.length_cons, List.length_reverse]) fun j h1 h2 => ?_
  rw [pts_len, back_len] at h1
  rw [pts_el (by rw [back_len]; exact h1)]
  obtain ⟨g1, g2⟩ := back_get (L := L) (k := (j : Int)) (by omega) (by omega) hl
  rw [pv_val (by omega) (by omega) hl] at g1 g2
  unfold pAt
  rw [g1, g2]
  cases j with
  | zero =>
    rw [if_pos (show ((0 : Nat) : Int) = 0 from rfl)]
    have := pts_el (L := L) (j := 0) (by omega)
    simp only [e] at this
    exact this.symm
  | succ j =>
    rw [if_neg (by omega)]
    have := pts_el (L := L) (j := L.length - (j + 1)) (by omega)
    simp only [e] at this
    rw [List.getElem_cons_succ, List.getElem_reverse]
    rw [show (((L.length - (j + 1) : Nat)) : Int) = (L.length : Int) - ((j + 1 : Nat) : Int) by omega] at this
    refine this.symm.trans ?_
    have q : L.length - (j + 1) = (l.length - 1 - j) + 1 := by omega
    simp only [q, List.getElem_cons_succ]
theorem rg_sw {p1 p2 a1 a2 b1 b2 : Int} (hp : plR p1 p2 = true) (ha : plR a1 a2 = true) (hb : plR b1 b2 = true) : rgO p1 p2 b1 b2 a1 a2 = rgO p1 p2 a1 a2 b1 b2 := by
  rw [rg_cr hp hb ha, rg_cr hp ha hb, crB_back]
theorem on_sw {p1 p2 a1 a2 b1 b2 : Int} (hp : plR p1 p2 = true) (ha : plR a1 a2 = true) (hb : plR b1 b2 = true) : onB p1 p2 b1 b2 a1 a2 = onB p1 p2 a1 a2 b1 b2 := by
  rw [Bool.eq_iff_iff, on_iff hp hb ha, on_iff hp ha hb, OnP.back]
/-- Round the other way. -/
theorem backed {L : List (List Dat)} (h0 : 0 < L.length) (hl : L.length ≤ 1000000) (p1 p2 : Int) : areaB (backL L) = areaB L ∧ sideI (backL L) p1 p2 = sideI L p1 p2 ∧ (areaB L = true → leftB (backL L) = !leftB L) := by
  obtain ⟨x, l, e⟩ : ∃ x l, pts L = x :: l := by
    cases h : pts L with
    | nil => have := pts_len (L := L); rw [h] at this; exact absurd this.symm (by show L.length ≠ 0; omega)
    | cons x l => exact ⟨x, l, rfl⟩
  have e2 := pts_back hl e
  have ha : areaB (backL L) = areaB L := by
    rw [Bool.eq_iff_iff, area_iff, area_iff, back_len, e, e2]
    have m : ∀ {w}, w ∈ x :: l.reverse ↔ w ∈ x :: l := by intro w; simp
    refine and_congr_right fun _ => and_congr ⟨fun h w hw => h w (m.2 hw), fun h w hw => h w (m.1 hw)⟩ ⟨fun h => ?_, smp_rev⟩
    have := smp_rev h
    rwa [List.reverse_reverse] at this
  refine ⟨ha, ?_, fun h => ?_⟩
  · cases h : areaB L
    · rw [side_none h, side_none (ha.trans h)]
    · rw [side_ed h, side_ed (ha.trans h), e, e2, ed_rev]
      have nr := (area_iff.1 h).2.1
      have em : ∀ f ∈ ed (x :: l), plR f.1.1 f.1.2 = true ∧ plR f.2.1 f.2.2 = true := fun f hf => by
        rw [← e] at hf
        have := Pg.ed_mem hf
        exact ⟨near_pl (nr _ this.1), near_pl (nr _ this.2)⟩
      cases hp : plR p1 p2
      · rfl
      · rw [any_sw (fun f hf => on_sw hp (em f hf).1 (em f hf).2), par_sw (fun f hf => rg_sw hp (em f hf).1 (em f hf).2)]
  · rw [left_ed h, left_ed (ha.trans h), e, e2, ed_rev, ar_sw]
    obtain ⟨⟨l1, l2⟩, nr, s⟩ := area_iff.1 h
    have := Pg.area_ne (k := (4294967296, 1)) (by rw [pts_len]; exact l1) s (fun w hw y hy hh => by
      have a := nr w hw
      have b := nr y hy
      unfold Pg.ph at hh
      simp only [] at hh
      exact Prod.ext (by omega) (by omega))
    rw [e] at this
    rw [← decide_not]
    exact decide_eq_decide.2 (by omega)
end Go.Proofs.Ytcjkkfhdnealpaa

namespace Go.Proofs.Ytcjkkfhdnealpaa
open Go Go.Proofs Go.Sx
set_option linter.unusedVariables false
/-! Which corner it is from. -/
theorem frI_in {L : List (List Dat)} {fr : Int} (h0 : 0 < L.length) (h : (L.length : Int) ≤ 12) : 0 ≤ frI L fr ∧ frI L fr < (L.length : Int) := by
  have e1 : IntKind.u64.wrap (L.length : Int) = (L.length : Int) := Int.emod_eq_of_lt (by omega) (by show (L.length : Int) < 18446744073709551616; omega)
  have e2 : 0 ≤ IntKind.u64.wrap fr := Int.emod_nonneg fr (by show (18446744073709551616 : Int) ≠ 0; decide)
  unfold frI
  rw [e1, Int.tmod_eq_emod_of_nonneg e2]
  have a := Int.emod_nonneg (IntKind.u64.wrap fr) (show (L.length : Int) ≠ 0 by omega)
  have b := Int.emod_lt_of_pos (IntKind.u64.wrap fr) (show 0 < (L.length : Int) by omega)
  rw [wI_id (by omega)]
  exact ⟨a, b⟩
theorem polyRound (L : List (List Dat)) (fr p1 p2 : Int) : runG ΓPR L0 Try.prog Try.f4 [.row 0, .v (I fr), .v (.agg #[I p1, I p2])] ⟨[], [], [rP L false false]⟩ = some (.v (Bo true), ⟨[], [], [rP L false false]⟩) := by
  refine (runPRound L fr p1 p2).trans ?_
  by_cases h : (L.length : Int) ≤ 12
  case neg => rw [decide_eq_false h]; rfl
  by_cases h0 : (L.length : Int) = 0
  case pos => rw [decide_eq_true h, beq_iff_eq.2 h0]; rfl
  have hn : 0 < L.length := by omega
  have hl : L.length ≤ 1000000 := by omega
  have f := frI_in (fr := fr) hn h
  have e0 : (IntKind.u64.wrap (L.length : Int) == 0) = false := beq_eq_false_iff_ne.2 (by
    have e1 : IntKind.u64.wrap (L.length : Int) = (L.length : Int) := Int.emod_eq_of_lt (by omega) (by show (L.length : Int) < 18446744073709551616; omega)
    omega)
  have tn : tnL L fr = L.drop (frI L fr).toNat ++ L.take (frI L fr).toNat := by
    unfold tnL
    rw [List.nil_append, List.take_of_length_le (by rw [List.length_drop]; omega), Int.sub_zero, List.drop_zero]
  obtain ⟨t1, t2, t3⟩ := turned (L := L) (frI L fr).toNat p1 p2
  obtain ⟨b1, b2, b3⟩ := backed (L := L) hn hl p1 p2
  rw [← tn] at t1 t2 t3
  have lt : (tnL L fr).length = L.length := by rw [tn, List.length_append, List.length_drop, List.length_take]; omega
  have k1 : (List.take ((L.length : Int) - (frI L fr)).toNat (List.drop ((frI L fr)).toNat L)).length ≤ 12 := by rw [List.length_take, List.length_drop]; omega
  have k2 : (List.take ((frI L fr) - (0 : Int)).toNat (List.drop (0 : Nat) L)).length ≤ 12 := by rw [List.length_take, List.length_drop]; omega
  have g1 : decide (((0 : Nat) + (List.take ((L.length : Int) - (frI L fr)).toNat (List.drop ((frI L fr)).toNat L)).length) * (16 : Nat) ≤ (140737488355328 : Nat) ∧ (0 : Nat) + (List.take ((L.length : Int) - (frI L fr)).toNat (List.drop ((frI L fr)).toNat L)).length ≤ (9223372036854775807 : Nat)) = true := decide_eq_true (by omega)
  have g2 : decide ((([] ++ List.take ((L.length : Int) - (frI L fr)).toNat (List.drop ((frI L fr)).toNat L)).length + (List.take ((frI L fr) - (0 : Int)).toNat (List.drop (0 : Nat) L)).length) * (16 : Nat) ≤ (140737488355328 : Nat) ∧ ([] ++ List.take ((L.length : Int) - (frI L fr)).toNat (List.drop ((frI L fr)).toNat L)).length + (List.take ((frI L fr) - (0 : Int)).toNat (List.drop (0 : Nat) L)).length ≤ (9223372036854775807 : Nat)) = true := decide_eq_true (by rw [List.nil_append]; omega)
  have g3 : decide ((0 : Int) ≤ frI L fr) = true := decide_eq_true f.1
  have g4 : decide (frI L fr ≤ (L.length : Int)) = true := decide_eq_true (by omega)
  have g5 : decide ((L.length : Int) ≤ (L.length : Int)) = true := decide_eq_true (by omega)
  have g6 : L.length.ble 1000000 = true := Nat.ble_eq_true_of_le hl
  have g7 : (tnL L fr).length.ble 1000000 = true := by rw [lt]; exact g6
  have g8 : (backL L).length.ble 1000000 = true := by rw [back_len]; exact g6
  have g9 : decide ((L.length : Int) ≤ (12 : Int)) = true := decide_eq_true h
  have g10 : ((L.length : Int) == (0 : Int)) = false := beq_eq_false_iff_ne.2 h0
  simp only [g1, g2, g3, g4, g5, g6, g7, g8, g9, g10, e0, t1, t2, t3, b1, b2, same_self, Bool.and_self, cond_true, cond_false, Bool.not_true, beq_self_eq_true, bne_self_eq_false]
  cases ha : areaB L
  · rfl
  · rw [b3 ha]
    cases leftB L <;> rfl
theorem polyRoundLaw (l0 : List (List Dat)) (a1 : Int) (l2 : List Dat) (w0 : ∀ o ∈ l0, WfL ks2 o) (n0 : l0.length ≤ 281474976710656) (u1 : (Lit.int .i64 a1).wf = true) (w2 : WfL ks2 l2) : ∃ m', runG ΓPR L0 Try.prog Try.f4 (inArgs [.row 24 ks2 l0, .v (.int .i64 a1), .v (.agg (mkEl ks2 l2).toArray)] 0) (inMem [.row 24 ks2 l0, .v (.int .i64 a1), .v (.agg (mkEl ks2 l2).toArray)]) = some (.v (.bool true), m') := by
  obtain ⟨x1, y1, rfl, _, _⟩ := pt_is w2
  exact ⟨_, polyRound l0 a1 x1 y1⟩
end Go.Proofs.Ytcjkkfhdnealpaa

