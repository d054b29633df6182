/-
  By wishes alone phases go on one by one: a law of phase over values.
-/
import Derived.Test.YtmfeioinhpdebaaYf
namespace Go.Proofs.Ytmfeioinhpdebaa
open Go Go.Proofs Go.Sx
set_option linter.unusedVariables false
/-! norm -/
/-! cast -/
/-! rep [CK.sl 39 [CK0.num IntKind.i64, CK0.num IntKind.i64], .num .i64, .num .i64, .num .i64, .num .i64] => kPh -/
/-! rep (dropT (0 : Nat) (L.getD k.toNat [])) => (L.getD k.toNat []) -/
/-! rep (dropT (0 : Nat) (L2.getD k.toNat [])) => (L2.getD k.toNat []) -/
/-! rep (dropT (0 : Nat) (L.getD i.toNat [])) => (L.getD i.toNat []) -/
/-! rep (dropT (0 : Nat) (M.getD k.toNat [])) => (M.getD k.toNat []) -/
/-! repp (List.brecOn.go (motive := fun x => Nat → List Dat → List (List Dat)) M List.set._f).1 k.toNat ==> M.set k.toNat -/
/-! rep (((L.getD i.toNat []).headD (Dat.n (0 : Int))).toL) => (phA L i) -/
/-! rep ((L.getD i.toNat []).headD (Dat.n (0 : Int))).toL => (phA L i) -/
/-! rep (((L.getD i.toNat []).tail.headD (Dat.n (0 : Int))).toI) => (phG L i) -/
/-! rep ((L.getD i.toNat []).tail.headD (Dat.n (0 : Int))).toI => (phG L i) -/
/-! rep (((L.getD i.toNat []).tail.tail.headD (Dat.n (0 : Int))).toI) => (phV L i) -/
/-! rep ((L.getD i.toNat []).tail.tail.headD (Dat.n (0 : Int))).toI => (phV L i) -/
/-! rep (((L.getD i.toNat []).tail.tail.tail.headD (Dat.n (0 : Int))).toI) => (phM L i) -/
/-! rep ((L.getD i.toNat []).tail.tail.tail.headD (Dat.n (0 : Int))).toI => (phM L i) -/
/-! rep (((L.getD i.toNat []).tail.tail.tail.tail.headD (Dat.n (0 : Int))).toI) => (phU L i) -/
/-! rep ((L.getD i.toNat []).tail.tail.tail.tail.headD (Dat.n (0 : Int))).toI => (phU L i) -/
/-! rep (((L2.getD i.toNat []).headD (Dat.n (0 : Int))).toL) => (phA L2 i) -/
/-! rep ((L2.getD i.toNat []).headD (Dat.n (0 : Int))).toL => (phA L2 i) -/
/-! rep (((L2.getD i.toNat []).tail.headD (Dat.n (0 : Int))).toI) => (phG L2 i) -/
/-! rep ((L2.getD i.toNat []).tail.headD (Dat.n (0 : Int))).toI => (phG L2 i) -/
/-! rep (((L2.getD i.toNat []).tail.tail.headD (Dat.n (0 : Int))).toI) => (phV L2 i) -/
/-! rep ((L2.getD i.toNat []).tail.tail.headD (Dat.n (0 : Int))).toI => (phV L2 i) -/
/-! rep (((L2.getD i.toNat []).tail.tail.tail.headD (Dat.n (0 : Int))).toI) => (phM L2 i) -/
/-! rep ((L2.getD i.toNat []).tail.tail.tail.headD (Dat.n (0 : Int))).toI => (phM L2 i) -/
/-! rep (((L2.getD i.toNat []).tail.tail.tail.tail.headD (Dat.n (0 : Int))).toI) => (phU L2 i) -/
/-! rep ((L2.getD i.toNat []).tail.tail.tail.tail.headD (Dat.n (0 : Int))).toI => (phU L2 i) -/
/-! rep (((M.getD i.toNat []).headD (Dat.n (0 : Int))).toL) => (phA M i) -/
/-! rep ((M.getD i.toNat []).headD (Dat.n (0 : Int))).toL => (phA M i) -/
/-! rep (((M.getD i.toNat []).tail.headD (Dat.n (0 : Int))).toI) => (phG M i) -/
/-! rep ((M.getD i.toNat []).tail.headD (Dat.n (0 : Int))).toI => (phG M i) -/
/-! rep (((M.getD i.toNat []).tail.tail.headD (Dat.n (0 : Int))).toI) => (phV M i) -/
/-! rep ((M.getD i.toNat []).tail.tail.headD (Dat.n (0 : Int))).toI => (phV M i) -/
/-! rep (((M.getD i.toNat []).tail.tail.tail.headD (Dat.n (0 : Int))).toI) => (phM M i) -/
/-! rep ((M.getD i.toNat []).tail.tail.tail.headD (Dat.n (0 : Int))).toI => (phM M i) -/
/-! rep (((M.getD i.toNat []).tail.tail.tail.tail.headD (Dat.n (0 : Int))).toI) => (phU M i) -/
/-! rep ((M.getD i.toNat []).tail.tail.tail.tail.headD (Dat.n (0 : Int))).toI => (phU M i) -/
/-! rep (((L.getD k.toNat []).headD (Dat.n (0 : Int))).toL) => (phA L k) -/
/-! rep ((L.getD k.toNat []).headD (Dat.n (0 : Int))).toL => (phA L k) -/
/-! rep (((L.getD k.toNat []).tail.headD (Dat.n (0 : Int))).toI) => (phG L k) -/
/-! rep ((L.getD k.toNat []).tail.headD (Dat.n (0 : Int))).toI => (phG L k) -/
/-! rep (((L.getD k.toNat []).tail.tail.headD (Dat.n (0 : Int))).toI) => (phV L k) -/
/-! rep ((L.getD k.toNat []).tail.tail.headD (Dat.n (0 : Int))).toI => (phV L k) -/
/-! rep (((L.getD k.toNat []).tail.tail.tail.headD (Dat.n (0 : Int))).toI) => (phM L k) -/
/-! rep ((L.getD k.toNat []).tail.tail.tail.headD (Dat.n (0 : Int))).toI => (phM L k) -/
/-! rep (((L.getD k.toNat []).tail.tail.tail.tail.headD (Dat.n (0 : Int))).toI) => (phU L k) -/
/-! rep ((L.getD k.toNat []).tail.tail.tail.tail.headD (Dat.n (0 : Int))).toI => (phU L k) -/
/-! rep (((L2.getD k.toNat []).headD (Dat.n (0 : Int))).toL) => (phA L2 k) -/
/-! rep ((L2.getD k.toNat []).headD (Dat.n (0 : Int))).toL => (phA L2 k) -/
/-! rep (((L2.getD k.toNat []).tail.headD (Dat.n (0 : Int))).toI) => (phG L2 k) -/
/-! rep ((L2.getD k.toNat []).tail.headD (Dat.n (0 : Int))).toI => (phG L2 k) -/
/-! rep (((L2.getD k.toNat []).tail.tail.headD (Dat.n (0 : Int))).toI) => (phV L2 k) -/
/-! rep ((L2.getD k.toNat []).tail.tail.headD (Dat.n (0 : Int))).toI => (phV L2 k) -/
/-! rep (((L2.getD k.toNat []).tail.tail.tail.headD (Dat.n (0 : Int))).toI) => (phM L2 k) -/
/-! rep ((L2.getD k.toNat []).tail.tail.tail.headD (Dat.n (0 : Int))).toI => (phM L2 k) -/
/-! rep (((L2.getD k.toNat []).tail.tail.tail.tail.headD (Dat.n (0 : Int))).toI) => (phU L2 k) -/
/-! rep ((L2.getD k.toNat []).tail.tail.tail.tail.headD (Dat.n (0 : Int))).toI => (phU L2 k) -/
/-! rep (((M.getD k.toNat []).headD (Dat.n (0 : Int))).toL) => (phA M k) -/
/-! rep ((M.getD k.toNat []).headD (Dat.n (0 : Int))).toL => (phA M k) -/
/-! rep (((M.getD k.toNat []).tail.headD (Dat.n (0 : Int))).toI) => (phG M k) -/
/-! rep ((M.getD k.toNat []).tail.headD (Dat.n (0 : Int))).toI => (phG M k) -/
/-! rep (((M.getD k.toNat []).tail.tail.headD (Dat.n (0 : Int))).toI) => (phV M k) -/
/-! rep ((M.getD k.toNat []).tail.tail.headD (Dat.n (0 : Int))).toI => (phV M k) -/
/-! rep (((M.getD k.toNat []).tail.tail.tail.headD (Dat.n (0 : Int))).toI) => (phM M k) -/
/-! rep ((M.getD k.toNat []).tail.tail.tail.headD (Dat.n (0 : Int))).toI => (phM M k) -/
/-! rep (((M.getD k.toNat []).tail.tail.tail.tail.headD (Dat.n (0 : Int))).toI) => (phU M k) -/
/-! rep ((M.getD k.toNat []).tail.tail.tail.tail.headD (Dat.n (0 : Int))).toI => (phU M k) -/

/-! rep (((Q.getD k.toNat []).headD (Dat.n (0 : Int))).toI) => (opK Q k) -/
/-! rep ((Q.getD k.toNat []).headD (Dat.n (0 : Int))).toI => (opK Q k) -/
def opK (Q : List (List Dat)) (k : Int) : Int := ((Q.getD k.toNat []).headD (.n 0)).toI
/-! rep (((Q.getD k.toNat []).tail.headD (Dat.n (0 : Int))).toI) => (opP Q k) -/
/-! rep ((Q.getD k.toNat []).tail.headD (Dat.n (0 : Int))).toI => (opP Q k) -/
def opP (Q : List (List Dat)) (k : Int) : Int := ((Q.getD k.toNat []).tail.headD (.n 0)).toI
/-! rep (((Q.getD k.toNat []).tail.tail.headD (Dat.n (0 : Int))).toI) => (opI Q k) -/
/-! rep ((Q.getD k.toNat []).tail.tail.headD (Dat.n (0 : Int))).toI => (opI Q k) -/
def opI (Q : List (List Dat)) (k : Int) : Int := ((Q.getD k.toNat []).tail.tail.headD (.n 0)).toI
/-! rep (((Q.getD k.toNat []).tail.tail.tail.headD (Dat.n (0 : Int))).toB) => (opM Q k) -/
/-! rep ((Q.getD k.toNat []).tail.tail.tail.headD (Dat.n (0 : Int))).toB => (opM Q k) -/
def opM (Q : List (List Dat)) (k : Int) : Bool := ((Q.getD k.toNat []).tail.tail.tail.headD (.n 0)).toB
/-! rep (((Q.getD k.toNat []).tail.tail.tail.tail.headD (Dat.n (0 : Int))).toB) => (opT Q k) -/
/-! rep ((Q.getD k.toNat []).tail.tail.tail.tail.headD (Dat.n (0 : Int))).toB => (opT Q k) -/
def opT (Q : List (List Dat)) (k : Int) : Bool := ((Q.getD k.toNat []).tail.tail.tail.tail.headD (.n 0)).toB
/-! rep (((Q.getD k.toNat []).tail.tail.tail.tail.tail.headD (Dat.n (0 : Int))).toB) => (opN Q k) -/
/-! rep ((Q.getD k.toNat []).tail.tail.tail.tail.tail.headD (Dat.n (0 : Int))).toB => (opN Q k) -/
def opN (Q : List (List Dat)) (k : Int) : Bool := ((Q.getD k.toNat []).tail.tail.tail.tail.tail.headD (.n 0)).toB
/-! rep (((Q.getD k.toNat []).tail.tail.tail.tail.tail.tail.headD (Dat.n (0 : Int))).toI) => (opH Q k) -/
/-! rep ((Q.getD k.toNat []).tail.tail.tail.tail.tail.tail.headD (Dat.n (0 : Int))).toI => (opH Q k) -/
def opH (Q : List (List Dat)) (k : Int) : Int := ((Q.getD k.toNat []).tail.tail.tail.tail.tail.tail.headD (.n 0)).toI
abbrev kOp : List CK := [.num .i64, .num .i64, .num .i64, .bool, .bool, .bool, .num .i64]
abbrev rO (Q : List (List Dat)) : RowS := .live ⟨62, kOp, Q, false, false⟩
/-! rep .live ⟨62, [.num .i64, .num .i64, .num .i64, .bool, .bool, .bool, .num .i64], Q, false, false⟩ => rO Q -/
noncomputable def bdSl : Code := loopAt (Try.f12.body.getD .skip) 0
def kSl : List Bool := maskOf 106 [2,5,6,31,32,33]
def xSl (e : Ex) : List Bool := match e with
  | .exit _ => maskOf 106 []
  | .ret => maskOf 106 [4]
  | .normal => maskOf 106 [2,5,6,31,32,33]
def KSl (e : Ex) (st : St) : Option (Ex × St) := some (e, cutC 0 2 (xSl e) st)
set_option maxRecDepth 20000 in
theorem stepSl (r1 : Int) (r2 : Int) (r3 : Int) (r4 : Int) (r5 : Int) (r6 : Int) (r7 : Int) (r8 : Int) (p : Int) (v : Int) (sn : Int) (nn : Int) (k : Int) (L : List (List Dat)) (Q : List (List Dat)) (n : Nat) : evLoop ΓNi Try.prog L0 (cutC 0 2 kSl) bdSl (n + 1) (mk kSl [.ptr 0 0, .ptr 1 0, .v (I sn), .row 1, .v (I nn), .v (I k)] ⟨[[.row 0, .v (I r1), .v (I r2), .v (I r3), .v (I r4), .v (I r5), .v (I r6), .v (I r7), .v (I r8)], [.row 2, .v (I r1), .v (I r2), .v (I r3), .v (I r4), .v (I r5), .v (I r6), .v (I r7), .v (I r8), .v (I p), .ptr 2 0], [.v (I 1000000), .v (I v)]], [true, true, true], [rH L false false, rO Q, rH L true false]⟩) KSl =
    (bif decide (k < nn) then (bif decide ((0 : Int) ≤ k) && decide (k < (Q.length : Int)) then (bif decide ((0 : Int) ≤ p) && decide (p < (L.length : Int)) then (bif !cyB L p (wishB L p v (opH Q k) (opN Q k)) (opT Q k) == ((bif cyB L p (wishB L p v (opH Q k) (opN Q k)) (opT Q k) then wI (p + (1 : Int)) else p) == wI (p + (1 : Int))) then some (.ret, mk (xSl .ret) [.v (Bo false)] ⟨[], [], [.live ⟨30, kPh, L, false, false⟩, rO Q]⟩) else (bif !cyB L p (wishB L p v (opH Q k) (opN Q k)) (opT Q k) then (bif (bif cyB L p (wishB L p v (opH Q k) (opN Q k)) (opT Q k) then wI (p + (1 : Int)) else p) != p then some (.ret, mk (xSl .ret) [.v (Bo false)] ⟨[], [], [.live ⟨30, kPh, L, false, false⟩, rO Q]⟩) else (bif cyB L p (wishB L p v (opH Q k) (opN Q k)) (opT Q k) then (bif decide ((0 : Int) ≤ p) && decide (p < (L.length : Int)) then (bif decide (sn < ((L.getD p.toNat []).tail.tail.tail.headD (Dat.n (0 : Int))).toI) then some (.ret, mk (xSl .ret) [.v (Bo false)] ⟨[], [], [.live ⟨30, kPh, L, false, false⟩, rO Q]⟩) else (bif decide ((0 : Int) ≤ p) && decide (p < (L.length : Int)) then (bif decide ((opH Q k) < ((L.getD p.toNat []).tail.tail.tail.tail.headD (Dat.n (0 : Int))).toI) then some (.ret, mk (xSl .ret) [.v (Bo false)] ⟨[], [], [.live ⟨30, kPh, L, false, false⟩, rO Q]⟩) else (bif !(opN Q k) then some (.ret, mk (xSl .ret) [.v (Bo false)] ⟨[], [], [.live ⟨30, kPh, L, false, false⟩, rO Q]⟩) else (bif !(opT Q k) then some (.ret, mk (xSl .ret) [.v (Bo false)] ⟨[], [], [.live ⟨30, kPh, L, false, false⟩, rO Q]⟩) else (bif cyB L p (wishB L p v (opH Q k) (opN Q k)) (opT Q k) then (bif (bif cyB L p (wishB L p v (opH Q k) (opN Q k)) (opT Q k) then (0 : Int) else addN' (1000000 : Int) v (1 : Int)) != (0 : Int) then some (.ret, mk (xSl .ret) [.v (Bo false)] ⟨[], [], [.live ⟨30, kPh, L, false, false⟩, rO Q]⟩) else evLoop ΓNi Try.prog L0 (cutC 0 2 kSl) bdSl n (mk kSl [.ptr 0 0, .ptr 1 0, .v (I 0), .row 1, .v (I nn), .v (I (wI (k + (1 : Int))))] ⟨[[.row 0, .v (I r1), .v (I r2), .v (I r3), .v (I r4), .v (I r5), .v (I r6), .v (I r7), .v (I r8)], [.row 2, .v (I r1), .v (I r2), .v (I r3), .v (I r4), .v (I r5), .v (I r6), .v (I r7), .v (I r8), .v (I (bif cyB L p (wishB L p v (opH Q k) (opN Q k)) (opT Q k) then wI (p + (1 : Int)) else p)), .ptr 2 0], [.v (I 1000000), .v (I (bif cyB L p (wishB L p v (opH Q k) (opN Q k)) (opT Q k) then (0 : Int) else addN' (1000000 : Int) v (1 : Int)))]], [true, true, true], [.live ⟨30, kPh, L, false, false⟩, rO Q, .live ⟨30, kPh, L, true, false⟩]⟩) KSl) else (bif (bif cyB L p (wishB L p v (opH Q k) (opN Q k)) (opT Q k) then (0 : Int) else addN' (1000000 : Int) v (1 : Int)) != wI (sn + (1 : Int)) then some (.ret, mk (xSl .ret) [.v (Bo false)] ⟨[], [], [.live ⟨30, kPh, L, false, false⟩, rO Q]⟩) else evLoop ΓNi Try.prog L0 (cutC 0 2 kSl) bdSl n (mk kSl [.ptr 0 0, .ptr 1 0, .v (I (wI (sn + (1 : Int)))), .row 1, .v (I nn), .v (I (wI (k + (1 : Int))))] ⟨[[.row 0, .v (I r1), .v (I r2), .v (I r3), .v (I r4), .v (I r5), .v (I r6), .v (I r7), .v (I r8)], [.row 2, .v (I r1), .v (I r2), .v (I r3), .v (I r4), .v (I r5), .v (I r6), .v (I r7), .v (I r8), .v (I (bif cyB L p (wishB L p v (opH Q k) (opN Q k)) (opT Q k) then wI (p + (1 : Int)) else p)), .ptr 2 0], [.v (I 1000000), .v (I (bif cyB L p (wishB L p v (opH Q k) (opN Q k)) (opT Q k) then (0 : Int) else addN' (1000000 : Int) v (1 : Int)))]], [true, true, true], [.live ⟨30, kPh, L, false, false⟩, rO Q, .live ⟨30, kPh, L, true, false⟩]⟩) KSl))))) else none)) else none) else (bif cyB L p (wishB L p v (opH Q k) (opN Q k)) (opT Q k) then (bif (bif cyB L p (wishB L p v (opH Q k) (opN Q k)) (opT Q k) then (0 : Int) else addN' (1000000 : Int) v (1 : Int)) != (0 : Int) then some (.ret, mk (xSl .ret) [.v (Bo false)] ⟨[], [], [.live ⟨30, kPh, L, false, false⟩, rO Q]⟩) else evLoop ΓNi Try.prog L0 (cutC 0 2 kSl) bdSl n (mk kSl [.ptr 0 0, .ptr 1 0, .v (I 0), .row 1, .v (I nn), .v (I (wI (k + (1 : Int))))] ⟨[[.row 0, .v (I r1), .v (I r2), .v (I r3), .v (I r4), .v (I r5), .v (I r6), .v (I r7), .v (I r8)], [.row 2, .v (I r1), .v (I r2), .v (I r3), .v (I r4), .v (I r5), .v (I r6), .v (I r7), .v (I r8), .v (I (bif cyB L p (wishB L p v (opH Q k) (opN Q k)) (opT Q k) then wI (p + (1 : Int)) else p)), .ptr 2 0], [.v (I 1000000), .v (I (bif cyB L p (wishB L p v (opH Q k) (opN Q k)) (opT Q k) then (0 : Int) else addN' (1000000 : Int) v (1 : Int)))]], [true, true, true], [.live ⟨30, kPh, L, false, false⟩, rO Q, .live ⟨30, kPh, L, true, false⟩]⟩) KSl) else (bif (bif cyB L p (wishB L p v (opH Q k) (opN Q k)) (opT Q k) then (0 : Int) else addN' (1000000 : Int) v (1 : Int)) != wI (sn + (1 : Int)) then some (.ret, mk (xSl .ret) [.v (Bo false)] ⟨[], [], [.live ⟨30, kPh, L, false, false⟩, rO Q]⟩) else evLoop ΓNi Try.prog L0 (cutC 0 2 kSl) bdSl n (mk kSl [.ptr 0 0, .ptr 1 0, .v (I (wI (sn + (1 : Int)))), .row 1, .v (I nn), .v (I (wI (k + (1 : Int))))] ⟨[[.row 0, .v (I r1), .v (I r2), .v (I r3), .v (I r4), .v (I r5), .v (I r6), .v (I r7), .v (I r8)], [.row 2, .v (I r1), .v (I r2), .v (I r3), .v (I r4), .v (I r5), .v (I r6), .v (I r7), .v (I r8), .v (I (bif cyB L p (wishB L p v (opH Q k) (opN Q k)) (opT Q k) then wI (p + (1 : Int)) else p)), .ptr 2 0], [.v (I 1000000), .v (I (bif cyB L p (wishB L p v (opH Q k) (opN Q k)) (opT Q k) then (0 : Int) else addN' (1000000 : Int) v (1 : Int)))]], [true, true, true], [.live ⟨30, kPh, L, false, false⟩, rO Q, .live ⟨30, kPh, L, true, false⟩]⟩) KSl)))) else (bif cyB L p (wishB L p v (opH Q k) (opN Q k)) (opT Q k) then (bif decide ((0 : Int) ≤ p) && decide (p < (L.length : Int)) then (bif decide (sn < ((L.getD p.toNat []).tail.tail.tail.headD (Dat.n (0 : Int))).toI) then some (.ret, mk (xSl .ret) [.v (Bo false)] ⟨[], [], [.live ⟨30, kPh, L, false, false⟩, rO Q]⟩) else (bif decide ((0 : Int) ≤ p) && decide (p < (L.length : Int)) then (bif decide ((opH Q k) < ((L.getD p.toNat []).tail.tail.tail.tail.headD (Dat.n (0 : Int))).toI) then some (.ret, mk (xSl .ret) [.v (Bo false)] ⟨[], [], [.live ⟨30, kPh, L, false, false⟩, rO Q]⟩) else (bif !(opN Q k) then some (.ret, mk (xSl .ret) [.v (Bo false)] ⟨[], [], [.live ⟨30, kPh, L, false, false⟩, rO Q]⟩) else (bif !(opT Q k) then some (.ret, mk (xSl .ret) [.v (Bo false)] ⟨[], [], [.live ⟨30, kPh, L, false, false⟩, rO Q]⟩) else (bif cyB L p (wishB L p v (opH Q k) (opN Q k)) (opT Q k) then (bif (bif cyB L p (wishB L p v (opH Q k) (opN Q k)) (opT Q k) then (0 : Int) else addN' (1000000 : Int) v (1 : Int)) != (0 : Int) then some (.ret, mk (xSl .ret) [.v (Bo false)] ⟨[], [], [.live ⟨30, kPh, L, false, false⟩, rO Q]⟩) else evLoop ΓNi Try.prog L0 (cutC 0 2 kSl) bdSl n (mk kSl [.ptr 0 0, .ptr 1 0, .v (I 0), .row 1, .v (I nn), .v (I (wI (k + (1 : Int))))] ⟨[[.row 0, .v (I r1), .v (I r2), .v (I r3), .v (I r4), .v (I r5), .v (I r6), .v (I r7), .v (I r8)], [.row 2, .v (I r1), .v (I r2), .v (I r3), .v (I r4), .v (I r5), .v (I r6), .v (I r7), .v (I r8), .v (I (bif cyB L p (wishB L p v (opH Q k) (opN Q k)) (opT Q k) then wI (p + (1 : Int)) else p)), .ptr 2 0], [.v (I 1000000), .v (I (bif cyB L p (wishB L p v (opH Q k) (opN Q k)) (opT Q k) then (0 : Int) else addN' (1000000 : Int) v (1 : Int)))]], [true, true, true], [.live ⟨30, kPh, L, false, false⟩, rO Q, .live ⟨30, kPh, L, true, false⟩]⟩) KSl) else (bif (bif cyB L p (wishB L p v (opH Q k) (opN Q k)) (opT Q k) then (0 : Int) else addN' (1000000 : Int) v (1 : Int)) != wI (sn + (1 : Int)) then some (.ret, mk (xSl .ret) [.v (Bo false)] ⟨[], [], [.live ⟨30, kPh, L, false, false⟩, rO Q]⟩) else evLoop ΓNi Try.prog L0 (cutC 0 2 kSl) bdSl n (mk kSl [.ptr 0 0, .ptr 1 0, .v (I (wI (sn + (1 : Int)))), .row 1, .v (I nn), .v (I (wI (k + (1 : Int))))] ⟨[[.row 0, .v (I r1), .v (I r2), .v (I r3), .v (I r4), .v (I r5), .v (I r6), .v (I r7), .v (I r8)], [.row 2, .v (I r1), .v (I r2), .v (I r3), .v (I r4), .v (I r5), .v (I r6), .v (I r7), .v (I r8), .v (I (bif cyB L p (wishB L p v (opH Q k) (opN Q k)) (opT Q k) then wI (p + (1 : Int)) else p)), .ptr 2 0], [.v (I 1000000), .v (I (bif cyB L p (wishB L p v (opH Q k) (opN Q k)) (opT Q k) then (0 : Int) else addN' (1000000 : Int) v (1 : Int)))]], [true, true, true], [.live ⟨30, kPh, L, false, false⟩, rO Q, .live ⟨30, kPh, L, true, false⟩]⟩) KSl))))) else none)) else none) else (bif cyB L p (wishB L p v (opH Q k) (opN Q k)) (opT Q k) then (bif (bif cyB L p (wishB L p v (opH Q k) (opN Q k)) (opT Q k) then (0 : Int) else addN' (1000000 : Int) v (1 : Int)) != (0 : Int) then some (.ret, mk (xSl .ret) [.v (Bo false)] ⟨[], [], [.live ⟨30, kPh, L, false, false⟩, rO Q]⟩) else evLoop ΓNi Try.prog L0 (cutC 0 2 kSl) bdSl n (mk kSl [.ptr 0 0, .ptr 1 0, .v (I 0), .row 1, .v (I nn), .v (I (wI (k + (1 : Int))))] ⟨[[.row 0, .v (I r1), .v (I r2), .v (I r3), .v (I r4), .v (I r5), .v (I r6), .v (I r7), .v (I r8)], [.row 2, .v (I r1), .v (I r2), .v (I r3), .v (I r4), .v (I r5), .v (I r6), .v (I r7), .v (I r8), .v (I (bif cyB L p (wishB L p v (opH Q k) (opN Q k)) (opT Q k) then wI (p + (1 : Int)) else p)), .ptr 2 0], [.v (I 1000000), .v (I (bif cyB L p (wishB L p v (opH Q k) (opN Q k)) (opT Q k) then (0 : Int) else addN' (1000000 : Int) v (1 : Int)))]], [true, true, true], [.live ⟨30, kPh, L, false, false⟩, rO Q, .live ⟨30, kPh, L, true, false⟩]⟩) KSl) else (bif (bif cyB L p (wishB L p v (opH Q k) (opN Q k)) (opT Q k) then (0 : Int) else addN' (1000000 : Int) v (1 : Int)) != wI (sn + (1 : Int)) then some (.ret, mk (xSl .ret) [.v (Bo false)] ⟨[], [], [.live ⟨30, kPh, L, false, false⟩, rO Q]⟩) else evLoop ΓNi Try.prog L0 (cutC 0 2 kSl) bdSl n (mk kSl [.ptr 0 0, .ptr 1 0, .v (I (wI (sn + (1 : Int)))), .row 1, .v (I nn), .v (I (wI (k + (1 : Int))))] ⟨[[.row 0, .v (I r1), .v (I r2), .v (I r3), .v (I r4), .v (I r5), .v (I r6), .v (I r7), .v (I r8)], [.row 2, .v (I r1), .v (I r2), .v (I r3), .v (I r4), .v (I r5), .v (I r6), .v (I r7), .v (I r8), .v (I (bif cyB L p (wishB L p v (opH Q k) (opN Q k)) (opT Q k) then wI (p + (1 : Int)) else p)), .ptr 2 0], [.v (I 1000000), .v (I (bif cyB L p (wishB L p v (opH Q k) (opN Q k)) (opT Q k) then (0 : Int) else addN' (1000000 : Int) v (1 : Int)))]], [true, true, true], [.live ⟨30, kPh, L, false, false⟩, rO Q, .live ⟨30, kPh, L, true, false⟩]⟩) KSl))))) else none) else none) else some ((.exit 0), mk (xSl (.exit 0)) [] ⟨[], [], [.live ⟨30, kPh, L, false, false⟩, rO Q]⟩)) := by kernel_rfl
noncomputable def ESl (n : Nat) (r1 : Int) (r2 : Int) (r3 : Int) (r4 : Int) (r5 : Int) (r6 : Int) (r7 : Int) (r8 : Int) (p : Int) (v : Int) (sn : Int) (nn : Int) (k : Int) (L : List (List Dat)) (Q : List (List Dat)) : Option (Ex × St) :=
  evLoop ΓNi Try.prog L0 (cutC 0 2 kSl) bdSl n (mk kSl [.ptr 0 0, .ptr 1 0, .v (I sn), .row 1, .v (I nn), .v (I k)] ⟨[[.row 0, .v (I r1), .v (I r2), .v (I r3), .v (I r4), .v (I r5), .v (I r6), .v (I r7), .v (I r8)], [.row 2, .v (I r1), .v (I r2), .v (I r3), .v (I r4), .v (I r5), .v (I r6), .v (I r7), .v (I r8), .v (I p), .ptr 2 0], [.v (I 1000000), .v (I v)]], [true, true, true], [rH L false false, rO Q, rH L true false]⟩) KSl
def wnt (L Q : List (List Dat)) (k p v : Int) : Bool := cyB L p (wishB L p v (opH Q k) (opN Q k)) (opT Q k)
def stF (L Q : List (List Dat)) (k : Int) (s : Int × Int) : Int × Int := bif wnt L Q k s.1 s.2 then (s.1 + 1, 0) else (s.1, s.2 + 1)
theorem wnt_true {L Q : List (List Dat)} {k p v : Int} (h1 : 1 ≤ (L.length : Int)) (h4 : (L.length : Int) ≤ 4) (h : wnt L Q k p v = true) : p + 1 < (L.length : Int) ∧ opN Q k = true ∧ opT Q k = true ∧ phM L p ≤ v ∧ phU L p ≤ opH Q k := by
  unfold wnt cyB wishB at h
  rw [wI_id (n := (L.length : Int) - 1) (by omega)] at h
  cases e1 : decide (p ≥ (L.length : Int) - 1)
  case true => rw [e1] at h; cases h
  rw [e1] at h
  have e1 := of_decide_eq_false e1
  cases e2 : opN Q k
  · rw [e2] at h; cases h
  rw [e2] at h
  cases e3 : decide (v ≥ phM L p)
  · rw [e3] at h; cases h
  rw [e3] at h
  have e3 := of_decide_eq_true e3
  cases e4 : decide (opH Q k ≥ phU L p)
  · rw [e4] at h; cases h
  rw [e4] at h
  have e4 := of_decide_eq_true e4
  cases e5 : opT Q k
  · rw [e5] at h; cases h
  exact ⟨by omega, rfl, rfl, e3, e4⟩
def stI (L : List (List Dat)) (N k : Int) (s : Int × Int) : Prop := k ≤ N ∧ 0 ≤ s.1 ∧ s.1 < (L.length : Int) ∧ 0 ≤ s.2 ∧ s.2 ≤ k
theorem stI_next {L Q : List (List Dat)} (h1 : 1 ≤ (L.length : Int)) (h4 : (L.length : Int) ≤ 4) {N k : Int} (hk : 0 ≤ k ∧ k < N) {s : Int × Int} (h : stI L N k s) : stI L N (k + 1) (stF L Q k s) := by
  obtain ⟨a, b, c, d, e⟩ := h
  unfold stF
  cases hc : wnt L Q k s.1 s.2
  · exact ⟨by omega, b, c, by show 0 ≤ s.2 + 1; omega, by show s.2 + 1 ≤ k + 1; omega⟩
  · have := wnt_true h1 h4 hc
    exact ⟨by omega, by show 0 ≤ s.1 + 1; omega, this.1, by show (0 : Int) ≤ 0; omega, by show (0 : Int) ≤ k + 1; omega⟩
def lfSl (L Q : List (List Dat)) : LT := .leaf (.exit 0) (mk (xSl (.exit 0)) [] ⟨[], [], [rH L false false, rO Q]⟩)
theorem loopSl (r1 r2 r3 r4 r5 r6 r7 r8 : Int) (L Q : List (List Dat)) (h1 : 1 ≤ (L.length : Int)) (h4 : (L.length : Int) ≤ 4) (hq : (Q.length : Int) ≤ 200) : ESl (Q.length + 1) r1 r2 r3 r4 r5 r6 r7 r8 0 0 0 (Q.length : Int) 0 L Q = some (lfSl L Q).pick := by
  refine (foldAll (stF L Q) (stI L (Q.length : Int)) (Q.length : Int) (fun n k (s : Int × Int) => ESl n r1 r2 r3 r4 r5 r6 r7 r8 s.1 s.2 s.2 (Q.length : Int) k L Q) (fun _ => some (.exit 0, mk (xSl (.exit 0)) [] ⟨[], [], [rH L false false, rO Q]⟩)) (fun n k s hk hi => ?_) (fun k s hk hi => stI_next h1 h4 hk hi) (fun n k s hk hi => ?_) Q.length 0 (0, 0) (by omega) (by omega) ⟨by omega, by show (0 : Int) ≤ 0; omega, by show (0 : Int) < _; omega, by show (0 : Int) ≤ 0; omega, by show (0 : Int) ≤ 0; omega⟩).trans rfl
  · refine (stepSl r1 r2 r3 r4 r5 r6 r7 r8 _ _ _ (Q.length : Int) k L Q n).trans ?_
    rw [decide_eq_false hk]
    rfl
  · obtain ⟨p, v⟩ := s
    obtain ⟨a, b, c, d, e⟩ := hi
    simp only at b c d e
    refine (stepSl r1 r2 r3 r4 r5 r6 r7 r8 p v v (Q.length : Int) k L Q n).trans ?_
    have hq2 := hk.2
    rw [decide_eq_true hk.2, decide_eq_true hk.1, decide_eq_true b, decide_eq_true c, wI_id (n := k + 1) (by omega), wI_id (n := p + 1) (by omega), wI_id (n := v + 1) (by omega), add1 (v := v) d (by omega)]
    show _ = ESl n r1 r2 r3 r4 r5 r6 r7 r8 (stF L Q k (p, v)).1 (stF L Q k (p, v)).2 (stF L Q k (p, v)).2 (Q.length : Int) (k + 1) L Q
    unfold stF
    have hu : ∀ b, wnt L Q k p v = b → cyB L p (wishB L p v (opH Q k) (opN Q k)) (opT Q k) = b := fun _ h => h
    cases hc : wnt L Q k p v
    · rw [hu _ hc]
      have e1 : (p == p + 1) = false := beq_eq_false_iff_ne.2 (by omega)
      simp only [cond_false, e1, bne_self_eq_false, beq_self_eq_true, Bool.not_false, Bool.not_true, cond_true, Bool.and_self]
      rfl
    · rw [hu _ hc]
      obtain ⟨w1, w2, w3, w4, w5⟩ := wnt_true h1 h4 hc
      have e1 : decide (v < ((L.getD p.toNat []).tail.tail.tail.headD (Dat.n (0 : Int))).toI) = false := decide_eq_false (show ¬ v < phM L p by omega)
      have e2 : decide (opH Q k < ((L.getD p.toNat []).tail.tail.tail.tail.headD (Dat.n (0 : Int))).toI) = false := decide_eq_false (show ¬ opH Q k < phU L p by omega)
      simp only [cond_false, bne_self_eq_false, beq_self_eq_true, Bool.not_true, cond_true, Bool.and_self, e1, e2, w2, w3]
      rfl
noncomputable def GSl (vals : List SV) (m : Mem) : Option (Bool × LT) :=
  match vals, m with
  | [.ptr 0 0, .ptr 1 0, .v (.int .i64 sn), .row 1, .v (.int .i64 nn), .v (.int .i64 k)], ⟨[.row 0, .v (.int .i64 r1), .v (.int .i64 r2), .v (.int .i64 r3), .v (.int .i64 r4), .v (.int .i64 r5), .v (.int .i64 r6), .v (.int .i64 r7), .v (.int .i64 r8)] :: B, lv, [.live ⟨e1, k1, L, o1, m1⟩, .live ⟨e2, k2, Q, o2, m2⟩, c]⟩ => some (isT ((sn = 0 ∧ nn = (Q.length : Int) ∧ k = 0) ∧ (B = [[.row 2, .v (I r1), .v (I r2), .v (I r3), .v (I r4), .v (I r5), .v (I r6), .v (I r7), .v (I r8), .v (I 0), .ptr 2 0], [.v (I 1000000), .v (I 0)]] ∧ lv = [true, true, true] ∧ [RowS.live ⟨e1, k1, L, o1, m1⟩, .live ⟨e2, k2, Q, o2, m2⟩, c] = [rH L false false, rO Q, rH L true false]) ∧ 1 ≤ (L.length : Int) ∧ (L.length : Int) ≤ 4 ∧ (Q.length : Int) ≤ 200), lfSl L Q)
  | _, _ => none
noncomputable def ΛSl : LoopOrc := fun _ st => viaT 0 2 kSl GSl st
theorem loopOkSl (z : Base) (z1 : z.L.length = 0) (z2 : z.U.length = 2) : LoopOk ΛSl Try.prog z bdSl := by
  refine loop_okT (Λ := L0) (kx := xSl) OkNi mixed z1 z2 (fun b hb st t h => by cases h) (G := GSl) (fun _ => rfl) ?_
  intro vals m t h
  unfold GSl at h
  split at h
  · rename_i sn nn k r1 r2 r3 r4 r5 r6 r7 r8 B lv e1 k1 L o1 m1 e2 k2 Q o2 m2 c
    obtain ⟨h1, rfl⟩ := some_t h
    rw [isT_iff] at h1
    obtain ⟨⟨rfl, rfl, rfl⟩, ⟨rfl, rfl, hr⟩, h2, h3, h4⟩ := h1
    rw [hr]
    exact ⟨_, loopSl _ _ _ _ _ _ _ _ _ _ h2 h3 h4⟩
  · cases h
theorem loopsSl : loopsOf (Try.f12.body.getD .skip) = [bdSl] := by kernel_rfl
set_option maxRecDepth 20000 in
theorem treeSlow (r1 : Int) (r2 : Int) (r3 : Int) (r4 : Int) (r5 : Int) (r6 : Int) (r7 : Int) (r8 : Int) (L Q : List (List Dat)) : runG ΓNi ΛSl Try.prog Try.f12 [.ag [.row 0, .v (I r1), .v (I r2), .v (I r3), .v (I r4), .v (I r5), .v (I r6), .v (I r7), .v (I r8)], .row 1] ⟨[], [], [rH L false false, rO Q]⟩ = 
    (bif L.length.ble (9223372036854775807) then (bif !fewB L then some (.v (Bo true), ⟨[], [], [.live ⟨30, kPh, L, false, false⟩, rO Q]⟩) else (bif phOk L then (bif wrR L r1 r2 r3 r4 r5 r6 r7 r8 != (0 : Int) then some (.v (Bo true), ⟨[], [], [.live ⟨30, kPh, L, false, false⟩, rO Q]⟩) else (bif decide ((Q.length : Int) > (200 : Int)) then some (.v (Bo true), ⟨[], [], [.live ⟨30, kPh, L, false, false⟩, rO Q]⟩) else (bif phOk L && (phNe L && (wrB L r1 r2 r3 r4 r5 r6 r7 r8 == (0 : Int) && Nat.blt (0 : Nat) L.length)) then (bif isT (((0 : Int) = (0 : Int) ∧ (Q.length : Int) = (Q.length : Int) ∧ (0 : Int) = (0 : Int)) ∧ ([[SA.row (2 : Nat), SA.v (Value.int IntKind.i64 r1), SA.v (Value.int IntKind.i64 r2), SA.v (Value.int IntKind.i64 r3), SA.v (Value.int IntKind.i64 r4), SA.v (Value.int IntKind.i64 r5), SA.v (Value.int IntKind.i64 r6), SA.v (Value.int IntKind.i64 r7), SA.v (Value.int IntKind.i64 r8), SA.v (Value.int IntKind.i64 (0 : Int)), SA.ptr (2 : Nat) (0 : Nat)], [SA.v (Value.int IntKind.i64 (1000000 : Int)), SA.v (Value.int IntKind.i64 (0 : Int))]] = [[SA.row (2 : Nat), SA.v (I r1), SA.v (I r2), SA.v (I r3), SA.v (I r4), SA.v (I r5), SA.v (I r6), SA.v (I r7), SA.v (I r8), SA.v (I (0 : Int)), SA.ptr (2 : Nat) (0 : Nat)], [SA.v (I (1000000 : Int)), SA.v (I (0 : Int))]] ∧ List.map (fun x => true) [[SA.row (0 : Nat), SA.v (Value.int IntKind.i64 r1), SA.v (Value.int IntKind.i64 r2), SA.v (Value.int IntKind.i64 r3), SA.v (Value.int IntKind.i64 r4), SA.v (Value.int IntKind.i64 r5), SA.v (Value.int IntKind.i64 r6), SA.v (Value.int IntKind.i64 r7), SA.v (Value.int IntKind.i64 r8)], [SA.row (2 : Nat), SA.v (Value.int IntKind.i64 r1), SA.v (Value.int IntKind.i64 r2), SA.v (Value.int IntKind.i64 r3), SA.v (Value.int IntKind.i64 r4), SA.v (Value.int IntKind.i64 r5), SA.v (Value.int IntKind.i64 r6), SA.v (Value.int IntKind.i64 r7), SA.v (Value.int IntKind.i64 r8), SA.v (Value.int IntKind.i64 (0 : Int)), SA.ptr (2 : Nat) (0 : Nat)], [SA.v (Value.int IntKind.i64 (1000000 : Int)), SA.v (Value.int IntKind.i64 (0 : Int))]] = [true, true, true] ∧ [RowS.live { e := 30, ks := kPh, L := L, own := false, mark := false : RowC }, RowS.live { e := 62, ks := kOp, L := Q, own := false, mark := false : RowC }, rH L true false] = [rH L false false, rO Q, rH L true false]) ∧ (1 : Int) ≤ (L.length : Int) ∧ (L.length : Int) ≤ (4 : Int) ∧ (Q.length : Int) ≤ (200 : Int)) then some (.v (Bo true), ⟨[], [], [.live ⟨30, kPh, L, false, false⟩, rO Q]⟩) else none) else none))) else none)) else none) := by kernel_rfl
end Go.Proofs.Ytmfeioinhpdebaa

namespace Go.Proofs.Ytmfeioinhpdebaa
open Go Go.Proofs Go.Sx
set_option linter.unusedVariables false
theorem phaseSlow (r1 r2 r3 r4 r5 r6 r7 r8 : Int) (L Q : List (List Dat)) (hw : ∀ o ∈ L, WfN kPh o) (hl : L.length ≤ 9223372036854775807) : runG ΓNi ΛSl Try.prog Try.f12 [.ag [.row 0, .v (I r1), .v (I r2), .v (I r3), .v (I r4), .v (I r5), .v (I r6), .v (I r7), .v (I r8)], .row 1] ⟨[], [], [rH L false false, rO Q]⟩ = some (.v (Bo true), ⟨[], [], [rH L false false, rO Q]⟩) := by
  refine (treeSlow r1 r2 r3 r4 r5 r6 r7 r8 L Q).trans ?_
  rw [Nat.ble_eq_true_of_le hl]
  cases hf : fewB L
  · rfl
  obtain ⟨hp, _⟩ := few_ok hf hw
  rw [hp, wrRB]
  by_cases hz : wrB L r1 r2 r3 r4 r5 r6 r7 r8 = 0
  case neg =>
    have e : (wrB L r1 r2 r3 r4 r5 r6 r7 r8 == 0) = false := beq_eq_false_iff_ne.2 hz
    simp only [bne, e]
    rfl
  have h := wr_zero hz
  have hfew := fr_iff.1 h.few
  have hne := h.ne hp
  by_cases hq : (Q.length : Int) > 200
  · rw [hz, decide_eq_true hq]
    rfl
  rw [hz, hne, decide_eq_false hq, show Nat.blt 0 L.length = true by rw [Nat.blt_eq]; omega]
  rw [isT_of]
  · rfl
  · exact ⟨⟨rfl, rfl, rfl⟩, ⟨rfl, rfl, rfl⟩, hfew.1, hfew.2, by omega⟩
theorem phaseSlowLaw (l0 : List TD) (l1 : List (List Dat)) (w0 : WfT kR l0) (w1 : ∀ o ∈ l1, WfL kOp o) (n1 : l1.length ≤ 281474976710656) : ∃ Λ m', (∀ z : Base, z.L.length = 0 → z.U.length = 2 → ∀ b ∈ loopsOf (Try.f12.body.getD .skip), LoopOk Λ Try.prog z b) ∧ runG ΓNi Λ Try.prog Try.f12 (inArgs [.ag (tkIn kR l0), .row 62 [.num .i64, .num .i64, .num .i64, .bool, .bool, .bool, .num .i64] l1] 0) (inMem [.ag (tkIn kR l0), .row 62 [.num .i64, .num .i64, .num .i64, .bool, .bool, .bool, .num .i64] l1]) = some (.v (.bool true), m') := by
  obtain ⟨L, r1, r2, r3, r4, r5, r6, r7, r8, rfl, ⟨hw, hl⟩, _⟩ := rul_is w0
  exact ⟨ΛSl, _, fun z z1 z2 => oneLoop loopsSl (loopOkSl z z1 z2), phaseSlow r1 r2 r3 r4 r5 r6 r7 r8 L l1 hw hl⟩
end Go.Proofs.Ytmfeioinhpdebaa

