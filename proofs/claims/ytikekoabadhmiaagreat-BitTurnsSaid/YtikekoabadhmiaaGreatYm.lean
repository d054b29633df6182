/-
  The document's reading, and that it is the program's; a law of rulefile over values.
-/
import Derived.Test.YtikekoabadhmiaaGreatYl
namespace Go.Proofs.YtikekoabadhmiaaGreat
open Go Go.Proofs Go.Sx
set_option linter.unusedVariables false
/-! norm -/
/-! cast -/
/-! rep [CK.sl 51 [CK0.num IntKind.i64, CK0.num IntKind.i64], .num .i64, .num .i64, .num .i64, .num .i64] => kPh -/
/-! rep (dropT (0 : Nat) (L.getD k.toNat [])) => (L.getD k.toNat []) -/
/-! rep (dropT (0 : Nat) (L2.getD k.toNat [])) => (L2.getD k.toNat []) -/
/-! rep (dropT (0 : Nat) (L.getD i.toNat [])) => (L.getD i.toNat []) -/
/-! rep (dropT (0 : Nat) (M.getD k.toNat [])) => (M.getD k.toNat []) -/
/-! repp (List.brecOn.go (motive := fun x => Nat → List Dat → List (List Dat)) M List.set._f).1 k.toNat ==> M.set k.toNat -/
/-! rep (((L.getD i.toNat []).headD (Dat.n (0 : Int))).toL) => (phA L i) -/
/-! rep ((L.getD i.toNat []).headD (Dat.n (0 : Int))).toL => (phA L i) -/
/-! rep (((L.getD i.toNat []).tail.headD (Dat.n (0 : Int))).toI) => (phG L i) -/
/-! rep ((L.getD i.toNat []).tail.headD (Dat.n (0 : Int))).toI => (phG L i) -/
/-! rep (((L.getD i.toNat []).tail.tail.headD (Dat.n (0 : Int))).toI) => (phV L i) -/
/-! rep ((L.getD i.toNat []).tail.tail.headD (Dat.n (0 : Int))).toI => (phV L i) -/
/-! rep (((L.getD i.toNat []).tail.tail.tail.headD (Dat.n (0 : Int))).toI) => (phM L i) -/
/-! rep ((L.getD i.toNat []).tail.tail.tail.headD (Dat.n (0 : Int))).toI => (phM L i) -/
/-! rep (((L.getD i.toNat []).tail.tail.tail.tail.headD (Dat.n (0 : Int))).toI) => (phU L i) -/
/-! rep ((L.getD i.toNat []).tail.tail.tail.tail.headD (Dat.n (0 : Int))).toI => (phU L i) -/
/-! rep (((L2.getD i.toNat []).headD (Dat.n (0 : Int))).toL) => (phA L2 i) -/
/-! rep ((L2.getD i.toNat []).headD (Dat.n (0 : Int))).toL => (phA L2 i) -/
/-! rep (((L2.getD i.toNat []).tail.headD (Dat.n (0 : Int))).toI) => (phG L2 i) -/
/-! rep ((L2.getD i.toNat []).tail.headD (Dat.n (0 : Int))).toI => (phG L2 i) -/
/-! rep (((L2.getD i.toNat []).tail.tail.headD (Dat.n (0 : Int))).toI) => (phV L2 i) -/
/-! rep ((L2.getD i.toNat []).tail.tail.headD (Dat.n (0 : Int))).toI => (phV L2 i) -/
/-! rep (((L2.getD i.toNat []).tail.tail.tail.headD (Dat.n (0 : Int))).toI) => (phM L2 i) -/
/-! rep ((L2.getD i.toNat []).tail.tail.tail.headD (Dat.n (0 : Int))).toI => (phM L2 i) -/
/-! rep (((L2.getD i.toNat []).tail.tail.tail.tail.headD (Dat.n (0 : Int))).toI) => (phU L2 i) -/
/-! rep ((L2.getD i.toNat []).tail.tail.tail.tail.headD (Dat.n (0 : Int))).toI => (phU L2 i) -/
/-! rep (((M.getD i.toNat []).headD (Dat.n (0 : Int))).toL) => (phA M i) -/
/-! rep ((M.getD i.toNat []).headD (Dat.n (0 : Int))).toL => (phA M i) -/
/-! rep (((M.getD i.toNat []).tail.headD (Dat.n (0 : Int))).toI) => (phG M i) -/
/-! rep ((M.getD i.toNat []).tail.headD (Dat.n (0 : Int))).toI => (phG M i) -/
/-! rep (((M.getD i.toNat []).tail.tail.headD (Dat.n (0 : Int))).toI) => (phV M i) -/
/-! rep ((M.getD i.toNat []).tail.tail.headD (Dat.n (0 : Int))).toI => (phV M i) -/
/-! rep (((M.getD i.toNat []).tail.tail.tail.headD (Dat.n (0 : Int))).toI) => (phM M i) -/
/-! rep ((M.getD i.toNat []).tail.tail.tail.headD (Dat.n (0 : Int))).toI => (phM M i) -/
/-! rep (((M.getD i.toNat []).tail.tail.tail.tail.headD (Dat.n (0 : Int))).toI) => (phU M i) -/
/-! rep ((M.getD i.toNat []).tail.tail.tail.tail.headD (Dat.n (0 : Int))).toI => (phU M i) -/
/-! rep (((L.getD k.toNat []).headD (Dat.n (0 : Int))).toL) => (phA L k) -/
/-! rep ((L.getD k.toNat []).headD (Dat.n (0 : Int))).toL => (phA L k) -/
/-! rep (((L.getD k.toNat []).tail.headD (Dat.n (0 : Int))).toI) => (phG L k) -/
/-! rep ((L.getD k.toNat []).tail.headD (Dat.n (0 : Int))).toI => (phG L k) -/
/-! rep (((L.getD k.toNat []).tail.tail.headD (Dat.n (0 : Int))).toI) => (phV L k) -/
/-! rep ((L.getD k.toNat []).tail.tail.headD (Dat.n (0 : Int))).toI => (phV L k) -/
/-! rep (((L.getD k.toNat []).tail.tail.tail.headD (Dat.n (0 : Int))).toI) => (phM L k) -/
/-! rep ((L.getD k.toNat []).tail.tail.tail.headD (Dat.n (0 : Int))).toI => (phM L k) -/
/-! rep (((L.getD k.toNat []).tail.tail.tail.tail.headD (Dat.n (0 : Int))).toI) => (phU L k) -/
/-! rep ((L.getD k.toNat []).tail.tail.tail.tail.headD (Dat.n (0 : Int))).toI => (phU L k) -/
/-! rep (((L2.getD k.toNat []).headD (Dat.n (0 : Int))).toL) => (phA L2 k) -/
/-! rep ((L2.getD k.toNat []).headD (Dat.n (0 : Int))).toL => (phA L2 k) -/
/-! rep (((L2.getD k.toNat []).tail.headD (Dat.n (0 : Int))).toI) => (phG L2 k) -/
/-! rep ((L2.getD k.toNat []).tail.headD (Dat.n (0 : Int))).toI => (phG L2 k) -/
/-! rep (((L2.getD k.toNat []).tail.tail.headD (Dat.n (0 : Int))).toI) => (phV L2 k) -/
/-! rep ((L2.getD k.toNat []).tail.tail.headD (Dat.n (0 : Int))).toI => (phV L2 k) -/
/-! rep (((L2.getD k.toNat []).tail.tail.tail.headD (Dat.n (0 : Int))).toI) => (phM L2 k) -/
/-! rep ((L2.getD k.toNat []).tail.tail.tail.headD (Dat.n (0 : Int))).toI => (phM L2 k) -/
/-! rep (((L2.getD k.toNat []).tail.tail.tail.tail.headD (Dat.n (0 : Int))).toI) => (phU L2 k) -/
/-! rep ((L2.getD k.toNat []).tail.tail.tail.tail.headD (Dat.n (0 : Int))).toI => (phU L2 k) -/
/-! rep (((M.getD k.toNat []).headD (Dat.n (0 : Int))).toL) => (phA M k) -/
/-! rep ((M.getD k.toNat []).headD (Dat.n (0 : Int))).toL => (phA M k) -/
/-! rep (((M.getD k.toNat []).tail.headD (Dat.n (0 : Int))).toI) => (phG M k) -/
/-! rep ((M.getD k.toNat []).tail.headD (Dat.n (0 : Int))).toI => (phG M k) -/
/-! rep (((M.getD k.toNat []).tail.tail.headD (Dat.n (0 : Int))).toI) => (phV M k) -/
/-! rep ((M.getD k.toNat []).tail.tail.headD (Dat.n (0 : Int))).toI => (phV M k) -/
/-! rep (((M.getD k.toNat []).tail.tail.tail.headD (Dat.n (0 : Int))).toI) => (phM M k) -/
/-! rep ((M.getD k.toNat []).tail.tail.tail.headD (Dat.n (0 : Int))).toI => (phM M k) -/
/-! rep (((M.getD k.toNat []).tail.tail.tail.tail.headD (Dat.n (0 : Int))).toI) => (phU M k) -/
/-! rep ((M.getD k.toNat []).tail.tail.tail.tail.headD (Dat.n (0 : Int))).toI => (phU M k) -/
/-! repp (List.brecOn.go (motive := fun x => List (List Dat) → List (List Dat)) A List.append._f).1 ==> A ++ -/
/-! repp (List.brecOn.go (motive := fun x => List (List Dat) → List (List Dat)) L List.append._f).1 ==> L ++ -/
/-! rex \(s\.extract \((\d+) : Nat\) \(\(s\.size : Int\)\)\.toNat\) ==> (dt \1 s) -/
/-! rex \(s\.extract (\w+|\((?:[^()]|\((?:[^()]|\([^()]*\))*\))*\))\.toNat \(\(s\.size : Int\)\)\.toNat\) ==> (dt (\1).toNat s) -/
/-! rex \(Nat\.brecOn\.go \(motive := fun x => ByteArray → List \(List Dat\)\) (.*?) \(phsP\._f idI\)\)\.1  ==> phsP idI \1  -/
/-! rex \(\(List\.replicate \(1 : Nat\) \[Dat\.l \(Value\.slice none \(0 : Nat\) \(0 : Nat\)\) \[\], Dat\.n \(0 : Int\), Dat\.n \(0 : Int\), Dat\.n \(0 : Int\), Dat\.n \(0 : Int\)\]\)\.set \(0 : Nat\)  ==> (one  -/
def idI (x : Int) : Int := x
noncomputable def Γre : Orc := { ΓRf7 with sb := true, bs := true, av := true }
theorem Okre : Γre.Ok Tryz.prog := ⟨OkRf7.call, OkRf7.rd, OkRf7.eqv⟩

noncomputable def bdJo : Code := loopAt (Tryz.f10.body.getD .skip) 1
noncomputable def bdJi : Code := loopAt bdJo 0
def kJi : List Bool := maskOf 161 [0,2,5,6,7,8,9,10]
def xJi (e : Ex) : List Bool := match e with
  | .exit _ => maskOf 161 [0,2,5,6,7,9]
  | .ret => maskOf 161 []
  | .normal => maskOf 161 [0,2,5,6,7,8,9,10]
def KJi (e : Ex) (st : St) : Option (Ex × St) := some (e, cutC 0 0 (xJi e) st)
set_option maxRecDepth 20000 in
theorem stepJi00 (s : ByteArray) (z : Int) (r1 : Int) (r2 : Int) (r3 : Int) (r4 : Int) (r5 : Int) (r6 : Int) (r7 : Int) (r8 : Int) (g : Int) (v : Int) (m : Int) (u : Int) (ii : Int) (cc : Int) (k : Int) (n : Nat) : evLoop Γre Tryz.prog L0 (cutC 0 0 kJi) bdJi (n + 1) (mk kJi [.v (S s), .ptr 0 0, .ptr 1 0, .v (I z), .v (I ii), .v (I cc), .ptr 2 0, .v (I k)] ⟨[[.v (.slice none 0 0), .v (I 0), .v (I 0), .v (I 0), .v (I 0), .v (I 0), .v (I 0), .v (I 0), .v (I 0)], [.v (.slice none 0 0), .v (I r1), .v (I r2), .v (I r3), .v (I r4), .v (I r5), .v (I r6), .v (I r7), .v (I r8)], [.v (.slice none 0 0), .v (I g), .v (I v), .v (I m), .v (I u)]], [true, true, true], []⟩) KJi =
    (bif decide (k < cc) then (bif decide ((0 : Int) ≤ z) && (decide (z ≤ (s.size : Int)) && decide ((s.size : Int) ≤ (s.size : Int))) then (bif Nat.ble (4) (dt (z).toNat s).size then (bif decide ((0 : Int) ≤ wI (z + (4 : Int))) && (decide (wI (z + (4 : Int)) ≤ (s.size : Int)) && decide ((s.size : Int) ≤ (s.size : Int))) then (bif Nat.ble (4) (dt ((wI (z + (4 : Int)))).toNat s).size then evLoop Γre Tryz.prog L0 (cutC 0 0 kJi) bdJi n (mk kJi [.v (S s), .ptr 0 0, .ptr 1 0, .v (I (wI (z + (8 : Int)))), .v (I ii), .v (I cc), .ptr 2 0, .v (I (wI (k + (1 : Int))))] ⟨[[.v (Value.slice none (0 : Nat) (0 : Nat)), .v (I 0), .v (I 0), .v (I 0), .v (I 0), .v (I 0), .v (I 0), .v (I 0), .v (I 0)], [.v (Value.slice none (0 : Nat) (0 : Nat)), .v (I r1), .v (I r2), .v (I r3), .v (I r4), .v (I r5), .v (I r6), .v (I r7), .v (I r8)], [.row 0, .v (I g), .v (I v), .v (I m), .v (I u)]], [true, true, true], [.live ⟨51, [.num .i64, .num .i64], [[.n (sgn (num4s (dt (z).toNat s))), .n (sgn (num4s (dt ((wI (z + (4 : Int)))).toNat s)))]], true, false⟩]⟩) KJi else none) else none) else none) else none) else some ((.exit 4), mk (xJi (.exit 4)) [.v (S s), .ptr 0 0, .ptr 1 0, .v (I z), .v (I ii), .ptr 2 0] ⟨[[.v (Value.slice none (0 : Nat) (0 : Nat)), .v (I 0), .v (I 0), .v (I 0), .v (I 0), .v (I 0), .v (I 0), .v (I 0), .v (I 0)], [.v (Value.slice none (0 : Nat) (0 : Nat)), .v (I r1), .v (I r2), .v (I r3), .v (I r4), .v (I r5), .v (I r6), .v (I r7), .v (I r8)], [.v (Value.slice none (0 : Nat) (0 : Nat)), .v (I g), .v (I v), .v (I m), .v (I u)]], [true, true, true], []⟩)) := by kernel_rfl
noncomputable def EJi00 (n : Nat) (s : ByteArray) (z : Int) (r1 : Int) (r2 : Int) (r3 : Int) (r4 : Int) (r5 : Int) (r6 : Int) (r7 : Int) (r8 : Int) (g : Int) (v : Int) (m : Int) (u : Int) (ii : Int) (cc : Int) (k : Int) : Option (Ex × St) :=
  evLoop Γre Tryz.prog L0 (cutC 0 0 kJi) bdJi n (mk kJi [.v (S s), .ptr 0 0, .ptr 1 0, .v (I z), .v (I ii), .v (I cc), .ptr 2 0, .v (I k)] ⟨[[.v (.slice none 0 0), .v (I 0), .v (I 0), .v (I 0), .v (I 0), .v (I 0), .v (I 0), .v (I 0), .v (I 0)], [.v (.slice none 0 0), .v (I r1), .v (I r2), .v (I r3), .v (I r4), .v (I r5), .v (I r6), .v (I r7), .v (I r8)], [.v (.slice none 0 0), .v (I g), .v (I v), .v (I m), .v (I u)]], [true, true, true], []⟩) KJi
set_option maxRecDepth 20000 in
theorem stepJi01 (s : ByteArray) (z : Int) (r1 : Int) (r2 : Int) (r3 : Int) (r4 : Int) (r5 : Int) (r6 : Int) (r7 : Int) (r8 : Int) (g : Int) (v : Int) (m : Int) (u : Int) (ii : Int) (cc : Int) (k : Int) (A : List (List Dat)) (n : Nat) : evLoop Γre Tryz.prog L0 (cutC 0 0 kJi) bdJi (n + 1) (mk kJi [.v (S s), .ptr 0 0, .ptr 1 0, .v (I z), .v (I ii), .v (I cc), .ptr 2 0, .v (I k)] ⟨[[.v (.slice none 0 0), .v (I 0), .v (I 0), .v (I 0), .v (I 0), .v (I 0), .v (I 0), .v (I 0), .v (I 0)], [.v (.slice none 0 0), .v (I r1), .v (I r2), .v (I r3), .v (I r4), .v (I r5), .v (I r6), .v (I r7), .v (I r8)], [.row 0, .v (I g), .v (I v), .v (I m), .v (I u)]], [true, true, true], [rP A true false]⟩) KJi =
    (bif decide (k < cc) then (bif decide ((0 : Int) ≤ z) && (decide (z ≤ (s.size : Int)) && decide ((s.size : Int) ≤ (s.size : Int))) then (bif Nat.ble (4) (dt (z).toNat s).size then (bif decide ((0 : Int) ≤ wI (z + (4 : Int))) && (decide (wI (z + (4 : Int)) ≤ (s.size : Int)) && decide ((s.size : Int) ≤ (s.size : Int))) then (bif Nat.ble (4) (dt ((wI (z + (4 : Int)))).toNat s).size then (bif decide ((A.length + [[Dat.n (sgn (num4s (dt (z).toNat s))), Dat.n (sgn (num4s (dt ((wI (z + (4 : Int)))).toNat s)))]].length) * (16 : Nat) ≤ (140737488355328 : Nat) ∧ A.length + [[Dat.n (sgn (num4s (dt (z).toNat s))), Dat.n (sgn (num4s (dt ((wI (z + (4 : Int)))).toNat s)))]].length ≤ (9223372036854775807 : Nat)) then evLoop Γre Tryz.prog L0 (cutC 0 0 kJi) bdJi n (mk kJi [.v (S s), .ptr 0 0, .ptr 1 0, .v (I (wI (z + (8 : Int)))), .v (I ii), .v (I cc), .ptr 2 0, .v (I (wI (k + (1 : Int))))] ⟨[[.v (Value.slice none (0 : Nat) (0 : Nat)), .v (I 0), .v (I 0), .v (I 0), .v (I 0), .v (I 0), .v (I 0), .v (I 0), .v (I 0)], [.v (Value.slice none (0 : Nat) (0 : Nat)), .v (I r1), .v (I r2), .v (I r3), .v (I r4), .v (I r5), .v (I r6), .v (I r7), .v (I r8)], [.row 0, .v (I g), .v (I v), .v (I m), .v (I u)]], [true, true, true], [.live ⟨51, [.num .i64, .num .i64], A ++ [[Dat.n (sgn (num4s (dt (z).toNat s))), Dat.n (sgn (num4s (dt ((wI (z + (4 : Int)))).toNat s)))]], true, false⟩]⟩) KJi else none) else none) else none) else none) else none) else some ((.exit 4), mk (xJi (.exit 4)) [.v (S s), .ptr 0 0, .ptr 1 0, .v (I z), .v (I ii), .ptr 2 0] ⟨[[.v (Value.slice none (0 : Nat) (0 : Nat)), .v (I 0), .v (I 0), .v (I 0), .v (I 0), .v (I 0), .v (I 0), .v (I 0), .v (I 0)], [.v (Value.slice none (0 : Nat) (0 : Nat)), .v (I r1), .v (I r2), .v (I r3), .v (I r4), .v (I r5), .v (I r6), .v (I r7), .v (I r8)], [.row 0, .v (I g), .v (I v), .v (I m), .v (I u)]], [true, true, true], [.live ⟨51, [.num .i64, .num .i64], A, true, false⟩]⟩)) := by kernel_rfl
noncomputable def EJi01 (n : Nat) (s : ByteArray) (z : Int) (r1 : Int) (r2 : Int) (r3 : Int) (r4 : Int) (r5 : Int) (r6 : Int) (r7 : Int) (r8 : Int) (g : Int) (v : Int) (m : Int) (u : Int) (ii : Int) (cc : Int) (k : Int) (A : List (List Dat)) : Option (Ex × St) :=
  evLoop Γre Tryz.prog L0 (cutC 0 0 kJi) bdJi n (mk kJi [.v (S s), .ptr 0 0, .ptr 1 0, .v (I z), .v (I ii), .v (I cc), .ptr 2 0, .v (I k)] ⟨[[.v (.slice none 0 0), .v (I 0), .v (I 0), .v (I 0), .v (I 0), .v (I 0), .v (I 0), .v (I 0), .v (I 0)], [.v (.slice none 0 0), .v (I r1), .v (I r2), .v (I r3), .v (I r4), .v (I r5), .v (I r6), .v (I r7), .v (I r8)], [.row 0, .v (I g), .v (I v), .v (I m), .v (I u)]], [true, true, true], [rP A true false]⟩) KJi
set_option maxRecDepth 20000 in
theorem stepJi10 (s : ByteArray) (z : Int) (r1 : Int) (r2 : Int) (r3 : Int) (r4 : Int) (r5 : Int) (r6 : Int) (r7 : Int) (r8 : Int) (g : Int) (v : Int) (m : Int) (u : Int) (ii : Int) (cc : Int) (k : Int) (L : List (List Dat)) (n : Nat) : evLoop Γre Tryz.prog L0 (cutC 0 0 kJi) bdJi (n + 1) (mk kJi [.v (S s), .ptr 0 0, .ptr 1 0, .v (I z), .v (I ii), .v (I cc), .ptr 2 0, .v (I k)] ⟨[[.v (.slice none 0 0), .v (I 0), .v (I 0), .v (I 0), .v (I 0), .v (I 0), .v (I 0), .v (I 0), .v (I 0)], [.row 0, .v (I r1), .v (I r2), .v (I r3), .v (I r4), .v (I r5), .v (I r6), .v (I r7), .v (I r8)], [.v (.slice none 0 0), .v (I g), .v (I v), .v (I m), .v (I u)]], [true, true, true], [rH L true false]⟩) KJi =
    (bif decide (k < cc) then (bif decide ((0 : Int) ≤ z) && (decide (z ≤ (s.size : Int)) && decide ((s.size : Int) ≤ (s.size : Int))) then (bif Nat.ble (4) (dt (z).toNat s).size then (bif decide ((0 : Int) ≤ wI (z + (4 : Int))) && (decide (wI (z + (4 : Int)) ≤ (s.size : Int)) && decide ((s.size : Int) ≤ (s.size : Int))) then (bif Nat.ble (4) (dt ((wI (z + (4 : Int)))).toNat s).size then evLoop Γre Tryz.prog L0 (cutC 0 0 kJi) bdJi n (mk kJi [.v (S s), .ptr 0 0, .ptr 1 0, .v (I (wI (z + (8 : Int)))), .v (I ii), .v (I cc), .ptr 2 0, .v (I (wI (k + (1 : Int))))] ⟨[[.v (Value.slice none (0 : Nat) (0 : Nat)), .v (I 0), .v (I 0), .v (I 0), .v (I 0), .v (I 0), .v (I 0), .v (I 0), .v (I 0)], [.row 0, .v (I r1), .v (I r2), .v (I r3), .v (I r4), .v (I r5), .v (I r6), .v (I r7), .v (I r8)], [.row 1, .v (I g), .v (I v), .v (I m), .v (I u)]], [true, true, true], [.live ⟨49, kPh, L, true, false⟩, .live ⟨51, [.num .i64, .num .i64], [[.n (sgn (num4s (dt (z).toNat s))), .n (sgn (num4s (dt ((wI (z + (4 : Int)))).toNat s)))]], true, false⟩]⟩) KJi else none) else none) else none) else none) else some ((.exit 4), mk (xJi (.exit 4)) [.v (S s), .ptr 0 0, .ptr 1 0, .v (I z), .v (I ii), .ptr 2 0] ⟨[[.v (Value.slice none (0 : Nat) (0 : Nat)), .v (I 0), .v (I 0), .v (I 0), .v (I 0), .v (I 0), .v (I 0), .v (I 0), .v (I 0)], [.row 0, .v (I r1), .v (I r2), .v (I r3), .v (I r4), .v (I r5), .v (I r6), .v (I r7), .v (I r8)], [.v (Value.slice none (0 : Nat) (0 : Nat)), .v (I g), .v (I v), .v (I m), .v (I u)]], [true, true, true], [.live ⟨49, kPh, L, true, false⟩]⟩)) := by kernel_rfl
noncomputable def EJi10 (n : Nat) (s : ByteArray) (z : Int) (r1 : Int) (r2 : Int) (r3 : Int) (r4 : Int) (r5 : Int) (r6 : Int) (r7 : Int) (r8 : Int) (g : Int) (v : Int) (m : Int) (u : Int) (ii : Int) (cc : Int) (k : Int) (L : List (List Dat)) : Option (Ex × St) :=
  evLoop Γre Tryz.prog L0 (cutC 0 0 kJi) bdJi n (mk kJi [.v (S s), .ptr 0 0, .ptr 1 0, .v (I z), .v (I ii), .v (I cc), .ptr 2 0, .v (I k)] ⟨[[.v (.slice none 0 0), .v (I 0), .v (I 0), .v (I 0), .v (I 0), .v (I 0), .v (I 0), .v (I 0), .v (I 0)], [.row 0, .v (I r1), .v (I r2), .v (I r3), .v (I r4), .v (I r5), .v (I r6), .v (I r7), .v (I r8)], [.v (.slice none 0 0), .v (I g), .v (I v), .v (I m), .v (I u)]], [true, true, true], [rH L true false]⟩) KJi
set_option maxRecDepth 20000 in
theorem stepJi11 (s : ByteArray) (z : Int) (r1 : Int) (r2 : Int) (r3 : Int) (r4 : Int) (r5 : Int) (r6 : Int) (r7 : Int) (r8 : Int) (g : Int) (v : Int) (m : Int) (u : Int) (ii : Int) (cc : Int) (k : Int) (L : List (List Dat)) (A : List (List Dat)) (n : Nat) : evLoop Γre Tryz.prog L0 (cutC 0 0 kJi) bdJi (n + 1) (mk kJi [.v (S s), .ptr 0 0, .ptr 1 0, .v (I z), .v (I ii), .v (I cc), .ptr 2 0, .v (I k)] ⟨[[.v (.slice none 0 0), .v (I 0), .v (I 0), .v (I 0), .v (I 0), .v (I 0), .v (I 0), .v (I 0), .v (I 0)], [.row 0, .v (I r1), .v (I r2), .v (I r3), .v (I r4), .v (I r5), .v (I r6), .v (I r7), .v (I r8)], [.row 1, .v (I g), .v (I v), .v (I m), .v (I u)]], [true, true, true], [rH L true false, rP A true false]⟩) KJi =
    (bif decide (k < cc) then (bif decide ((0 : Int) ≤ z) && (decide (z ≤ (s.size : Int)) && decide ((s.size : Int) ≤ (s.size : Int))) then (bif Nat.ble (4) (dt (z).toNat s).size then (bif decide ((0 : Int) ≤ wI (z + (4 : Int))) && (decide (wI (z + (4 : Int)) ≤ (s.size : Int)) && decide ((s.size : Int) ≤ (s.size : Int))) then (bif Nat.ble (4) (dt ((wI (z + (4 : Int)))).toNat s).size then (bif decide ((A.length + [[Dat.n (sgn (num4s (dt (z).toNat s))), Dat.n (sgn (num4s (dt ((wI (z + (4 : Int)))).toNat s)))]].length) * (16 : Nat) ≤ (140737488355328 : Nat) ∧ A.length + [[Dat.n (sgn (num4s (dt (z).toNat s))), Dat.n (sgn (num4s (dt ((wI (z + (4 : Int)))).toNat s)))]].length ≤ (9223372036854775807 : Nat)) then evLoop Γre Tryz.prog L0 (cutC 0 0 kJi) bdJi n (mk kJi [.v (S s), .ptr 0 0, .ptr 1 0, .v (I (wI (z + (8 : Int)))), .v (I ii), .v (I cc), .ptr 2 0, .v (I (wI (k + (1 : Int))))] ⟨[[.v (Value.slice none (0 : Nat) (0 : Nat)), .v (I 0), .v (I 0), .v (I 0), .v (I 0), .v (I 0), .v (I 0), .v (I 0), .v (I 0)], [.row 0, .v (I r1), .v (I r2), .v (I r3), .v (I r4), .v (I r5), .v (I r6), .v (I r7), .v (I r8)], [.row 1, .v (I g), .v (I v), .v (I m), .v (I u)]], [true, true, true], [.live ⟨49, kPh, L, true, false⟩, .live ⟨51, [.num .i64, .num .i64], A ++ [[Dat.n (sgn (num4s (dt (z).toNat s))), Dat.n (sgn (num4s (dt ((wI (z + (4 : Int)))).toNat s)))]], true, false⟩]⟩) KJi else none) else none) else none) else none) else none) else some ((.exit 4), mk (xJi (.exit 4)) [.v (S s), .ptr 0 0, .ptr 1 0, .v (I z), .v (I ii), .ptr 2 0] ⟨[[.v (Value.slice none (0 : Nat) (0 : Nat)), .v (I 0), .v (I 0), .v (I 0), .v (I 0), .v (I 0), .v (I 0), .v (I 0), .v (I 0)], [.row 0, .v (I r1), .v (I r2), .v (I r3), .v (I r4), .v (I r5), .v (I r6), .v (I r7), .v (I r8)], [.row 1, .v (I g), .v (I v), .v (I m), .v (I u)]], [true, true, true], [.live ⟨49, kPh, L, true, false⟩, .live ⟨51, [.num .i64, .num .i64], A, true, false⟩]⟩)) := by kernel_rfl
noncomputable def EJi11 (n : Nat) (s : ByteArray) (z : Int) (r1 : Int) (r2 : Int) (r3 : Int) (r4 : Int) (r5 : Int) (r6 : Int) (r7 : Int) (r8 : Int) (g : Int) (v : Int) (m : Int) (u : Int) (ii : Int) (cc : Int) (k : Int) (L : List (List Dat)) (A : List (List Dat)) : Option (Ex × St) :=
  evLoop Γre Tryz.prog L0 (cutC 0 0 kJi) bdJi n (mk kJi [.v (S s), .ptr 0 0, .ptr 1 0, .v (I z), .v (I ii), .v (I cc), .ptr 2 0, .v (I k)] ⟨[[.v (.slice none 0 0), .v (I 0), .v (I 0), .v (I 0), .v (I 0), .v (I 0), .v (I 0), .v (I 0), .v (I 0)], [.row 0, .v (I r1), .v (I r2), .v (I r3), .v (I r4), .v (I r5), .v (I r6), .v (I r7), .v (I r8)], [.row 1, .v (I g), .v (I v), .v (I m), .v (I u)]], [true, true, true], [rH L true false, rP A true false]⟩) KJi
/-- A loop that reads corners from a place on, where there are some already. -/
theorem ptLoopZ {α : Type} (s : ByteArray) (cc : Int) (hc : cc ≤ 255) (E : Nat → Nat → Int → List (List Dat) → Option α) (X : Nat → List (List Dat) → Option α) (he : ∀ n z k A, ¬ k < cc → E (n + 1) z k A = X z A)
    (hr : ∀ n z k A, 0 ≤ k → k < cc → z + 8 ≤ s.size → A.length ≤ 255 → E (n + 1) z k A = E n (z + 8) (k + 1) (A ++ [[.n (sgn (num4s (dt z s))), .n (sgn (num4s (dt (z + 4) s)))]])) :
    ∀ (m : Nat) (z : Nat) (k : Int) (A : List (List Dat)), 0 ≤ k → k + m = cc → z + 8 * m ≤ s.size → (A.length : Int) ≤ k → E (m + 1) z k A = X (z + 8 * m) (A ++ ptsP m (dt z s)) := by
  intro m
  induction m with
  | zero =>
    intro z k A h0 h1 h2 h4
    rw [he 0 z k A (by omega)]
    show X z A = X (z + 0) (A ++ [])
    rw [Nat.add_zero, List.append_nil]
  | succ m ih =>
    intro z k A h0 h1 h2 h4
    rw [hr (m + 1) z k A h0 (by omega) (by omega) (by omega), ih (z + 8) (k + 1) _ (by omega) (by omega) (by omega) (by rw [List.length_append, List.length_singleton]; omega), show z + 8 + 8 * m = z + 8 * (m + 1) by omega, ptsP, List.append_assoc, dt_dt, dt_dt]
    rfl
theorem ble4 {s : ByteArray} {z : Nat} (h : z + 4 ≤ s.size) : Nat.ble 4 (dt z s).size = true := Nat.ble_eq_true_of_le (by rw [dt_size]; omega)
theorem loopJi01 (s : ByteArray) (hs : s.size ≤ 1000000) (r1 : Int) (r2 : Int) (r3 : Int) (r4 : Int) (r5 : Int) (r6 : Int) (r7 : Int) (r8 : Int) (g : Int) (v : Int) (m : Int) (u : Int) (ii : Int) (cc : Int) (hc : cc ≤ 255) : ∀ (q : Nat) (z : Nat) (k : Int) (A : List (List Dat)), 0 ≤ k → k + q = cc → z + 8 * q ≤ s.size → (A.length : Int) ≤ k → EJi01 (q + 1) s z r1 r2 r3 r4 r5 r6 r7 r8 g v m u ii cc k A = some (.exit 4, mk (xJi (.exit 4)) [.v (S s), .ptr 0 0, .ptr 1 0, .v (I (((z + 8 * q : Nat) : Int))), .v (I ii), .ptr 2 0] ⟨[[.v (.slice none 0 0), .v (I 0), .v (I 0), .v (I 0), .v (I 0), .v (I 0), .v (I 0), .v (I 0), .v (I 0)], [.v (.slice none 0 0), .v (I r1), .v (I r2), .v (I r3), .v (I r4), .v (I r5), .v (I r6), .v (I r7), .v (I r8)], [.row 0, .v (I g), .v (I v), .v (I m), .v (I u)]], [true, true, true], [rP (A ++ ptsP q (dt z s)) true false]⟩) := by
  refine ptLoopZ s cc hc (fun n z k A => EJi01 n s z r1 r2 r3 r4 r5 r6 r7 r8 g v m u ii cc k A) (fun z A => some (.exit 4, mk (xJi (.exit 4)) [.v (S s), .ptr 0 0, .ptr 1 0, .v (I ((z : Int))), .v (I ii), .ptr 2 0] ⟨[[.v (.slice none 0 0), .v (I 0), .v (I 0), .v (I 0), .v (I 0), .v (I 0), .v (I 0), .v (I 0), .v (I 0)], [.v (.slice none 0 0), .v (I r1), .v (I r2), .v (I r3), .v (I r4), .v (I r5), .v (I r6), .v (I r7), .v (I r8)], [.row 0, .v (I g), .v (I v), .v (I m), .v (I u)]], [true, true, true], [rP (A) true false]⟩)) (fun n z k A hk => ?_) (fun n z k A h0 h1 h2 h4 => ?_)
  · refine (stepJi01 s z r1 r2 r3 r4 r5 r6 r7 r8 g v m u ii cc k A n).trans ?_
    rw [decide_eq_false hk]
    rfl
  · refine (stepJi01 s z r1 r2 r3 r4 r5 r6 r7 r8 g v m u ii cc k A n).trans ?_
    have e1 : wI ((z : Int) + 4) = ((z + 4 : Nat) : Int) := by rw [wI_id (by omega)]; omega
    have e2 : wI ((z : Int) + 8) = ((z + 8 : Nat) : Int) := by rw [wI_id (by omega)]; omega
    have e3 : wI (k + 1) = k + 1 := wI_id (by omega)
    simp only [e1, e2, e3, Int.toNat_natCast, decide_eq_true h1, ble4 (s := s) (z := z) (by omega), ble4 (s := s) (z := z + 4) (by omega), decide_eq_true (show (0 : Int) ≤ (z : Int) by omega), decide_eq_true (show (z : Int) ≤ (s.size : Int) by omega), decide_eq_true (show (s.size : Int) ≤ (s.size : Int) by omega), decide_eq_true (show (0 : Int) ≤ ((z + 4 : Nat) : Int) by omega), decide_eq_true (show ((z + 4 : Nat) : Int) ≤ (s.size : Int) by omega), cond_true, Bool.and_self]
    rw [decide_eq_true (show (A.length + [[Dat.n (sgn (num4s (dt z s))), Dat.n (sgn (num4s (dt (z + 4) s)))]].length) * 16 ≤ 140737488355328 ∧ A.length + [[Dat.n (sgn (num4s (dt z s))), Dat.n (sgn (num4s (dt (z + 4) s)))]].length ≤ 9223372036854775807 by rw [List.length_singleton]; omega)]
    rfl
theorem loopJi00 (s : ByteArray) (hs : s.size ≤ 1000000) (r1 : Int) (r2 : Int) (r3 : Int) (r4 : Int) (r5 : Int) (r6 : Int) (r7 : Int) (r8 : Int) (g : Int) (v : Int) (m : Int) (u : Int) (ii : Int) (cc : Int) (hc : cc ≤ 255) (hc0 : 0 ≤ cc) (z : Nat) (hz : z + 8 * cc.toNat ≤ s.size) : ∃ q, EJi00 q s z r1 r2 r3 r4 r5 r6 r7 r8 g v m u ii cc 0 = some (bif decide (cc ≤ 0) then (.exit 4, mk (xJi (.exit 4)) [.v (S s), .ptr 0 0, .ptr 1 0, .v (I ((z : Int))), .v (I ii), .ptr 2 0] ⟨[[.v (.slice none 0 0), .v (I 0), .v (I 0), .v (I 0), .v (I 0), .v (I 0), .v (I 0), .v (I 0), .v (I 0)], [.v (.slice none 0 0), .v (I r1), .v (I r2), .v (I r3), .v (I r4), .v (I r5), .v (I r6), .v (I r7), .v (I r8)], [.v (.slice none 0 0), .v (I g), .v (I v), .v (I m), .v (I u)]], [true, true, true], []⟩) else (.exit 4, mk (xJi (.exit 4)) [.v (S s), .ptr 0 0, .ptr 1 0, .v (I (((z + 8 * cc.toNat : Nat) : Int))), .v (I ii), .ptr 2 0] ⟨[[.v (.slice none 0 0), .v (I 0), .v (I 0), .v (I 0), .v (I 0), .v (I 0), .v (I 0), .v (I 0), .v (I 0)], [.v (.slice none 0 0), .v (I r1), .v (I r2), .v (I r3), .v (I r4), .v (I r5), .v (I r6), .v (I r7), .v (I r8)], [.row 0, .v (I g), .v (I v), .v (I m), .v (I u)]], [true, true, true], [rP (ptsP cc.toNat (dt z s)) true false]⟩)) := by
  by_cases hq0 : cc ≤ 0
  · refine ⟨1, (stepJi00 s z r1 r2 r3 r4 r5 r6 r7 r8 g v m u ii cc 0 0).trans ?_⟩
    rw [decide_eq_false (show ¬ (0 : Int) < cc by omega), decide_eq_true hq0]
    rfl
  · obtain ⟨q, hq⟩ : ∃ q : Nat, cc = (q : Int) + 1 := ⟨(cc - 1).toNat, by omega⟩
    have hq' : cc.toNat = q + 1 := by omega
    have h1 : (0 : Int) < cc := by omega
    rw [hq'] at hz ⊢
    refine ⟨q + 2, (stepJi00 s z r1 r2 r3 r4 r5 r6 r7 r8 g v m u ii cc 0 (q + 1)).trans ?_⟩
    have e1 : wI ((z : Int) + 4) = ((z + 4 : Nat) : Int) := by rw [wI_id (by omega)]; omega
    have e2 : wI ((z : Int) + 8) = ((z + 8 : Nat) : Int) := by rw [wI_id (by omega)]; omega
    have e3 : wI ((0 : Int) + 1) = (0 : Int) + 1 := wI_id (by omega)
    simp only [e1, e2, e3, Int.toNat_natCast, decide_eq_true h1, ble4 (s := s) (z := z) (by omega), ble4 (s := s) (z := z + 4) (by omega), decide_eq_true (show (0 : Int) ≤ (z : Int) by omega), decide_eq_true (show (z : Int) ≤ (s.size : Int) by omega), decide_eq_true (show (s.size : Int) ≤ (s.size : Int) by omega), decide_eq_true (show (0 : Int) ≤ ((z + 4 : Nat) : Int) by omega), decide_eq_true (show ((z + 4 : Nat) : Int) ≤ (s.size : Int) by omega), cond_true, Bool.and_self]
    have e := (loopJi01 s hs r1 r2 r3 r4 r5 r6 r7 r8 g v m u ii cc hc q (z + 8) (0 + 1) [[.n (sgn (num4s (dt z s))), .n (sgn (num4s (dt (z + 4) s)))]] (by omega) (by omega) (by omega) (by rw [List.length_singleton]; omega))
    unfold EJi01 at e
    refine Eq.trans e ?_
    rw [decide_eq_false hq0, show z + 8 + 8 * q = z + 8 * (q + 1) by omega, ptsP, dt_dt, dt_dt]
    rfl
theorem loopJi11 (s : ByteArray) (hs : s.size ≤ 1000000) (r1 : Int) (r2 : Int) (r3 : Int) (r4 : Int) (r5 : Int) (r6 : Int) (r7 : Int) (r8 : Int) (g : Int) (v : Int) (m : Int) (u : Int) (ii : Int) (cc : Int) (L : List (List Dat)) (hc : cc ≤ 255) : ∀ (q : Nat) (z : Nat) (k : Int) (A : List (List Dat)), 0 ≤ k → k + q = cc → z + 8 * q ≤ s.size → (A.length : Int) ≤ k → EJi11 (q + 1) s z r1 r2 r3 r4 r5 r6 r7 r8 g v m u ii cc k L A = some (.exit 4, mk (xJi (.exit 4)) [.v (S s), .ptr 0 0, .ptr 1 0, .v (I (((z + 8 * q : Nat) : Int))), .v (I ii), .ptr 2 0] ⟨[[.v (.slice none 0 0), .v (I 0), .v (I 0), .v (I 0), .v (I 0), .v (I 0), .v (I 0), .v (I 0), .v (I 0)], [.row 0, .v (I r1), .v (I r2), .v (I r3), .v (I r4), .v (I r5), .v (I r6), .v (I r7), .v (I r8)], [.row 1, .v (I g), .v (I v), .v (I m), .v (I u)]], [true, true, true], [rH L true false, rP (A ++ ptsP q (dt z s)) true false]⟩) := by
  refine ptLoopZ s cc hc (fun n z k A => EJi11 n s z r1 r2 r3 r4 r5 r6 r7 r8 g v m u ii cc k L A) (fun z A => some (.exit 4, mk (xJi (.exit 4)) [.v (S s), .ptr 0 0, .ptr 1 0, .v (I ((z : Int))), .v (I ii), .ptr 2 0] ⟨[[.v (.slice none 0 0), .v (I 0), .v (I 0), .v (I 0), .v (I 0), .v (I 0), .v (I 0), .v (I 0), .v (I 0)], [.row 0, .v (I r1), .v (I r2), .v (I r3), .v (I r4), .v (I r5), .v (I r6), .v (I r7), .v (I r8)], [.row 1, .v (I g), .v (I v), .v (I m), .v (I u)]], [true, true, true], [rH L true false, rP (A) true false]⟩)) (fun n z k A hk => ?_) (fun n z k A h0 h1 h2 h4 => ?_)
  · refine (stepJi11 s z r1 r2 r3 r4 r5 r6 r7 r8 g v m u ii cc k L A n).trans ?_
    rw [decide_eq_false hk]
    rfl
  · refine (stepJi11 s z r1 r2 r3 r4 r5 r6 r7 r8 g v m u ii cc k L A n).trans ?_
    have e1 : wI ((z : Int) + 4) = ((z + 4 : Nat) : Int) := by rw [wI_id (by omega)]; omega
    have e2 : wI ((z : Int) + 8) = ((z + 8 : Nat) : Int) := by rw [wI_id (by omega)]; omega
    have e3 : wI (k + 1) = k + 1 := wI_id (by omega)
    simp only [e1, e2, e3, Int.toNat_natCast, decide_eq_true h1, ble4 (s := s) (z := z) (by omega), ble4 (s := s) (z := z + 4) (by omega), decide_eq_true (show (0 : Int) ≤ (z : Int) by omega), decide_eq_true (show (z : Int) ≤ (s.size : Int) by omega), decide_eq_true (show (s.size : Int) ≤ (s.size : Int) by omega), decide_eq_true (show (0 : Int) ≤ ((z + 4 : Nat) : Int) by omega), decide_eq_true (show ((z + 4 : Nat) : Int) ≤ (s.size : Int) by omega), cond_true, Bool.and_self]
    rw [decide_eq_true (show (A.length + [[Dat.n (sgn (num4s (dt z s))), Dat.n (sgn (num4s (dt (z + 4) s)))]].length) * 16 ≤ 140737488355328 ∧ A.length + [[Dat.n (sgn (num4s (dt z s))), Dat.n (sgn (num4s (dt (z + 4) s)))]].length ≤ 9223372036854775807 by rw [List.length_singleton]; omega)]
    rfl
theorem loopJi10 (s : ByteArray) (hs : s.size ≤ 1000000) (r1 : Int) (r2 : Int) (r3 : Int) (r4 : Int) (r5 : Int) (r6 : Int) (r7 : Int) (r8 : Int) (g : Int) (v : Int) (m : Int) (u : Int) (ii : Int) (cc : Int) (L : List (List Dat)) (hc : cc ≤ 255) (hc0 : 0 ≤ cc) (z : Nat) (hz : z + 8 * cc.toNat ≤ s.size) : ∃ q, EJi10 q s z r1 r2 r3 r4 r5 r6 r7 r8 g v m u ii cc 0 L = some (bif decide (cc ≤ 0) then (.exit 4, mk (xJi (.exit 4)) [.v (S s), .ptr 0 0, .ptr 1 0, .v (I ((z : Int))), .v (I ii), .ptr 2 0] ⟨[[.v (.slice none 0 0), .v (I 0), .v (I 0), .v (I 0), .v (I 0), .v (I 0), .v (I 0), .v (I 0), .v (I 0)], [.row 0, .v (I r1), .v (I r2), .v (I r3), .v (I r4), .v (I r5), .v (I r6), .v (I r7), .v (I r8)], [.v (.slice none 0 0), .v (I g), .v (I v), .v (I m), .v (I u)]], [true, true, true], [rH L true false]⟩) else (.exit 4, mk (xJi (.exit 4)) [.v (S s), .ptr 0 0, .ptr 1 0, .v (I (((z + 8 * cc.toNat : Nat) : Int))), .v (I ii), .ptr 2 0] ⟨[[.v (.slice none 0 0), .v (I 0), .v (I 0), .v (I 0), .v (I 0), .v (I 0), .v (I 0), .v (I 0), .v (I 0)], [.row 0, .v (I r1), .v (I r2), .v (I r3), .v (I r4), .v (I r5), .v (I r6), .v (I r7), .v (I r8)], [.row 1, .v (I g), .v (I v), .v (I m), .v (I u)]], [true, true, true], [rH L true false, rP (ptsP cc.toNat (dt z s)) true false]⟩)) := by
  by_cases hq0 : cc ≤ 0
  · refine ⟨1, (stepJi10 s z r1 r2 r3 r4 r5 r6 r7 r8 g v m u ii cc 0 L 0).trans ?_⟩
    rw [decide_eq_false (show ¬ (0 : Int) < cc by omega), decide_eq_true hq0]
    rfl
  · obtain ⟨q, hq⟩ : ∃ q : Nat, cc = (q : Int) + 1 := ⟨(cc - 1).toNat, by omega⟩
    have hq' : cc.toNat = q + 1 := by omega
    have h1 : (0 : Int) < cc := by omega
    rw [hq'] at hz ⊢
    refine ⟨q + 2, (stepJi10 s z r1 r2 r3 r4 r5 r6 r7 r8 g v m u ii cc 0 L (q + 1)).trans ?_⟩
    have e1 : wI ((z : Int) + 4) = ((z + 4 : Nat) : Int) := by rw [wI_id (by omega)]; omega
    have e2 : wI ((z : Int) + 8) = ((z + 8 : Nat) : Int) := by rw [wI_id (by omega)]; omega
    have e3 : wI ((0 : Int) + 1) = (0 : Int) + 1 := wI_id (by omega)
    simp only [e1, e2, e3, Int.toNat_natCast, decide_eq_true h1, ble4 (s := s) (z := z) (by omega), ble4 (s := s) (z := z + 4) (by omega), decide_eq_true (show (0 : Int) ≤ (z : Int) by omega), decide_eq_true (show (z : Int) ≤ (s.size : Int) by omega), decide_eq_true (show (s.size : Int) ≤ (s.size : Int) by omega), decide_eq_true (show (0 : Int) ≤ ((z + 4 : Nat) : Int) by omega), decide_eq_true (show ((z + 4 : Nat) : Int) ≤ (s.size : Int) by omega), cond_true, Bool.and_self]
    have e := (loopJi11 s hs r1 r2 r3 r4 r5 r6 r7 r8 g v m u ii cc L hc q (z + 8) (0 + 1) [[.n (sgn (num4s (dt z s))), .n (sgn (num4s (dt (z + 4) s)))]] (by omega) (by omega) (by omega) (by rw [List.length_singleton]; omega))
    unfold EJi11 at e
    refine Eq.trans e ?_
    rw [decide_eq_false hq0, show z + 8 + 8 * q = z + 8 * (q + 1) by omega, ptsP, dt_dt, dt_dt]
    rfl
def lfJi0 (s : ByteArray) (z r1 r2 r3 r4 r5 r6 r7 r8 g v m u ii cc : Int) : LT := .br (decide (cc ≤ 0)) (.leaf (.exit 4) (mk (xJi (.exit 4)) [.v (S s), .ptr 0 0, .ptr 1 0, .v (I (z)), .v (I ii), .ptr 2 0] ⟨[[.v (.slice none 0 0), .v (I 0), .v (I 0), .v (I 0), .v (I 0), .v (I 0), .v (I 0), .v (I 0), .v (I 0)], [.v (.slice none 0 0), .v (I r1), .v (I r2), .v (I r3), .v (I r4), .v (I r5), .v (I r6), .v (I r7), .v (I r8)], [.v (.slice none 0 0), .v (I g), .v (I v), .v (I m), .v (I u)]], [true, true, true], []⟩)) (.leaf (.exit 4) (mk (xJi (.exit 4)) [.v (S s), .ptr 0 0, .ptr 1 0, .v (I (((z.toNat + 8 * cc.toNat : Nat) : Int))), .v (I ii), .ptr 2 0] ⟨[[.v (.slice none 0 0), .v (I 0), .v (I 0), .v (I 0), .v (I 0), .v (I 0), .v (I 0), .v (I 0), .v (I 0)], [.v (.slice none 0 0), .v (I r1), .v (I r2), .v (I r3), .v (I r4), .v (I r5), .v (I r6), .v (I r7), .v (I r8)], [.row 0, .v (I g), .v (I v), .v (I m), .v (I u)]], [true, true, true], [rP (ptsP cc.toNat (dt z.toNat s)) true false]⟩))
def lfJi1 (s : ByteArray) (z r1 r2 r3 r4 r5 r6 r7 r8 g v m u ii cc : Int) (L : List (List Dat)) : LT := .br (decide (cc ≤ 0)) (.leaf (.exit 4) (mk (xJi (.exit 4)) [.v (S s), .ptr 0 0, .ptr 1 0, .v (I (z)), .v (I ii), .ptr 2 0] ⟨[[.v (.slice none 0 0), .v (I 0), .v (I 0), .v (I 0), .v (I 0), .v (I 0), .v (I 0), .v (I 0), .v (I 0)], [.row 0, .v (I r1), .v (I r2), .v (I r3), .v (I r4), .v (I r5), .v (I r6), .v (I r7), .v (I r8)], [.v (.slice none 0 0), .v (I g), .v (I v), .v (I m), .v (I u)]], [true, true, true], [rH L true false]⟩)) (.leaf (.exit 4) (mk (xJi (.exit 4)) [.v (S s), .ptr 0 0, .ptr 1 0, .v (I (((z.toNat + 8 * cc.toNat : Nat) : Int))), .v (I ii), .ptr 2 0] ⟨[[.v (.slice none 0 0), .v (I 0), .v (I 0), .v (I 0), .v (I 0), .v (I 0), .v (I 0), .v (I 0), .v (I 0)], [.row 0, .v (I r1), .v (I r2), .v (I r3), .v (I r4), .v (I r5), .v (I r6), .v (I r7), .v (I r8)], [.row 1, .v (I g), .v (I v), .v (I m), .v (I u)]], [true, true, true], [rH L true false, rP (ptsP cc.toNat (dt z.toNat s)) true false]⟩))
def okJi (s : ByteArray) (z cc k : Int) : Bool := k == 0 && (decide (0 ≤ cc ∧ cc ≤ 255) && (decide (0 ≤ z) && (Nat.ble (z.toNat + 8 * cc.toNat) s.size && Nat.ble s.size 1000000)))
def GJi4 (s : ByteArray) (z g v m u ii cc k : Int) (p1 : List SA) (rows : List RowS) : Option (Bool × LT) :=
  match p1, rows with
  | [.v (.slice none 0 0), .v (.int .i64 r1), .v (.int .i64 r2), .v (.int .i64 r3), .v (.int .i64 r4), .v (.int .i64 r5), .v (.int .i64 r6), .v (.int .i64 r7), .v (.int .i64 r8)], [] => some (okJi s z cc k, lfJi0 s z r1 r2 r3 r4 r5 r6 r7 r8 g v m u ii cc)
  | [.row 0, .v (.int .i64 r1), .v (.int .i64 r2), .v (.int .i64 r3), .v (.int .i64 r4), .v (.int .i64 r5), .v (.int .i64 r6), .v (.int .i64 r7), .v (.int .i64 r8)], [.live ⟨49, [.sl 51 [.num .i64, .num .i64], .num .i64, .num .i64, .num .i64, .num .i64], L, true, false⟩] => some (okJi s z cc k, lfJi1 s z r1 r2 r3 r4 r5 r6 r7 r8 g v m u ii cc L)
  | _, _ => none
def GJi3 (s : ByteArray) (z g v m u ii cc k : Int) (p0 p1 : List SA) (rows : List RowS) : Option (Bool × LT) :=
  match p0 with
  | [.v (.slice none 0 0), .v (.int .i64 0), .v (.int .i64 0), .v (.int .i64 0), .v (.int .i64 0), .v (.int .i64 0), .v (.int .i64 0), .v (.int .i64 0), .v (.int .i64 0)] => GJi4 s z g v m u ii cc k p1 rows
  | _ => none
def GJi2 (s : ByteArray) (z ii cc k : Int) (m : Mem) : Option (Bool × LT) :=
  match m with
  | ⟨[p0, p1, [.v (.slice none 0 0), .v (.int .i64 g), .v (.int .i64 v), .v (.int .i64 m), .v (.int .i64 u)]], [true, true, true], rows⟩ => GJi3 s z g v m u ii cc k p0 p1 rows
  | _ => none
def GJi (vals : List SV) (m : Mem) : Option (Bool × LT) :=
  match vals with
  | [.v (.string s), .ptr 0 0, .ptr 1 0, .v (.int .i64 z), .v (.int .i64 ii), .v (.int .i64 cc), .ptr 2 0, .v (.int .i64 k)] => GJi2 s z ii cc k m
  | _ => none
noncomputable def ΛJi : LoopOrc := fun _ st => viaT 0 0 kJi GJi st
theorem loopsJi : loopsOf bdJo = [bdJi] := by kernel_rfl
theorem loopOkJi (z : Base) (z1 : z.L.length = 0) (z2 : z.U.length = 0) : LoopOk ΛJi Tryz.prog z bdJi := by
  refine loop_okT (Λ := L0) (kx := xJi) Okre mixed z1 z2 (fun b hb st t h => by cases h) (G := GJi) (fun _ => rfl) ?_
  intro vals m t h
  unfold GJi at h
  split at h
  case h_2 => cases h
  rename_i s z ii cc k
  unfold GJi2 at h
  split at h
  case h_2 => cases h
  rename_i p0 p1 g v m u rows
  unfold GJi3 at h
  split at h
  case h_2 => cases h
  unfold GJi4 at h
  split at h
  · rename_i r1 r2 r3 r4 r5 r6 r7 r8
    obtain ⟨h1, rfl⟩ := some_t h
    unfold okJi at h1
    simp only [Bool.and_eq_true, beq_iff_eq, decide_eq_true_eq] at h1
    obtain ⟨rfl, h1, hz, h2, h3⟩ := h1
    obtain ⟨z, rfl⟩ := Int.eq_ofNat_of_zero_le hz
    obtain ⟨q, hq⟩ := loopJi00 s (Nat.le_of_ble_eq_true h3) r1 r2 r3 r4 r5 r6 r7 r8 g v m u ii cc h1.2 h1.1 z (Nat.le_of_ble_eq_true h2)
    refine ⟨q, hq.trans ?_⟩
    unfold lfJi0
    rw [Int.toNat_natCast]
    cases decide (cc ≤ 0) <;> rfl
  · rename_i r1 r2 r3 r4 r5 r6 r7 r8 L
    obtain ⟨h1, rfl⟩ := some_t h
    unfold okJi at h1
    simp only [Bool.and_eq_true, beq_iff_eq, decide_eq_true_eq] at h1
    obtain ⟨rfl, h1, hz, h2, h3⟩ := h1
    obtain ⟨z, rfl⟩ := Int.eq_ofNat_of_zero_le hz
    obtain ⟨q, hq⟩ := loopJi10 s (Nat.le_of_ble_eq_true h3) r1 r2 r3 r4 r5 r6 r7 r8 g v m u ii cc L h1.2 h1.1 z (Nat.le_of_ble_eq_true h2)
    refine ⟨q, hq.trans ?_⟩
    unfold lfJi1
    rw [Int.toNat_natCast]
    cases decide (cc ≤ 0) <;> rfl
  · cases h
def kJo : List Bool := maskOf 161 [0,2,5,6,7]
def xJo (e : Ex) : List Bool := match e with
  | .exit _ => maskOf 161 [0,2,5,6]
  | .ret => maskOf 161 [2,3]
  | .normal => maskOf 161 [0,2,5,6,7]
def KJo (e : Ex) (st : St) : Option (Ex × St) := some (e, cutC 0 0 (xJo e) st)
set_option maxRecDepth 20000 in
theorem stepJo0 (s : ByteArray) (z : Int) (r1 : Int) (r2 : Int) (r3 : Int) (r4 : Int) (r5 : Int) (r6 : Int) (r7 : Int) (r8 : Int) (ii : Int) (n : Nat) : evLoop Γre Tryz.prog ΛJi (cutC 0 0 kJo) bdJo (n + 1) (mk kJo [.v (S s), .ptr 0 0, .ptr 1 0, .v (I z), .v (I ii)] ⟨[[.v (.slice none 0 0), .v (I 0), .v (I 0), .v (I 0), .v (I 0), .v (I 0), .v (I 0), .v (I 0), .v (I 0)], [.v (.slice none 0 0), .v (I r1), .v (I r2), .v (I r3), .v (I r4), .v (I r5), .v (I r6), .v (I r7), .v (I r8)]], [true, true], []⟩) KJo =
    (bif true && decide ((4 : Int) < (s.size : Int)) then (bif decide (ii < wI (strAt s (4 : Int))) then (bif decide ((s.size : Int) < wI (z + (14 : Int))) then some (.ret, mk (xJo .ret) [.ptr 0 0, .v (I 5)] ⟨[[.v (Value.slice none (0 : Nat) (0 : Nat)), .v (I 0), .v (I 0), .v (I 0), .v (I 0), .v (I 0), .v (I 0), .v (I 0), .v (I 0)]], [true], []⟩) else (bif decide ((0 : Int) ≤ z) && decide (z < (s.size : Int)) then (bif decide ((0 : Int) ≤ wI (z + (1 : Int))) && decide (wI (z + (1 : Int)) < (s.size : Int)) then (bif decide ((0 : Int) ≤ wI (z + (2 : Int))) && (decide (wI (z + (2 : Int)) ≤ (s.size : Int)) && decide ((s.size : Int) ≤ (s.size : Int))) then (bif Nat.ble (4) (dt ((wI (z + (2 : Int)))).toNat s).size then (bif decide ((0 : Int) ≤ wI (z + (6 : Int))) && (decide (wI (z + (6 : Int)) ≤ (s.size : Int)) && decide ((s.size : Int) ≤ (s.size : Int))) then (bif Nat.ble (4) (dt ((wI (z + (6 : Int)))).toNat s).size then (bif decide ((0 : Int) ≤ wI (z + (10 : Int))) && (decide (wI (z + (10 : Int)) ≤ (s.size : Int)) && decide ((s.size : Int) ≤ (s.size : Int))) then (bif Nat.ble (4) (dt ((wI (z + (10 : Int)))).toNat s).size then (bif decide ((s.size : Int) < wI (wI (z + (14 : Int)) + wI ((8 : Int) * wI (strAt s z)))) then some (.ret, mk (xJo .ret) [.ptr 0 0, .v (I 5)] ⟨[[.v (Value.slice none (0 : Nat) (0 : Nat)), .v (I 0), .v (I 0), .v (I 0), .v (I 0), .v (I 0), .v (I 0), .v (I 0), .v (I 0)]], [true], []⟩) else (bif okJi s (wI (z + (14 : Int))) (wI (strAt s z)) (0 : Int) then (bif decide (wI (strAt s z) ≤ (0 : Int)) then evLoop Γre Tryz.prog ΛJi (cutC 0 0 kJo) bdJo n (mk kJo [.v (S s), .ptr 0 0, .ptr 1 0, .v (I (wI (z + (14 : Int)))), .v (I (wI (ii + (1 : Int))))] ⟨[[.v (Value.slice none (0 : Nat) (0 : Nat)), .v (I 0), .v (I 0), .v (I 0), .v (I 0), .v (I 0), .v (I 0), .v (I 0), .v (I 0)], [.row 0, .v (I r1), .v (I r2), .v (I r3), .v (I r4), .v (I r5), .v (I r6), .v (I r7), .v (I r8)]], [true, true], [.live ⟨49, kPh, [[Dat.l (Value.slice none (0 : Nat) (0 : Nat)) [], .n (wI (strAt s (wI (z + (1 : Int))))), .n (num4s (dt ((wI (z + (2 : Int)))).toNat s)), .n (num4s (dt ((wI (z + (6 : Int)))).toNat s)), .n (num4s (dt ((wI (z + (10 : Int)))).toNat s))]], true, false⟩]⟩) KJo else evLoop Γre Tryz.prog ΛJi (cutC 0 0 kJo) bdJo n (mk kJo [.v (S s), .ptr 0 0, .ptr 1 0, .v (I ((((wI (z + (14 : Int))).toNat + (8 : Nat) * (wI (strAt s z)).toNat) : Int))), .v (I (wI (ii + (1 : Int))))] ⟨[[.v (Value.slice none (0 : Nat) (0 : Nat)), .v (I 0), .v (I 0), .v (I 0), .v (I 0), .v (I 0), .v (I 0), .v (I 0), .v (I 0)], [.row 0, .v (I r1), .v (I r2), .v (I r3), .v (I r4), .v (I r5), .v (I r6), .v (I r7), .v (I r8)]], [true, true], [.live ⟨49, kPh, [[Dat.l (Value.slice none (0 : Nat) (0 : Nat)) (ptsP (wI (strAt s z)).toNat (dt (wI (z + (14 : Int))).toNat s)), .n (wI (strAt s (wI (z + (1 : Int))))), .n (num4s (dt ((wI (z + (2 : Int)))).toNat s)), .n (num4s (dt ((wI (z + (6 : Int)))).toNat s)), .n (num4s (dt ((wI (z + (10 : Int)))).toNat s))]], true, false⟩]⟩) KJo) else none)) else none) else none) else none) else none) else none) else none) else none) else none)) else some ((.exit 2), mk (xJo (.exit 2)) [.v (S s), .ptr 0 0, .ptr 1 0, .v (I z)] ⟨[[.v (Value.slice none (0 : Nat) (0 : Nat)), .v (I 0), .v (I 0), .v (I 0), .v (I 0), .v (I 0), .v (I 0), .v (I 0), .v (I 0)], [.v (Value.slice none (0 : Nat) (0 : Nat)), .v (I r1), .v (I r2), .v (I r3), .v (I r4), .v (I r5), .v (I r6), .v (I r7), .v (I r8)]], [true, true], []⟩)) else none) := by kernel_rfl
noncomputable def EJo0 (n : Nat) (s : ByteArray) (z : Int) (r1 : Int) (r2 : Int) (r3 : Int) (r4 : Int) (r5 : Int) (r6 : Int) (r7 : Int) (r8 : Int) (ii : Int) : Option (Ex × St) :=
  evLoop Γre Tryz.prog ΛJi (cutC 0 0 kJo) bdJo n (mk kJo [.v (S s), .ptr 0 0, .ptr 1 0, .v (I z), .v (I ii)] ⟨[[.v (.slice none 0 0), .v (I 0), .v (I 0), .v (I 0), .v (I 0), .v (I 0), .v (I 0), .v (I 0), .v (I 0)], [.v (.slice none 0 0), .v (I r1), .v (I r2), .v (I r3), .v (I r4), .v (I r5), .v (I r6), .v (I r7), .v (I r8)]], [true, true], []⟩) KJo
set_option maxRecDepth 20000 in
theorem stepJo1 (s : ByteArray) (z : Int) (r1 : Int) (r2 : Int) (r3 : Int) (r4 : Int) (r5 : Int) (r6 : Int) (r7 : Int) (r8 : Int) (ii : Int) (L : List (List Dat)) (n : Nat) : evLoop Γre Tryz.prog ΛJi (cutC 0 0 kJo) bdJo (n + 1) (mk kJo [.v (S s), .ptr 0 0, .ptr 1 0, .v (I z), .v (I ii)] ⟨[[.v (.slice none 0 0), .v (I 0), .v (I 0), .v (I 0), .v (I 0), .v (I 0), .v (I 0), .v (I 0), .v (I 0)], [.row 0, .v (I r1), .v (I r2), .v (I r3), .v (I r4), .v (I r5), .v (I r6), .v (I r7), .v (I r8)]], [true, true], [rH L true false]⟩) KJo =
    (bif true && decide ((4 : Int) < (s.size : Int)) then (bif decide (ii < wI (strAt s (4 : Int))) then (bif decide ((s.size : Int) < wI (z + (14 : Int))) then some (.ret, mk (xJo .ret) [.ptr 0 0, .v (I 5)] ⟨[[.v (Value.slice none (0 : Nat) (0 : Nat)), .v (I 0), .v (I 0), .v (I 0), .v (I 0), .v (I 0), .v (I 0), .v (I 0), .v (I 0)]], [true], []⟩) else (bif decide ((0 : Int) ≤ z) && decide (z < (s.size : Int)) then (bif decide ((0 : Int) ≤ wI (z + (1 : Int))) && decide (wI (z + (1 : Int)) < (s.size : Int)) then (bif decide ((0 : Int) ≤ wI (z + (2 : Int))) && (decide (wI (z + (2 : Int)) ≤ (s.size : Int)) && decide ((s.size : Int) ≤ (s.size : Int))) then (bif Nat.ble (4) (dt ((wI (z + (2 : Int)))).toNat s).size then (bif decide ((0 : Int) ≤ wI (z + (6 : Int))) && (decide (wI (z + (6 : Int)) ≤ (s.size : Int)) && decide ((s.size : Int) ≤ (s.size : Int))) then (bif Nat.ble (4) (dt ((wI (z + (6 : Int)))).toNat s).size then (bif decide ((0 : Int) ≤ wI (z + (10 : Int))) && (decide (wI (z + (10 : Int)) ≤ (s.size : Int)) && decide ((s.size : Int) ≤ (s.size : Int))) then (bif Nat.ble (4) (dt ((wI (z + (10 : Int)))).toNat s).size then (bif decide ((s.size : Int) < wI (wI (z + (14 : Int)) + wI ((8 : Int) * wI (strAt s z)))) then some (.ret, mk (xJo .ret) [.ptr 0 0, .v (I 5)] ⟨[[.v (Value.slice none (0 : Nat) (0 : Nat)), .v (I 0), .v (I 0), .v (I 0), .v (I 0), .v (I 0), .v (I 0), .v (I 0), .v (I 0)]], [true], []⟩) else (bif okJi s (wI (z + (14 : Int))) (wI (strAt s z)) (0 : Int) then (bif decide (wI (strAt s z) ≤ (0 : Int)) then (bif decide ((L.length + (one [Dat.l (Value.slice none (0 : Nat) (0 : Nat)) [], Dat.n (wI (strAt s (wI (z + (1 : Int))))), Dat.n (num4s (dt ((wI (z + (2 : Int)))).toNat s)), Dat.n (num4s (dt ((wI (z + (6 : Int)))).toNat s)), Dat.n (num4s (dt ((wI (z + (10 : Int)))).toNat s))]).length) * (56 : Nat) ≤ (140737488355328 : Nat) ∧ L.length + (one [Dat.l (Value.slice none (0 : Nat) (0 : Nat)) [], Dat.n (wI (strAt s (wI (z + (1 : Int))))), Dat.n (num4s (dt ((wI (z + (2 : Int)))).toNat s)), Dat.n (num4s (dt ((wI (z + (6 : Int)))).toNat s)), Dat.n (num4s (dt ((wI (z + (10 : Int)))).toNat s))]).length ≤ (9223372036854775807 : Nat)) then evLoop Γre Tryz.prog ΛJi (cutC 0 0 kJo) bdJo n (mk kJo [.v (S s), .ptr 0 0, .ptr 1 0, .v (I (wI (z + (14 : Int)))), .v (I (wI (ii + (1 : Int))))] ⟨[[.v (Value.slice none (0 : Nat) (0 : Nat)), .v (I 0), .v (I 0), .v (I 0), .v (I 0), .v (I 0), .v (I 0), .v (I 0), .v (I 0)], [.row 0, .v (I r1), .v (I r2), .v (I r3), .v (I r4), .v (I r5), .v (I r6), .v (I r7), .v (I r8)]], [true, true], [.live ⟨49, kPh, L ++ (one [Dat.l (Value.slice none (0 : Nat) (0 : Nat)) [], Dat.n (wI (strAt s (wI (z + (1 : Int))))), Dat.n (num4s (dt ((wI (z + (2 : Int)))).toNat s)), Dat.n (num4s (dt ((wI (z + (6 : Int)))).toNat s)), Dat.n (num4s (dt ((wI (z + (10 : Int)))).toNat s))]), true, false⟩]⟩) KJo else none) else (bif decide ((L.length + (one [Dat.l (Value.slice none (0 : Nat) (0 : Nat)) (ptsP (wI (strAt s z)).toNat (dt (wI (z + (14 : Int))).toNat s)), Dat.n (wI (strAt s (wI (z + (1 : Int))))), Dat.n (num4s (dt ((wI (z + (2 : Int)))).toNat s)), Dat.n (num4s (dt ((wI (z + (6 : Int)))).toNat s)), Dat.n (num4s (dt ((wI (z + (10 : Int)))).toNat s))]).length) * (56 : Nat) ≤ (140737488355328 : Nat) ∧ L.length + (one [Dat.l (Value.slice none (0 : Nat) (0 : Nat)) (ptsP (wI (strAt s z)).toNat (dt (wI (z + (14 : Int))).toNat s)), Dat.n (wI (strAt s (wI (z + (1 : Int))))), Dat.n (num4s (dt ((wI (z + (2 : Int)))).toNat s)), Dat.n (num4s (dt ((wI (z + (6 : Int)))).toNat s)), Dat.n (num4s (dt ((wI (z + (10 : Int)))).toNat s))]).length ≤ (9223372036854775807 : Nat)) then evLoop Γre Tryz.prog ΛJi (cutC 0 0 kJo) bdJo n (mk kJo [.v (S s), .ptr 0 0, .ptr 1 0, .v (I ((((wI (z + (14 : Int))).toNat + (8 : Nat) * (wI (strAt s z)).toNat) : Int))), .v (I (wI (ii + (1 : Int))))] ⟨[[.v (Value.slice none (0 : Nat) (0 : Nat)), .v (I 0), .v (I 0), .v (I 0), .v (I 0), .v (I 0), .v (I 0), .v (I 0), .v (I 0)], [.row 0, .v (I r1), .v (I r2), .v (I r3), .v (I r4), .v (I r5), .v (I r6), .v (I r7), .v (I r8)]], [true, true], [.live ⟨49, kPh, L ++ (one [Dat.l (Value.slice none (0 : Nat) (0 : Nat)) (ptsP (wI (strAt s z)).toNat (dt (wI (z + (14 : Int))).toNat s)), Dat.n (wI (strAt s (wI (z + (1 : Int))))), Dat.n (num4s (dt ((wI (z + (2 : Int)))).toNat s)), Dat.n (num4s (dt ((wI (z + (6 : Int)))).toNat s)), Dat.n (num4s (dt ((wI (z + (10 : Int)))).toNat s))]), true, false⟩]⟩) KJo else none)) else none)) else none) else none) else none) else none) else none) else none) else none) else none)) else some ((.exit 2), mk (xJo (.exit 2)) [.v (S s), .ptr 0 0, .ptr 1 0, .v (I z)] ⟨[[.v (Value.slice none (0 : Nat) (0 : Nat)), .v (I 0), .v (I 0), .v (I 0), .v (I 0), .v (I 0), .v (I 0), .v (I 0), .v (I 0)], [.row 0, .v (I r1), .v (I r2), .v (I r3), .v (I r4), .v (I r5), .v (I r6), .v (I r7), .v (I r8)]], [true, true], [.live ⟨49, kPh, L, true, false⟩]⟩)) else none) := by kernel_rfl
noncomputable def EJo1 (n : Nat) (s : ByteArray) (z : Int) (r1 : Int) (r2 : Int) (r3 : Int) (r4 : Int) (r5 : Int) (r6 : Int) (r7 : Int) (r8 : Int) (ii : Int) (L : List (List Dat)) : Option (Ex × St) :=
  evLoop Γre Tryz.prog ΛJi (cutC 0 0 kJo) bdJo n (mk kJo [.v (S s), .ptr 0 0, .ptr 1 0, .v (I z), .v (I ii)] ⟨[[.v (.slice none 0 0), .v (I 0), .v (I 0), .v (I 0), .v (I 0), .v (I 0), .v (I 0), .v (I 0), .v (I 0)], [.row 0, .v (I r1), .v (I r2), .v (I r3), .v (I r4), .v (I r5), .v (I r6), .v (I r7), .v (I r8)]], [true, true], [rH L true false]⟩) KJo
/-- A loop that reads phases from a place on, and may end early. -/
theorem phLoopZ {α : Type} (s : ByteArray) (mm : Int) (hc : mm ≤ 255) (E : Nat → Nat → Int → List (List Dat) → Option α) (X : Nat → List (List Dat) → Option α) (Y : Option α) (he : ∀ n z k A, z ≤ s.size → ¬ k < mm → E (n + 1) z k A = X z A)
    (hr : ∀ n z k A, 0 ≤ k → k < mm → z ≤ s.size → A.length ≤ 255 → E (n + 1) z k A = bif Nat.ble (lenP (dt z s)) (dt z s).size then E n (z + lenP (dt z s)) (k + 1) (A ++ [phP idI (dt z s)]) else Y) :
    ∀ (q : Nat) (z : Nat) (k : Int) (A : List (List Dat)), 0 ≤ k → k + q = mm → z ≤ s.size → (A.length : Int) ≤ k → E (q + 1) z k A = bif fitP q (dt z s) then X (s.size - (restP q (dt z s)).size) (A ++ phsP idI q (dt z s)) else Y := by
  intro m
  induction m with
  | zero =>
    intro z k A h0 h1 h2 h4
    rw [he 0 z k A h2 (by omega)]
    show X z A = X (s.size - (dt z s).size) (A ++ [])
    rw [List.append_nil, dt_size, show s.size - (s.size - z) = z by omega]
  | succ m ih =>
    intro z k A h0 h1 h2 h4
    rw [hr (m + 1) z k A h0 (by omega) h2 (by omega), fitP, restP, phsP]
    cases hb : Nat.ble (lenP (dt z s)) (dt z s).size
    · rfl
    · have hl := Nat.le_of_ble_eq_true hb
      rw [dt_size] at hl
      have e := ih (z + lenP (dt z s)) (k + 1) (A ++ [phP idI (dt z s)]) (by omega) (by omega) (by omega) (by rw [List.length_append, List.length_singleton]; omega)
      rw [← dt_dt] at e
      show E (m + 1) (z + lenP (dt z s)) (k + 1) (A ++ [phP idI (dt z s)]) = bif fitP m (dt (lenP (dt z s)) (dt z s)) then _ else Y
      rw [e, List.append_assoc]
      rfl
theorem lt_dec {a b : Nat} (h : a < b) : decide ((a : Int) < (b : Int)) = true := decide_eq_true (by omega)
theorem ge_dec {a b : Nat} (h : b ≤ a) : decide ((a : Int) < (b : Int)) = false := decide_eq_false (by omega)
theorem le_dec {a b : Nat} (h : a ≤ b) : decide ((a : Int) ≤ (b : Int)) = true := decide_eq_true (by omega)
theorem z_dec (a : Nat) : decide ((0 : Int) ≤ (a : Int)) = true := decide_eq_true (by omega)
theorem ble_no {a b : Nat} (h : b < a) : Nat.ble a b = false := by
  cases e : Nat.ble a b
  · rfl
  · have := Nat.le_of_ble_eq_true e
    omega
theorem okJi_of {s : ByteArray} (hs : s.size ≤ 1000000) {z n : Nat} (hn : n < 256) (h : z + 8 * n ≤ s.size) : okJi s (z : Int) (n : Int) 0 = true := by
  unfold okJi
  rw [decide_eq_true (show (0 : Int) ≤ (n : Int) ∧ (n : Int) ≤ 255 by omega), z_dec, Int.toNat_natCast, Int.toNat_natCast, Nat.ble_eq_true_of_le h, Nat.ble_eq_true_of_le hs]
  rfl
theorem phI_0 {t : ByteArray} (h : by1 t = 0) : phP idI t = [.l (.slice none 0 0) [], .n (by1 (dt 1 t) : Int), .n (num4s (dt 2 t)), .n (num4s (dt 6 t)), .n (num4s (dt 10 t))] := by
  unfold phP
  rw [h]
  rfl
theorem stepJo1' (s : ByteArray) (hs : s.size ≤ 1000000) (h4 : 5 ≤ s.size) (z : Nat) (r1 : Int) (r2 : Int) (r3 : Int) (r4 : Int) (r5 : Int) (r6 : Int) (r7 : Int) (r8 : Int) (ii : Int) (L : List (List Dat)) (n : Nat) (h0 : 0 ≤ ii) (h1 : ii < (by1 (dt 4 s) : Int)) (hz : z ≤ s.size) (hL : L.length ≤ 255) : EJo1 (n + 1) s z r1 r2 r3 r4 r5 r6 r7 r8 ii L = bif Nat.ble (lenP (dt z s)) (dt z s).size then EJo1 n s ((z + lenP (dt z s) : Nat) : Int) r1 r2 r3 r4 r5 r6 r7 r8 (ii + 1) (L ++ [phP idI (dt z s)]) else some (.ret, mk (xJo .ret) [.ptr 0 0, .v (I 5)] ⟨[[.v (.slice none 0 0), .v (I 0), .v (I 0), .v (I 0), .v (I 0), .v (I 0), .v (I 0), .v (I 0), .v (I 0)]], [true], []⟩) := by
  have hb4 := by1_lt (dt 4 s)
  have hb := by1_lt (dt z s)
  have s4 : wI (strAt s (4 : Int)) = (by1 (dt 4 s) : Int) := by
    rw [show strAt s (4 : Int) = (by1 (dt 4 s) : Int) from str_by1 s 4 (by omega), wI_id (by omega)]
  have w14 : wI ((z : Int) + 14) = ((z + 14 : Nat) : Int) := by rw [wI_id (by omega)]; omega
  have wii : wI (ii + 1) = ii + 1 := wI_id (by omega)
  refine (stepJo1 s z r1 r2 r3 r4 r5 r6 r7 r8 ii L n).trans ?_
  generalize hX : (bif Nat.ble (lenP (dt z s)) (dt z s).size then EJo1 n s ((z + lenP (dt z s) : Nat) : Int) r1 r2 r3 r4 r5 r6 r7 r8 (ii + 1) (L ++ [phP idI (dt z s)]) else some (.ret, mk (xJo .ret) [.ptr 0 0, .v (I 5)] ⟨[[.v (.slice none 0 0), .v (I 0), .v (I 0), .v (I 0), .v (I 0), .v (I 0), .v (I 0), .v (I 0), .v (I 0)]], [true], []⟩)) = X
  simp only [s4, w14, wii, decide_eq_true h1, decide_eq_true (show (4 : Int) < (s.size : Int) by omega), cond_true, Bool.and_self]
  by_cases c1 : s.size < z + 14
  · simp only [lt_dec c1, cond_true]
    rw [← hX, show Nat.ble (lenP (dt z s)) (dt z s).size = false from ble_no (by rw [dt_size]; unfold lenP; omega)]
    rfl
  have w1 : wI ((z : Int) + 1) = ((z + 1 : Nat) : Int) := by rw [wI_id (by omega)]; omega
  have w2 : wI ((z : Int) + 2) = ((z + 2 : Nat) : Int) := by rw [wI_id (by omega)]; omega
  have w6 : wI ((z : Int) + 6) = ((z + 6 : Nat) : Int) := by rw [wI_id (by omega)]; omega
  have w10 : wI ((z : Int) + 10) = ((z + 10 : Nat) : Int) := by rw [wI_id (by omega)]; omega
  have hb1 := by1_lt (dt (z + 1) s)
  have sz : wI (strAt s (z : Int)) = (by1 (dt z s) : Int) := by rw [str_by1 s z (by omega), wI_id (by omega)]
  have sz1 : wI (strAt s ((z + 1 : Nat) : Int)) = (by1 (dt (z + 1) s) : Int) := by rw [str_by1 s (z + 1) (by omega), wI_id (by omega)]
  have wn : wI (((z + 14 : Nat) : Int) + wI (8 * (by1 (dt z s) : Int))) = ((z + 14 + 8 * by1 (dt z s) : Nat) : Int) := by
    rw [wI_id (n := 8 * (by1 (dt z s) : Int)) (by omega), wI_id (by omega)]
    omega
  simp only [w1, w2, w6, w10, sz, sz1, wn, Int.toNat_natCast, ge_dec (show z + 14 ≤ s.size by omega), z_dec, lt_dec (show z < s.size by omega), lt_dec (show z + 1 < s.size by omega), le_dec (show z + 2 ≤ s.size by omega), le_dec (show z + 6 ≤ s.size by omega), le_dec (show z + 10 ≤ s.size by omega), le_dec (show s.size ≤ s.size by omega), ble4 (s := s) (z := z + 2) (by omega), ble4 (s := s) (z := z + 6) (by omega), ble4 (s := s) (z := z + 10) (by omega), cond_true, cond_false, Bool.and_self]
  by_cases c2 : s.size < z + 14 + 8 * by1 (dt z s)
  · simp only [lt_dec c2, cond_true]
    rw [← hX, show Nat.ble (lenP (dt z s)) (dt z s).size = false from ble_no (by rw [dt_size]; unfold lenP; omega)]
    rfl
  simp only [ge_dec (show z + 14 + 8 * by1 (dt z s) ≤ s.size by omega), okJi_of hs hb (show z + 14 + 8 * by1 (dt z s) ≤ s.size by omega), cond_true, cond_false]
  rw [← hX, show Nat.ble (lenP (dt z s)) (dt z s).size = true from Nat.ble_eq_true_of_le (show lenP (dt z s) ≤ (dt z s).size by rw [dt_size]; unfold lenP; omega)]
  simp only [cond_true]
  by_cases hq : by1 (dt z s) = 0
  · rw [decide_eq_true (show (by1 (dt z s) : Int) ≤ 0 by omega), show z + lenP (dt z s) = z + 14 by unfold lenP; omega, phI_0 hq, dt_dt, dt_dt, dt_dt, dt_dt]
    rw [decide_eq_true (show (L.length + (one [Dat.l (Value.slice none 0 0) [], Dat.n (by1 (dt (z + 1) s) : Int), Dat.n (num4s (dt (z + 2) s)), Dat.n (num4s (dt (z + 6) s)), Dat.n (num4s (dt (z + 10) s))]).length) * 56 ≤ 140737488355328 ∧ L.length + (one [Dat.l (Value.slice none 0 0) [], Dat.n (by1 (dt (z + 1) s) : Int), Dat.n (num4s (dt (z + 2) s)), Dat.n (num4s (dt (z + 6) s)), Dat.n (num4s (dt (z + 10) s))]).length ≤ 9223372036854775807 by
      unfold one
      rw [List.length_singleton]
      omega)]
    rfl
  · rw [decide_eq_false (show ¬ (by1 (dt z s) : Int) ≤ 0 by omega), show ((z + 14 : Nat) : Int) + ((8 : Nat) : Int) * (by1 (dt z s) : Int) = ((z + lenP (dt z s) : Nat) : Int) by unfold lenP; omega]
    rw [decide_eq_true (show (L.length + (one [Dat.l (Value.slice none 0 0) (ptsP (by1 (dt z s)) (dt (z + 14) s)), Dat.n (by1 (dt (z + 1) s) : Int), Dat.n (num4s (dt (z + 2) s)), Dat.n (num4s (dt (z + 6) s)), Dat.n (num4s (dt (z + 10) s))]).length) * 56 ≤ 140737488355328 ∧ L.length + (one [Dat.l (Value.slice none 0 0) (ptsP (by1 (dt z s)) (dt (z + 14) s)), Dat.n (by1 (dt (z + 1) s) : Int), Dat.n (num4s (dt (z + 2) s)), Dat.n (num4s (dt (z + 6) s)), Dat.n (num4s (dt (z + 10) s))]).length ≤ 9223372036854775807 by
      unfold one
      rw [List.length_singleton]
      omega)]
    unfold phP
    rw [dt_dt, dt_dt, dt_dt, dt_dt, dt_dt]
    rfl
theorem stepJo0' (s : ByteArray) (hs : s.size ≤ 1000000) (h4 : 5 ≤ s.size) (z : Nat) (r1 : Int) (r2 : Int) (r3 : Int) (r4 : Int) (r5 : Int) (r6 : Int) (r7 : Int) (r8 : Int) (ii : Int) (n : Nat) (h0 : 0 ≤ ii) (h1 : ii < (by1 (dt 4 s) : Int)) (hz : z ≤ s.size) : EJo0 (n + 1) s z r1 r2 r3 r4 r5 r6 r7 r8 ii = bif Nat.ble (lenP (dt z s)) (dt z s).size then EJo1 n s ((z + lenP (dt z s) : Nat) : Int) r1 r2 r3 r4 r5 r6 r7 r8 (ii + 1) [phP idI (dt z s)] else some (.ret, mk (xJo .ret) [.ptr 0 0, .v (I 5)] ⟨[[.v (.slice none 0 0), .v (I 0), .v (I 0), .v (I 0), .v (I 0), .v (I 0), .v (I 0), .v (I 0), .v (I 0)]], [true], []⟩) := by
  have hb4 := by1_lt (dt 4 s)
  have hb := by1_lt (dt z s)
  have s4 : wI (strAt s (4 : Int)) = (by1 (dt 4 s) : Int) := by
    rw [show strAt s (4 : Int) = (by1 (dt 4 s) : Int) from str_by1 s 4 (by omega), wI_id (by omega)]
  have w14 : wI ((z : Int) + 14) = ((z + 14 : Nat) : Int) := by rw [wI_id (by omega)]; omega
  have wii : wI (ii + 1) = ii + 1 := wI_id (by omega)
  refine (stepJo0 s z r1 r2 r3 r4 r5 r6 r7 r8 ii n).trans ?_
  generalize hX : (bif Nat.ble (lenP (dt z s)) (dt z s).size then EJo1 n s ((z + lenP (dt z s) : Nat) : Int) r1 r2 r3 r4 r5 r6 r7 r8 (ii + 1) [phP idI (dt z s)] else some (.ret, mk (xJo .ret) [.ptr 0 0, .v (I 5)] ⟨[[.v (.slice none 0 0), .v (I 0), .v (I 0), .v (I 0), .v (I 0), .v (I 0), .v (I 0), .v (I 0), .v (I 0)]], [true], []⟩)) = X
  simp only [s4, w14, wii, decide_eq_true h1, decide_eq_true (show (4 : Int) < (s.size : Int) by omega), cond_true, Bool.and_self]
  by_cases c1 : s.size < z + 14
  · simp only [lt_dec c1, cond_true]
    rw [← hX, show Nat.ble (lenP (dt z s)) (dt z s).size = false from ble_no (by rw [dt_size]; unfold lenP; omega)]
    rfl
  have w1 : wI ((z : Int) + 1) = ((z + 1 : Nat) : Int) := by rw [wI_id (by omega)]; omega
  have w2 : wI ((z : Int) + 2) = ((z + 2 : Nat) : Int) := by rw [wI_id (by omega)]; omega
  have w6 : wI ((z : Int) + 6) = ((z + 6 : Nat) : Int) := by rw [wI_id (by omega)]; omega
  have w10 : wI ((z : Int) + 10) = ((z + 10 : Nat) : Int) := by rw [wI_id (by omega)]; omega
  have hb1 := by1_lt (dt (z + 1) s)
  have sz : wI (strAt s (z : Int)) = (by1 (dt z s) : Int) := by rw [str_by1 s z (by omega), wI_id (by omega)]
  have sz1 : wI (strAt s ((z + 1 : Nat) : Int)) = (by1 (dt (z + 1) s) : Int) := by rw [str_by1 s (z + 1) (by omega), wI_id (by omega)]
  have wn : wI (((z + 14 : Nat) : Int) + wI (8 * (by1 (dt z s) : Int))) = ((z + 14 + 8 * by1 (dt z s) : Nat) : Int) := by
    rw [wI_id (n := 8 * (by1 (dt z s) : Int)) (by omega), wI_id (by omega)]
    omega
  simp only [w1, w2, w6, w10, sz, sz1, wn, Int.toNat_natCast, ge_dec (show z + 14 ≤ s.size by omega), z_dec, lt_dec (show z < s.size by omega), lt_dec (show z + 1 < s.size by omega), le_dec (show z + 2 ≤ s.size by omega), le_dec (show z + 6 ≤ s.size by omega), le_dec (show z + 10 ≤ s.size by omega), le_dec (show s.size ≤ s.size by omega), ble4 (s := s) (z := z + 2) (by omega), ble4 (s := s) (z := z + 6) (by omega), ble4 (s := s) (z := z + 10) (by omega), cond_true, cond_false, Bool.and_self]
  by_cases c2 : s.size < z + 14 + 8 * by1 (dt z s)
  · simp only [lt_dec c2, cond_true]
    rw [← hX, show Nat.ble (lenP (dt z s)) (dt z s).size = false from ble_no (by rw [dt_size]; unfold lenP; omega)]
    rfl
  simp only [ge_dec (show z + 14 + 8 * by1 (dt z s) ≤ s.size by omega), okJi_of hs hb (show z + 14 + 8 * by1 (dt z s) ≤ s.size by omega), cond_true, cond_false]
  rw [← hX, show Nat.ble (lenP (dt z s)) (dt z s).size = true from Nat.ble_eq_true_of_le (show lenP (dt z s) ≤ (dt z s).size by rw [dt_size]; unfold lenP; omega)]
  simp only [cond_true]
  by_cases hq : by1 (dt z s) = 0
  · rw [decide_eq_true (show (by1 (dt z s) : Int) ≤ 0 by omega), show z + lenP (dt z s) = z + 14 by unfold lenP; omega, phI_0 hq, dt_dt, dt_dt, dt_dt, dt_dt]
    rfl
  · rw [decide_eq_false (show ¬ (by1 (dt z s) : Int) ≤ 0 by omega), show ((z + 14 : Nat) : Int) + ((8 : Nat) : Int) * (by1 (dt z s) : Int) = ((z + lenP (dt z s) : Nat) : Int) by unfold lenP; omega]
    unfold phP
    rw [dt_dt, dt_dt, dt_dt, dt_dt, dt_dt]
    rfl
noncomputable def bdJf : Code := loopAt (Tryz.f10.body.getD .skip) 0
def kJf : List Bool := maskOf 161 [0,2,4]
def xJf (e : Ex) : List Bool := match e with
  | .exit _ => maskOf 161 [0,2]
  | .ret => maskOf 161 [2,3]
  | .normal => maskOf 161 [0,2,4]
def KJf (e : Ex) (st : St) : Option (Ex × St) := some (e, cutC 0 0 (xJf e) st)
set_option maxRecDepth 20000 in
theorem stepJf (s : ByteArray) (i : Int) (n : Nat) : evLoop Γre Tryz.prog L0 (cutC 0 0 kJf) bdJf (n + 1) (mk kJf [.v (S s), .ptr 0 0, .v (I i)] ⟨[[.v (.slice none 0 0), .v (I 0), .v (I 0), .v (I 0), .v (I 0), .v (I 0), .v (I 0), .v (I 0), .v (I 0)]], [true], []⟩) KJf =
    (bif decide (i < (s.size : Int)) then (bif decide (i < (4 : Int)) then (bif decide ((0 : Int) ≤ i) && decide (i < (s.size : Int)) then (bif decide ((0 : Int) ≤ i) && decide (i < (4 : Int)) then (bif strAt s i != strAt { data := #[65, 70, 84, 85] : ByteArray } i then some (.ret, mk (xJf .ret) [.ptr 0 0, .v (I 3)] ⟨[[.v (Value.slice none (0 : Nat) (0 : Nat)), .v (I 0), .v (I 0), .v (I 0), .v (I 0), .v (I 0), .v (I 0), .v (I 0), .v (I 0)]], [true], []⟩) else evLoop Γre Tryz.prog L0 (cutC 0 0 kJf) bdJf n (mk kJf [.v (S s), .ptr 0 0, .v (I (wI (i + (1 : Int))))] ⟨[[.v (Value.slice none (0 : Nat) (0 : Nat)), .v (I 0), .v (I 0), .v (I 0), .v (I 0), .v (I 0), .v (I 0), .v (I 0), .v (I 0)]], [true], []⟩) KJf) else none) else none) else some ((.exit 0), mk (xJf (.exit 0)) [.v (S s), .ptr 0 0] ⟨[[.v (Value.slice none (0 : Nat) (0 : Nat)), .v (I 0), .v (I 0), .v (I 0), .v (I 0), .v (I 0), .v (I 0), .v (I 0), .v (I 0)]], [true], []⟩)) else some ((.exit 0), mk (xJf (.exit 0)) [.v (S s), .ptr 0 0] ⟨[[.v (Value.slice none (0 : Nat) (0 : Nat)), .v (I 0), .v (I 0), .v (I 0), .v (I 0), .v (I 0), .v (I 0), .v (I 0), .v (I 0)]], [true], []⟩)) := by kernel_rfl
noncomputable def EJf (n : Nat) (s : ByteArray) (i : Int) : Option (Ex × St) :=
  evLoop Γre Tryz.prog L0 (cutC 0 0 kJf) bdJf n (mk kJf [.v (S s), .ptr 0 0, .v (I i)] ⟨[[.v (.slice none 0 0), .v (I 0), .v (I 0), .v (I 0), .v (I 0), .v (I 0), .v (I 0), .v (I 0), .v (I 0)]], [true], []⟩) KJf
theorem strAt_bt {s : ByteArray} {i : Nat} {b : UInt8} (hg : (L s)[i]? = some b) : strAt s (i : Int) = (b.toNat : Int) := by
  have h : i < s.size := by
    have := (List.getElem?_eq_some_iff.1 hg).1
    rwa [L_len] at this
  unfold strAt
  obtain ⟨d⟩ := s
  have hg' : d[i]? = some b := by simpa [L, Array.getElem?_toList] using hg
  have hz : i < d.size := h
  have hb : d[i] = b := by
    rw [Array.getElem?_eq_getElem hz] at hg'
    exact Option.some.inj hg'
  have e : (⟨d⟩ : ByteArray)[i]? = some b := by
    rw [getElem?_pos (⟨d⟩ : ByteArray) i h]
    exact congrArg some hb
  show (match (⟨d⟩ : ByteArray)[i]? with | some b => (b.toNat : Int) | none => 0) = _
  rw [e]
abbrev mkA : ByteArray := { data := #[65, 70, 84, 85] }
def badA (s : ByteArray) (i : Int) : Bool := strAt s i != strAt mkA i
theorem loopJf (s : ByteArray) (hs : s.size ≤ 1000000) : EJf (min s.size 4 + 1) s 0 = bif anyN (badA s) (min s.size 4) 0 then some (.ret, mk (xJf .ret) [.ptr 0 0, .v (I 3)] ⟨[[.v (.slice none 0 0), .v (I 0), .v (I 0), .v (I 0), .v (I 0), .v (I 0), .v (I 0), .v (I 0), .v (I 0)]], [true], []⟩) else some (.exit 0, mk (xJf (.exit 0)) [.v (S s), .ptr 0 0] ⟨[[.v (.slice none 0 0), .v (I 0), .v (I 0), .v (I 0), .v (I 0), .v (I 0), .v (I 0), .v (I 0), .v (I 0)]], [true], []⟩) := by
  refine findLoop (badA s) ((min s.size 4 : Nat) : Int) (fun n i => EJf n s i) (some (.exit 0, mk (xJf (.exit 0)) [.v (S s), .ptr 0 0] ⟨[[.v (.slice none 0 0), .v (I 0), .v (I 0), .v (I 0), .v (I 0), .v (I 0), .v (I 0), .v (I 0), .v (I 0)]], [true], []⟩)) (some (.ret, mk (xJf .ret) [.ptr 0 0, .v (I 3)] ⟨[[.v (.slice none 0 0), .v (I 0), .v (I 0), .v (I 0), .v (I 0), .v (I 0), .v (I 0), .v (I 0), .v (I 0)]], [true], []⟩)) (fun n k hk => ?_) (fun n k hk => ?_) (min s.size 4) 0 (by omega) (by omega)
  · refine (stepJf s k n).trans ?_
    by_cases h : k < (s.size : Int)
    · rw [decide_eq_true h, decide_eq_false (show ¬ k < 4 by omega)]
      rfl
    · rw [decide_eq_false h]
      rfl
  · refine (stepJf s k n).trans ?_
    rw [decide_eq_true (show k < (s.size : Int) by omega), decide_eq_true (show k < 4 by omega), decide_eq_true hk.1, wI_id (n := k + 1) (by omega)]
    show (bif badA s k then _ else _) = _
    cases badA s k <;> rfl
def lfJf (s : ByteArray) : LT := .br (anyN (badA s) (min s.size 4) 0) (.leaf .ret (mk (xJf .ret) [.ptr 0 0, .v (I 3)] ⟨[[.v (.slice none 0 0), .v (I 0), .v (I 0), .v (I 0), .v (I 0), .v (I 0), .v (I 0), .v (I 0), .v (I 0)]], [true], []⟩)) (.leaf (.exit 0) (mk (xJf (.exit 0)) [.v (S s), .ptr 0 0] ⟨[[.v (.slice none 0 0), .v (I 0), .v (I 0), .v (I 0), .v (I 0), .v (I 0), .v (I 0), .v (I 0), .v (I 0)]], [true], []⟩))
def GJf (vals : List SV) (m : Mem) : Option (Bool × LT) :=
  match vals, m with
  | [.v (.string s), .ptr 0 0, .v (.int .i64 i)], ⟨[[.v (.slice none 0 0), .v (.int .i64 0), .v (.int .i64 0), .v (.int .i64 0), .v (.int .i64 0), .v (.int .i64 0), .v (.int .i64 0), .v (.int .i64 0), .v (.int .i64 0)]], [true], []⟩ => some (i == 0 && Nat.ble s.size 1000000, lfJf s)
  | _, _ => none
theorem bad_bt {s : ByteArray} {i : Nat} {a c : UInt8} (h : (L s)[i]? = some a) (hc : (L mkA)[i]? = some c) : badA s (i : Int) = !(a == c) := by
  unfold badA
  rw [strAt_bt h, strAt_bt hc, bne]
  congr 1
  by_cases e : a = c
  · subst e
    rw [beq_self_eq_true, beq_self_eq_true]
  · rw [show (a == c) = false from beq_eq_false_iff_ne.2 e]
    refine beq_eq_false_iff_ne.2 fun h' => e ?_
    have : a.toNat = c.toNat := by omega
    exact UInt8.toNat_inj.1 this
theorem pfx_any (s : ByteArray) : pfxB s = !anyN (badA s) (min s.size 4) 0 := by
  have key : ∀ k : Nat, k = min s.size 4 → (if (4 : Int) < (s.size : Int) then (4 : Int) else (s.size : Int)).toNat = k := by
    intro k hk
    split <;> omega
  have hl := L_len s
  unfold pfxB hasP
  rw [beq_T]
  cases hq : L s with
  | nil =>
    have h0 : s.size = 0 := by rw [hq] at hl; simpa using hl.symm
    rw [key 0 (by omega), h0, L_ext, L_ext, hq]
    rfl
  | cons a t1 => cases t1 with
    | nil =>
      have h0 : s.size = 1 := by rw [hq] at hl; simpa using hl.symm
      have e0 := bad_bt (s := s) (i := 0) (a := a) (c := 65) (by rw [hq]; rfl) rfl
      rw [key 1 (by omega), h0, L_ext, L_ext, hq]
      show (([a] == [65]) : Bool) = !(badA s ((0 : Nat) : Int) || false)
      rw [e0]
      simp
    | cons b t2 => cases t2 with
      | nil =>
        have h0 : s.size = 2 := by rw [hq] at hl; simpa using hl.symm
        have e0 := bad_bt (s := s) (i := 0) (a := a) (c := 65) (by rw [hq]; rfl) rfl
        have e1 := bad_bt (s := s) (i := 1) (a := b) (c := 70) (by rw [hq]; rfl) rfl
        rw [key 2 (by omega), h0, L_ext, L_ext, hq]
        show (([a, b] == [65, 70]) : Bool) = !(badA s ((0 : Nat) : Int) || (badA s ((1 : Nat) : Int) || false))
        rw [e0, e1]
        simp
      | cons c t3 => cases t3 with
        | nil =>
          have h0 : s.size = 3 := by rw [hq] at hl; simpa using hl.symm
          have e0 := bad_bt (s := s) (i := 0) (a := a) (c := 65) (by rw [hq]; rfl) rfl
          have e1 := bad_bt (s := s) (i := 1) (a := b) (c := 70) (by rw [hq]; rfl) rfl
          have e2 := bad_bt (s := s) (i := 2) (a := c) (c := 84) (by rw [hq]; rfl) rfl
          rw [key 3 (by omega), h0, L_ext, L_ext, hq]
          show (([a, b, c] == [65, 70, 84]) : Bool) = !(badA s ((0 : Nat) : Int) || (badA s ((1 : Nat) : Int) || (badA s ((2 : Nat) : Int) || false)))
          rw [e0, e1, e2]
          simp
        | cons d t4 =>
          have h0 : 4 ≤ s.size := by rw [hq] at hl; simp at hl; omega
          have e0 := bad_bt (s := s) (i := 0) (a := a) (c := 65) (by rw [hq]; rfl) rfl
          have e1 := bad_bt (s := s) (i := 1) (a := b) (c := 70) (by rw [hq]; rfl) rfl
          have e2 := bad_bt (s := s) (i := 2) (a := c) (c := 84) (by rw [hq]; rfl) rfl
          have e3 := bad_bt (s := s) (i := 3) (a := d) (c := 85) (by rw [hq]; rfl) rfl
          rw [key 4 (by omega), show min s.size 4 = 4 by omega, L_ext, L_ext, hq]
          rw [show (mkA.extract 0 4).size = 4 from rfl, decide_eq_true (show (s.size : Int) ≥ ((4 : Nat) : Int) by omega)]
          show (([a, b, c, d] == [65, 70, 84, 85]) : Bool) = !(badA s ((0 : Nat) : Int) || (badA s ((1 : Nat) : Int) || (badA s ((2 : Nat) : Int) || (badA s ((3 : Nat) : Int) || false))))
          rw [e0, e1, e2, e3]
          simp
theorem loopJo1 (s : ByteArray) (hs : s.size ≤ 1000000) (h4 : 5 ≤ s.size) (r1 : Int) (r2 : Int) (r3 : Int) (r4 : Int) (r5 : Int) (r6 : Int) (r7 : Int) (r8 : Int) : ∀ (q : Nat) (z : Nat) (k : Int) (L : List (List Dat)), 0 ≤ k → k + q = (by1 (dt 4 s) : Int) → z ≤ s.size → (L.length : Int) ≤ k → EJo1 (q + 1) s z r1 r2 r3 r4 r5 r6 r7 r8 k L = bif fitP q (dt z s) then some (.exit 2, mk (xJo (.exit 2)) [.v (S s), .ptr 0 0, .ptr 1 0, .v (I (((s.size - (restP q (dt z s)).size : Nat) : Int)))] ⟨[[.v (.slice none 0 0), .v (I 0), .v (I 0), .v (I 0), .v (I 0), .v (I 0), .v (I 0), .v (I 0), .v (I 0)], [.row 0, .v (I r1), .v (I r2), .v (I r3), .v (I r4), .v (I r5), .v (I r6), .v (I r7), .v (I r8)]], [true, true], [rH (L ++ phsP idI q (dt z s)) true false]⟩) else some (.ret, mk (xJo .ret) [.ptr 0 0, .v (I 5)] ⟨[[.v (.slice none 0 0), .v (I 0), .v (I 0), .v (I 0), .v (I 0), .v (I 0), .v (I 0), .v (I 0), .v (I 0)]], [true], []⟩) := by
  have hb4 := by1_lt (dt 4 s)
  have s4 : wI (strAt s (4 : Int)) = (by1 (dt 4 s) : Int) := by
    rw [show strAt s (4 : Int) = (by1 (dt 4 s) : Int) from str_by1 s 4 (by omega), wI_id (by omega)]
  refine phLoopZ s (by1 (dt 4 s) : Int) (by omega) (fun n z k L => EJo1 n s z r1 r2 r3 r4 r5 r6 r7 r8 k L) (fun z L => some (.exit 2, mk (xJo (.exit 2)) [.v (S s), .ptr 0 0, .ptr 1 0, .v (I ((z : Int)))] ⟨[[.v (.slice none 0 0), .v (I 0), .v (I 0), .v (I 0), .v (I 0), .v (I 0), .v (I 0), .v (I 0), .v (I 0)], [.row 0, .v (I r1), .v (I r2), .v (I r3), .v (I r4), .v (I r5), .v (I r6), .v (I r7), .v (I r8)]], [true, true], [rH (L) true false]⟩)) (some (.ret, mk (xJo .ret) [.ptr 0 0, .v (I 5)] ⟨[[.v (.slice none 0 0), .v (I 0), .v (I 0), .v (I 0), .v (I 0), .v (I 0), .v (I 0), .v (I 0), .v (I 0)]], [true], []⟩)) (fun n z k L hz hk => ?_) (fun n z k L h0 h1 hz hL => stepJo1' s hs h4 z r1 r2 r3 r4 r5 r6 r7 r8 k L n h0 h1 hz hL)
  refine (stepJo1 s z r1 r2 r3 r4 r5 r6 r7 r8 k L n).trans ?_
  rw [s4, decide_eq_false hk, decide_eq_true (show (4 : Int) < (s.size : Int) by omega)]
  rfl
/-- Where a text's phases end. -/
def endN (s : ByteArray) : Nat := s.size - (restP (by1 (dt 4 s)) (dt 22 s)).size
def lfJo (s : ByteArray) (r1 r2 r3 r4 r5 r6 r7 r8 : Int) : LT := .br (fitP (by1 (dt 4 s)) (dt 22 s)) (.br (decide ((by1 (dt 4 s) : Int) ≤ 0)) (.leaf (.exit 2) (mk (xJo (.exit 2)) [.v (S s), .ptr 0 0, .ptr 1 0, .v (I (22))] ⟨[[.v (.slice none 0 0), .v (I 0), .v (I 0), .v (I 0), .v (I 0), .v (I 0), .v (I 0), .v (I 0), .v (I 0)], [.v (.slice none 0 0), .v (I r1), .v (I r2), .v (I r3), .v (I r4), .v (I r5), .v (I r6), .v (I r7), .v (I r8)]], [true, true], []⟩)) (.leaf (.exit 2) (mk (xJo (.exit 2)) [.v (S s), .ptr 0 0, .ptr 1 0, .v (I ((endN s : Int)))] ⟨[[.v (.slice none 0 0), .v (I 0), .v (I 0), .v (I 0), .v (I 0), .v (I 0), .v (I 0), .v (I 0), .v (I 0)], [.row 0, .v (I r1), .v (I r2), .v (I r3), .v (I r4), .v (I r5), .v (I r6), .v (I r7), .v (I r8)]], [true, true], [rH (phsP idI (by1 (dt 4 s)) (dt 22 s)) true false]⟩))) (.leaf .ret (mk (xJo .ret) [.ptr 0 0, .v (I 5)] ⟨[[.v (.slice none 0 0), .v (I 0), .v (I 0), .v (I 0), .v (I 0), .v (I 0), .v (I 0), .v (I 0), .v (I 0)]], [true], []⟩))
theorem loopJo0 (s : ByteArray) (hs : s.size ≤ 1000000) (h4 : 22 ≤ s.size) (r1 : Int) (r2 : Int) (r3 : Int) (r4 : Int) (r5 : Int) (r6 : Int) (r7 : Int) (r8 : Int) : ∃ q, EJo0 q s 22 r1 r2 r3 r4 r5 r6 r7 r8 0 = some (lfJo s r1 r2 r3 r4 r5 r6 r7 r8).pick := by
  have hb4 := by1_lt (dt 4 s)
  by_cases hq : by1 (dt 4 s) = 0
  · have s4 : wI (strAt s (4 : Int)) = 0 := by
      rw [show strAt s (4 : Int) = (by1 (dt 4 s) : Int) from str_by1 s 4 (by omega), hq]
      rfl
    refine ⟨1, (stepJo0 s 22 r1 r2 r3 r4 r5 r6 r7 r8 0 0).trans ?_⟩
    unfold lfJo endN
    rw [s4, hq, decide_eq_true (show (4 : Int) < (s.size : Int) by omega)]
    rfl
  · obtain ⟨q, hq'⟩ : ∃ q : Nat, by1 (dt 4 s) = q + 1 := ⟨by1 (dt 4 s) - 1, by omega⟩
    refine ⟨q + 2, (stepJo0' s hs (by omega) 22 r1 r2 r3 r4 r5 r6 r7 r8 0 (q + 1) (by omega) (by omega) h4).trans ?_⟩
    unfold lfJo endN
    rw [decide_eq_false (show ¬ (by1 (dt 4 s) : Int) ≤ 0 by omega), hq', fitP]
    cases hb : Nat.ble (lenP (dt 22 s)) (dt 22 s).size
    · rfl
    · have hl := Nat.le_of_ble_eq_true hb
      rw [dt_size] at hl
      have e := loopJo1 s hs (by omega) r1 r2 r3 r4 r5 r6 r7 r8 q (22 + lenP (dt 22 s)) (0 + 1) [phP idI (dt 22 s)] (by omega) (by omega) (by omega) (by rw [List.length_singleton]; omega)
      simp only [cond_true, Bool.true_and]
      rw [e, ← dt_dt, phsP, restP]
      cases fitP q (dt (lenP (dt 22 s)) (dt 22 s)) <;> rfl
def okJo (s : ByteArray) (z ii : Int) : Bool := ii == 0 && (z == 22 && (Nat.ble 22 s.size && Nat.ble s.size 1000000))
def GJo2 (s : ByteArray) (z ii : Int) (m : Mem) : Option (Bool × LT) :=
  match m with
  | ⟨[[.v (.slice none 0 0), .v (.int .i64 0), .v (.int .i64 0), .v (.int .i64 0), .v (.int .i64 0), .v (.int .i64 0), .v (.int .i64 0), .v (.int .i64 0), .v (.int .i64 0)], [.v (.slice none 0 0), .v (.int .i64 r1), .v (.int .i64 r2), .v (.int .i64 r3), .v (.int .i64 r4), .v (.int .i64 r5), .v (.int .i64 r6), .v (.int .i64 r7), .v (.int .i64 r8)]], [true, true], []⟩ => some (okJo s z ii, lfJo s r1 r2 r3 r4 r5 r6 r7 r8)
  | _ => none
def GJo (vals : List SV) (m : Mem) : Option (Bool × LT) :=
  match vals with
  | [.v (.string s), .ptr 0 0, .ptr 1 0, .v (.int .i64 z), .v (.int .i64 ii)] => GJo2 s z ii m
  | _ => none
noncomputable def ΛJo : LoopOrc := either bdJo (fun _ st => viaT 0 0 kJo GJo st) (fun _ st => viaT 0 0 kJf GJf st)
theorem loopsJo : loopsOf (Tryz.f10.body.getD .skip) = [bdJf, bdJo] := by kernel_rfl
theorem loopOkJo (z : Base) (z1 : z.L.length = 0) (z2 : z.U.length = 0) : ∀ b ∈ loopsOf (Tryz.f10.body.getD .skip), LoopOk ΛJo Tryz.prog z b := by
  refine twoLoops loopsJo (eitherR (by kernel_rfl) ?_) (eitherL (by kernel_rfl) ?_)
  · refine loop_okT (body := bdJf) (Λ := L0) (kx := xJf) Okre mixed z1 z2 (fun b hb st t h => by cases h) (G := GJf) (fun _ => rfl) ?_
    intro vals m t h
    unfold GJf at h
    split at h
    case h_2 => cases h
    rename_i s i
    obtain ⟨h1, rfl⟩ := some_t h
    simp only [Bool.and_eq_true, beq_iff_eq] at h1
    obtain ⟨rfl, h3⟩ := h1
    refine ⟨_, (loopJf s (Nat.le_of_ble_eq_true h3)).trans ?_⟩
    unfold lfJf
    cases anyN (badA s) (min s.size 4) 0 <;> rfl
  refine loop_okT (Λ := ΛJi) (kx := xJo) Okre mixed z1 z2 (oneLoop loopsJi (loopOkJi z z1 z2)) (G := GJo) (fun _ => rfl) ?_
  intro vals m t h
  unfold GJo at h
  split at h
  case h_2 => cases h
  rename_i s z ii
  unfold GJo2 at h
  split at h
  case h_2 => cases h
  rename_i r1 r2 r3 r4 r5 r6 r7 r8
  obtain ⟨h1, rfl⟩ := some_t h
  unfold okJo at h1
  simp only [Bool.and_eq_true, beq_iff_eq] at h1
  obtain ⟨rfl, rfl, h2, h3⟩ := h1
  exact loopJo0 s (Nat.le_of_ble_eq_true h3) (Nat.le_of_ble_eq_true h2) r1 r2 r3 r4 r5 r6 r7 r8
set_option maxRecDepth 20000 in
theorem runRr (s : ByteArray) : runG Γre ΛJo Tryz.prog Tryz.f10 [.v (S s)] M0 = 
    (bif true && s.size.ble (1000000) then (bif anyN (badA s) (min s.size (4 : Nat)) (0 : Int) then some (.v (.tuple #[(.agg #[(Value.slice none (0 : Nat) (0 : Nat)), (I 0), (I 0), (I 0), (I 0), (I 0), (I 0), (I 0), (I 0)]), (I 3)]), M0) else (bif decide ((s.size : Int) < (22 : Int)) then some (.v (.tuple #[(.agg #[(Value.slice none (0 : Nat) (0 : Nat)), (I 0), (I 0), (I 0), (I 0), (I 0), (I 0), (I 0), (I 0)]), (I 5)]), M0) else (bif true && decide ((5 : Int) < (s.size : Int)) then (bif true && decide ((6 : Int) < (s.size : Int)) then (bif true && decide ((7 : Int) < (s.size : Int)) then (bif true && decide ((8 : Int) < (s.size : Int)) then (bif true && decide ((9 : Int) < (s.size : Int)) then (bif true && (decide ((10 : Int) ≤ (s.size : Int)) && decide ((s.size : Int) ≤ (s.size : Int))) then (bif Nat.ble (4) (dt 10 s).size then (bif true && (decide ((14 : Int) ≤ (s.size : Int)) && decide ((s.size : Int) ≤ (s.size : Int))) then (bif Nat.ble (4) (dt 14 s).size then (bif true && (decide ((18 : Int) ≤ (s.size : Int)) && decide ((s.size : Int) ≤ (s.size : Int))) then (bif Nat.ble (4) (dt 18 s).size then (bif okJo s (22 : Int) (0 : Int) then (bif fitP (by1 (dt (4 : Nat) s)) (dt (22 : Nat) s) then (bif decide (((by1 (dt (4 : Nat) s)) : Int) ≤ (0 : Int)) then (bif decide ((s.size : Int) < (26 : Int)) then some (.v (.tuple #[(.agg #[(Value.slice none (0 : Nat) (0 : Nat)), (I 0), (I 0), (I 0), (I 0), (I 0), (I 0), (I 0), (I 0)]), (I 5)]), M0) else (bif decide ((s.size : Int) > (26 : Int)) then some (.v (.tuple #[(.agg #[(Value.slice none (0 : Nat) (0 : Nat)), (I 0), (I 0), (I 0), (I 0), (I 0), (I 0), (I 0), (I 0)]), (I 3)]), M0) else (bif true && (true && decide ((22 : Int) ≤ (s.size : Int))) then (bif szS (s.extract (0 : Nat) (22 : Nat)) then (bif true && (decide ((22 : Int) ≤ (s.size : Int)) && decide ((s.size : Int) ≤ (s.size : Int))) then (bif Nat.ble (4) (dt 22 s).size then (bif wI (sum32 (s.extract (0 : Nat) (22 : Nat))) != num4s (dt 22 s) then some (.v (.tuple #[(.agg #[(Value.slice none (0 : Nat) (0 : Nat)), (I 0), (I 0), (I 0), (I 0), (I 0), (I 0), (I 0), (I 0)]), (I 4)]), M0) else some (.v (.tuple #[(.agg #[(Value.slice none (0 : Nat) (0 : Nat)), (I 0), (I 0), (I 0), (I 0), (I 0), (I 0), (I 0), (I 0)]), (I 3)]), M0)) else none) else none) else none) else none))) else (bif decide ((s.size : Int) < wI (((endN s) : Int) + (4 : Int))) then some (.v (.tuple #[(.agg #[(Value.slice none (0 : Nat) (0 : Nat)), (I 0), (I 0), (I 0), (I 0), (I 0), (I 0), (I 0), (I 0)]), (I 5)]), M0) else (bif decide ((s.size : Int) > wI (((endN s) : Int) + (4 : Int))) then some (.v (.tuple #[(.agg #[(Value.slice none (0 : Nat) (0 : Nat)), (I 0), (I 0), (I 0), (I 0), (I 0), (I 0), (I 0), (I 0)]), (I 3)]), M0) else (bif true && (decide ((0 : Int) ≤ ((endN s) : Int)) && decide (((endN s) : Int) ≤ (s.size : Int))) then (bif szS (s.extract (0 : Nat) (((endN s) : Int)).toNat) then (bif decide ((0 : Int) ≤ ((endN s) : Int)) && (decide (((endN s) : Int) ≤ (s.size : Int)) && decide ((s.size : Int) ≤ (s.size : Int))) then (bif Nat.ble (4) (dt ((((endN s) : Int))).toNat s).size then (bif wI (sum32 (s.extract (0 : Nat) (((endN s) : Int)).toNat)) != num4s (dt ((((endN s) : Int))).toNat s) then some (.v (.tuple #[(.agg #[(Value.slice none (0 : Nat) (0 : Nat)), (I 0), (I 0), (I 0), (I 0), (I 0), (I 0), (I 0), (I 0)]), (I 4)]), M0) else (bif phOk (phsP idI (by1 (dt (4 : Nat) s)) (dt (22 : Nat) s)) then (bif wrR (phsP idI (by1 (dt (4 : Nat) s)) (dt (22 : Nat) s)) (wI (strAt s (5 : Int))) (wI (strAt s (6 : Int))) (wI (strAt s (7 : Int))) (num4s (dt 10 s)) (num4s (dt 14 s)) (wI (strAt s (8 : Int))) (num4s (dt 18 s)) (wI (strAt s (9 : Int))) != (0 : Int) then some (.v (.tuple #[(.agg #[(Value.slice none (0 : Nat) (0 : Nat)), (I 0), (I 0), (I 0), (I 0), (I 0), (I 0), (I 0), (I 0)]), (I 3)]), M0) else some (.tup [.ag [.row 0, .v (I (wI (strAt s (5 : Int)))), .v (I (wI (strAt s (6 : Int)))), .v (I (wI (strAt s (7 : Int)))), .v (I (num4s (dt 10 s))), .v (I (num4s (dt 14 s))), .v (I (wI (strAt s (8 : Int)))), .v (I (num4s (dt 18 s))), .v (I (wI (strAt s (9 : Int))))], .one (.v (I 0))], ⟨[], [], [.live ⟨49, kPh, phsP idI (by1 (dt (4 : Nat) s)) (dt (22 : Nat) s), true, false⟩]⟩)) else none)) else none) else none) else none) else none)))) else some (.v (.tuple #[(.agg #[(Value.slice none (0 : Nat) (0 : Nat)), (I 0), (I 0), (I 0), (I 0), (I 0), (I 0), (I 0), (I 0)]), (I 5)]), M0)) else none) else none) else none) else none) else none) else none) else none) else none) else none) else none) else none) else none))) else none) := by kernel_rfl
theorem sum_wI (s : ByteArray) : wI (sum32 s) = sum32 s ∧ 0 ≤ sum32 s ∧ sum32 s < 4294967296 := by
  have h := F32_lt s
  have hx : Nat.xor (F32 s) 4294967295 < 4294967296 := Nat.xor_lt_two_pow (n := 32) h (by decide)
  unfold sum32
  exact ⟨wI_id (by omega), by omega, by omega⟩
/-- What a text is refused for by the document. -/
def rrE (s : ByteArray) : Int := bif anyN (badA s) (min s.size 4) 0 then 3 else bif decide ((s.size : Int) < 22) then 5 else bif !fitP (by1 (dt 4 s)) (dt 22 s) then 5 else bif decide ((s.size : Int) < ((endN s + 4 : Nat) : Int)) then 5 else bif decide ((s.size : Int) > ((endN s + 4 : Nat) : Int)) then 3 else bif sum32 (s.extract 0 (endN s)) != num4s (dt (endN s) s) then 4 else bif wrR (phsP idI (by1 (dt 4 s)) (dt 22 s)) (((by1 (dt 5 s) : Nat) : Int)) (((by1 (dt 6 s) : Nat) : Int)) (((by1 (dt 7 s) : Nat) : Int)) (num4s (dt 10 s)) (num4s (dt 14 s)) (((by1 (dt 8 s) : Nat) : Int)) (num4s (dt 18 s)) (((by1 (dt 9 s) : Nat) : Int)) == 0 then 0 else 3
theorem phI_ok (t : ByteArray) : phOk1 (phP idI t) = true := by
  unfold phP phOk1
  have := by1_lt t
  exact Nat.ble_eq_true_of_le (by rw [ptsP_len]; omega)
theorem phsI_all : ∀ (n : Nat) (t : ByteArray), (phsP idI n t).all phOk1 = true
  | 0, _ => rfl
  | n + 1, t => by rw [phsP, List.all_cons, phI_ok, phsI_all n]; rfl
theorem phsI_ok {n : Nat} (h : n ≤ 1000000) (t : ByteArray) : phOk (phsP idI n t) = true := by
  unfold phOk
  rw [phsI_all, phsP_len, Nat.ble_eq_true_of_le h]
  rfl
theorem endN_le (s : ByteArray) : endN s ≤ s.size := by unfold endN; omega
theorem rrTree (s : ByteArray) (hs : s.size ≤ 1000000) : runG Γre ΛJo Tryz.prog Tryz.f10 [.v (S s)] M0 = bif rrE s == 0 then some (.tup [.ag [.row 0, .v (I (by1 (dt 5 s) : Int)), .v (I (by1 (dt 6 s) : Int)), .v (I (by1 (dt 7 s) : Int)), .v (I (num4s (dt 10 s) : Int)), .v (I (num4s (dt 14 s) : Int)), .v (I (by1 (dt 8 s) : Int)), .v (I (num4s (dt 18 s) : Int)), .v (I (by1 (dt 9 s) : Int))], .one (.v (I 0))], ⟨[], [], [rH (phsP idI (by1 (dt 4 s)) (dt 22 s)) true false]⟩) else some (SV.v (.tuple #[(.agg #[(Value.slice none (0 : Nat) (0 : Nat)), (I 0), (I 0), (I 0), (I 0), (I 0), (I 0), (I 0), (I 0)]), I (rrE s)]), (M0 : Mem)) := by
  refine (runRr s).trans ?_
  have hb4 := by1_lt (dt 4 s)
  generalize hX : (bif rrE s == 0 then some (SV.tup [.ag [.row 0, .v (I (by1 (dt 5 s) : Int)), .v (I (by1 (dt 6 s) : Int)), .v (I (by1 (dt 7 s) : Int)), .v (I (num4s (dt 10 s) : Int)), .v (I (num4s (dt 14 s) : Int)), .v (I (by1 (dt 8 s) : Int)), .v (I (num4s (dt 18 s) : Int)), .v (I (by1 (dt 9 s) : Int))], .one (.v (I 0))], ⟨[], [], [rH (phsP idI (by1 (dt 4 s)) (dt 22 s)) true false]⟩) else some (SV.v (.tuple #[(.agg #[(Value.slice none (0 : Nat) (0 : Nat)), (I 0), (I 0), (I 0), (I 0), (I 0), (I 0), (I 0), (I 0)]), I (rrE s)]), (M0 : Mem))) = X
  rw [Nat.ble_eq_true_of_le hs]
  simp only [Bool.true_and, cond_true]
  have fin : ∀ k : Int, rrE s = k → (k == 0) = false → some (SV.v (.tuple #[(.agg #[(Value.slice none (0 : Nat) (0 : Nat)), (I 0), (I 0), (I 0), (I 0), (I 0), (I 0), (I 0), (I 0)]), I k]), (M0 : Mem)) = X := by
    intro k e hk
    rw [← hX, e, hk]
    rfl
  cases c0 : anyN (badA s) (min s.size 4) 0
  case true => exact fin 3 (by unfold rrE; rw [c0]; rfl) rfl
  simp only [cond_false]
  by_cases c1 : (s.size : Int) < 22
  · simp only [decide_eq_true c1, cond_true]
    exact fin 5 (by unfold rrE; rw [c0, decide_eq_true c1]; rfl) rfl
  have s5 : wI (strAt s (5 : Int)) = (by1 (dt 5 s) : Int) := by have := by1_lt (dt 5 s); rw [show strAt s (5 : Int) = (by1 (dt 5 s) : Int) from str_by1 s 5 (by omega), wI_id (by omega)]
  have s6 : wI (strAt s (6 : Int)) = (by1 (dt 6 s) : Int) := by have := by1_lt (dt 6 s); rw [show strAt s (6 : Int) = (by1 (dt 6 s) : Int) from str_by1 s 6 (by omega), wI_id (by omega)]
  have s7 : wI (strAt s (7 : Int)) = (by1 (dt 7 s) : Int) := by have := by1_lt (dt 7 s); rw [show strAt s (7 : Int) = (by1 (dt 7 s) : Int) from str_by1 s 7 (by omega), wI_id (by omega)]
  have s8 : wI (strAt s (8 : Int)) = (by1 (dt 8 s) : Int) := by have := by1_lt (dt 8 s); rw [show strAt s (8 : Int) = (by1 (dt 8 s) : Int) from str_by1 s 8 (by omega), wI_id (by omega)]
  have s9 : wI (strAt s (9 : Int)) = (by1 (dt 9 s) : Int) := by have := by1_lt (dt 9 s); rw [show strAt s (9 : Int) = (by1 (dt 9 s) : Int) from str_by1 s 9 (by omega), wI_id (by omega)]
  have ok0 : okJo s 22 0 = true := by
    unfold okJo
    rw [Nat.ble_eq_true_of_le (show 22 ≤ s.size by omega), Nat.ble_eq_true_of_le hs]
    rfl
  have he := endN_le s
  have e4 : wI ((endN s : Int) + 4) = ((endN s + 4 : Nat) : Int) := by rw [wI_id (by omega)]; omega
  simp only [decide_eq_false c1, s5, s6, s7, s8, s9, ok0, e4, (sum_wI _).1, Int.toNat_natCast, decide_eq_true (show (5 : Int) < (s.size : Int) by omega), decide_eq_true (show (6 : Int) < (s.size : Int) by omega), decide_eq_true (show (7 : Int) < (s.size : Int) by omega), decide_eq_true (show (8 : Int) < (s.size : Int) by omega), decide_eq_true (show (9 : Int) < (s.size : Int) by omega), decide_eq_true (show (10 : Int) ≤ (s.size : Int) by omega), decide_eq_true (show (14 : Int) ≤ (s.size : Int) by omega), decide_eq_true (show (18 : Int) ≤ (s.size : Int) by omega), decide_eq_true (show (22 : Int) ≤ (s.size : Int) by omega), decide_eq_true (show (s.size : Int) ≤ (s.size : Int) by omega), ble4 (s := s) (z := 10) (by omega), ble4 (s := s) (z := 14) (by omega), ble4 (s := s) (z := 18) (by omega), z_dec, decide_eq_true (show (endN s : Int) ≤ (s.size : Int) by omega), cond_true, cond_false, Bool.and_self]
  cases c2 : fitP (by1 (dt 4 s)) (dt 22 s)
  · exact fin 5 (by unfold rrE; rw [c0, decide_eq_false c1, c2]; rfl) rfl
  simp only [cond_true]
  by_cases hm : by1 (dt 4 s) = 0
  · have e0 : endN s = 22 := by
      unfold endN
      rw [hm]
      show s.size - (dt 22 s).size = 22
      rw [dt_size]
      omega
    simp only [decide_eq_true (show (by1 (dt 4 s) : Int) ≤ 0 by omega), cond_true]
    by_cases c3 : (s.size : Int) < 26
    · simp only [decide_eq_true c3, cond_true]
      exact fin 5 (by unfold rrE; rw [c0, decide_eq_false c1, c2, decide_eq_true (show (s.size : Int) < ((endN s + 4 : Nat) : Int) by omega)]; rfl) rfl
    by_cases c4 : (s.size : Int) > 26
    · simp only [decide_eq_false c3, decide_eq_true c4, cond_true, cond_false]
      exact fin 3 (by unfold rrE; rw [c0, decide_eq_false c1, c2, decide_eq_false (show ¬ (s.size : Int) < ((endN s + 4 : Nat) : Int) by omega), decide_eq_true (show (s.size : Int) > ((endN s + 4 : Nat) : Int) by omega)]; rfl) rfl
    simp only [decide_eq_false c3, decide_eq_false c4, szS_of (t := s.extract 0 22) (by rw [ByteArray.size_extract]; omega), ble4 (s := s) (z := 22) (by omega), cond_true, cond_false]
    cases c5 : sum32 (s.extract 0 22) != num4s (dt 22 s)
    · exact fin 3 (by unfold rrE; rw [c0, decide_eq_false c1, c2, decide_eq_false (show ¬ (s.size : Int) < ((endN s + 4 : Nat) : Int) by omega), decide_eq_false (show ¬ (s.size : Int) > ((endN s + 4 : Nat) : Int) by omega), e0, c5, hm]; rfl) rfl
    · exact fin 4 (by unfold rrE; rw [c0, decide_eq_false c1, c2, decide_eq_false (show ¬ (s.size : Int) < ((endN s + 4 : Nat) : Int) by omega), decide_eq_false (show ¬ (s.size : Int) > ((endN s + 4 : Nat) : Int) by omega), e0, c5]; rfl) rfl
  · simp only [decide_eq_false (show ¬ (by1 (dt 4 s) : Int) ≤ 0 by omega), cond_false]
    by_cases c3 : (s.size : Int) < ((endN s + 4 : Nat) : Int)
    · simp only [decide_eq_true c3, cond_true]
      exact fin 5 (by unfold rrE; rw [c0, decide_eq_false c1, c2, decide_eq_true c3]; rfl) rfl
    by_cases c4 : (s.size : Int) > ((endN s + 4 : Nat) : Int)
    · simp only [decide_eq_false c3, decide_eq_true c4, cond_true, cond_false]
      exact fin 3 (by unfold rrE; rw [c0, decide_eq_false c1, c2, decide_eq_false c3, decide_eq_true c4]; rfl) rfl
    simp only [decide_eq_false c3, decide_eq_false c4, szS_of (t := s.extract 0 (endN s)) (by rw [ByteArray.size_extract]; omega), ble4 (s := s) (z := endN s) (by omega), phsI_ok (n := by1 (dt 4 s)) (by omega), cond_true, cond_false]
    cases c5 : sum32 (s.extract 0 (endN s)) != num4s (dt (endN s) s)
    · simp only [cond_false, bne]
      cases c6 : wrR (phsP idI (by1 (dt 4 s)) (dt 22 s)) (((by1 (dt 5 s) : Nat) : Int)) (((by1 (dt 6 s) : Nat) : Int)) (((by1 (dt 7 s) : Nat) : Int)) (num4s (dt 10 s)) (num4s (dt 14 s)) (((by1 (dt 8 s) : Nat) : Int)) (num4s (dt 18 s)) (((by1 (dt 9 s) : Nat) : Int)) == 0
      · exact fin 3 (by unfold rrE; rw [c0, decide_eq_false c1, c2, decide_eq_false c3, decide_eq_false c4, c5, c6]; rfl) rfl
      · have e : rrE s = 0 := by unfold rrE; rw [c0, decide_eq_false c1, c2, decide_eq_false c3, decide_eq_false c4, c5, c6]; rfl
        rw [← hX, e]
        rfl
    · exact fin 4 (by unfold rrE; rw [c0, decide_eq_false c1, c2, decide_eq_false c3, decide_eq_false c4, c5]; rfl) rfl
noncomputable def ΓRf8 : Orc := Γre
theorem OkRf8 : ΓRf8.Ok Tryz.prog := Okre
end Go.Proofs.YtikekoabadhmiaaGreat

namespace Go.Proofs.YtikekoabadhmiaaGreat
open Go Go.Proofs Go.Sx
set_option linter.unusedVariables false
/-! What the program reads is what the document reads, as far as it may be. -/
def bad1 (l : List Dat) : Bool := !rpB (l.headD (.n 0)).toL (l.tail.headD (.n 0)).toI (l.tail.tail.headD (.n 0)).toI (l.tail.tail.tail.headD (.n 0)).toI (l.tail.tail.tail.tail.headD (.n 0)).toI
theorem anyN_drop {α : Type} (p : α → Bool) (d : α) (L : List α) : ∀ (B : List α) (i : Int), 0 ≤ i → L.drop i.toNat = B → anyN (fun k => p (L.getD k.toNat d)) B.length i = B.any p
  | [], i, _, _ => rfl
  | b :: B, i, h0, h => by
    show (p (L.getD i.toNat d) || anyN (fun k => p (L.getD k.toNat d)) B.length (i + 1)) = (p b || B.any p)
    rw [getD_drop d h, anyN_drop p d L B (i + 1) (by omega) (by rw [show (i + 1).toNat = i.toNat + 1 by omega]; exact drop_next h)]
theorem bph_any (L : List (List Dat)) : anyN (bphB L) L.length 0 = L.any bad1 := anyN_drop bad1 [] L L 0 (by decide) rfl
theorem frB_iff {lo hi n : Int} : frB lo hi n = true ↔ lo ≤ n ∧ n ≤ hi := by
  unfold frB
  by_cases h : lo ≤ n
  · rw [decide_eq_true h]
    show decide (n ≤ hi) = true ↔ _
    rw [decide_eq_true_eq]
    omega
  · rw [decide_eq_false h]
    show false = true ↔ _
    constructor
    · intro h; cases h
    · intro h'; omega
theorem frB_sgn {lo hi x : Int} (h0 : 0 ≤ x) (h1 : x < 4294967296) (hl : 0 ≤ lo) (hh : hi < 2147483648) : frB lo hi (sgn x) = frB lo hi x := by
  rw [Bool.eq_iff_iff, frB_iff, frB_iff, sgn_if]
  split <;> omega
theorem frB_id {lo hi x : Int} (h1 : x < 4294967296) (hl : 0 ≤ lo) (h : frB lo hi (sgn x) = true) : sgn x = x := by
  rw [frB_iff] at h
  rw [sgn_if] at h ⊢
  split
  · rename_i hx
    rw [if_pos hx] at h
    omega
  · rfl
theorem bad_sgn {t : ByteArray} (h : 14 ≤ t.size) : bad1 (phP sgn t) = bad1 (phP idI t) := by
  have h2 := num4s_rg (t := dt 2 t) (by rw [dt_size]; omega)
  have h6 := num4s_rg (t := dt 6 t) (by rw [dt_size]; omega)
  have h10 := num4s_rg (t := dt 10 t) (by rw [dt_size]; omega)
  show (!rpB (ptsP (by1 t) (dt 14 t)) (by1 (dt 1 t)) (sgn (num4s (dt 2 t))) (sgn (num4s (dt 6 t))) (sgn (num4s (dt 10 t)))) = !rpB (ptsP (by1 t) (dt 14 t)) (by1 (dt 1 t)) (num4s (dt 2 t)) (num4s (dt 6 t)) (num4s (dt 10 t))
  unfold rpB
  rw [frB_sgn h2.1 h2.2 (by decide) (by decide), frB_sgn h6.1 h6.2 (by decide) (by decide), frB_sgn h10.1 h10.2 (by decide) (by decide)]
theorem good_eq {t : ByteArray} (h : 14 ≤ t.size) (hb : bad1 (phP sgn t) = false) : phP sgn t = phP idI t := by
  have h2 := num4s_rg (t := dt 2 t) (by rw [dt_size]; omega)
  have h6 := num4s_rg (t := dt 6 t) (by rw [dt_size]; omega)
  have h10 := num4s_rg (t := dt 10 t) (by rw [dt_size]; omega)
  have hb' : rpB (ptsP (by1 t) (dt 14 t)) (by1 (dt 1 t)) (sgn (num4s (dt 2 t))) (sgn (num4s (dt 6 t))) (sgn (num4s (dt 10 t))) = true := by
    rw [← Bool.not_eq_false']
    exact hb
  unfold rpB at hb'
  simp only [Bool.and_eq_true] at hb'
  obtain ⟨_, e2, e6, e10, _⟩ := hb'
  unfold phP
  rw [frB_id h2.2 (by decide) e2, frB_id h6.2 (by decide) e6, frB_id h10.2 (by decide) e10]
  rfl
theorem any_sgn : ∀ (n : Nat) (t : ByteArray), fitP n t = true → (phsP sgn n t).any bad1 = (phsP idI n t).any bad1 ∧ ((phsP sgn n t).any bad1 = false → phsP sgn n t = phsP idI n t)
  | 0, t, _ => ⟨rfl, fun _ => rfl⟩
  | n + 1, t, h => by
    rw [fitP, Bool.and_eq_true] at h
    have hl := Nat.le_of_ble_eq_true h.1
    obtain ⟨e1, e2⟩ := any_sgn n (dt (lenP t) t) h.2
    have h14 : 14 ≤ t.size := by unfold lenP at hl; omega
    refine ⟨?_, fun hb => ?_⟩
    · show (bad1 (phP sgn t) || _) = (bad1 (phP idI t) || _)
      rw [bad_sgn h14]
      exact congrArg _ e1
    · have hb : (bad1 (phP sgn t) || (phsP sgn n (dt (lenP t) t)).any bad1) = false := hb
      rw [Bool.or_eq_false_iff] at hb
      rw [phsP, phsP, good_eq h14 hb.1, e2 hb.2]
/-- Of rules that may be each number is in its range. -/
theorem wrB_0 {L : List (List Dat)} {r1 r2 r3 r4 r5 r6 r7 r8 : Int} (h : wrB L r1 r2 r3 r4 r5 r6 r7 r8 = 0) : (1 ≤ (L.length : Int) ∧ (L.length : Int) ≤ 4) ∧ L.any bad1 = false ∧ (1 ≤ r1 ∧ r1 ≤ 50) ∧ (1 ≤ r2 ∧ r2 ≤ 50) ∧ (1 ≤ r3 ∧ r3 ≤ 50) ∧ (0 ≤ r4 ∧ r4 ≤ 1024) ∧ (1 ≤ r5 ∧ r5 ≤ 65536) ∧ (1 ≤ r6 ∧ r6 ≤ 50) ∧ (1 ≤ r7 ∧ r7 ≤ 1073741824) ∧ (0 ≤ r8 ∧ r8 ≤ (L.length : Int)) := by
  unfold wrB at h
  rw [bph_any] at h
  cases h1 : frB 1 4 (L.length : Int)
  · rw [h1] at h; cases h
  cases h2 : L.any bad1
  case true => rw [h1, h2] at h; cases h
  cases h3 : frB 1 50 r1 && (frB 1 50 r2 && frB 1 50 r3)
  · rw [h1, h2, h3] at h; cases h
  cases h4 : frB 0 1024 r4
  · rw [h1, h2, h3, h4] at h; cases h
  cases h5 : frB 1 65536 r5
  · rw [h1, h2, h3, h4, h5] at h; cases h
  cases h6 : frB 1 50 r6
  · rw [h1, h2, h3, h4, h5, h6] at h; cases h
  cases h7 : frB 1 1073741824 r7
  · rw [h1, h2, h3, h4, h5, h6, h7] at h; cases h
  cases h8 : frB 0 (L.length : Int) r8
  · rw [h1, h2, h3, h4, h5, h6, h7, h8] at h; cases h
  simp only [Bool.and_eq_true] at h3
  exact ⟨frB_iff.1 h1, rfl, frB_iff.1 h3.1, frB_iff.1 h3.2.1, frB_iff.1 h3.2.2, frB_iff.1 h4, frB_iff.1 h5, frB_iff.1 h6, frB_iff.1 h7, frB_iff.1 h8⟩
theorem wr_sgn {s : ByteArray} (hs : 22 ≤ s.size) (hf : fitP (by1 (dt 4 s)) (dt 22 s) = true) (a b c d e : Int) : wrB (phsP sgn (by1 (dt 4 s)) (dt 22 s)) a b c (sgn (num4s (dt 10 s))) (sgn (num4s (dt 14 s))) d (sgn (num4s (dt 18 s))) e = wrR (phsP idI (by1 (dt 4 s)) (dt 22 s)) a b c (num4s (dt 10 s)) (num4s (dt 14 s)) d (num4s (dt 18 s)) e := by
  have h10 := num4s_rg (t := dt 10 s) (by rw [dt_size]; omega)
  have h14 := num4s_rg (t := dt 14 s) (by rw [dt_size]; omega)
  have h18 := num4s_rg (t := dt 18 s) (by rw [dt_size]; omega)
  rw [wrRB]
  unfold wrB
  rw [bph_any, bph_any, phsP_len, phsP_len, (any_sgn _ _ hf).1, frB_sgn h10.1 h10.2 (by decide) (by decide), frB_sgn h14.1 h14.2 (by decide) (by decide), frB_sgn h18.1 h18.2 (by decide) (by decide)]
theorem ask_end {s : ByteArray} (h : ¬ (s.size : Int) < 22) : (fitP (by1 (dt 4 s)) (dt 22 s) = true → askN s = endN s + 4) ∧ (fitP (by1 (dt 4 s)) (dt 22 s) = false → s.size < askN s) := by
  unfold askN
  rw [decide_eq_false h]
  show (_ → 22 + needP (by1 (dt 4 s)) (dt 22 s) = _) ∧ (_ → _ < 22 + needP (by1 (dt 4 s)) (dt 22 s))
  constructor
  · intro hf
    have := (fit_need _ _ hf).2
    rw [dt_size] at this
    unfold endN
    have hr : (restP (by1 (dt 4 s)) (dt 22 s)).size ≤ s.size - 22 := by
      have hp := needP_pos (by1 (dt 4 s)) (dt 22 s)
      omega
    omega
  · intro hf
    rcases Nat.lt_or_ge s.size (22 + needP (by1 (dt 4 s)) (dt 22 s)) with h1 | h1
    · exact h1
    · have := (need_fit (by1 (dt 4 s)) (dt 22 s) (by rw [dt_size]; omega)).1
      rw [this] at hf
      cases hf
theorem sum_end {s : ByteArray} (h : s.size = endN s + 4) : ((sumN s : Nat) : Int) = num4s (dt (endN s) s) := by
  unfold sumN num4s
  rw [decide_eq_false (show ¬ (s.size : Int) < 4 by omega), ext_dt 0 4 (endN s) s (by omega), Nat.add_zero, show s.size - 4 = endN s by omega, ← h, cond_false]
theorem rf_rr (s : ByteArray) : rfE s = rrE s := by
  unfold rfE rrE
  rw [pfx_any]
  cases anyN (badA s) (min s.size 4) 0
  case true => simp only [Bool.not_true, Bool.not_false, cond_true]
  simp only [Bool.not_false, Bool.not_true, cond_false]
  by_cases c1 : (s.size : Int) < 22
  · have ha : askN s = 22 := by unfold askN; simp only [decide_eq_true c1, cond_true]
    simp only [ha, decide_eq_true (show (s.size : Int) < ((22 : Nat) : Int) by omega), decide_eq_true c1, cond_true]
  obtain ⟨a1, a2⟩ := ask_end c1
  simp only [decide_eq_false c1, cond_false]
  cases hf : fitP (by1 (dt 4 s)) (dt 22 s)
  · simp only [decide_eq_true (show (s.size : Int) < (askN s : Int) by have := a2 hf; omega), cond_true, Bool.not_false]
  simp only [a1 hf, Bool.not_true, cond_false]
  by_cases c2 : (s.size : Int) < ((endN s + 4 : Nat) : Int)
  · simp only [decide_eq_true c2, cond_true]
  by_cases c3 : (s.size : Int) > ((endN s + 4 : Nat) : Int)
  · simp only [decide_eq_false c2, decide_eq_true c3, cond_true, cond_false]
  have e1 := sum_end (show s.size = endN s + 4 by omega)
  have e2 := wr_sgn (s := s) (by omega) hf (by1 (dt 5 s)) (by1 (dt 6 s)) (by1 (dt 7 s)) (by1 (dt 8 s)) (by1 (dt 9 s))
  simp only [decide_eq_false c2, decide_eq_false c3, cond_false, show endN s + 4 - 4 = endN s by omega, e1, e2]
/-- What a text is that isn't refused. -/
theorem rf_ok {s : ByteArray} (h : rfE s = 0) : 26 ≤ s.size ∧ pfxB s = true ∧ fitP (by1 (dt 4 s)) (dt 22 s) = true ∧ s.size = endN s + 4 ∧ sum32 (s.extract 0 (endN s)) = num4s (dt (endN s) s) ∧ wrB (phsP sgn (by1 (dt 4 s)) (dt 22 s)) (by1 (dt 5 s)) (by1 (dt 6 s)) (by1 (dt 7 s)) (sgn (num4s (dt 10 s))) (sgn (num4s (dt 14 s))) (by1 (dt 8 s)) (sgn (num4s (dt 18 s))) (by1 (dt 9 s)) = 0 := by
  unfold rfE at h
  cases c0 : pfxB s
  · rw [c0] at h; cases h
  by_cases c2 : (s.size : Int) < (askN s : Int)
  · rw [c0, decide_eq_true c2] at h; cases h
  by_cases c3 : (s.size : Int) > (askN s : Int)
  · rw [c0, decide_eq_false c2, decide_eq_true c3] at h; cases h
  have ha := askN_le s
  have c1 : ¬ (s.size : Int) < 22 := by omega
  obtain ⟨a1, a2⟩ := ask_end c1
  cases hf : fitP (by1 (dt 4 s)) (dt 22 s)
  · have := a2 hf
    omega
  have e := a1 hf
  have hp := needP_pos (by1 (dt 4 s)) (dt 22 s)
  have h26 : 26 ≤ askN s := by
    unfold askN
    rw [decide_eq_false c1]
    show 26 ≤ 22 + _
    omega
  have he : s.size = endN s + 4 := by omega
  rw [c0, decide_eq_false c2, decide_eq_false c3, show askN s - 4 = endN s by omega, sum_end he] at h
  cases c5 : sum32 (s.extract 0 (endN s)) != num4s (dt (endN s) s)
  · rw [c5] at h
    refine ⟨by omega, rfl, rfl, he, ?_, ?_⟩
    · rw [bne_eq_false_iff_eq] at c5
      exact c5
    · cases c6 : wrB (phsP sgn (by1 (dt 4 s)) (dt 22 s)) (by1 (dt 5 s)) (by1 (dt 6 s)) (by1 (dt 7 s)) (sgn (num4s (dt 10 s))) (sgn (num4s (dt 14 s))) (by1 (dt 8 s)) (sgn (num4s (dt 18 s))) (by1 (dt 9 s)) == 0
      · rw [c6] at h; cases h
      · exact eq_of_beq c6
  · rw [c5] at h; cases h
/-- What is read is what the document reads. -/
theorem rf_same {s : ByteArray} (h : rfE s = 0) : phsP sgn (by1 (dt 4 s)) (dt 22 s) = phsP idI (by1 (dt 4 s)) (dt 22 s) ∧ sgn (num4s (dt 10 s)) = num4s (dt 10 s) ∧ sgn (num4s (dt 14 s)) = num4s (dt 14 s) ∧ sgn (num4s (dt 18 s)) = num4s (dt 18 s) := by
  obtain ⟨h26, _, hf, _, _, hw⟩ := rf_ok h
  have h10 := num4s_rg (t := dt 10 s) (by rw [dt_size]; omega)
  have h14 := num4s_rg (t := dt 14 s) (by rw [dt_size]; omega)
  have h18 := num4s_rg (t := dt 18 s) (by rw [dt_size]; omega)
  obtain ⟨_, hb, _, _, _, e4, e5, _, e7, _⟩ := wrB_0 hw
  exact ⟨(any_sgn _ _ hf).2 hb, frB_id h10.2 (by decide) (frB_iff.2 e4), frB_id h14.2 (by decide) (frB_iff.2 e5), frB_id h18.2 (by decide) (frB_iff.2 e7)⟩
end Go.Proofs.YtikekoabadhmiaaGreat

namespace Go.Proofs.YtikekoabadhmiaaGreat
open Go Go.Proofs Go.Sx
set_option linter.unusedVariables false
/-! norm -/
/-! cast -/
/-! rep [CK.sl 51 [CK0.num IntKind.i64, CK0.num IntKind.i64], .num .i64, .num .i64, .num .i64, .num .i64] => kPh -/
/-! rep (dropT (0 : Nat) (L.getD k.toNat [])) => (L.getD k.toNat []) -/
/-! rep (dropT (0 : Nat) (L2.getD k.toNat [])) => (L2.getD k.toNat []) -/
/-! rep (dropT (0 : Nat) (L.getD i.toNat [])) => (L.getD i.toNat []) -/
/-! rep (dropT (0 : Nat) (M.getD k.toNat [])) => (M.getD k.toNat []) -/
/-! repp (List.brecOn.go (motive := fun x => Nat → List Dat → List (List Dat)) M List.set._f).1 k.toNat ==> M.set k.toNat -/
/-! rep (((L.getD i.toNat []).headD (Dat.n (0 : Int))).toL) => (phA L i) -/
/-! rep ((L.getD i.toNat []).headD (Dat.n (0 : Int))).toL => (phA L i) -/
/-! rep (((L.getD i.toNat []).tail.headD (Dat.n (0 : Int))).toI) => (phG L i) -/
/-! rep ((L.getD i.toNat []).tail.headD (Dat.n (0 : Int))).toI => (phG L i) -/
/-! rep (((L.getD i.toNat []).tail.tail.headD (Dat.n (0 : Int))).toI) => (phV L i) -/
/-! rep ((L.getD i.toNat []).tail.tail.headD (Dat.n (0 : Int))).toI => (phV L i) -/
/-! rep (((L.getD i.toNat []).tail.tail.tail.headD (Dat.n (0 : Int))).toI) => (phM L i) -/
/-! rep ((L.getD i.toNat []).tail.tail.tail.headD (Dat.n (0 : Int))).toI => (phM L i) -/
/-! rep (((L.getD i.toNat []).tail.tail.tail.tail.headD (Dat.n (0 : Int))).toI) => (phU L i) -/
/-! rep ((L.getD i.toNat []).tail.tail.tail.tail.headD (Dat.n (0 : Int))).toI => (phU L i) -/
/-! rep (((L2.getD i.toNat []).headD (Dat.n (0 : Int))).toL) => (phA L2 i) -/
/-! rep ((L2.getD i.toNat []).headD (Dat.n (0 : Int))).toL => (phA L2 i) -/
/-! rep (((L2.getD i.toNat []).tail.headD (Dat.n (0 : Int))).toI) => (phG L2 i) -/
/-! rep ((L2.getD i.toNat []).tail.headD (Dat.n (0 : Int))).toI => (phG L2 i) -/
/-! rep (((L2.getD i.toNat []).tail.tail.headD (Dat.n (0 : Int))).toI) => (phV L2 i) -/
/-! rep ((L2.getD i.toNat []).tail.tail.headD (Dat.n (0 : Int))).toI => (phV L2 i) -/
/-! rep (((L2.getD i.toNat []).tail.tail.tail.headD (Dat.n (0 : Int))).toI) => (phM L2 i) -/
/-! rep ((L2.getD i.toNat []).tail.tail.tail.headD (Dat.n (0 : Int))).toI => (phM L2 i) -/
/-! rep (((L2.getD i.toNat []).tail.tail.tail.tail.headD (Dat.n (0 : Int))).toI) => (phU L2 i) -/
/-! rep ((L2.getD i.toNat []).tail.tail.tail.tail.headD (Dat.n (0 : Int))).toI => (phU L2 i) -/
/-! rep (((M.getD i.toNat []).headD (Dat.n (0 : Int))).toL) => (phA M i) -/
/-! rep ((M.getD i.toNat []).headD (Dat.n (0 : Int))).toL => (phA M i) -/
/-! rep (((M.getD i.toNat []).tail.headD (Dat.n (0 : Int))).toI) => (phG M i) -/
/-! rep ((M.getD i.toNat []).tail.headD (Dat.n (0 : Int))).toI => (phG M i) -/
/-! rep (((M.getD i.toNat []).tail.tail.headD (Dat.n (0 : Int))).toI) => (phV M i) -/
/-! rep ((M.getD i.toNat []).tail.tail.headD (Dat.n (0 : Int))).toI => (phV M i) -/
/-! rep (((M.getD i.toNat []).tail.tail.tail.headD (Dat.n (0 : Int))).toI) => (phM M i) -/
/-! rep ((M.getD i.toNat []).tail.tail.tail.headD (Dat.n (0 : Int))).toI => (phM M i) -/
/-! rep (((M.getD i.toNat []).tail.tail.tail.tail.headD (Dat.n (0 : Int))).toI) => (phU M i) -/
/-! rep ((M.getD i.toNat []).tail.tail.tail.tail.headD (Dat.n (0 : Int))).toI => (phU M i) -/
/-! rep (((L.getD k.toNat []).headD (Dat.n (0 : Int))).toL) => (phA L k) -/
/-! rep ((L.getD k.toNat []).headD (Dat.n (0 : Int))).toL => (phA L k) -/
/-! rep (((L.getD k.toNat []).tail.headD (Dat.n (0 : Int))).toI) => (phG L k) -/
/-! rep ((L.getD k.toNat []).tail.headD (Dat.n (0 : Int))).toI => (phG L k) -/
/-! rep (((L.getD k.toNat []).tail.tail.headD (Dat.n (0 : Int))).toI) => (phV L k) -/
/-! rep ((L.getD k.toNat []).tail.tail.headD (Dat.n (0 : Int))).toI => (phV L k) -/
/-! rep (((L.getD k.toNat []).tail.tail.tail.headD (Dat.n (0 : Int))).toI) => (phM L k) -/
/-! rep ((L.getD k.toNat []).tail.tail.tail.headD (Dat.n (0 : Int))).toI => (phM L k) -/
/-! rep (((L.getD k.toNat []).tail.tail.tail.tail.headD (Dat.n (0 : Int))).toI) => (phU L k) -/
/-! rep ((L.getD k.toNat []).tail.tail.tail.tail.headD (Dat.n (0 : Int))).toI => (phU L k) -/
/-! rep (((L2.getD k.toNat []).headD (Dat.n (0 : Int))).toL) => (phA L2 k) -/
/-! rep ((L2.getD k.toNat []).headD (Dat.n (0 : Int))).toL => (phA L2 k) -/
/-! rep (((L2.getD k.toNat []).tail.headD (Dat.n (0 : Int))).toI) => (phG L2 k) -/
/-! rep ((L2.getD k.toNat []).tail.headD (Dat.n (0 : Int))).toI => (phG L2 k) -/
/-! rep (((L2.getD k.toNat []).tail.tail.headD (Dat.n (0 : Int))).toI) => (phV L2 k) -/
/-! rep ((L2.getD k.toNat []).tail.tail.headD (Dat.n (0 : Int))).toI => (phV L2 k) -/
/-! rep (((L2.getD k.toNat []).tail.tail.tail.headD (Dat.n (0 : Int))).toI) => (phM L2 k) -/
/-! rep ((L2.getD k.toNat []).tail.tail.tail.headD (Dat.n (0 : Int))).toI => (phM L2 k) -/
/-! rep (((L2.getD k.toNat []).tail.tail.tail.tail.headD (Dat.n (0 : Int))).toI) => (phU L2 k) -/
/-! rep ((L2.getD k.toNat []).tail.tail.tail.tail.headD (Dat.n (0 : Int))).toI => (phU L2 k) -/
/-! rep (((M.getD k.toNat []).headD (Dat.n (0 : Int))).toL) => (phA M k) -/
/-! rep ((M.getD k.toNat []).headD (Dat.n (0 : Int))).toL => (phA M k) -/
/-! rep (((M.getD k.toNat []).tail.headD (Dat.n (0 : Int))).toI) => (phG M k) -/
/-! rep ((M.getD k.toNat []).tail.headD (Dat.n (0 : Int))).toI => (phG M k) -/
/-! rep (((M.getD k.toNat []).tail.tail.headD (Dat.n (0 : Int))).toI) => (phV M k) -/
/-! rep ((M.getD k.toNat []).tail.tail.headD (Dat.n (0 : Int))).toI => (phV M k) -/
/-! rep (((M.getD k.toNat []).tail.tail.tail.headD (Dat.n (0 : Int))).toI) => (phM M k) -/
/-! rep ((M.getD k.toNat []).tail.tail.tail.headD (Dat.n (0 : Int))).toI => (phM M k) -/
/-! rep (((M.getD k.toNat []).tail.tail.tail.tail.headD (Dat.n (0 : Int))).toI) => (phU M k) -/
/-! rep ((M.getD k.toNat []).tail.tail.tail.tail.headD (Dat.n (0 : Int))).toI => (phU M k) -/

set_option maxRecDepth 20000 in
theorem runSm0 : runG ΓRf8 L0 Tryz.prog Tryz.f11 [.v ((.agg #[(Value.slice none (0 : Nat) (0 : Nat)), (I 0), (I 0), (I 0), (I 0), (I 0), (I 0), (I 0), (I 0)])), .v ((.agg #[(Value.slice none (0 : Nat) (0 : Nat)), (I 0), (I 0), (I 0), (I 0), (I 0), (I 0), (I 0), (I 0)]))] M0 = 
    some (.v (Bo true), M0) := by kernel_rfl
def gSm0 (vs : List Value) : Option (Bool × Value) :=
  match vs with
  | [.agg ⟨[.slice none 0 0, .int .i64 0, .int .i64 0, .int .i64 0, .int .i64 0, .int .i64 0, .int .i64 0, .int .i64 0, .int .i64 0]⟩, .agg ⟨[.slice none 0 0, .int .i64 0, .int .i64 0, .int .i64 0, .int .i64 0, .int .i64 0, .int .i64 0, .int .i64 0, .int .i64 0]⟩] => some (true, Bo true)
  | _ => none
theorem gSm0_ok : ∀ vs r, gSm0 vs = some (true, r) → ∀ m, CallOk Tryz.prog 11 (vs.map .v) m (.v r) m := by
  intro vs r h
  unfold gSm0 at h
  split at h
  · skip
    obtain ⟨h1, rfl⟩ := some_t h
    refine runV (vs := [(.agg #[(Value.slice none (0 : Nat) (0 : Nat)), (I 0), (I 0), (I 0), (I 0), (I 0), (I 0), (I 0), (I 0)]), (.agg #[(Value.slice none (0 : Nat) (0 : Nat)), (I 0), (I 0), (I 0), (I 0), (I 0), (I 0), (I 0), (I 0)])]) (Λ := L0) (m' := M0) OkRf8 Tryz.func11 rfl (fun z _ _ => l0Ok' _ z) ?_
    exact (runSm0 ).trans (rfl)
  · cases h
noncomputable def Γz1 : Orc := addVal 11 gSm0 ΓRf8
theorem Okz1 : Γz1.Ok Tryz.prog := addVal_ok OkRf8 gSm0_ok
noncomputable def Γz2 : Orc := Γz1
theorem Okz2 : Γz2.Ok Tryz.prog := Okz1
def gRr0 (xs : List SV) (m : Mem) : Option (Bool × SV × Mem) :=
  match xs, m with
  | [.v (.string s)], ⟨[], [], []⟩ => some (Nat.ble s.size 1000000 && (!(rrE s == 0)), .v (.tuple #[(.agg #[(Value.slice none (0 : Nat) (0 : Nat)), (I 0), (I 0), (I 0), (I 0), (I 0), (I 0), (I 0), (I 0)]), I (rrE s)]), M0)
  | _, _ => none
theorem gRr0_ok : ∀ xs m r m', gRr0 xs m = some (true, r, m') → CallOk Tryz.prog 10 xs m r m' := by
  intro xs m r m' h
  unfold gRr0 at h
  split at h
  · rename_i s
    obtain ⟨h1, rfl, rfl⟩ := some_t2 h
    rw [Bool.and_eq_true] at h1
    have hs := Nat.le_of_ble_eq_true h1.1
    have h2 := h1.2
    refine runOk (Λ := ΛJo) OkRf8 Tryz.func10 rfl (fun z z1 z2 => loopOkJo z z1 z2) ?_
    refine (rrTree s hs).trans ?_
    rw [Bool.not_eq_true'] at h2
    rw [h2]
    rfl
  · cases h
def gRr1 (xs : List SV) (m : Mem) : Option (Bool × SV × Mem) :=
  match xs, m with
  | [.v (.string s)], ⟨[], [], []⟩ => some (Nat.ble s.size 1000000 && (rrE s == 0), .tup [.ag [.row 0, .v (I (by1 (dt 5 s) : Int)), .v (I (by1 (dt 6 s) : Int)), .v (I (by1 (dt 7 s) : Int)), .v (I (num4s (dt 10 s) : Int)), .v (I (num4s (dt 14 s) : Int)), .v (I (by1 (dt 8 s) : Int)), .v (I (num4s (dt 18 s) : Int)), .v (I (by1 (dt 9 s) : Int))], .one (.v (I 0))], ⟨[], [], [rH (phsP idI (by1 (dt 4 s)) (dt 22 s)) true false]⟩)
  | _, _ => none
theorem gRr1_ok : ∀ xs m r m', gRr1 xs m = some (true, r, m') → CallOk Tryz.prog 10 xs m r m' := by
  intro xs m r m' h
  unfold gRr1 at h
  split at h
  · rename_i s
    obtain ⟨h1, rfl, rfl⟩ := some_t2 h
    rw [Bool.and_eq_true] at h1
    have hs := Nat.le_of_ble_eq_true h1.1
    have h2 := h1.2
    refine runOk (Λ := ΛJo) OkRf8 Tryz.func10 rfl (fun z z1 z2 => loopOkJo z z1 z2) ?_
    refine (rrTree s hs).trans ?_
    skip
    rw [h2]
    rfl
  · cases h
noncomputable def ΓRf9 : Orc := Γz2
theorem OkRf9 : ΓRf9.Ok Tryz.prog := Okz2
end Go.Proofs.YtikekoabadhmiaaGreat

namespace Go.Proofs.YtikekoabadhmiaaGreat
open Go Go.Proofs Go.Sx
set_option linter.unusedVariables false
theorem sameB_self (L : List (List Dat)) : sameB L L = true := by
  unfold sameB
  rw [beq_self_eq_true, anyN_none.2 fun k _ _ => ?_]
  · rfl
  · unfold neP
    simp
theorem samR_self (L : List (List Dat)) (r1 r2 r3 r4 r5 r6 r7 r8 : Int) : samR L r1 r2 r3 r4 r5 r6 r7 r8 L r1 r2 r3 r4 r5 r6 r7 r8 = true := by
  unfold samR
  rw [anyN_none.2 fun k _ _ => ?_]
  · simp
  · unfold neH smP
    rw [sameB_self]
    simp
theorem restP_dt : ∀ (n : Nat) (t : ByteArray), fitP n t = true → ∃ k, restP n t = dt k t ∧ k ≤ t.size
  | 0, t, _ => ⟨0, (dt_0 t).symm, by omega⟩
  | n + 1, t, h => by
    rw [fitP, Bool.and_eq_true] at h
    have hl := Nat.le_of_ble_eq_true h.1
    obtain ⟨k, e, hk⟩ := restP_dt n (dt (lenP t) t) h.2
    rw [dt_size] at hk
    exact ⟨lenP t + k, by rw [restP, e, dt_dt], by omega⟩
end Go.Proofs.YtikekoabadhmiaaGreat

