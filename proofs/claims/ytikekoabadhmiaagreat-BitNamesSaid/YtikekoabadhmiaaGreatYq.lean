/-
  The four laws of bit over values.
-/
import Derived.Test.YtikekoabadhmiaaGreatYp
import Derived.DataShut
namespace Go.Proofs.YtikekoabadhmiaaGreat
open Go Go.Proofs Go.Sx
set_option linter.unusedVariables false
/-! norm -/
/-! cast -/
/-! rep [CK.sl 51 [CK0.num IntKind.i64, CK0.num IntKind.i64], .num .i64, .num .i64, .num .i64, .num .i64] => kPh -/
/-! rep (dropT (0 : Nat) (L.getD k.toNat [])) => (L.getD k.toNat []) -/
/-! rep (dropT (0 : Nat) (L2.getD k.toNat [])) => (L2.getD k.toNat []) -/
/-! rep (dropT (0 : Nat) (L.getD i.toNat [])) => (L.getD i.toNat []) -/
/-! rep (dropT (0 : Nat) (M.getD k.toNat [])) => (M.getD k.toNat []) -/
/-! repp (List.brecOn.go (motive := fun x => Nat → List Dat → List (List Dat)) M List.set._f).1 k.toNat ==> M.set k.toNat -/
/-! rep (((L.getD i.toNat []).headD (Dat.n (0 : Int))).toL) => (phA L i) -/
/-! rep ((L.getD i.toNat []).headD (Dat.n (0 : Int))).toL => (phA L i) -/
/-! rep (((L.getD i.toNat []).tail.headD (Dat.n (0 : Int))).toI) => (phG L i) -/
/-! rep ((L.getD i.toNat []).tail.headD (Dat.n (0 : Int))).toI => (phG L i) -/
/-! rep (((L.getD i.toNat []).tail.tail.headD (Dat.n (0 : Int))).toI) => (phV L i) -/
/-! rep ((L.getD i.toNat []).tail.tail.headD (Dat.n (0 : Int))).toI => (phV L i) -/
/-! rep (((L.getD i.toNat []).tail.tail.tail.headD (Dat.n (0 : Int))).toI) => (phM L i) -/
/-! rep ((L.getD i.toNat []).tail.tail.tail.headD (Dat.n (0 : Int))).toI => (phM L i) -/
/-! rep (((L.getD i.toNat []).tail.tail.tail.tail.headD (Dat.n (0 : Int))).toI) => (phU L i) -/
/-! rep ((L.getD i.toNat []).tail.tail.tail.tail.headD (Dat.n (0 : Int))).toI => (phU L i) -/
/-! rep (((L2.getD i.toNat []).headD (Dat.n (0 : Int))).toL) => (phA L2 i) -/
/-! rep ((L2.getD i.toNat []).headD (Dat.n (0 : Int))).toL => (phA L2 i) -/
/-! rep (((L2.getD i.toNat []).tail.headD (Dat.n (0 : Int))).toI) => (phG L2 i) -/
/-! rep ((L2.getD i.toNat []).tail.headD (Dat.n (0 : Int))).toI => (phG L2 i) -/
/-! rep (((L2.getD i.toNat []).tail.tail.headD (Dat.n (0 : Int))).toI) => (phV L2 i) -/
/-! rep ((L2.getD i.toNat []).tail.tail.headD (Dat.n (0 : Int))).toI => (phV L2 i) -/
/-! rep (((L2.getD i.toNat []).tail.tail.tail.headD (Dat.n (0 : Int))).toI) => (phM L2 i) -/
/-! rep ((L2.getD i.toNat []).tail.tail.tail.headD (Dat.n (0 : Int))).toI => (phM L2 i) -/
/-! rep (((L2.getD i.toNat []).tail.tail.tail.tail.headD (Dat.n (0 : Int))).toI) => (phU L2 i) -/
/-! rep ((L2.getD i.toNat []).tail.tail.tail.tail.headD (Dat.n (0 : Int))).toI => (phU L2 i) -/
/-! rep (((M.getD i.toNat []).headD (Dat.n (0 : Int))).toL) => (phA M i) -/
/-! rep ((M.getD i.toNat []).headD (Dat.n (0 : Int))).toL => (phA M i) -/
/-! rep (((M.getD i.toNat []).tail.headD (Dat.n (0 : Int))).toI) => (phG M i) -/
/-! rep ((M.getD i.toNat []).tail.headD (Dat.n (0 : Int))).toI => (phG M i) -/
/-! rep (((M.getD i.toNat []).tail.tail.headD (Dat.n (0 : Int))).toI) => (phV M i) -/
/-! rep ((M.getD i.toNat []).tail.tail.headD (Dat.n (0 : Int))).toI => (phV M i) -/
/-! rep (((M.getD i.toNat []).tail.tail.tail.headD (Dat.n (0 : Int))).toI) => (phM M i) -/
/-! rep ((M.getD i.toNat []).tail.tail.tail.headD (Dat.n (0 : Int))).toI => (phM M i) -/
/-! rep (((M.getD i.toNat []).tail.tail.tail.tail.headD (Dat.n (0 : Int))).toI) => (phU M i) -/
/-! rep ((M.getD i.toNat []).tail.tail.tail.tail.headD (Dat.n (0 : Int))).toI => (phU M i) -/
/-! rep (((L.getD k.toNat []).headD (Dat.n (0 : Int))).toL) => (phA L k) -/
/-! rep ((L.getD k.toNat []).headD (Dat.n (0 : Int))).toL => (phA L k) -/
/-! rep (((L.getD k.toNat []).tail.headD (Dat.n (0 : Int))).toI) => (phG L k) -/
/-! rep ((L.getD k.toNat []).tail.headD (Dat.n (0 : Int))).toI => (phG L k) -/
/-! rep (((L.getD k.toNat []).tail.tail.headD (Dat.n (0 : Int))).toI) => (phV L k) -/
/-! rep ((L.getD k.toNat []).tail.tail.headD (Dat.n (0 : Int))).toI => (phV L k) -/
/-! rep (((L.getD k.toNat []).tail.tail.tail.headD (Dat.n (0 : Int))).toI) => (phM L k) -/
/-! rep ((L.getD k.toNat []).tail.tail.tail.headD (Dat.n (0 : Int))).toI => (phM L k) -/
/-! rep (((L.getD k.toNat []).tail.tail.tail.tail.headD (Dat.n (0 : Int))).toI) => (phU L k) -/
/-! rep ((L.getD k.toNat []).tail.tail.tail.tail.headD (Dat.n (0 : Int))).toI => (phU L k) -/
/-! rep (((L2.getD k.toNat []).headD (Dat.n (0 : Int))).toL) => (phA L2 k) -/
/-! rep ((L2.getD k.toNat []).headD (Dat.n (0 : Int))).toL => (phA L2 k) -/
/-! rep (((L2.getD k.toNat []).tail.headD (Dat.n (0 : Int))).toI) => (phG L2 k) -/
/-! rep ((L2.getD k.toNat []).tail.headD (Dat.n (0 : Int))).toI => (phG L2 k) -/
/-! rep (((L2.getD k.toNat []).tail.tail.headD (Dat.n (0 : Int))).toI) => (phV L2 k) -/
/-! rep ((L2.getD k.toNat []).tail.tail.headD (Dat.n (0 : Int))).toI => (phV L2 k) -/
/-! rep (((L2.getD k.toNat []).tail.tail.tail.headD (Dat.n (0 : Int))).toI) => (phM L2 k) -/
/-! rep ((L2.getD k.toNat []).tail.tail.tail.headD (Dat.n (0 : Int))).toI => (phM L2 k) -/
/-! rep (((L2.getD k.toNat []).tail.tail.tail.tail.headD (Dat.n (0 : Int))).toI) => (phU L2 k) -/
/-! rep ((L2.getD k.toNat []).tail.tail.tail.tail.headD (Dat.n (0 : Int))).toI => (phU L2 k) -/
/-! rep (((M.getD k.toNat []).headD (Dat.n (0 : Int))).toL) => (phA M k) -/
/-! rep ((M.getD k.toNat []).headD (Dat.n (0 : Int))).toL => (phA M k) -/
/-! rep (((M.getD k.toNat []).tail.headD (Dat.n (0 : Int))).toI) => (phG M k) -/
/-! rep ((M.getD k.toNat []).tail.headD (Dat.n (0 : Int))).toI => (phG M k) -/
/-! rep (((M.getD k.toNat []).tail.tail.headD (Dat.n (0 : Int))).toI) => (phV M k) -/
/-! rep ((M.getD k.toNat []).tail.tail.headD (Dat.n (0 : Int))).toI => (phV M k) -/
/-! rep (((M.getD k.toNat []).tail.tail.tail.headD (Dat.n (0 : Int))).toI) => (phM M k) -/
/-! rep ((M.getD k.toNat []).tail.tail.tail.headD (Dat.n (0 : Int))).toI => (phM M k) -/
/-! rep (((M.getD k.toNat []).tail.tail.tail.tail.headD (Dat.n (0 : Int))).toI) => (phU M k) -/
/-! rep ((M.getD k.toNat []).tail.tail.tail.tail.headD (Dat.n (0 : Int))).toI => (phU M k) -/
/-! rex wI \(\(BitVec\.ofInt \(64 : Nat\) (\w+) &&& BitVec\.ofInt \(64 : Nat\) \((\d+) : Int\)\)\.toNat : Int\) ==> aN \2 \1 -/

set_option maxRecDepth 20000 in
theorem runBTe (s : ByteArray) (p : Int) : runG ΓS23 L0 Tryz.prog Tryz.f3 [.v (S s), .v (I p)] M0 = 
    (bif decide ((s.size : Int) > (3000 : Int)) then some (.v (Bo true), M0) else (bif s.size.ble (1000000) then (bif s.size.ble (1000000) then (bif s.size.ble (1000000) then (bif fT s p == fT s p then (bif phOk (rfL s) && phOk (rfL s) then (bif samR (rfL s) (rf1 s) (rf2 s) (rf3 s) (rf4 s) (rf5 s) (rf6 s) (rf7 s) (rf8 s) (rfL s) (rf1 s) (rf2 s) (rf3 s) (rf4 s) (rf5 s) (rf6 s) (rf7 s) (rf8 s) then (bif rfE s == (0 : Int) then some (.v (Bo ((fT s p == (0 : Int)) == (aN 3 p == (0 : Int)))), M0) else some (.v (Bo ((fT s p == (0 : Int)) == false)), M0)) else some (.v (Bo false), M0)) else none) else some (.v (Bo false), M0)) else none) else none) else none)) := by kernel_rfl
set_option maxRecDepth 20000 in
theorem runBPo (r1 : Int) (r2 : Int) (r3 : Int) (r4 : Int) (r5 : Int) (r6 : Int) (r7 : Int) (r8 : Int) (L : List (List Dat)) (own : Bool) (mark : Bool) (p : Int) (s : ByteArray) : runG ΓS23 L0 Tryz.prog Tryz.f6 [.ag [.row 0, .v (I r1), .v (I r2), .v (I r3), .v (I r4), .v (I r5), .v (I r6), .v (I r7), .v (I r8)], .v (I p), .v (S s)] ⟨[], [], [rH L own mark]⟩ = 
    (bif L.length.ble (9223372036854775807) then (bif !fewB L then some (.v (Bo true), ⟨[], [], [.live ⟨49, kPh, L, own, mark⟩]⟩) else (bif phOk L then (bif wrR L r1 r2 r3 r4 r5 r6 r7 r8 != (0 : Int) then some (.v (Bo true), ⟨[], [], [.live ⟨49, kPh, L, own, mark⟩]⟩) else (bif decide ((s.size : Int) > (1000 : Int)) then some (.v (Bo true), ⟨[], [], [.live ⟨49, kPh, L, own, mark⟩]⟩) else (bif phOk L && L.length.ble (1000) then (bif (filR L r1 r2 r3 r4 r5 r6 r7 r8).size.ble (1000000) then (bif s.size.ble (1000000) then (bif fT (filR L r1 r2 r3 r4 r5 r6 r7 r8) p == wI ((2 : Int) * aN 3 p) then (bif phOk (rfL (filR L r1 r2 r3 r4 r5 r6 r7 r8)) && phOk L then (bif samR (rfL (filR L r1 r2 r3 r4 r5 r6 r7 r8)) (rf1 (filR L r1 r2 r3 r4 r5 r6 r7 r8)) (rf2 (filR L r1 r2 r3 r4 r5 r6 r7 r8)) (rf3 (filR L r1 r2 r3 r4 r5 r6 r7 r8)) (rf4 (filR L r1 r2 r3 r4 r5 r6 r7 r8)) (rf5 (filR L r1 r2 r3 r4 r5 r6 r7 r8)) (rf6 (filR L r1 r2 r3 r4 r5 r6 r7 r8)) (rf7 (filR L r1 r2 r3 r4 r5 r6 r7 r8)) (rf8 (filR L r1 r2 r3 r4 r5 r6 r7 r8)) L r1 r2 r3 r4 r5 r6 r7 r8 then (bif wI ((BitVec.ofInt (64 : Nat) (fT s p) ||| BitVec.ofInt (64 : Nat) (1 : Int)).toNat : Int) == wI ((BitVec.ofInt (64 : Nat) (fT (filR L r1 r2 r3 r4 r5 r6 r7 r8) p) ||| BitVec.ofInt (64 : Nat) (1 : Int)).toNat : Int) then (bif wI ((BitVec.ofInt (64 : Nat) (fT s p) &&& BitVec.ofInt (64 : Nat) (1 : Int)).toNat : Int) == (0 : Int) then some (.v (Bo true), ⟨[], [], [.live ⟨49, kPh, L, own, mark⟩]⟩) else some (.v (Bo (zerR (rfL s) (rf1 s) (rf2 s) (rf3 s) (rf4 s) (rf5 s) (rf6 s) (rf7 s) (rf8 s))), ⟨[], [], [.live ⟨49, kPh, L, own, mark⟩]⟩)) else some (.v (Bo false), ⟨[], [], [.live ⟨49, kPh, L, own, mark⟩]⟩)) else some (.v (Bo false), ⟨[], [], [.live ⟨49, kPh, L, own, mark⟩]⟩)) else none) else some (.v (Bo false), ⟨[], [], [.live ⟨49, kPh, L, own, mark⟩]⟩)) else none) else none) else none))) else none)) else none) := by kernel_rfl
noncomputable def bdBu : Code := loopAt (Tryz.f5.body.getD .skip) 0
end Go.Proofs.YtikekoabadhmiaaGreat

namespace Go.Proofs.YtikekoabadhmiaaGreat
open Go Go.Proofs Go.Sx Go.RowKit Go.Joins Go.ChangeShapes Go.WideShapes
set_option linter.unusedVariables false
theorem rfL_ok (s : ByteArray) : phOk (rfL s) = true := by
  unfold rfL
  cases rfE s == 0
  · rfl
  · rw [cond_true]
    exact phsP_ok (Nat.le_trans (Nat.le_of_lt (by1_lt (dt 4 s))) (by decide)) _
theorem rf_fil {L : List (List Dat)} {r1 r2 r3 r4 r5 r6 r7 r8 : Int} (hw : ∀ o ∈ L, WfN kPh o) (h : wrB L r1 r2 r3 r4 r5 r6 r7 r8 = 0) {s : ByteArray} (hs : filR L r1 r2 r3 r4 r5 r6 r7 r8 = s) :
    rfE s = 0 ∧ rfL s = L ∧ rf1 s = r1 ∧ rf2 s = r2 ∧ rf3 s = r3 ∧ rf4 s = r4 ∧ rf5 s = r5 ∧ rf6 s = r6 ∧ rf7 s = r7 ∧ rf8 s = r8 := by
  obtain ⟨o1, o2⟩ := fil_ok hw h
  obtain ⟨q1, q2, q3, q4, q5, q6, q7, q8⟩ := fil_all hw h
  rw [hs] at *
  have h0 : (rfE s == 0) = true := by rw [o1]; rfl
  unfold rfL rf1 rf2 rf3 rf4 rf5 rf6 rf7 rf8
  simp only [h0, cond_true]
  exact ⟨o1, o2, q1, q2, q3, q4, q5, q6, q7, q8⟩
theorem rf_none {s : ByteArray} (h : (rfE s == 0) = false) : zerR (rfL s) (rf1 s) (rf2 s) (rf3 s) (rf4 s) (rf5 s) (rf6 s) (rf7 s) (rf8 s) = true := by
  unfold zerR rfL rf1 rf2 rf3 rf4 rf5 rf6 rf7 rf8
  simp only [h, cond_false]
  rfl
theorem fT_0 (s : ByteArray) (p : Int) : (fT s p == 0) = (rfE s == 0 && aN 3 p == 0) := by
  unfold fT pb1 pb2
  rw [aN3]
  simp only [bne]
  have : p % 4 = 0 ∨ p % 4 = 1 ∨ p % 4 = 2 ∨ p % 4 = 3 := by omega
  rcases this with h | h | h | h <;> rw [h] <;> cases rfE s == 0 <;> decide
theorem fT_ok {s : ByteArray} (h : rfE s = 0) (p : Int) : fT s p = wI (2 * aN 3 p) := by
  unfold fT pb1 pb2
  rw [aN3, h]
  have : p % 4 = 0 ∨ p % 4 = 1 ∨ p % 4 = 2 ∨ p % 4 = 3 := by omega
  rcases this with h | h | h | h <;> rw [h] <;> decide
def fT1 (p : Int) : Int := 1 + (bif pb1 p then 2 else 0) + (bif pb2 p then 4 else 0)
theorem fT_or (s : ByteArray) (p : Int) : wI (((BitVec.ofInt 64 (fT s p) ||| BitVec.ofInt 64 1).toNat : Nat) : Int) = fT1 p := by
  unfold fT fT1
  cases rfE s != 0 <;> cases pb1 p <;> cases pb2 p <;> decide
theorem fT_and (s : ByteArray) (p : Int) : (wI (((BitVec.ofInt 64 (fT s p) &&& BitVec.ofInt 64 1).toNat : Nat) : Int) == 0) = (rfE s == 0) := by
  unfold fT
  simp only [bne]
  cases rfE s == 0 <;> cases pb1 p <;> cases pb2 p <;> decide
theorem bitTells (s : ByteArray) (p : Int) : runG ΓS23 L0 Tryz.prog Tryz.f3 [.v (S s), .v (I p)] M0 = some (SV.v (.bool true), M0) := by
  refine (runBTe s p).trans ?_
  by_cases h : (s.size : Int) > 3000
  · rw [decide_eq_true h]
    rfl
  · cases he : rfE s == 0
    · simp only [decide_eq_false h, Nat.ble_eq_true_of_le (show s.size ≤ 1000000 by omega), rfL_ok, samR_self, fT_0, he, beq_self_eq_true, Bool.and_self, Bool.false_and, cond_true, cond_false]
      rfl
    · simp only [decide_eq_false h, Nat.ble_eq_true_of_le (show s.size ≤ 1000000 by omega), rfL_ok, samR_self, fT_0, he, beq_self_eq_true, Bool.and_self, Bool.true_and, cond_true, cond_false]
      rfl
theorem bitPorts (r1 r2 r3 r4 r5 r6 r7 r8 p : Int) (x : ByteArray) (L : List (List Dat)) (hw : ∀ o ∈ L, WfN kPh o) (hl : L.length ≤ 9223372036854775807) : runG ΓS23 L0 Tryz.prog Tryz.f6 [.ag [.row 0, .v (I r1), .v (I r2), .v (I r3), .v (I r4), .v (I r5), .v (I r6), .v (I r7), .v (I r8)], .v (I p), .v (S x)] ⟨[], [], [rH L false false]⟩ = some (SV.v (.bool true), ⟨[], [], [rH L false false]⟩) := by
  have hl' : Nat.ble L.length 9223372036854775807 = true := Nat.ble_eq_true_of_le hl
  refine (runBPo r1 r2 r3 r4 r5 r6 r7 r8 L false false p x).trans ?_
  cases hf : fewB L
  · simp only [hl', Bool.not_false, cond_true]
    rfl
  obtain ⟨hp, h1⟩ := few_gets hw hf
  by_cases h : wrB L r1 r2 r3 r4 r5 r6 r7 r8 = 0
  case neg =>
    have e : (wrR L r1 r2 r3 r4 r5 r6 r7 r8 != 0) = true := by rw [wrRB]; exact bne_iff_ne.2 h
    simp only [hl', hp, e, Bool.not_true, cond_true, cond_false]
    rfl
  have e0 : (wrR L r1 r2 r3 r4 r5 r6 r7 r8 != 0) = false := by rw [wrRB, h]; rfl
  by_cases hm : (x.size : Int) > 1000
  · simp only [hl', hp, e0, decide_eq_true hm, Bool.not_true, cond_true, cond_false]
    rfl
  obtain ⟨z1, z2⟩ := fil_size hw h
  generalize hs : filR L r1 r2 r3 r4 r5 r6 r7 r8 = s at *
  obtain ⟨g0, gL, g1, g2, g3, g4, g5, g6, g7, g8⟩ := rf_fil hw h hs
  have hft : (fT s p == wI (2 * aN 3 p)) = true := by rw [fT_ok g0, beq_self_eq_true]
  cases he : rfE x == 0
  · simp only [hl', hp, h1, e0, decide_eq_false hm, Nat.ble_eq_true_of_le (show s.size ≤ 1000000 by omega), Nat.ble_eq_true_of_le (show x.size ≤ 1000000 by omega), hft, gL, g1, g2, g3, g4, g5, g6, g7, g8, samR_self, fT_or, fT_and, he, rf_none he, beq_self_eq_true, Bool.and_self, Bool.not_true, cond_true, cond_false]
    rfl
  · simp only [hl', hp, h1, e0, decide_eq_false hm, Nat.ble_eq_true_of_le (show s.size ≤ 1000000 by omega), Nat.ble_eq_true_of_le (show x.size ≤ 1000000 by omega), hft, gL, g1, g2, g3, g4, g5, g6, g7, g8, samR_self, fT_or, fT_and, he, beq_self_eq_true, Bool.and_self, Bool.not_true, cond_true, cond_false]
    rfl
end Go.Proofs.YtikekoabadhmiaaGreat

namespace Go.Proofs.YtikekoabadhmiaaGreat
open Go Go.Proofs Go.Sx
set_option linter.unusedVariables false
/-! norm -/
/-! cast -/
/-! rep [CK.sl 51 [CK0.num IntKind.i64, CK0.num IntKind.i64], .num .i64, .num .i64, .num .i64, .num .i64] => kPh -/
/-! rep (dropT (0 : Nat) (L.getD k.toNat [])) => (L.getD k.toNat []) -/
/-! rep (dropT (0 : Nat) (L2.getD k.toNat [])) => (L2.getD k.toNat []) -/
/-! rep (dropT (0 : Nat) (L.getD i.toNat [])) => (L.getD i.toNat []) -/
/-! rep (dropT (0 : Nat) (M.getD k.toNat [])) => (M.getD k.toNat []) -/
/-! repp (List.brecOn.go (motive := fun x => Nat → List Dat → List (List Dat)) M List.set._f).1 k.toNat ==> M.set k.toNat -/
/-! rep (((L.getD i.toNat []).headD (Dat.n (0 : Int))).toL) => (phA L i) -/
/-! rep ((L.getD i.toNat []).headD (Dat.n (0 : Int))).toL => (phA L i) -/
/-! rep (((L.getD i.toNat []).tail.headD (Dat.n (0 : Int))).toI) => (phG L i) -/
/-! rep ((L.getD i.toNat []).tail.headD (Dat.n (0 : Int))).toI => (phG L i) -/
/-! rep (((L.getD i.toNat []).tail.tail.headD (Dat.n (0 : Int))).toI) => (phV L i) -/
/-! rep ((L.getD i.toNat []).tail.tail.headD (Dat.n (0 : Int))).toI => (phV L i) -/
/-! rep (((L.getD i.toNat []).tail.tail.tail.headD (Dat.n (0 : Int))).toI) => (phM L i) -/
/-! rep ((L.getD i.toNat []).tail.tail.tail.headD (Dat.n (0 : Int))).toI => (phM L i) -/
/-! rep (((L.getD i.toNat []).tail.tail.tail.tail.headD (Dat.n (0 : Int))).toI) => (phU L i) -/
/-! rep ((L.getD i.toNat []).tail.tail.tail.tail.headD (Dat.n (0 : Int))).toI => (phU L i) -/
/-! rep (((L2.getD i.toNat []).headD (Dat.n (0 : Int))).toL) => (phA L2 i) -/
/-! rep ((L2.getD i.toNat []).headD (Dat.n (0 : Int))).toL => (phA L2 i) -/
/-! rep (((L2.getD i.toNat []).tail.headD (Dat.n (0 : Int))).toI) => (phG L2 i) -/
/-! rep ((L2.getD i.toNat []).tail.headD (Dat.n (0 : Int))).toI => (phG L2 i) -/
/-! rep (((L2.getD i.toNat []).tail.tail.headD (Dat.n (0 : Int))).toI) => (phV L2 i) -/
/-! rep ((L2.getD i.toNat []).tail.tail.headD (Dat.n (0 : Int))).toI => (phV L2 i) -/
/-! rep (((L2.getD i.toNat []).tail.tail.tail.headD (Dat.n (0 : Int))).toI) => (phM L2 i) -/
/-! rep ((L2.getD i.toNat []).tail.tail.tail.headD (Dat.n (0 : Int))).toI => (phM L2 i) -/
/-! rep (((L2.getD i.toNat []).tail.tail.tail.tail.headD (Dat.n (0 : Int))).toI) => (phU L2 i) -/
/-! rep ((L2.getD i.toNat []).tail.tail.tail.tail.headD (Dat.n (0 : Int))).toI => (phU L2 i) -/
/-! rep (((M.getD i.toNat []).headD (Dat.n (0 : Int))).toL) => (phA M i) -/
/-! rep ((M.getD i.toNat []).headD (Dat.n (0 : Int))).toL => (phA M i) -/
/-! rep (((M.getD i.toNat []).tail.headD (Dat.n (0 : Int))).toI) => (phG M i) -/
/-! rep ((M.getD i.toNat []).tail.headD (Dat.n (0 : Int))).toI => (phG M i) -/
/-! rep (((M.getD i.toNat []).tail.tail.headD (Dat.n (0 : Int))).toI) => (phV M i) -/
/-! rep ((M.getD i.toNat []).tail.tail.headD (Dat.n (0 : Int))).toI => (phV M i) -/
/-! rep (((M.getD i.toNat []).tail.tail.tail.headD (Dat.n (0 : Int))).toI) => (phM M i) -/
/-! rep ((M.getD i.toNat []).tail.tail.tail.headD (Dat.n (0 : Int))).toI => (phM M i) -/
/-! rep (((M.getD i.toNat []).tail.tail.tail.tail.headD (Dat.n (0 : Int))).toI) => (phU M i) -/
/-! rep ((M.getD i.toNat []).tail.tail.tail.tail.headD (Dat.n (0 : Int))).toI => (phU M i) -/
/-! rep (((L.getD k.toNat []).headD (Dat.n (0 : Int))).toL) => (phA L k) -/
/-! rep ((L.getD k.toNat []).headD (Dat.n (0 : Int))).toL => (phA L k) -/
/-! rep (((L.getD k.toNat []).tail.headD (Dat.n (0 : Int))).toI) => (phG L k) -/
/-! rep ((L.getD k.toNat []).tail.headD (Dat.n (0 : Int))).toI => (phG L k) -/
/-! rep (((L.getD k.toNat []).tail.tail.headD (Dat.n (0 : Int))).toI) => (phV L k) -/
/-! rep ((L.getD k.toNat []).tail.tail.headD (Dat.n (0 : Int))).toI => (phV L k) -/
/-! rep (((L.getD k.toNat []).tail.tail.tail.headD (Dat.n (0 : Int))).toI) => (phM L k) -/
/-! rep ((L.getD k.toNat []).tail.tail.tail.headD (Dat.n (0 : Int))).toI => (phM L k) -/
/-! rep (((L.getD k.toNat []).tail.tail.tail.tail.headD (Dat.n (0 : Int))).toI) => (phU L k) -/
/-! rep ((L.getD k.toNat []).tail.tail.tail.tail.headD (Dat.n (0 : Int))).toI => (phU L k) -/
/-! rep (((L2.getD k.toNat []).headD (Dat.n (0 : Int))).toL) => (phA L2 k) -/
/-! rep ((L2.getD k.toNat []).headD (Dat.n (0 : Int))).toL => (phA L2 k) -/
/-! rep (((L2.getD k.toNat []).tail.headD (Dat.n (0 : Int))).toI) => (phG L2 k) -/
/-! rep ((L2.getD k.toNat []).tail.headD (Dat.n (0 : Int))).toI => (phG L2 k) -/
/-! rep (((L2.getD k.toNat []).tail.tail.headD (Dat.n (0 : Int))).toI) => (phV L2 k) -/
/-! rep ((L2.getD k.toNat []).tail.tail.headD (Dat.n (0 : Int))).toI => (phV L2 k) -/
/-! rep (((L2.getD k.toNat []).tail.tail.tail.headD (Dat.n (0 : Int))).toI) => (phM L2 k) -/
/-! rep ((L2.getD k.toNat []).tail.tail.tail.headD (Dat.n (0 : Int))).toI => (phM L2 k) -/
/-! rep (((L2.getD k.toNat []).tail.tail.tail.tail.headD (Dat.n (0 : Int))).toI) => (phU L2 k) -/
/-! rep ((L2.getD k.toNat []).tail.tail.tail.tail.headD (Dat.n (0 : Int))).toI => (phU L2 k) -/
/-! rep (((M.getD k.toNat []).headD (Dat.n (0 : Int))).toL) => (phA M k) -/
/-! rep ((M.getD k.toNat []).headD (Dat.n (0 : Int))).toL => (phA M k) -/
/-! rep (((M.getD k.toNat []).tail.headD (Dat.n (0 : Int))).toI) => (phG M k) -/
/-! rep ((M.getD k.toNat []).tail.headD (Dat.n (0 : Int))).toI => (phG M k) -/
/-! rep (((M.getD k.toNat []).tail.tail.headD (Dat.n (0 : Int))).toI) => (phV M k) -/
/-! rep ((M.getD k.toNat []).tail.tail.headD (Dat.n (0 : Int))).toI => (phV M k) -/
/-! rep (((M.getD k.toNat []).tail.tail.tail.headD (Dat.n (0 : Int))).toI) => (phM M k) -/
/-! rep ((M.getD k.toNat []).tail.tail.tail.headD (Dat.n (0 : Int))).toI => (phM M k) -/
/-! rep (((M.getD k.toNat []).tail.tail.tail.tail.headD (Dat.n (0 : Int))).toI) => (phU M k) -/
/-! rep ((M.getD k.toNat []).tail.tail.tail.tail.headD (Dat.n (0 : Int))).toI => (phU M k) -/
/-! rex wI \(\(BitVec\.ofInt \(64 : Nat\) (\w+) &&& BitVec\.ofInt \(64 : Nat\) \((\d+) : Int\)\)\.toNat : Int\) ==> aN \2 \1 -/

noncomputable def bdBm : Code := loopAt (Tryz.f4.body.getD .skip) 0
def kBm : List Bool := maskOf 41 [0,3,4,20,21]
def xBm (e : Ex) : List Bool := match e with
  | .exit _ => maskOf 41 [0,3]
  | .ret => maskOf 41 [2]
  | .normal => maskOf 41 [0,3,4,20,21]
def KBm (e : Ex) (st : St) : Option (Ex × St) := some (e, cutC 0 0 (xBm e) st)
set_option maxRecDepth 20000 in
theorem stepBm (f : Int) (N : Int) (k : Int) (A : List (List Dat)) (B : List (List Dat)) (n : Nat) : evLoop ΓS23 Tryz.prog L0 (cutC 0 0 kBm) bdBm (n + 1) (mk kBm [.v (I f), .row 0, .row 1, .v (I N), .v (I k)] ⟨[], [], [.live ⟨9, [.str], A, true, false⟩, .live ⟨9, [.str], B, true, false⟩]⟩) KBm =
    (bif decide (k < N) then (bif decide ((0 : Int) ≤ k) && decide (k < (A.length : Int)) then (bif decide ((0 : Int) ≤ k) && decide (k < (B.length : Int)) then (bif !((A.getD k.toNat []).headD (Dat.n (0 : Int))).toS.toList == ((B.getD k.toNat []).headD (Dat.n (0 : Int))).toS.toList then some (.ret, mk (xBm .ret) [.v (Bo false)] M0) else evLoop ΓS23 Tryz.prog L0 (cutC 0 0 kBm) bdBm n (mk kBm [.v (I f), .row 0, .row 1, .v (I N), .v (I (wI (k + (1 : Int))))] ⟨[], [], [.live ⟨9, [.str], A, true, false⟩, .live ⟨9, [.str], B, true, false⟩]⟩) KBm) else none) else none) else some ((.exit 0), mk (xBm (.exit 0)) [.v (I f), .row 0] ⟨[], [], [.live ⟨9, [.str], A, true, false⟩]⟩)) := by kernel_rfl
noncomputable def EBm (n : Nat) (f : Int) (N : Int) (k : Int) (A : List (List Dat)) (B : List (List Dat)) : Option (Ex × St) :=
  evLoop ΓS23 Tryz.prog L0 (cutC 0 0 kBm) bdBm n (mk kBm [.v (I f), .row 0, .row 1, .v (I N), .v (I k)] ⟨[], [], [.live ⟨9, [.str], A, true, false⟩, .live ⟨9, [.str], B, true, false⟩]⟩) KBm
def neN (A B : List (List Dat)) (k : Int) : Bool := !(((A.getD k.toNat []).headD (Dat.n 0)).toS.toList == ((B.getD k.toNat []).headD (Dat.n 0)).toS.toList)
theorem neN_self (A : List (List Dat)) (k : Int) : neN A A k = false := by
  unfold neN
  rw [beq_self_eq_true]
  rfl
def lfBm (f : Int) (A B : List (List Dat)) : LT := .br (anyN (neN A B) A.length 0) (.leaf .ret (mk (xBm .ret) [.v (Bo false)] M0)) (.leaf (.exit 0) (mk (xBm (.exit 0)) [.v (I f), .row 0] ⟨[], [], [.live ⟨9, [.str], A, true, false⟩]⟩))
theorem loopBm (f : Int) (A B : List (List Dat)) (h1 : A.length ≤ 1000) (h2 : A.length = B.length) : EBm (A.length + 1) f (A.length : Int) 0 A B = some (lfBm f A B).pick := by
  have h := findLoop (neN A B) (A.length : Int) (fun n k => EBm n f (A.length : Int) k A B) (some (.exit 0, mk (xBm (.exit 0)) [.v (I f), .row 0] ⟨[], [], [.live ⟨9, [.str], A, true, false⟩]⟩)) (some (.ret, mk (xBm .ret) [.v (Bo false)] M0)) (fun n k hk => ?_) (fun n k hk => ?_) A.length 0 (by omega) (by omega)
  · refine h.trans ?_
    unfold lfBm
    cases anyN (neN A B) A.length 0 <;> rfl
  · refine (stepBm f (A.length : Int) k A B n).trans ?_
    rw [decide_eq_false hk]
    rfl
  · refine (stepBm f (A.length : Int) k A B n).trans ?_
    rw [decide_eq_true hk.2, decide_eq_true hk.1, decide_eq_true (show k < (B.length : Int) by omega), wI_id (n := k + 1) (by omega)]
    show (bif neN A B k then _ else _) = _
    cases neN A B k <;> rfl
def GBm (vals : List SV) (m : Mem) : Option (Bool × LT) :=
  match vals, m with
  | [.v (.int .i64 f), .row 0, .row 1, .v (.int .i64 N), .v (.int .i64 k)], ⟨[], [], [.live ⟨9, [.str], A, true, false⟩, .live ⟨9, [.str], B, true, false⟩]⟩ => some (k == 0 && (N == (A.length : Int) && (Nat.ble A.length 1000 && Nat.beq A.length B.length)), lfBm f A B)
  | _, _ => none
noncomputable def ΛBm : LoopOrc := fun _ st => viaT 0 0 kBm GBm st
theorem loopOkBm (z : Base) (z1 : z.L.length = 0) (z2 : z.U.length = 0) : LoopOk ΛBm Tryz.prog z bdBm := by
  refine loop_okT (Λ := L0) (kx := xBm) OkS23 mixed z1 z2 (fun b hb st t h => by cases h) (G := GBm) (fun _ => rfl) ?_
  intro vals m t h
  unfold GBm at h
  split at h
  · rename_i f N k A B
    obtain ⟨h1, rfl⟩ := some_t h
    simp only [Bool.and_eq_true, beq_iff_eq] at h1
    obtain ⟨rfl, rfl, hl, he⟩ := h1
    exact ⟨_, loopBm f A B (Nat.le_of_ble_eq_true hl) (Nat.eq_of_beq_eq_true he)⟩
  · cases h
theorem loopsBm : loopsOf (Tryz.f4.body.getD .skip) = [bdBm] := by kernel_rfl
set_option maxRecDepth 20000 in
theorem runBNa (f : Int) : runG ΓS23 ΛBm Tryz.prog Tryz.f4 [.v (I f)] M0 = 
    (bif ((nmL f).length : Int) != ((nmL f).length : Int) then some (.v (Bo false), M0) else (bif true && (((nmL f).length : Int) == ((nmL f).length : Int) && ((nmL f).length.ble (1000) && (nmL f).length.beq (nmL f).length)) then (bif anyN (neN (nmL f) (nmL f)) (nmL f).length (0 : Int) then some (.v (Bo false), M0) else some (.v (Bo ((((nmL f).length : Int) == (0 : Int)) == (aN 31 f == (0 : Int)))), M0)) else none)) := by kernel_rfl
end Go.Proofs.YtikekoabadhmiaaGreat

namespace Go.Proofs.YtikekoabadhmiaaGreat
open Go Go.Proofs Go.Sx
set_option linter.unusedVariables false
theorem nmL_len (f : Int) : (nmL f).length = (bif fbit 0 f then 1 else 0) + ((bif fbit 1 f then 1 else 0) + ((bif fbit 2 f then 1 else 0) + ((bif fbit 3 f then 1 else 0) + (bif fbit 4 f then 1 else 0)))) := by
  unfold nmL
  cases fbit 0 f <;> cases fbit 1 f <;> cases fbit 2 f <;> cases fbit 3 f <;> cases fbit 4 f <;> rfl
theorem five_none : ∀ q : Nat, q < 32 → ((((bif q.testBit 0 then 1 else 0) + ((bif q.testBit 1 then 1 else 0) + ((bif q.testBit 2 then 1 else 0) + ((bif q.testBit 3 then 1 else 0) + (bif q.testBit 4 then 1 else 0)))) : Nat) : Int) == 0) = (((q &&& 31 : Nat) : Int) == 0) := by decide
theorem nm_0 (f : Int) : (((nmL f).length : Int) == 0) = (aN 31 f == 0) := by
  rw [nmL_len, aN_low5 f (by decide) (by decide)]
  exact five_none (f % 32).toNat (by omega)
theorem nm_le (f : Int) : (nmL f).length ≤ 1000 := by
  rw [nmL_len]
  cases fbit 0 f <;> cases fbit 1 f <;> cases fbit 2 f <;> cases fbit 3 f <;> cases fbit 4 f <;> decide
theorem bitNames (f : Int) : runG ΓS23 ΛBm Tryz.prog Tryz.f4 [.v (I f)] M0 = some (SV.v (.bool true), M0) := by
  refine (runBNa f).trans ?_
  have h : anyN (neN (nmL f) (nmL f)) (nmL f).length 0 = false := anyN_none.2 fun k _ _ => neN_self (nmL f) k
  have h2 : (nmL f).length.beq (nmL f).length = true := Nat.beq_refl _
  simp only [h, h2, nm_0, Nat.ble_eq_true_of_le (nm_le f), beq_self_eq_true, bne_self_eq_false, Bool.and_self, cond_true, cond_false]
  rfl
end Go.Proofs.YtikekoabadhmiaaGreat

namespace Go.Proofs.YtikekoabadhmiaaGreat
open Go Go.Proofs Go.Sx
set_option linter.unusedVariables false
/-! norm -/
/-! cast -/
/-! rep [CK.sl 51 [CK0.num IntKind.i64, CK0.num IntKind.i64], .num .i64, .num .i64, .num .i64, .num .i64] => kPh -/
/-! rep (dropT (0 : Nat) (L.getD k.toNat [])) => (L.getD k.toNat []) -/
/-! rep (dropT (0 : Nat) (L2.getD k.toNat [])) => (L2.getD k.toNat []) -/
/-! rep (dropT (0 : Nat) (L.getD i.toNat [])) => (L.getD i.toNat []) -/
/-! rep (dropT (0 : Nat) (M.getD k.toNat [])) => (M.getD k.toNat []) -/
/-! repp (List.brecOn.go (motive := fun x => Nat → List Dat → List (List Dat)) M List.set._f).1 k.toNat ==> M.set k.toNat -/
/-! rep (((L.getD i.toNat []).headD (Dat.n (0 : Int))).toL) => (phA L i) -/
/-! rep ((L.getD i.toNat []).headD (Dat.n (0 : Int))).toL => (phA L i) -/
/-! rep (((L.getD i.toNat []).tail.headD (Dat.n (0 : Int))).toI) => (phG L i) -/
/-! rep ((L.getD i.toNat []).tail.headD (Dat.n (0 : Int))).toI => (phG L i) -/
/-! rep (((L.getD i.toNat []).tail.tail.headD (Dat.n (0 : Int))).toI) => (phV L i) -/
/-! rep ((L.getD i.toNat []).tail.tail.headD (Dat.n (0 : Int))).toI => (phV L i) -/
/-! rep (((L.getD i.toNat []).tail.tail.tail.headD (Dat.n (0 : Int))).toI) => (phM L i) -/
/-! rep ((L.getD i.toNat []).tail.tail.tail.headD (Dat.n (0 : Int))).toI => (phM L i) -/
/-! rep (((L.getD i.toNat []).tail.tail.tail.tail.headD (Dat.n (0 : Int))).toI) => (phU L i) -/
/-! rep ((L.getD i.toNat []).tail.tail.tail.tail.headD (Dat.n (0 : Int))).toI => (phU L i) -/
/-! rep (((L2.getD i.toNat []).headD (Dat.n (0 : Int))).toL) => (phA L2 i) -/
/-! rep ((L2.getD i.toNat []).headD (Dat.n (0 : Int))).toL => (phA L2 i) -/
/-! rep (((L2.getD i.toNat []).tail.headD (Dat.n (0 : Int))).toI) => (phG L2 i) -/
/-! rep ((L2.getD i.toNat []).tail.headD (Dat.n (0 : Int))).toI => (phG L2 i) -/
/-! rep (((L2.getD i.toNat []).tail.tail.headD (Dat.n (0 : Int))).toI) => (phV L2 i) -/
/-! rep ((L2.getD i.toNat []).tail.tail.headD (Dat.n (0 : Int))).toI => (phV L2 i) -/
/-! rep (((L2.getD i.toNat []).tail.tail.tail.headD (Dat.n (0 : Int))).toI) => (phM L2 i) -/
/-! rep ((L2.getD i.toNat []).tail.tail.tail.headD (Dat.n (0 : Int))).toI => (phM L2 i) -/
/-! rep (((L2.getD i.toNat []).tail.tail.tail.tail.headD (Dat.n (0 : Int))).toI) => (phU L2 i) -/
/-! rep ((L2.getD i.toNat []).tail.tail.tail.tail.headD (Dat.n (0 : Int))).toI => (phU L2 i) -/
/-! rep (((M.getD i.toNat []).headD (Dat.n (0 : Int))).toL) => (phA M i) -/
/-! rep ((M.getD i.toNat []).headD (Dat.n (0 : Int))).toL => (phA M i) -/
/-! rep (((M.getD i.toNat []).tail.headD (Dat.n (0 : Int))).toI) => (phG M i) -/
/-! rep ((M.getD i.toNat []).tail.headD (Dat.n (0 : Int))).toI => (phG M i) -/
/-! rep (((M.getD i.toNat []).tail.tail.headD (Dat.n (0 : Int))).toI) => (phV M i) -/
/-! rep ((M.getD i.toNat []).tail.tail.headD (Dat.n (0 : Int))).toI => (phV M i) -/
/-! rep (((M.getD i.toNat []).tail.tail.tail.headD (Dat.n (0 : Int))).toI) => (phM M i) -/
/-! rep ((M.getD i.toNat []).tail.tail.tail.headD (Dat.n (0 : Int))).toI => (phM M i) -/
/-! rep (((M.getD i.toNat []).tail.tail.tail.tail.headD (Dat.n (0 : Int))).toI) => (phU M i) -/
/-! rep ((M.getD i.toNat []).tail.tail.tail.tail.headD (Dat.n (0 : Int))).toI => (phU M i) -/
/-! rep (((L.getD k.toNat []).headD (Dat.n (0 : Int))).toL) => (phA L k) -/
/-! rep ((L.getD k.toNat []).headD (Dat.n (0 : Int))).toL => (phA L k) -/
/-! rep (((L.getD k.toNat []).tail.headD (Dat.n (0 : Int))).toI) => (phG L k) -/
/-! rep ((L.getD k.toNat []).tail.headD (Dat.n (0 : Int))).toI => (phG L k) -/
/-! rep (((L.getD k.toNat []).tail.tail.headD (Dat.n (0 : Int))).toI) => (phV L k) -/
/-! rep ((L.getD k.toNat []).tail.tail.headD (Dat.n (0 : Int))).toI => (phV L k) -/
/-! rep (((L.getD k.toNat []).tail.tail.tail.headD (Dat.n (0 : Int))).toI) => (phM L k) -/
/-! rep ((L.getD k.toNat []).tail.tail.tail.headD (Dat.n (0 : Int))).toI => (phM L k) -/
/-! rep (((L.getD k.toNat []).tail.tail.tail.tail.headD (Dat.n (0 : Int))).toI) => (phU L k) -/
/-! rep ((L.getD k.toNat []).tail.tail.tail.tail.headD (Dat.n (0 : Int))).toI => (phU L k) -/
/-! rep (((L2.getD k.toNat []).headD (Dat.n (0 : Int))).toL) => (phA L2 k) -/
/-! rep ((L2.getD k.toNat []).headD (Dat.n (0 : Int))).toL => (phA L2 k) -/
/-! rep (((L2.getD k.toNat []).tail.headD (Dat.n (0 : Int))).toI) => (phG L2 k) -/
/-! rep ((L2.getD k.toNat []).tail.headD (Dat.n (0 : Int))).toI => (phG L2 k) -/
/-! rep (((L2.getD k.toNat []).tail.tail.headD (Dat.n (0 : Int))).toI) => (phV L2 k) -/
/-! rep ((L2.getD k.toNat []).tail.tail.headD (Dat.n (0 : Int))).toI => (phV L2 k) -/
/-! rep (((L2.getD k.toNat []).tail.tail.tail.headD (Dat.n (0 : Int))).toI) => (phM L2 k) -/
/-! rep ((L2.getD k.toNat []).tail.tail.tail.headD (Dat.n (0 : Int))).toI => (phM L2 k) -/
/-! rep (((L2.getD k.toNat []).tail.tail.tail.tail.headD (Dat.n (0 : Int))).toI) => (phU L2 k) -/
/-! rep ((L2.getD k.toNat []).tail.tail.tail.tail.headD (Dat.n (0 : Int))).toI => (phU L2 k) -/
/-! rep (((M.getD k.toNat []).headD (Dat.n (0 : Int))).toL) => (phA M k) -/
/-! rep ((M.getD k.toNat []).headD (Dat.n (0 : Int))).toL => (phA M k) -/
/-! rep (((M.getD k.toNat []).tail.headD (Dat.n (0 : Int))).toI) => (phG M k) -/
/-! rep ((M.getD k.toNat []).tail.headD (Dat.n (0 : Int))).toI => (phG M k) -/
/-! rep (((M.getD k.toNat []).tail.tail.headD (Dat.n (0 : Int))).toI) => (phV M k) -/
/-! rep ((M.getD k.toNat []).tail.tail.headD (Dat.n (0 : Int))).toI => (phV M k) -/
/-! rep (((M.getD k.toNat []).tail.tail.tail.headD (Dat.n (0 : Int))).toI) => (phM M k) -/
/-! rep ((M.getD k.toNat []).tail.tail.tail.headD (Dat.n (0 : Int))).toI => (phM M k) -/
/-! rep (((M.getD k.toNat []).tail.tail.tail.tail.headD (Dat.n (0 : Int))).toI) => (phU M k) -/
/-! rep ((M.getD k.toNat []).tail.tail.tail.tail.headD (Dat.n (0 : Int))).toI => (phU M k) -/
/-! rex wI \(\(BitVec\.ofInt \(64 : Nat\) (\w+) &&& BitVec\.ofInt \(64 : Nat\) \((\d+) : Int\)\)\.toNat : Int\) ==> aN \2 \1 -/

def kBu : List Bool := maskOf 74 [2,7,8,39]
def xBu : List Bool := maskOf 74 [7]
def HBu (t fr : Int) (L : List (List Dat)) (own mark : Bool) (Q : List (List Dat)) (i : Int) : St :=
  mk kBu [.v (U32 t), .row 1, .v (I fr), .v (I i)] ⟨[], [], [rH L own mark, rU Q]⟩
def XBu (L : List (List Dat)) (own mark : Bool) (Q : List (List Dat)) : St := mk xBu [.row 1] ⟨[], [], [rH L own mark, rU Q]⟩
def KBu (e : Ex) (st : St) : Option (Ex × St) := some (e, cutC 0 1 xBu st)
theorem stepBu (t fr : Int) (L : List (List Dat)) (own mark : Bool) (n : Nat) (Q : List (List Dat)) (i : Int) : evLoop ΓS23 Tryz.prog L0 (cutC 0 1 kBu) bdBu (n + 1) (HBu t fr L own mark Q i) KBu =
    bif decide (i < 32) then
      bif decide (i < 0) then none
      else bif on t i then
          bif okR Q (kk fr i) then bif decide (rm (kk fr i) < 0) then none
          else bif okR Q (kk fr i) then evLoop ΓS23 Tryz.prog L0 (cutC 0 1 kBu) bdBu n (HBu t fr L own mark (xQ Q (kk fr i)) (wI (i + 1))) KBu
          else none else none
      else evLoop ΓS23 Tryz.prog L0 (cutC 0 1 kBu) bdBu n (HBu t fr L own mark Q (wI (i + 1))) KBu
    else some (.exit 0, XBu L own mark Q) := by kernel_rfl
def lfBu (t a : Int) (L : List (List Dat)) (own mark : Bool) (Q : List (List Dat)) : LT := .leaf (.exit 0) (XBu L own mark (zTu t a Q))
def GBu (vals : List SV) (m : Mem) : Option (Bool × LT) :=
  match vals, m with
  | [.v (.int .u32 t), .row 1, .v (.int .i64 a), .v (.int .i64 i)], ⟨[], [], [.live ⟨49, [.sl 51 [.num .i64, .num .i64], .num .i64, .num .i64, .num .i64, .num .i64], L, own, mark⟩, .live ⟨5, [.num .u8], Q, true, true⟩]⟩ => some (gTu t a i Q, lfBu t a L own mark Q)
  | _, _ => none
noncomputable def ΛBu : LoopOrc := fun _ st => viaT 0 1 kBu GBu st
theorem loopsBu : loopsOf (Tryz.f5.body.getD .skip) = [bdBu] := by kernel_rfl
theorem loopOkBu (z : Base) (z1 : z.L.length = 0) (z2 : z.U.length = 1) : LoopOk ΛBu Tryz.prog z bdBu := by
  refine loop_okT (Λ := L0) (kx := fun _ => xBu) OkS23 mixed z1 z2 (fun b hb st t h => by cases h) (G := GBu) (fun _ => rfl) ?_
  intro vals m tt h
  unfold GBu at h
  split at h
  case h_2 => cases h
  rename_i t a i L own mark Q
  obtain ⟨h1, rfl⟩ := some_t h
  unfold gTu at h1
  simp only [Bool.and_eq_true, beq_iff_eq] at h1
  obtain ⟨rfl, ha, ht, hQ, hl, hl2⟩ := h1
  obtain ⟨an, rfl, han⟩ := inN_nat ha
  obtain ⟨tn, rfl, htn⟩ := in32_nat ht
  have hl := Nat.le_of_ble_eq_true hl
  have hl2 := Nat.le_of_ble_eq_true hl2
  rw [Int.toNat_natCast] at hl
  obtain ⟨eB, sB⟩ := rw8_of hQ
  have hn : (nats Q).length = Q.length := by simp [nats]
  have := goesT (a := an) (t := tn) (n := Q.length - 4) (by omega) (by omega) htn (fun k B i => evLoop ΓS23 Tryz.prog L0 (cutC 0 1 kBu) bdBu k (HBu (tn : Int) (an : Int) L own mark B i) KBu) (fun B => some (.exit 0, XBu L own mark B))
    (fun k B i => stepBu (tn : Int) (an : Int) L own mark k B i) 32 0 ⟨false, nats Q⟩ rfl sB (by rw [hn]; omega)
  rw [← eB] at this
  exact ⟨33, this⟩

set_option maxRecDepth 20000 in
theorem runBTu (r1 : Int) (r2 : Int) (r3 : Int) (r4 : Int) (r5 : Int) (r6 : Int) (r7 : Int) (r8 : Int) (L : List (List Dat)) (own : Bool) (mark : Bool) (at_ t : Int) : runG ΓS23 ΛBu Tryz.prog Tryz.f5 [.ag [.row 0, .v (I r1), .v (I r2), .v (I r3), .v (I r4), .v (I r5), .v (I r6), .v (I r7), .v (I r8)], .v (I at_), .v (U32 t)] ⟨[], [], [rH L own mark]⟩ = 
    (bif L.length.ble (9223372036854775807) then (bif !fewB L then some (.v (Bo true), ⟨[], [], [.live ⟨49, kPh, L, own, mark⟩]⟩) else (bif phOk L then (bif wrR L r1 r2 r3 r4 r5 r6 r7 r8 != (0 : Int) then some (.v (Bo true), ⟨[], [], [.live ⟨49, kPh, L, own, mark⟩]⟩) else (bif t == (0 : Int) then some (.v (Bo true), ⟨[], [], [.live ⟨49, kPh, L, own, mark⟩]⟩) else (bif phOk L && L.length.ble (1000) then (bif gTu t (wI ((8 : Int) * wI ((5 : Int) + wI ((IntKind.u64.wrap at_).tmod (12 : Int))))) (0 : Int) (rowN (bytesL (filR L r1 r2 r3 r4 r5 r6 r7 r8))) then (bif (strOfNums (numsOf (zTu t (wI ((8 : Int) * wI ((5 : Int) + wI ((IntKind.u64.wrap at_).tmod (12 : Int))))) (rowN (bytesL (filR L r1 r2 r3 r4 r5 r6 r7 r8)))))).size.ble (1000000) then (bif fT (strOfNums (numsOf (zTu t (wI ((8 : Int) * wI ((5 : Int) + wI ((IntKind.u64.wrap at_).tmod (12 : Int))))) (rowN (bytesL (filR L r1 r2 r3 r4 r5 r6 r7 r8)))))) (0 : Int) == (1 : Int) then some (.v (Bo (zerR (rfL (strOfNums (numsOf (zTu t (wI ((8 : Int) * wI ((5 : Int) + wI ((IntKind.u64.wrap at_).tmod (12 : Int))))) (rowN (bytesL (filR L r1 r2 r3 r4 r5 r6 r7 r8))))))) (rf1 (strOfNums (numsOf (zTu t (wI ((8 : Int) * wI ((5 : Int) + wI ((IntKind.u64.wrap at_).tmod (12 : Int))))) (rowN (bytesL (filR L r1 r2 r3 r4 r5 r6 r7 r8))))))) (rf2 (strOfNums (numsOf (zTu t (wI ((8 : Int) * wI ((5 : Int) + wI ((IntKind.u64.wrap at_).tmod (12 : Int))))) (rowN (bytesL (filR L r1 r2 r3 r4 r5 r6 r7 r8))))))) (rf3 (strOfNums (numsOf (zTu t (wI ((8 : Int) * wI ((5 : Int) + wI ((IntKind.u64.wrap at_).tmod (12 : Int))))) (rowN (bytesL (filR L r1 r2 r3 r4 r5 r6 r7 r8))))))) (rf4 (strOfNums (numsOf (zTu t (wI ((8 : Int) * wI ((5 : Int) + wI ((IntKind.u64.wrap at_).tmod (12 : Int))))) (rowN (bytesL (filR L r1 r2 r3 r4 r5 r6 r7 r8))))))) (rf5 (strOfNums (numsOf (zTu t (wI ((8 : Int) * wI ((5 : Int) + wI ((IntKind.u64.wrap at_).tmod (12 : Int))))) (rowN (bytesL (filR L r1 r2 r3 r4 r5 r6 r7 r8))))))) (rf6 (strOfNums (numsOf (zTu t (wI ((8 : Int) * wI ((5 : Int) + wI ((IntKind.u64.wrap at_).tmod (12 : Int))))) (rowN (bytesL (filR L r1 r2 r3 r4 r5 r6 r7 r8))))))) (rf7 (strOfNums (numsOf (zTu t (wI ((8 : Int) * wI ((5 : Int) + wI ((IntKind.u64.wrap at_).tmod (12 : Int))))) (rowN (bytesL (filR L r1 r2 r3 r4 r5 r6 r7 r8))))))) (rf8 (strOfNums (numsOf (zTu t (wI ((8 : Int) * wI ((5 : Int) + wI ((IntKind.u64.wrap at_).tmod (12 : Int))))) (rowN (bytesL (filR L r1 r2 r3 r4 r5 r6 r7 r8))))))))), ⟨[], [], [.live ⟨49, kPh, L, own, mark⟩]⟩) else some (.v (Bo false), ⟨[], [], [.live ⟨49, kPh, L, own, mark⟩]⟩)) else none) else none) else none))) else none)) else none) := by kernel_rfl
end Go.Proofs.YtikekoabadhmiaaGreat

namespace Go.Proofs.YtikekoabadhmiaaGreat
open Go Go.Proofs Go.Sx Go.RowKit Go.Joins Go.ChangeShapes Go.WideShapes
set_option linter.unusedVariables false
theorem fT_bad {x : ByteArray} (h : (rfE x == 0) = false) : fT x 0 = 1 := by
  unfold fT
  rw [bne, h]
  rfl
theorem bitTurns (r1 r2 r3 r4 r5 r6 r7 r8 at_ t : Int) (ht : (Lit.int .u32 t).wf = true) (L : List (List Dat)) (hw : ∀ o ∈ L, WfN kPh o) (hl : L.length ≤ 9223372036854775807) : runG ΓS23 ΛBu Tryz.prog Tryz.f5 [.ag [.row 0, .v (I r1), .v (I r2), .v (I r3), .v (I r4), .v (I r5), .v (I r6), .v (I r7), .v (I r8)], .v (I at_), .v (U32 t)] ⟨[], [], [rH L false false]⟩ = some (SV.v (.bool true), ⟨[], [], [rH L false false]⟩) := by
  have hl' : Nat.ble L.length 9223372036854775807 = true := Nat.ble_eq_true_of_le hl
  refine (runBTu r1 r2 r3 r4 r5 r6 r7 r8 L false false at_ t).trans ?_
  cases hf : fewB L
  · simp only [hl', Bool.not_false, cond_true]
    rfl
  obtain ⟨hp, h1⟩ := few_gets hw hf
  by_cases h : wrB L r1 r2 r3 r4 r5 r6 r7 r8 = 0
  case neg =>
    have e : (wrR L r1 r2 r3 r4 r5 r6 r7 r8 != 0) = true := by rw [wrRB]; exact bne_iff_ne.2 h
    simp only [hl', hp, e, Bool.not_true, cond_true, cond_false]
    rfl
  have e0 : (wrR L r1 r2 r3 r4 r5 r6 r7 r8 != 0) = false := by rw [wrRB, h]; rfl
  cases ht0 : t == 0
  case true =>
    simp only [hl', hp, e0, Bool.not_true, cond_true, cond_false]
    rfl
  obtain ⟨o1, o2⟩ := fil_ok hw h
  obtain ⟨z1, z2⟩ := fil_size hw h
  have z3 := phsW_ge (wrB_0 h).1.1
  generalize hs : filR L r1 r2 r3 r4 r5 r6 r7 r8 = s at *
  obtain ⟨tn, rfl, htn⟩ := in32_nat (in32_wf ht)
  obtain ⟨j, hj, ej⟩ := rem_at at_ 12 (by omega) (by omega)
  rw [show IntKind.u64.wrap ((12 : Nat) : Int) = 12 by rw [be_u64]; rfl] at ej
  have ek : wI (8 * wI (5 + (j : Int))) = ((8 * (5 + j) : Nat) : Int) := by rw [wI_id (n := 5 + (j : Int)) (by omega), wI_id (by omega)]; omega
  have hll := lN_length s
  have hg : gTu (tn : Int) ((8 * (5 + j) : Nat) : Int) 0 (rowN (bytesL s)) = true := by
    unfold gTu
    rw [rowN_lN, inN_of (show 8 * (5 + j) < 8000 by omega), all_rw8 (lN_small s), rw8_length, hll, Int.toNat_natCast, Nat.ble_eq_true_of_le (show 8 * (5 + j) + 64 ≤ 8 * s.size by omega), Nat.ble_eq_true_of_le (show s.size ≤ 1000 by omega), show in32 (tn : Int) = true from inN_of (by omega)]
    rfl
  have hzt : zTu (tn : Int) ((8 * (5 + j) : Nat) : Int) (rowN (bytesL s)) = rw8 (goB (8 * (5 + j)) tn (s.size - 4) 32 0 ⟨false, lN s⟩).C := by
    unfold zTu
    rw [rowN_lN, nats_rw8, rw8_length, hll, Int.toNat_natCast, Int.toNat_natCast]
  have hb := (bits_out (a := 8 * (5 + j)) (t := tn) (n := s.size - 4) (l := lN s) (by omega) (lN_small s))
  have hz : (ofN (goB (8 * (5 + j)) tn (s.size - 4) 32 0 ⟨false, lN s⟩).C).size = s.size := by rw [← lN_length, lN_ofN hb.2.1, hb.1, hll]
  have hfin := turns_4 o1 (a := 8 * (5 + j)) (t := tn) (by omega) (by rintro rfl; cases ht0) htn (by omega)
  simp only [hl', hp, h1, e0, ej, ek, hg, hzt, str_rw8, Bool.and_self, Bool.not_true, cond_true, cond_false]
  generalize ofN (goB (8 * (5 + j)) tn (s.size - 4) 32 0 ⟨false, lN s⟩).C = x at *
  have hx : (rfE x == 0) = false := by rw [hfin]; rfl
  simp only [fT_bad hx, rf_none hx, Nat.ble_eq_true_of_le (show x.size ≤ 1000000 by omega), beq_self_eq_true, cond_true]
  rfl
end Go.Proofs.YtikekoabadhmiaaGreat

namespace Go.Proofs.YtikekoabadhmiaaGreat
open Go Go.Proofs Go.Sx Go.RowKit Go.Joins Go.ChangeShapes Go.WideShapes
set_option linter.unusedVariables false
theorem bitTellsLaw (z0 : ByteArray) (a1 : Int) (n0 : z0.size ≤ 281474976710656) (u1 : (Lit.int .i64 a1).wf = true) : ∃ m', runG ΓS23 L0 Tryz.prog Tryz.f3 (inArgs [.v (.string z0), .v (.int .i64 a1)] 0) (inMem [.v (.string z0), .v (.int .i64 a1)]) = some (.v (.bool true), m') :=
  ⟨_, bitTells z0 a1⟩
theorem bitNamesLaw (a0 : Int) (u0 : (Lit.int .i64 a0).wf = true) : ∃ m', runG ΓS23 ΛBm Tryz.prog Tryz.f4 (inArgs [.v (.int .i64 a0)] 0) (inMem [.v (.int .i64 a0)]) = some (.v (.bool true), m') :=
  ⟨_, bitNames a0⟩
theorem nameLoops (z : Base) (z1 : z.L.length = 0) (z2 : z.U.length = 0) : ∀ b ∈ loopsOf (Tryz.f4.body.getD .skip), LoopOk ΛBm Tryz.prog z b := oneLoop loopsBm (loopOkBm z z1 z2)
theorem bitTurnsLaw (l0 : List TD) (a1 a2 : Int) (w0 : WfT kR l0) (u1 : (Lit.int .i64 a1).wf = true) (u2 : (Lit.int .u32 a2).wf = true) : ∃ m', runG ΓS23 ΛBu Tryz.prog Tryz.f5 (inArgs [.ag (tkIn kR l0), .v (.int .i64 a1), .v (.int .u32 a2)] 0) (inMem [.ag (tkIn kR l0), .v (.int .i64 a1), .v (.int .u32 a2)]) = some (.v (.bool true), m') := by
  obtain ⟨L, r1, r2, r3, r4, r5, r6, r7, r8, rfl, ⟨hw, hl⟩, _⟩ := rul_is w0
  exact ⟨_, bitTurns r1 r2 r3 r4 r5 r6 r7 r8 a1 a2 u2 L hw hl⟩
theorem turnLoops (z : Base) (z1 : z.L.length = 0) (z2 : z.U.length = 1) : ∀ b ∈ loopsOf (Tryz.f5.body.getD .skip), LoopOk ΛBu Tryz.prog z b := oneLoop loopsBu (loopOkBu z z1 z2)
theorem bitPortsLaw (l0 : List TD) (a1 : Int) (z2 : ByteArray) (w0 : WfT kR l0) (u1 : (Lit.int .i64 a1).wf = true) (n2 : z2.size ≤ 281474976710656) : ∃ m', runG ΓS23 L0 Tryz.prog Tryz.f6 (inArgs [.ag (tkIn kR l0), .v (.int .i64 a1), .v (.string z2)] 0) (inMem [.ag (tkIn kR l0), .v (.int .i64 a1), .v (.string z2)]) = some (.v (.bool true), m') := by
  obtain ⟨L, r1, r2, r3, r4, r5, r6, r7, r8, rfl, ⟨hw, hl⟩, _⟩ := rul_is w0
  exact ⟨_, bitPorts r1 r2 r3 r4 r5 r6 r7 r8 a1 z2 L hw hl⟩
end Go.Proofs.YtikekoabadhmiaaGreat

