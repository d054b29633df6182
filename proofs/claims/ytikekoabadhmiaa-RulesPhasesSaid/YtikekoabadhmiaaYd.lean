/-
  Rules with more phases, and with one less: a law over values.
-/
import Derived.Test.YtikekoabadhmiaaYc
import Derived.DataShut
namespace Go.Proofs.Ytikekoabadhmiaa
open Go Go.Proofs Go.Sx
set_option linter.unusedVariables false
/-! norm -/
/-! cast -/
/-! rep [CK.sl 33 [CK0.num IntKind.i64, CK0.num IntKind.i64], .num .i64, .num .i64, .num .i64, .num .i64] => kPh -/
/-! rep (dropT (0 : Nat) (L.getD k.toNat [])) => (L.getD k.toNat []) -/
/-! rep (dropT (0 : Nat) (L2.getD k.toNat [])) => (L2.getD k.toNat []) -/
/-! rep (dropT (0 : Nat) (L.getD i.toNat [])) => (L.getD i.toNat []) -/
/-! rep (dropT (0 : Nat) (M.getD k.toNat [])) => (M.getD k.toNat []) -/
/-! repp (List.brecOn.go (motive := fun x => Nat → List Dat → List (List Dat)) M List.set._f).1 k.toNat ==> M.set k.toNat -/
/-! rep (((L.getD i.toNat []).headD (Dat.n (0 : Int))).toL) => (phA L i) -/
/-! rep ((L.getD i.toNat []).headD (Dat.n (0 : Int))).toL => (phA L i) -/
/-! rep (((L.getD i.toNat []).tail.headD (Dat.n (0 : Int))).toI) => (phG L i) -/
/-! rep ((L.getD i.toNat []).tail.headD (Dat.n (0 : Int))).toI => (phG L i) -/
/-! rep (((L.getD i.toNat []).tail.tail.headD (Dat.n (0 : Int))).toI) => (phV L i) -/
/-! rep ((L.getD i.toNat []).tail.tail.headD (Dat.n (0 : Int))).toI => (phV L i) -/
/-! rep (((L.getD i.toNat []).tail.tail.tail.headD (Dat.n (0 : Int))).toI) => (phM L i) -/
/-! rep ((L.getD i.toNat []).tail.tail.tail.headD (Dat.n (0 : Int))).toI => (phM L i) -/
/-! rep (((L.getD i.toNat []).tail.tail.tail.tail.headD (Dat.n (0 : Int))).toI) => (phU L i) -/
/-! rep ((L.getD i.toNat []).tail.tail.tail.tail.headD (Dat.n (0 : Int))).toI => (phU L i) -/
/-! rep (((L2.getD i.toNat []).headD (Dat.n (0 : Int))).toL) => (phA L2 i) -/
/-! rep ((L2.getD i.toNat []).headD (Dat.n (0 : Int))).toL => (phA L2 i) -/
/-! rep (((L2.getD i.toNat []).tail.headD (Dat.n (0 : Int))).toI) => (phG L2 i) -/
/-! rep ((L2.getD i.toNat []).tail.headD (Dat.n (0 : Int))).toI => (phG L2 i) -/
/-! rep (((L2.getD i.toNat []).tail.tail.headD (Dat.n (0 : Int))).toI) => (phV L2 i) -/
/-! rep ((L2.getD i.toNat []).tail.tail.headD (Dat.n (0 : Int))).toI => (phV L2 i) -/
/-! rep (((L2.getD i.toNat []).tail.tail.tail.headD (Dat.n (0 : Int))).toI) => (phM L2 i) -/
/-! rep ((L2.getD i.toNat []).tail.tail.tail.headD (Dat.n (0 : Int))).toI => (phM L2 i) -/
/-! rep (((L2.getD i.toNat []).tail.tail.tail.tail.headD (Dat.n (0 : Int))).toI) => (phU L2 i) -/
/-! rep ((L2.getD i.toNat []).tail.tail.tail.tail.headD (Dat.n (0 : Int))).toI => (phU L2 i) -/
/-! rep (((M.getD i.toNat []).headD (Dat.n (0 : Int))).toL) => (phA M i) -/
/-! rep ((M.getD i.toNat []).headD (Dat.n (0 : Int))).toL => (phA M i) -/
/-! rep (((M.getD i.toNat []).tail.headD (Dat.n (0 : Int))).toI) => (phG M i) -/
/-! rep ((M.getD i.toNat []).tail.headD (Dat.n (0 : Int))).toI => (phG M i) -/
/-! rep (((M.getD i.toNat []).tail.tail.headD (Dat.n (0 : Int))).toI) => (phV M i) -/
/-! rep ((M.getD i.toNat []).tail.tail.headD (Dat.n (0 : Int))).toI => (phV M i) -/
/-! rep (((M.getD i.toNat []).tail.tail.tail.headD (Dat.n (0 : Int))).toI) => (phM M i) -/
/-! rep ((M.getD i.toNat []).tail.tail.tail.headD (Dat.n (0 : Int))).toI => (phM M i) -/
/-! rep (((M.getD i.toNat []).tail.tail.tail.tail.headD (Dat.n (0 : Int))).toI) => (phU M i) -/
/-! rep ((M.getD i.toNat []).tail.tail.tail.tail.headD (Dat.n (0 : Int))).toI => (phU M i) -/
/-! rep (((L.getD k.toNat []).headD (Dat.n (0 : Int))).toL) => (phA L k) -/
/-! rep ((L.getD k.toNat []).headD (Dat.n (0 : Int))).toL => (phA L k) -/
/-! rep (((L.getD k.toNat []).tail.headD (Dat.n (0 : Int))).toI) => (phG L k) -/
/-! rep ((L.getD k.toNat []).tail.headD (Dat.n (0 : Int))).toI => (phG L k) -/
/-! rep (((L.getD k.toNat []).tail.tail.headD (Dat.n (0 : Int))).toI) => (phV L k) -/
/-! rep ((L.getD k.toNat []).tail.tail.headD (Dat.n (0 : Int))).toI => (phV L k) -/
/-! rep (((L.getD k.toNat []).tail.tail.tail.headD (Dat.n (0 : Int))).toI) => (phM L k) -/
/-! rep ((L.getD k.toNat []).tail.tail.tail.headD (Dat.n (0 : Int))).toI => (phM L k) -/
/-! rep (((L.getD k.toNat []).tail.tail.tail.tail.headD (Dat.n (0 : Int))).toI) => (phU L k) -/
/-! rep ((L.getD k.toNat []).tail.tail.tail.tail.headD (Dat.n (0 : Int))).toI => (phU L k) -/
/-! rep (((L2.getD k.toNat []).headD (Dat.n (0 : Int))).toL) => (phA L2 k) -/
/-! rep ((L2.getD k.toNat []).headD (Dat.n (0 : Int))).toL => (phA L2 k) -/
/-! rep (((L2.getD k.toNat []).tail.headD (Dat.n (0 : Int))).toI) => (phG L2 k) -/
/-! rep ((L2.getD k.toNat []).tail.headD (Dat.n (0 : Int))).toI => (phG L2 k) -/
/-! rep (((L2.getD k.toNat []).tail.tail.headD (Dat.n (0 : Int))).toI) => (phV L2 k) -/
/-! rep ((L2.getD k.toNat []).tail.tail.headD (Dat.n (0 : Int))).toI => (phV L2 k) -/
/-! rep (((L2.getD k.toNat []).tail.tail.tail.headD (Dat.n (0 : Int))).toI) => (phM L2 k) -/
/-! rep ((L2.getD k.toNat []).tail.tail.tail.headD (Dat.n (0 : Int))).toI => (phM L2 k) -/
/-! rep (((L2.getD k.toNat []).tail.tail.tail.tail.headD (Dat.n (0 : Int))).toI) => (phU L2 k) -/
/-! rep ((L2.getD k.toNat []).tail.tail.tail.tail.headD (Dat.n (0 : Int))).toI => (phU L2 k) -/
/-! rep (((M.getD k.toNat []).headD (Dat.n (0 : Int))).toL) => (phA M k) -/
/-! rep ((M.getD k.toNat []).headD (Dat.n (0 : Int))).toL => (phA M k) -/
/-! rep (((M.getD k.toNat []).tail.headD (Dat.n (0 : Int))).toI) => (phG M k) -/
/-! rep ((M.getD k.toNat []).tail.headD (Dat.n (0 : Int))).toI => (phG M k) -/
/-! rep (((M.getD k.toNat []).tail.tail.headD (Dat.n (0 : Int))).toI) => (phV M k) -/
/-! rep ((M.getD k.toNat []).tail.tail.headD (Dat.n (0 : Int))).toI => (phV M k) -/
/-! rep (((M.getD k.toNat []).tail.tail.tail.headD (Dat.n (0 : Int))).toI) => (phM M k) -/
/-! rep ((M.getD k.toNat []).tail.tail.tail.headD (Dat.n (0 : Int))).toI => (phM M k) -/
/-! rep (((M.getD k.toNat []).tail.tail.tail.tail.headD (Dat.n (0 : Int))).toI) => (phU M k) -/
/-! rep ((M.getD k.toNat []).tail.tail.tail.tail.headD (Dat.n (0 : Int))).toI => (phU M k) -/

end Go.Proofs.Ytikekoabadhmiaa

namespace Go.Proofs.Ytikekoabadhmiaa
open Go Go.Proofs Go.Sx
set_option linter.unusedVariables false
theorem fr_iff {lo hi n : Int} : frB lo hi n = true ↔ lo ≤ n ∧ n ≤ hi := by
  unfold frB
  cases h : decide (lo ≤ n)
  · have := of_decide_eq_false h
    exact ⟨fun h => (by cases h), fun h => absurd h.1 this⟩
  · have := of_decide_eq_true h
    exact ⟨fun h => ⟨this, of_decide_eq_true h⟩, fun h => decide_eq_true h.2⟩
theorem fr_no {lo hi n : Int} (h : ¬ (lo ≤ n ∧ n ≤ hi)) : frB lo hi n = false := by
  cases hf : frB lo hi n
  · rfl
  · exact absurd (fr_iff.1 hf) h
structure RulesOk (L : List (List Dat)) (r1 r2 r3 r4 r5 r6 r7 r8 : Int) : Prop where
  few : frB 1 4 (L.length : Int) = true
  ph : anyN (bphB L) L.length 0 = false
  n : frB 1 50 r1 = true
  d : frB 1 50 r2 = true
  g : frB 1 50 r3 = true
  e : frB 0 1024 r4 = true
  s : frB 1 65536 r5 = true
  a : frB 1 50 r6 = true
  l : frB 1 1073741824 r7 = true
  f : frB 0 (L.length : Int) r8 = true
theorem wr_zero {L : List (List Dat)} {r1 r2 r3 r4 r5 r6 r7 r8 : Int} (h : wrB L r1 r2 r3 r4 r5 r6 r7 r8 = 0) : RulesOk L r1 r2 r3 r4 r5 r6 r7 r8 := by
  unfold wrB at h
  cases h1 : frB 1 4 (L.length : Int)
  · rw [h1] at h; cases h
  cases h2 : anyN (bphB L) L.length 0
  case true => rw [h1, h2] at h; cases h
  cases h3 : frB 1 50 r1
  · rw [h1, h2, h3] at h; cases h
  cases h4 : frB 1 50 r2
  · rw [h1, h2, h3, h4] at h; cases h
  cases h5 : frB 1 50 r3
  · rw [h1, h2, h3, h4, h5] at h; cases h
  cases h6 : frB 0 1024 r4
  · rw [h1, h2, h3, h4, h5, h6] at h; cases h
  cases h7 : frB 1 65536 r5
  · rw [h1, h2, h3, h4, h5, h6, h7] at h; cases h
  cases h8 : frB 1 50 r6
  · rw [h1, h2, h3, h4, h5, h6, h7, h8] at h; cases h
  cases h9 : frB 1 1073741824 r7
  · rw [h1, h2, h3, h4, h5, h6, h7, h8, h9] at h; cases h
  cases h10 : frB 0 (L.length : Int) r8
  · rw [h1, h2, h3, h4, h5, h6, h7, h8, h9, h10] at h; cases h
  exact ⟨h1, h2, h3, h4, h5, h6, h7, h8, h9, h10⟩
theorem RulesOk.zero {L : List (List Dat)} {r1 r2 r3 r4 r5 r6 r7 r8 : Int} (h : RulesOk L r1 r2 r3 r4 r5 r6 r7 r8) : wrB L r1 r2 r3 r4 r5 r6 r7 r8 = 0 := by
  unfold wrB
  rw [h.few, h.ph, h.n, h.d, h.g, h.e, h.s, h.a, h.l, h.f]
  rfl
theorem RulesOk.ne {L : List (List Dat)} {r1 r2 r3 r4 r5 r6 r7 r8 : Int} (h : RulesOk L r1 r2 r3 r4 r5 r6 r7 r8) (hp : phOk L = true) : phNe L = true := by
  unfold phNe
  refine List.all_eq_true.2 fun l hl => ?_
  obtain ⟨i, hi⟩ := List.getElem?_of_mem hl
  have hlt := (List.getElem?_eq_some_iff.1 hi).1
  have hm := anyN_none.1 h.ph (i : Int) (by omega) (by omega)
  unfold bphB rpB at hm
  rw [Bool.not_eq_false', Bool.and_eq_true, Bool.and_eq_true, Bool.and_eq_true, Bool.and_eq_true] at hm
  have ha := (isArea hm.2.2.2.2).lo
  have e : phA L (i : Int) = (l.headD (.n 0)).toL := by
    unfold phA
    rw [show (i : Int).toNat = i from rfl, List.getD, hi]
    rfl
  rw [e] at ha
  rw [Nat.blt_eq]
  omega
/-! the laws' forms -/
end Go.Proofs.Ytikekoabadhmiaa

namespace Go.Proofs.Ytikekoabadhmiaa
open Go Go.Proofs Go.Sx
set_option linter.unusedVariables false
/-! norm -/
/-! cast -/
/-! rep [CK.sl 33 [CK0.num IntKind.i64, CK0.num IntKind.i64], .num .i64, .num .i64, .num .i64, .num .i64] => kPh -/
/-! rep (dropT (0 : Nat) (L.getD k.toNat [])) => (L.getD k.toNat []) -/
/-! rep (dropT (0 : Nat) (L2.getD k.toNat [])) => (L2.getD k.toNat []) -/
/-! rep (dropT (0 : Nat) (L.getD i.toNat [])) => (L.getD i.toNat []) -/
/-! rep (dropT (0 : Nat) (M.getD k.toNat [])) => (M.getD k.toNat []) -/
/-! repp (List.brecOn.go (motive := fun x => Nat → List Dat → List (List Dat)) M List.set._f).1 k.toNat ==> M.set k.toNat -/
/-! rep (((L.getD i.toNat []).headD (Dat.n (0 : Int))).toL) => (phA L i) -/
/-! rep ((L.getD i.toNat []).headD (Dat.n (0 : Int))).toL => (phA L i) -/
/-! rep (((L.getD i.toNat []).tail.headD (Dat.n (0 : Int))).toI) => (phG L i) -/
/-! rep ((L.getD i.toNat []).tail.headD (Dat.n (0 : Int))).toI => (phG L i) -/
/-! rep (((L.getD i.toNat []).tail.tail.headD (Dat.n (0 : Int))).toI) => (phV L i) -/
/-! rep ((L.getD i.toNat []).tail.tail.headD (Dat.n (0 : Int))).toI => (phV L i) -/
/-! rep (((L.getD i.toNat []).tail.tail.tail.headD (Dat.n (0 : Int))).toI) => (phM L i) -/
/-! rep ((L.getD i.toNat []).tail.tail.tail.headD (Dat.n (0 : Int))).toI => (phM L i) -/
/-! rep (((L.getD i.toNat []).tail.tail.tail.tail.headD (Dat.n (0 : Int))).toI) => (phU L i) -/
/-! rep ((L.getD i.toNat []).tail.tail.tail.tail.headD (Dat.n (0 : Int))).toI => (phU L i) -/
/-! rep (((L2.getD i.toNat []).headD (Dat.n (0 : Int))).toL) => (phA L2 i) -/
/-! rep ((L2.getD i.toNat []).headD (Dat.n (0 : Int))).toL => (phA L2 i) -/
/-! rep (((L2.getD i.toNat []).tail.headD (Dat.n (0 : Int))).toI) => (phG L2 i) -/
/-! rep ((L2.getD i.toNat []).tail.headD (Dat.n (0 : Int))).toI => (phG L2 i) -/
/-! rep (((L2.getD i.toNat []).tail.tail.headD (Dat.n (0 : Int))).toI) => (phV L2 i) -/
/-! rep ((L2.getD i.toNat []).tail.tail.headD (Dat.n (0 : Int))).toI => (phV L2 i) -/
/-! rep (((L2.getD i.toNat []).tail.tail.tail.headD (Dat.n (0 : Int))).toI) => (phM L2 i) -/
/-! rep ((L2.getD i.toNat []).tail.tail.tail.headD (Dat.n (0 : Int))).toI => (phM L2 i) -/
/-! rep (((L2.getD i.toNat []).tail.tail.tail.tail.headD (Dat.n (0 : Int))).toI) => (phU L2 i) -/
/-! rep ((L2.getD i.toNat []).tail.tail.tail.tail.headD (Dat.n (0 : Int))).toI => (phU L2 i) -/
/-! rep (((M.getD i.toNat []).headD (Dat.n (0 : Int))).toL) => (phA M i) -/
/-! rep ((M.getD i.toNat []).headD (Dat.n (0 : Int))).toL => (phA M i) -/
/-! rep (((M.getD i.toNat []).tail.headD (Dat.n (0 : Int))).toI) => (phG M i) -/
/-! rep ((M.getD i.toNat []).tail.headD (Dat.n (0 : Int))).toI => (phG M i) -/
/-! rep (((M.getD i.toNat []).tail.tail.headD (Dat.n (0 : Int))).toI) => (phV M i) -/
/-! rep ((M.getD i.toNat []).tail.tail.headD (Dat.n (0 : Int))).toI => (phV M i) -/
/-! rep (((M.getD i.toNat []).tail.tail.tail.headD (Dat.n (0 : Int))).toI) => (phM M i) -/
/-! rep ((M.getD i.toNat []).tail.tail.tail.headD (Dat.n (0 : Int))).toI => (phM M i) -/
/-! rep (((M.getD i.toNat []).tail.tail.tail.tail.headD (Dat.n (0 : Int))).toI) => (phU M i) -/
/-! rep ((M.getD i.toNat []).tail.tail.tail.tail.headD (Dat.n (0 : Int))).toI => (phU M i) -/
/-! rep (((L.getD k.toNat []).headD (Dat.n (0 : Int))).toL) => (phA L k) -/
/-! rep ((L.getD k.toNat []).headD (Dat.n (0 : Int))).toL => (phA L k) -/
/-! rep (((L.getD k.toNat []).tail.headD (Dat.n (0 : Int))).toI) => (phG L k) -/
/-! rep ((L.getD k.toNat []).tail.headD (Dat.n (0 : Int))).toI => (phG L k) -/
/-! rep (((L.getD k.toNat []).tail.tail.headD (Dat.n (0 : Int))).toI) => (phV L k) -/
/-! rep ((L.getD k.toNat []).tail.tail.headD (Dat.n (0 : Int))).toI => (phV L k) -/
/-! rep (((L.getD k.toNat []).tail.tail.tail.headD (Dat.n (0 : Int))).toI) => (phM L k) -/
/-! rep ((L.getD k.toNat []).tail.tail.tail.headD (Dat.n (0 : Int))).toI => (phM L k) -/
/-! rep (((L.getD k.toNat []).tail.tail.tail.tail.headD (Dat.n (0 : Int))).toI) => (phU L k) -/
/-! rep ((L.getD k.toNat []).tail.tail.tail.tail.headD (Dat.n (0 : Int))).toI => (phU L k) -/
/-! rep (((L2.getD k.toNat []).headD (Dat.n (0 : Int))).toL) => (phA L2 k) -/
/-! rep ((L2.getD k.toNat []).headD (Dat.n (0 : Int))).toL => (phA L2 k) -/
/-! rep (((L2.getD k.toNat []).tail.headD (Dat.n (0 : Int))).toI) => (phG L2 k) -/
/-! rep ((L2.getD k.toNat []).tail.headD (Dat.n (0 : Int))).toI => (phG L2 k) -/
/-! rep (((L2.getD k.toNat []).tail.tail.headD (Dat.n (0 : Int))).toI) => (phV L2 k) -/
/-! rep ((L2.getD k.toNat []).tail.tail.headD (Dat.n (0 : Int))).toI => (phV L2 k) -/
/-! rep (((L2.getD k.toNat []).tail.tail.tail.headD (Dat.n (0 : Int))).toI) => (phM L2 k) -/
/-! rep ((L2.getD k.toNat []).tail.tail.tail.headD (Dat.n (0 : Int))).toI => (phM L2 k) -/
/-! rep (((L2.getD k.toNat []).tail.tail.tail.tail.headD (Dat.n (0 : Int))).toI) => (phU L2 k) -/
/-! rep ((L2.getD k.toNat []).tail.tail.tail.tail.headD (Dat.n (0 : Int))).toI => (phU L2 k) -/
/-! rep (((M.getD k.toNat []).headD (Dat.n (0 : Int))).toL) => (phA M k) -/
/-! rep ((M.getD k.toNat []).headD (Dat.n (0 : Int))).toL => (phA M k) -/
/-! rep (((M.getD k.toNat []).tail.headD (Dat.n (0 : Int))).toI) => (phG M k) -/
/-! rep ((M.getD k.toNat []).tail.headD (Dat.n (0 : Int))).toI => (phG M k) -/
/-! rep (((M.getD k.toNat []).tail.tail.headD (Dat.n (0 : Int))).toI) => (phV M k) -/
/-! rep ((M.getD k.toNat []).tail.tail.headD (Dat.n (0 : Int))).toI => (phV M k) -/
/-! rep (((M.getD k.toNat []).tail.tail.tail.headD (Dat.n (0 : Int))).toI) => (phM M k) -/
/-! rep ((M.getD k.toNat []).tail.tail.tail.headD (Dat.n (0 : Int))).toI => (phM M k) -/
/-! rep (((M.getD k.toNat []).tail.tail.tail.tail.headD (Dat.n (0 : Int))).toI) => (phU M k) -/
/-! rep ((M.getD k.toNat []).tail.tail.tail.tail.headD (Dat.n (0 : Int))).toI => (phU M k) -/
/-! rep (dropT (0 : Nat) (L.getD p.toNat [])) => (L.getD p.toNat []) -/
/-! rep ((L.getD p.toNat []).headD (Dat.n (0 : Int))).toL => (phA L p) -/
/-! rep ((L.getD p.toNat []).tail.headD (Dat.n (0 : Int))).toI => (phG L p) -/
/-! rep ((L.getD p.toNat []).tail.tail.headD (Dat.n (0 : Int))).toI => (phV L p) -/
/-! rep ((L.getD p.toNat []).tail.tail.tail.headD (Dat.n (0 : Int))).toI => (phM L p) -/
/-! rep ((L.getD p.toNat []).tail.tail.tail.tail.headD (Dat.n (0 : Int))).toI => (phU L p) -/
/-! rex \(List\.replicate \(1 : Nat\) \[Dat\.l \(Value\.slice none \(0 : Nat\) \(0 : Nat\)\) \[\], Dat\.n \(0 : Int\), Dat\.n \(0 : Int\), Dat\.n \(0 : Int\), Dat\.n \(0 : Int\)\]\)\.set \(0 : Nat\) \[Dat\.l \(Value\.slice none \(0 : Nat\) \(0 : Nat\)\) \(\(dropT \(0 : Nat\) \(M\.getD \(0 : Nat\) \[\]\)\)\.headD \(Dat\.n \(0 : Int\)\)\)\.toL(?:, Dat\.n \(\(dropT \(0 : Nat\) \(M\.getD \(0 : Nat\) \[\]\)\)[.tail]*\.headD \(Dat\.n \(0 : Int\)\)\)\.toI){4}\] ==> one0 M -/
/-! rex \(List\.brecOn\.go \(motive := fun x => List \(List Dat\) → List \(List Dat\)\) M List\.append\._f\)\.1 ==> M ++ -/
def one0 (M : List (List Dat)) : List (List Dat) := (List.replicate 1 [Dat.l (Value.slice none 0 0) [], Dat.n 0, Dat.n 0, Dat.n 0, Dat.n 0]).set 0 [Dat.l (Value.slice none 0 0) ((dropT 0 (M.getD 0 [])).headD (Dat.n 0)).toL, Dat.n ((dropT 0 (M.getD 0 [])).tail.headD (Dat.n 0)).toI, Dat.n ((dropT 0 (M.getD 0 [])).tail.tail.headD (Dat.n 0)).toI, Dat.n ((dropT 0 (M.getD 0 [])).tail.tail.tail.headD (Dat.n 0)).toI, Dat.n ((dropT 0 (M.getD 0 [])).tail.tail.tail.tail.headD (Dat.n 0)).toI]
noncomputable def Γp0 : Orc := { ΓA13 with av := true, bs := true }
theorem Okp0 : Γp0.Ok Try.prog := ⟨OkA13.call, OkA13.rd, OkA13.eqv⟩

set_option maxRecDepth 20000 in
theorem runPrp (r1 : Int) (r2 : Int) (r3 : Int) (r4 : Int) (r5 : Int) (r6 : Int) (r7 : Int) (r8 : Int) (p : Int) (L : List (List Dat)) (own : Bool) (mark : Bool) : runG Γp0 L0 Try.prog Try.f17 [.ag [.row 0, .v (I r1), .v (I r2), .v (I r3), .v (I r4), .v (I r5), .v (I r6), .v (I r7), .v (I r8)], .v (I p)] ⟨[], [], [rH L own mark]⟩ = 
    (bif decide (p < (0 : Int)) then some (.v (.tuple #[(.agg #[(Value.slice none (0 : Nat) (0 : Nat)), (I 0), (I 0), (I 0), (I 0)]), (Bo false)]), ⟨[], [], [.live ⟨31, kPh, L, own, mark⟩]⟩) else (bif decide (p ≥ (L.length : Int)) then some (.v (.tuple #[(.agg #[(Value.slice none (0 : Nat) (0 : Nat)), (I 0), (I 0), (I 0), (I 0)]), (Bo false)]), ⟨[], [], [.live ⟨31, kPh, L, own, mark⟩]⟩) else (bif decide ((0 : Int) ≤ p) && decide (p < (L.length : Int)) then (bif Nat.blt (0 : Nat) (phA L p).length && (phA L p).length.ble (1000000) then some (.tup [.ag [.row 1, .v (I ((phG L p))), .v (I ((phV L p))), .v (I ((phM L p))), .v (I ((phU L p)))], .one (.v (Bo true))], ⟨[], [], [.live ⟨31, kPh, L, own, mark⟩, .live ⟨33, [.num .i64, .num .i64], (phA L p), true, false⟩]⟩) else none) else none))) := by kernel_rfl
def gPrp (xs : List SV) (m : Mem) : Option (Bool × SV × Mem) :=
  match xs, m with
  | [.ag [.row 0, .v (.int .i64 r1), .v (.int .i64 r2), .v (.int .i64 r3), .v (.int .i64 r4), .v (.int .i64 r5), .v (.int .i64 r6), .v (.int .i64 r7), .v (.int .i64 r8)], .v (.int .i64 p)], ⟨[], [], [.live ⟨31, [.sl 33 [.num .i64, .num .i64], .num .i64, .num .i64, .num .i64, .num .i64], L, own, mark⟩]⟩ => some (phOk L && (phNe L && (decide (0 ≤ p) && decide (p < (L.length : Int)))), .tup [.ag [.row 1, .v (I (phG L p)), .v (I (phV L p)), .v (I (phM L p)), .v (I (phU L p))], .one (.v (Bo true))], ⟨[], [], [rH L own mark, rP (phA L p) true false]⟩)
  | _, _ => none
theorem gPrp_ok : ∀ xs m r m', gPrp xs m = some (true, r, m') → CallOk Try.prog 17 xs m r m' := by
  intro xs m r m' h
  unfold gPrp at h
  split at h
  · rename_i r1 r2 r3 r4 r5 r6 r7 r8 p L own mark
    obtain ⟨h1, rfl, rfl⟩ := some_t2 h
    refine runOk (Λ := L0) Okp0 Try.func17 rfl (fun z _ _ => l0Ok' _ z) ?_
    refine (runPrp r1 r2 r3 r4 r5 r6 r7 r8 p L own mark).trans ?_
    simp only [Bool.and_eq_true, decide_eq_true_eq] at h1
    obtain ⟨h1, h2, h3, h4⟩ := h1
    rw [decide_eq_false (show ¬ p < 0 by omega), decide_eq_false (show ¬ p ≥ (L.length : Int) by omega), decide_eq_true h3, decide_eq_true h4, (phOk_get h1 h3 h4).2, phNe_get h2 h3 h4]
    rfl
  · cases h
noncomputable def Γp1 : Orc := addCl 17 gPrp Γp0
theorem Okp1 : Γp1.Ok Try.prog := addCl_ok Okp0 gPrp_ok
noncomputable def bdPa : Code := loopAt (Try.f4.body.getD .skip) 0
def kPa : List Bool := maskOf 113 [1,2,27,28]
def xPa (e : Ex) : List Bool := match e with
  | .exit _ => maskOf 113 [1,2]
  | .ret => maskOf 113 [4]
  | .normal => maskOf 113 [1,2,27,28]
def KPa (e : Ex) (st : St) : Option (Ex × St) := some (e, cutC 0 1 (xPa e) st)
set_option maxRecDepth 20000 in
theorem stepPa (r1 : Int) (r2 : Int) (r3 : Int) (r4 : Int) (r5 : Int) (r6 : Int) (r7 : Int) (r8 : Int) (a : Int) (N : Int) (k : Int) (L : List (List Dat)) (own : Bool) (mark : Bool) (n : Nat) : evLoop Γp1 Try.prog L0 (cutC 0 1 kPa) bdPa (n + 1) (mk kPa [.v (I a), .ptr 0 0, .v (I N), .v (I k)] ⟨[[.row 0, .v (I r1), .v (I r2), .v (I r3), .v (I r4), .v (I r5), .v (I r6), .v (I r7), .v (I r8)]], [true], [rH L own mark]⟩) KPa =
    (bif decide (k < N) then (bif phOk L && (phNe L && (decide ((0 : Int) ≤ k) && decide (k < (L.length : Int)))) then (bif (phA L k).length.ble (1000000) then (bif !rpB (phA L k) (phG L k) (phV L k) (phM L k) (phU L k) then some (.ret, mk (xPa .ret) [.v (Bo false)] ⟨[], [], [.live ⟨31, kPh, L, own, mark⟩]⟩) else evLoop Γp1 Try.prog L0 (cutC 0 1 kPa) bdPa n (mk kPa [.v (I a), .ptr 0 0, .v (I N), .v (I (wI (k + (1 : Int))))] ⟨[[.row 0, .v (I r1), .v (I r2), .v (I r3), .v (I r4), .v (I r5), .v (I r6), .v (I r7), .v (I r8)]], [true], [.live ⟨31, kPh, L, own, mark⟩]⟩) KPa) else none) else none) else some ((.exit 0), mk (xPa (.exit 0)) [.v (I a), .ptr 0 0] ⟨[[.row 0, .v (I r1), .v (I r2), .v (I r3), .v (I r4), .v (I r5), .v (I r6), .v (I r7), .v (I r8)]], [true], [.live ⟨31, kPh, L, own, mark⟩]⟩)) := by kernel_rfl
noncomputable def EPa (n : Nat) (r1 : Int) (r2 : Int) (r3 : Int) (r4 : Int) (r5 : Int) (r6 : Int) (r7 : Int) (r8 : Int) (a : Int) (N : Int) (k : Int) (L : List (List Dat)) (own : Bool) (mark : Bool) : Option (Ex × St) :=
  evLoop Γp1 Try.prog L0 (cutC 0 1 kPa) bdPa n (mk kPa [.v (I a), .ptr 0 0, .v (I N), .v (I k)] ⟨[[.row 0, .v (I r1), .v (I r2), .v (I r3), .v (I r4), .v (I r5), .v (I r6), .v (I r7), .v (I r8)]], [true], [rH L own mark]⟩) KPa
noncomputable def bdPb : Code := loopAt (Try.f4.body.getD .skip) 1
def kPb : List Bool := maskOf 113 [1,2,8]
def xPb (e : Ex) : List Bool := match e with
  | .exit _ => maskOf 113 [1,2,8]
  | .ret => maskOf 113 [4]
  | .normal => maskOf 113 [1,2,8]
def KPb (e : Ex) (st : St) : Option (Ex × St) := some (e, cutC 0 1 (xPb e) st)
set_option maxRecDepth 20000 in
theorem stepPb (r1 : Int) (r2 : Int) (r3 : Int) (r4 : Int) (r5 : Int) (r6 : Int) (r7 : Int) (r8 : Int) (q1 : Int) (q2 : Int) (q3 : Int) (q4 : Int) (q5 : Int) (q6 : Int) (q7 : Int) (q8 : Int) (a : Int) (L : List (List Dat)) (own : Bool) (mark : Bool) (M : List (List Dat)) (n : Nat) : evLoop Γp1 Try.prog L0 (cutC 0 1 kPb) bdPb (n + 1) (mk kPb [.v (I a), .ptr 0 0, .ptr 1 0] ⟨[[.row 0, .v (I r1), .v (I r2), .v (I r3), .v (I r4), .v (I r5), .v (I r6), .v (I r7), .v (I r8)], [.row 1, .v (I q1), .v (I q2), .v (I q3), .v (I q4), .v (I q5), .v (I q6), .v (I q7), .v (I q8)]], [true, true], [rH L own mark, rH M true false]⟩) KPb =
    (bif decide ((M.length : Int) < (5 : Int)) then (bif (M.length : Int) == (0 : Int) then some (.ret, mk (xPb .ret) [.v (Bo false)] ⟨[], [], [.live ⟨31, kPh, L, own, mark⟩]⟩) else (bif true && decide ((0 : Int) < (M.length : Int)) then (bif decide ((M.length + (one0 M).length) * (56 : Nat) ≤ (140737488355328 : Nat) ∧ M.length + (one0 M).length ≤ (9223372036854775807 : Nat)) then evLoop Γp1 Try.prog L0 (cutC 0 1 kPb) bdPb n (mk kPb [.v (I a), .ptr 0 0, .ptr 1 0] ⟨[[.row 0, .v (I r1), .v (I r2), .v (I r3), .v (I r4), .v (I r5), .v (I r6), .v (I r7), .v (I r8)], [.row 1, .v (I q1), .v (I q2), .v (I q3), .v (I q4), .v (I q5), .v (I q6), .v (I q7), .v (I q8)]], [true, true], [.live ⟨31, kPh, L, own, mark⟩, .live ⟨31, kPh, M ++ (one0 M), true, false⟩]⟩) KPb else none) else none)) else some ((.exit 2), mk (xPb (.exit 2)) [.v (I a), .ptr 0 0, .ptr 1 0] ⟨[[.row 0, .v (I r1), .v (I r2), .v (I r3), .v (I r4), .v (I r5), .v (I r6), .v (I r7), .v (I r8)], [.row 1, .v (I q1), .v (I q2), .v (I q3), .v (I q4), .v (I q5), .v (I q6), .v (I q7), .v (I q8)]], [true, true], [.live ⟨31, kPh, L, own, mark⟩, .live ⟨31, kPh, M, true, false⟩]⟩)) := by kernel_rfl
noncomputable def EPb (n : Nat) (r1 : Int) (r2 : Int) (r3 : Int) (r4 : Int) (r5 : Int) (r6 : Int) (r7 : Int) (r8 : Int) (q1 : Int) (q2 : Int) (q3 : Int) (q4 : Int) (q5 : Int) (q6 : Int) (q7 : Int) (q8 : Int) (a : Int) (L : List (List Dat)) (own : Bool) (mark : Bool) (M : List (List Dat)) : Option (Ex × St) :=
  evLoop Γp1 Try.prog L0 (cutC 0 1 kPb) bdPb n (mk kPb [.v (I a), .ptr 0 0, .ptr 1 0] ⟨[[.row 0, .v (I r1), .v (I r2), .v (I r3), .v (I r4), .v (I r5), .v (I r6), .v (I r7), .v (I r8)], [.row 1, .v (I q1), .v (I q2), .v (I q3), .v (I q4), .v (I q5), .v (I q6), .v (I q7), .v (I q8)]], [true, true], [rH L own mark, rH M true false]⟩) KPb
def lfPa (r1 r2 r3 r4 r5 r6 r7 r8 a : Int) (L : List (List Dat)) (own mark : Bool) : LT := .br (anyN (bphB L) L.length 0) (.leaf .ret (mk (xPa .ret) [.v (Bo false)] ⟨[], [], [rH L own mark]⟩)) (.leaf (.exit 0) (mk (xPa (.exit 0)) [.v (I a), .ptr 0 0] ⟨[[.row 0, .v (I r1), .v (I r2), .v (I r3), .v (I r4), .v (I r5), .v (I r6), .v (I r7), .v (I r8)]], [true], [rH L own mark]⟩))
theorem loopPa (r1 r2 r3 r4 r5 r6 r7 r8 a : Int) (L : List (List Dat)) (own mark : Bool) (hl : phOk L = true) (hn : phNe L = true) : EPa (L.length + 1) r1 r2 r3 r4 r5 r6 r7 r8 a (L.length : Int) 0 L own mark = some (lfPa r1 r2 r3 r4 r5 r6 r7 r8 a L own mark).pick := by
  have h := findLoop (bphB L) (L.length : Int) (fun n k => EPa n r1 r2 r3 r4 r5 r6 r7 r8 a (L.length : Int) k L own mark) (some (.exit 0, mk (xPa (.exit 0)) [.v (I a), .ptr 0 0] ⟨[[.row 0, .v (I r1), .v (I r2), .v (I r3), .v (I r4), .v (I r5), .v (I r6), .v (I r7), .v (I r8)]], [true], [rH L own mark]⟩)) (some (.ret, mk (xPa .ret) [.v (Bo false)] ⟨[], [], [rH L own mark]⟩)) (fun n k hk => ?_) (fun n k hk => ?_) L.length 0 (by omega) (by omega)
  · refine h.trans ?_
    unfold lfPa
    cases anyN (bphB L) L.length 0 <;> rfl
  · refine (stepPa r1 r2 r3 r4 r5 r6 r7 r8 a (L.length : Int) k L own mark n).trans ?_
    rw [decide_eq_false hk]
    rfl
  · refine (stepPa r1 r2 r3 r4 r5 r6 r7 r8 a (L.length : Int) k L own mark n).trans ?_
    rw [hl, hn, decide_eq_true hk.2, decide_eq_true hk.1, (phOk_get hl hk.1 hk.2).2, wI_id (n := k + 1) (by have := phOk_len hl; omega)]
    show (bif bphB L k then _ else _) = _
    cases bphB L k <;> rfl
def GPa (vals : List SV) (m : Mem) : Option (Bool × LT) :=
  match vals, m with
  | [.v (.int .i64 a), .ptr 0 0, .v (.int .i64 N), .v (.int .i64 k)], ⟨[[.row 0, .v (.int .i64 r1), .v (.int .i64 r2), .v (.int .i64 r3), .v (.int .i64 r4), .v (.int .i64 r5), .v (.int .i64 r6), .v (.int .i64 r7), .v (.int .i64 r8)]], [true], [.live ⟨31, [.sl 33 [.num .i64, .num .i64], .num .i64, .num .i64, .num .i64, .num .i64], L, own, mark⟩]⟩ => some (k == 0 && (N == (L.length : Int) && (phOk L && phNe L)), lfPa r1 r2 r3 r4 r5 r6 r7 r8 a L own mark)
  | _, _ => none
noncomputable def ΛPa : LoopOrc := fun _ st => viaT 0 1 kPa GPa st
theorem loopOkPa (z : Base) (z1 : z.L.length = 0) (z2 : z.U.length = 1) : LoopOk ΛPa Try.prog z bdPa := by
  refine loop_okT (Λ := L0) (kx := xPa) Okp1 mixed z1 z2 (fun b hb st t h => by cases h) (G := GPa) (fun _ => rfl) ?_
  intro vals m t h
  unfold GPa at h
  split at h
  · rename_i a N k r1 r2 r3 r4 r5 r6 r7 r8 L own mark
    obtain ⟨h1, rfl⟩ := some_t h
    simp only [Bool.and_eq_true, beq_iff_eq] at h1
    obtain ⟨rfl, rfl, hl, hn⟩ := h1
    exact ⟨_, loopPa r1 r2 r3 r4 r5 r6 r7 r8 a L own mark hl hn⟩
  · cases h
def grow (j : Nat) (M : List (List Dat)) : List (List Dat) := match j with
  | 0 => M
  | j + 1 => grow j (M ++ one0 M)
def lfPb (r1 r2 r3 r4 r5 r6 r7 r8 q1 q2 q3 q4 q5 q6 q7 q8 a : Int) (L : List (List Dat)) (own mark : Bool) (M : List (List Dat)) : LT := .leaf (.exit 2) (mk (xPb (.exit 2)) [.v (I a), .ptr 0 0, .ptr 1 0] ⟨[[.row 0, .v (I r1), .v (I r2), .v (I r3), .v (I r4), .v (I r5), .v (I r6), .v (I r7), .v (I r8)], [.row 1, .v (I q1), .v (I q2), .v (I q3), .v (I q4), .v (I q5), .v (I q6), .v (I q7), .v (I q8)]], [true, true], [rH L own mark, rH (grow (5 - M.length) M) true false]⟩)
set_option maxRecDepth 20000 in
theorem loopPb (r1 r2 r3 r4 r5 r6 r7 r8 q1 q2 q3 q4 q5 q6 q7 q8 a : Int) (L : List (List Dat)) (own mark : Bool) : ∀ (j : Nat) (M : List (List Dat)), 0 < M.length → M.length + j = 5 → EPb (j + 1) r1 r2 r3 r4 r5 r6 r7 r8 q1 q2 q3 q4 q5 q6 q7 q8 a L own mark M = some (.exit 2, mk (xPb (.exit 2)) [.v (I a), .ptr 0 0, .ptr 1 0] ⟨[[.row 0, .v (I r1), .v (I r2), .v (I r3), .v (I r4), .v (I r5), .v (I r6), .v (I r7), .v (I r8)], [.row 1, .v (I q1), .v (I q2), .v (I q3), .v (I q4), .v (I q5), .v (I q6), .v (I q7), .v (I q8)]], [true, true], [rH L own mark, rH (grow j M) true false]⟩)
  | 0, M, h0, h1 => by
    refine (stepPb r1 r2 r3 r4 r5 r6 r7 r8 q1 q2 q3 q4 q5 q6 q7 q8 a L own mark M 0).trans ?_
    rw [decide_eq_false (show ¬ (M.length : Int) < 5 by omega)]
    rfl
  | j + 1, M, h0, h1 => by
    have h2 : (one0 M).length = 1 := rfl
    refine (stepPb r1 r2 r3 r4 r5 r6 r7 r8 q1 q2 q3 q4 q5 q6 q7 q8 a L own mark M (j + 1)).trans ?_
    rw [decide_eq_true (show (M.length : Int) < 5 by omega), show ((M.length : Int) == 0) = false from beq_eq_false_iff_ne.2 (by omega), decide_eq_true (show (0 : Int) < (M.length : Int) by omega), decide_eq_true (show (M.length + (one0 M).length) * 56 ≤ 140737488355328 ∧ M.length + (one0 M).length ≤ 9223372036854775807 by omega)]
    have hl2 : (M ++ one0 M).length = M.length + 1 := by rw [List.length_append, h2]
    have ih := loopPb r1 r2 r3 r4 r5 r6 r7 r8 q1 q2 q3 q4 q5 q6 q7 q8 a L own mark j (M ++ one0 M) (by omega) (by omega)
    rw [show grow (j + 1) M = grow j (M ++ one0 M) from rfl]
    generalize hX : M ++ one0 M = X at *
    exact ih
def GPb (vals : List SV) (m : Mem) : Option (Bool × LT) :=
  match vals, m with
  | [.v (.int .i64 a), .ptr 0 0, .ptr 1 0], ⟨[[.row 0, .v (.int .i64 r1), .v (.int .i64 r2), .v (.int .i64 r3), .v (.int .i64 r4), .v (.int .i64 r5), .v (.int .i64 r6), .v (.int .i64 r7), .v (.int .i64 r8)], [.row 1, .v (.int .i64 q1), .v (.int .i64 q2), .v (.int .i64 q3), .v (.int .i64 q4), .v (.int .i64 q5), .v (.int .i64 q6), .v (.int .i64 q7), .v (.int .i64 q8)]], [true, true], [.live ⟨31, [.sl 33 [.num .i64, .num .i64], .num .i64, .num .i64, .num .i64, .num .i64], L, own, mark⟩, .live ⟨31, [.sl 33 [.num .i64, .num .i64], .num .i64, .num .i64, .num .i64, .num .i64], M, true, false⟩]⟩ => some (Nat.blt 0 M.length && Nat.ble M.length 5, lfPb r1 r2 r3 r4 r5 r6 r7 r8 q1 q2 q3 q4 q5 q6 q7 q8 a L own mark M)
  | _, _ => none
noncomputable def ΛPb : LoopOrc := fun _ st => viaT 0 1 kPb GPb st
theorem loopOkPb (z : Base) (z1 : z.L.length = 0) (z2 : z.U.length = 1) : LoopOk ΛPb Try.prog z bdPb := by
  refine loop_okT (Λ := L0) (kx := xPb) Okp1 mixed z1 z2 (fun b hb st t h => by cases h) (G := GPb) (fun _ => rfl) ?_
  intro vals m t h
  unfold GPb at h
  split at h
  · rename_i a r1 r2 r3 r4 r5 r6 r7 r8 q1 q2 q3 q4 q5 q6 q7 q8 L own mark M
    obtain ⟨h1, rfl⟩ := some_t h
    simp only [Bool.and_eq_true, Nat.blt_eq] at h1
    have h2 := Nat.le_of_ble_eq_true h1.2
    exact ⟨_, loopPb r1 r2 r3 r4 r5 r6 r7 r8 q1 q2 q3 q4 q5 q6 q7 q8 a L own mark (5 - M.length) M h1.1 (by omega)⟩
  · cases h
theorem loopsPab : loopsOf (Try.f4.body.getD .skip) = [bdPa, bdPb] := by kernel_rfl
theorem tagPa : Nat.beq (tagOf bdPa) (tagOf bdPa) = true := by kernel_rfl
theorem tagPb : Nat.beq (tagOf bdPb) (tagOf bdPa) = false := by kernel_rfl
noncomputable def ΛPab : LoopOrc := either bdPa ΛPa ΛPb
noncomputable def ΓPA : Orc := { Γp1 with ae := false }
theorem OkPA : ΓPA.Ok Try.prog := ⟨Okp1.call, Okp1.rd, Okp1.eqv⟩
set_option maxRecDepth 20000 in
theorem treeA (r1 : Int) (r2 : Int) (r3 : Int) (r4 : Int) (r5 : Int) (r6 : Int) (r7 : Int) (r8 : Int) (L : List (List Dat)) (a : Int) : runG ΓPA ΛPab Try.prog Try.f4 [.ag [.row 0, .v (I r1), .v (I r2), .v (I r3), .v (I r4), .v (I r5), .v (I r6), .v (I r7), .v (I r8)], .v (I a)] ⟨[], [], [rH L false false]⟩ = 
    (bif L.length.ble (9223372036854775807) then (bif !fewB L then some (.v (Bo true), ⟨[], [], [.live ⟨31, kPh, L, false, false⟩]⟩) else (bif phOk L then (bif wrR L r1 r2 r3 r4 r5 r6 r7 r8 != (0 : Int) then some (.v (Bo true), ⟨[], [], [.live ⟨31, kPh, L, false, false⟩]⟩) else (bif true && ((L.length : Int) == (L.length : Int) && (phOk L && phNe L)) then (bif anyN (bphB L) L.length (0 : Int) then some (.v (Bo false), ⟨[], [], [.live ⟨31, kPh, L, false, false⟩]⟩) else (bif phOk L && (phNe L && Nat.blt (0 : Nat) L.length) then (bif Nat.blt (0 : Nat) L.length && L.length.ble (5) then (bif phOk L && (phNe L && Nat.blt (0 : Nat) L.length) then (bif (L.length : Int) != (L.length : Int) then some (.v (Bo false), ⟨[], [], [.live ⟨31, kPh, L, false, false⟩]⟩) else (bif IntKind.u64.wrap (L.length : Int) == (0 : Int) then none else (bif decide ((0 : Int) ≤ wI ((IntKind.u64.wrap a).tmod (IntKind.u64.wrap (L.length : Int)))) && (decide (wI ((IntKind.u64.wrap a).tmod (IntKind.u64.wrap (L.length : Int))) = wI ((IntKind.u64.wrap a).tmod (IntKind.u64.wrap (L.length : Int)))) && decide (wI ((IntKind.u64.wrap a).tmod (IntKind.u64.wrap (L.length : Int))) ≤ (L.length : Int))) then (bif decide ((0 : Int) ≤ wI (wI ((IntKind.u64.wrap a).tmod (IntKind.u64.wrap (L.length : Int))) + (1 : Int))) && (decide (wI (wI ((IntKind.u64.wrap a).tmod (IntKind.u64.wrap (L.length : Int))) + (1 : Int)) ≤ (L.length : Int)) && decide ((L.length : Int) ≤ (L.length : Int))) then (bif decide ((0 : Nat) < (List.take ((L.length : Int) - wI (wI ((IntKind.u64.wrap a).tmod (IntKind.u64.wrap (L.length : Int))) + (1 : Int))).toNat (List.drop (wI (wI ((IntKind.u64.wrap a).tmod (IntKind.u64.wrap (L.length : Int))) + (1 : Int))).toNat L)).length ∧ ((wI ((IntKind.u64.wrap a).tmod (IntKind.u64.wrap (L.length : Int)))).toNat + (List.take ((L.length : Int) - wI (wI ((IntKind.u64.wrap a).tmod (IntKind.u64.wrap (L.length : Int))) + (1 : Int))).toNat (List.drop (wI (wI ((IntKind.u64.wrap a).tmod (IntKind.u64.wrap (L.length : Int))) + (1 : Int))).toNat L)).length) * (56 : Nat) ≤ (140737488355328 : Nat) ∧ (wI ((IntKind.u64.wrap a).tmod (IntKind.u64.wrap (L.length : Int)))).toNat + (List.take ((L.length : Int) - wI (wI ((IntKind.u64.wrap a).tmod (IntKind.u64.wrap (L.length : Int))) + (1 : Int))).toNat (List.drop (wI (wI ((IntKind.u64.wrap a).tmod (IntKind.u64.wrap (L.length : Int))) + (1 : Int))).toNat L)).length ≤ (9223372036854775807 : Nat)) then (bif ((List.take (wI ((IntKind.u64.wrap a).tmod (IntKind.u64.wrap (L.length : Int)))).toNat L ++ List.take ((L.length : Int) - wI (wI ((IntKind.u64.wrap a).tmod (IntKind.u64.wrap (L.length : Int))) + (1 : Int))).toNat (List.drop (wI (wI ((IntKind.u64.wrap a).tmod (IntKind.u64.wrap (L.length : Int))) + (1 : Int))).toNat L)).length : Int) == (0 : Int) then (bif phOk (grow ((5 : Nat) - L.length) L) then (bif wrB (grow ((5 : Nat) - L.length) L) r1 r2 r3 r4 r5 r6 r7 r8 == (1 : Int) then (bif phOk (List.take (wI ((IntKind.u64.wrap a).tmod (IntKind.u64.wrap (L.length : Int)))).toNat L ++ List.take ((L.length : Int) - wI (wI ((IntKind.u64.wrap a).tmod (IntKind.u64.wrap (L.length : Int))) + (1 : Int))).toNat (List.drop (wI (wI ((IntKind.u64.wrap a).tmod (IntKind.u64.wrap (L.length : Int))) + (1 : Int))).toNat L)) then some (.v (Bo (wrB (List.take (wI ((IntKind.u64.wrap a).tmod (IntKind.u64.wrap (L.length : Int)))).toNat L ++ List.take ((L.length : Int) - wI (wI ((IntKind.u64.wrap a).tmod (IntKind.u64.wrap (L.length : Int))) + (1 : Int))).toNat (List.drop (wI (wI ((IntKind.u64.wrap a).tmod (IntKind.u64.wrap (L.length : Int))) + (1 : Int))).toNat L)) r1 r2 r3 r4 r5 r6 r7 (if ((List.take (wI ((IntKind.u64.wrap a).tmod (IntKind.u64.wrap (L.length : Int)))).toNat L ++ List.take ((L.length : Int) - wI (wI ((IntKind.u64.wrap a).tmod (IntKind.u64.wrap (L.length : Int))) + (1 : Int))).toNat (List.drop (wI (wI ((IntKind.u64.wrap a).tmod (IntKind.u64.wrap (L.length : Int))) + (1 : Int))).toNat L)).length : Int) < r8 then ((List.take (wI ((IntKind.u64.wrap a).tmod (IntKind.u64.wrap (L.length : Int)))).toNat L ++ List.take ((L.length : Int) - wI (wI ((IntKind.u64.wrap a).tmod (IntKind.u64.wrap (L.length : Int))) + (1 : Int))).toNat (List.drop (wI (wI ((IntKind.u64.wrap a).tmod (IntKind.u64.wrap (L.length : Int))) + (1 : Int))).toNat L)).length : Int) else r8) == (1 : Int))), ⟨[], [], [.live ⟨31, kPh, L, false, false⟩]⟩) else none) else some (.v (Bo false), ⟨[], [], [.live ⟨31, kPh, L, false, false⟩]⟩)) else none) else (bif phOk (grow ((5 : Nat) - L.length) L) then (bif wrB (grow ((5 : Nat) - L.length) L) r1 r2 r3 r4 r5 r6 r7 r8 == (1 : Int) then (bif phOk (List.take (wI ((IntKind.u64.wrap a).tmod (IntKind.u64.wrap (L.length : Int)))).toNat L ++ List.take ((L.length : Int) - wI (wI ((IntKind.u64.wrap a).tmod (IntKind.u64.wrap (L.length : Int))) + (1 : Int))).toNat (List.drop (wI (wI ((IntKind.u64.wrap a).tmod (IntKind.u64.wrap (L.length : Int))) + (1 : Int))).toNat L)) then some (.v (Bo (wrB (List.take (wI ((IntKind.u64.wrap a).tmod (IntKind.u64.wrap (L.length : Int)))).toNat L ++ List.take ((L.length : Int) - wI (wI ((IntKind.u64.wrap a).tmod (IntKind.u64.wrap (L.length : Int))) + (1 : Int))).toNat (List.drop (wI (wI ((IntKind.u64.wrap a).tmod (IntKind.u64.wrap (L.length : Int))) + (1 : Int))).toNat L)) r1 r2 r3 r4 r5 r6 r7 (if ((List.take (wI ((IntKind.u64.wrap a).tmod (IntKind.u64.wrap (L.length : Int)))).toNat L ++ List.take ((L.length : Int) - wI (wI ((IntKind.u64.wrap a).tmod (IntKind.u64.wrap (L.length : Int))) + (1 : Int))).toNat (List.drop (wI (wI ((IntKind.u64.wrap a).tmod (IntKind.u64.wrap (L.length : Int))) + (1 : Int))).toNat L)).length : Int) < r8 then ((List.take (wI ((IntKind.u64.wrap a).tmod (IntKind.u64.wrap (L.length : Int)))).toNat L ++ List.take ((L.length : Int) - wI (wI ((IntKind.u64.wrap a).tmod (IntKind.u64.wrap (L.length : Int))) + (1 : Int))).toNat (List.drop (wI (wI ((IntKind.u64.wrap a).tmod (IntKind.u64.wrap (L.length : Int))) + (1 : Int))).toNat L)).length : Int) else r8) == (0 : Int))), ⟨[], [], [.live ⟨31, kPh, L, false, false⟩]⟩) else none) else some (.v (Bo false), ⟨[], [], [.live ⟨31, kPh, L, false, false⟩]⟩)) else none)) else none) else none) else none))) else none) else none) else none)) else none)) else none)) else none) := by kernel_rfl
noncomputable def ΓPB : Orc := { Γp1 with ae := true }
theorem OkPB : ΓPB.Ok Try.prog := ⟨Okp1.call, Okp1.rd, Okp1.eqv⟩
set_option maxRecDepth 20000 in
theorem treeB (r1 : Int) (r2 : Int) (r3 : Int) (r4 : Int) (r5 : Int) (r6 : Int) (r7 : Int) (r8 : Int) (L : List (List Dat)) (a : Int) : runG ΓPB ΛPab Try.prog Try.f4 [.ag [.row 0, .v (I r1), .v (I r2), .v (I r3), .v (I r4), .v (I r5), .v (I r6), .v (I r7), .v (I r8)], .v (I a)] ⟨[], [], [rH L false false]⟩ = 
    (bif L.length.ble (9223372036854775807) then (bif !fewB L then some (.v (Bo true), ⟨[], [], [.live ⟨31, kPh, L, false, false⟩]⟩) else (bif phOk L then (bif wrR L r1 r2 r3 r4 r5 r6 r7 r8 != (0 : Int) then some (.v (Bo true), ⟨[], [], [.live ⟨31, kPh, L, false, false⟩]⟩) else (bif true && ((L.length : Int) == (L.length : Int) && (phOk L && phNe L)) then (bif anyN (bphB L) L.length (0 : Int) then some (.v (Bo false), ⟨[], [], [.live ⟨31, kPh, L, false, false⟩]⟩) else (bif phOk L && (phNe L && Nat.blt (0 : Nat) L.length) then (bif Nat.blt (0 : Nat) L.length && L.length.ble (5) then (bif phOk L && (phNe L && Nat.blt (0 : Nat) L.length) then (bif (L.length : Int) != (L.length : Int) then some (.v (Bo false), ⟨[], [], [.live ⟨31, kPh, L, false, false⟩]⟩) else (bif IntKind.u64.wrap (L.length : Int) == (0 : Int) then none else (bif decide ((0 : Int) ≤ wI ((IntKind.u64.wrap a).tmod (IntKind.u64.wrap (L.length : Int)))) && (decide (wI ((IntKind.u64.wrap a).tmod (IntKind.u64.wrap (L.length : Int))) = wI ((IntKind.u64.wrap a).tmod (IntKind.u64.wrap (L.length : Int)))) && decide (wI ((IntKind.u64.wrap a).tmod (IntKind.u64.wrap (L.length : Int))) ≤ (L.length : Int))) then (bif decide ((0 : Int) ≤ wI (wI ((IntKind.u64.wrap a).tmod (IntKind.u64.wrap (L.length : Int))) + (1 : Int))) && (decide (wI (wI ((IntKind.u64.wrap a).tmod (IntKind.u64.wrap (L.length : Int))) + (1 : Int)) ≤ (L.length : Int)) && decide ((L.length : Int) ≤ (L.length : Int))) then (bif decide ((List.take ((L.length : Int) - wI (wI ((IntKind.u64.wrap a).tmod (IntKind.u64.wrap (L.length : Int))) + (1 : Int))).toNat (List.drop (wI (wI ((IntKind.u64.wrap a).tmod (IntKind.u64.wrap (L.length : Int))) + (1 : Int))).toNat L)).length = (0 : Nat)) then (bif ((List.take (wI ((IntKind.u64.wrap a).tmod (IntKind.u64.wrap (L.length : Int)))).toNat L).length : Int) == (0 : Int) then (bif phOk (grow ((5 : Nat) - L.length) L) then (bif wrB (grow ((5 : Nat) - L.length) L) r1 r2 r3 r4 r5 r6 r7 r8 == (1 : Int) then (bif phOk (List.take (wI ((IntKind.u64.wrap a).tmod (IntKind.u64.wrap (L.length : Int)))).toNat L) then some (.v (Bo (wrB (List.take (wI ((IntKind.u64.wrap a).tmod (IntKind.u64.wrap (L.length : Int)))).toNat L) r1 r2 r3 r4 r5 r6 r7 (if ((List.take (wI ((IntKind.u64.wrap a).tmod (IntKind.u64.wrap (L.length : Int)))).toNat L).length : Int) < r8 then ((List.take (wI ((IntKind.u64.wrap a).tmod (IntKind.u64.wrap (L.length : Int)))).toNat L).length : Int) else r8) == (1 : Int))), ⟨[], [], [.live ⟨31, kPh, L, false, false⟩]⟩) else none) else some (.v (Bo false), ⟨[], [], [.live ⟨31, kPh, L, false, false⟩]⟩)) else none) else (bif phOk (grow ((5 : Nat) - L.length) L) then (bif wrB (grow ((5 : Nat) - L.length) L) r1 r2 r3 r4 r5 r6 r7 r8 == (1 : Int) then (bif phOk (List.take (wI ((IntKind.u64.wrap a).tmod (IntKind.u64.wrap (L.length : Int)))).toNat L) then some (.v (Bo (wrB (List.take (wI ((IntKind.u64.wrap a).tmod (IntKind.u64.wrap (L.length : Int)))).toNat L) r1 r2 r3 r4 r5 r6 r7 (if ((List.take (wI ((IntKind.u64.wrap a).tmod (IntKind.u64.wrap (L.length : Int)))).toNat L).length : Int) < r8 then ((List.take (wI ((IntKind.u64.wrap a).tmod (IntKind.u64.wrap (L.length : Int)))).toNat L).length : Int) else r8) == (0 : Int))), ⟨[], [], [.live ⟨31, kPh, L, false, false⟩]⟩) else none) else some (.v (Bo false), ⟨[], [], [.live ⟨31, kPh, L, false, false⟩]⟩)) else none)) else none) else none) else none))) else none) else none) else none)) else none)) else none)) else none) := by kernel_rfl
end Go.Proofs.Ytikekoabadhmiaa

namespace Go.Proofs.Ytikekoabadhmiaa
open Go Go.Proofs Go.Sx Go.RowKit Go.Joins Go.ChangeShapes Go.WideShapes
set_option linter.unusedVariables false
theorem wrap_u64 (x : Int) : IntKind.u64.wrap x = x % 18446744073709551616 := by rw [← wr_eq true]; rfl
theorem rem_in (a : Int) (m : Nat) (h0 : 0 < m) (h : m ≤ 8000) : ∃ j : Nat, j < m ∧ wI (Int.tmod (IntKind.u64.wrap a) (IntKind.u64.wrap (m : Int))) = (j : Int) := by
  have e : IntKind.u64.wrap (m : Int) = (m : Int) := by rw [wrap_u64]; omega
  have h1 : 0 ≤ IntKind.u64.wrap a := by rw [wrap_u64]; omega
  rw [e, Int.tmod_eq_emod_of_nonneg h1]
  have h2 := Int.emod_nonneg (IntKind.u64.wrap a) (show (m : Int) ≠ 0 by omega)
  have h3 := Int.emod_lt_of_pos (IntKind.u64.wrap a) (show (0 : Int) < (m : Int) by omega)
  rw [wI_id (by omega)]
  exact ⟨(IntKind.u64.wrap a % (m : Int)).toNat, by omega, by omega⟩
theorem one0_of {l : List Dat} (h : WfN kPh l) (R : List (List Dat)) : one0 (l :: R) = [l] := by
  match l, h with
  | [.l (.slice none 0 0) A, .n _, .n _, .n _, .n _], _ => rfl
theorem grow_is {l : List Dat} (h : WfN kPh l) : ∀ (j : Nat) (R : List (List Dat)), grow j (l :: R) = (l :: R) ++ List.replicate j l
  | 0, R => by rw [List.replicate_zero, List.append_nil]; rfl
  | j + 1, R => by
    show grow j ((l :: R) ++ one0 (l :: R)) = _
    rw [one0_of h, List.cons_append, grow_is h j, List.replicate_succ]
    simp
theorem phOk_mem {L X : List (List Dat)} (h : phOk L = true) (hs : ∀ l ∈ X, l ∈ L) (hl : X.length ≤ 1000000) : phOk X = true := by
  unfold phOk at h ⊢
  rw [Bool.and_eq_true] at h ⊢
  exact ⟨List.all_eq_true.2 fun l hx => List.all_eq_true.1 h.1 l (hs l hx), Nat.ble_eq_true_of_le hl⟩
def bd1 (l : List Dat) : Bool := !rpB (l.headD (.n 0)).toL (l.tail.headD (.n 0)).toI (l.tail.tail.headD (.n 0)).toI (l.tail.tail.tail.headD (.n 0)).toI (l.tail.tail.tail.tail.headD (.n 0)).toI
theorem bph_is (L : List (List Dat)) (k : Int) : bphB L k = bd1 (L.getD k.toNat []) := rfl
theorem bph_mem {L X : List (List Dat)} (h : anyN (bphB L) L.length 0 = false) (hs : ∀ l ∈ X, l ∈ L) : anyN (bphB X) X.length 0 = false := by
  refine anyN_none.2 fun i h0 h1 => ?_
  have hi : i.toNat < X.length := by omega
  have hm : X.getD i.toNat [] ∈ L := hs _ (by rw [List.getD, List.getElem?_eq_getElem hi]; exact List.getElem_mem hi)
  obtain ⟨q, hq⟩ := List.getElem?_of_mem hm
  have hlt := (List.getElem?_eq_some_iff.1 hq).1
  have := anyN_none.1 h (q : Int) (by omega) (by omega)
  rw [bph_is] at this ⊢
  rw [Int.toNat_natCast, List.getD, hq] at this
  exact this
theorem wr_five {M : List (List Dat)} {r1 r2 r3 r4 r5 r6 r7 r8 : Int} (h : M.length = 5 ∨ M.length = 0) : wrB M r1 r2 r3 r4 r5 r6 r7 r8 = 1 := by
  unfold wrB
  rw [fr_no (lo := 1) (hi := 4) (n := (M.length : Int)) (by omega)]
  rfl
theorem wr_less {L X : List (List Dat)} {r1 r2 r3 r4 r5 r6 r7 r8 : Int} (h : RulesOk L r1 r2 r3 r4 r5 r6 r7 r8) (hs : ∀ l ∈ X, l ∈ L) (h1 : 1 ≤ X.length) (h4 : X.length ≤ 4) : wrB X r1 r2 r3 r4 r5 r6 r7 (if (X.length : Int) < r8 then (X.length : Int) else r8) = 0 := by
  have hf := fr_iff.1 h.f
  exact RulesOk.zero ⟨fr_iff.2 (by omega), bph_mem h.ph hs, h.n, h.d, h.g, h.e, h.s, h.a, h.l, fr_iff.2 (by split <;> omega)⟩
theorem rulesPhases (r1 r2 r3 r4 r5 r6 r7 r8 a : Int) (L : List (List Dat)) (hw : ∀ o ∈ L, WfN kPh o) (hl : L.length ≤ 9223372036854775807) : ∃ Γ, Γ.Ok Try.prog ∧ runG Γ ΛPab Try.prog Try.f4 [.ag [.row 0, .v (I r1), .v (I r2), .v (I r3), .v (I r4), .v (I r5), .v (I r6), .v (I r7), .v (I r8)], .v (I a)] ⟨[], [], [rH L false false]⟩ = some (SV.v (.bool true), ⟨[], [], [rH L false false]⟩) := by
  have hl' : Nat.ble L.length 9223372036854775807 = true := Nat.ble_eq_true_of_le hl
  cases hf : fewB L
  · refine ⟨ΓPA, OkPA, (treeA r1 r2 r3 r4 r5 r6 r7 r8 L a).trans ?_⟩
    simp only [hl', hf, Bool.not_false, cond_true]
    rfl
  obtain ⟨hp, h8⟩ := few_ok hf hw
  by_cases h : wrB L r1 r2 r3 r4 r5 r6 r7 r8 = 0
  case neg =>
    have e : (wrR L r1 r2 r3 r4 r5 r6 r7 r8 != 0) = true := by rw [wrRB]; exact bne_iff_ne.2 h
    refine ⟨ΓPA, OkPA, (treeA r1 r2 r3 r4 r5 r6 r7 r8 L a).trans ?_⟩
    simp only [hl', hf, hp, e, Bool.not_true, cond_true, cond_false]
    rfl
  have e0 : (wrR L r1 r2 r3 r4 r5 r6 r7 r8 != 0) = false := by rw [wrRB, h]; rfl
  have hr := wr_zero h
  have hne := hr.ne hp
  have hb := hr.ph
  have hfew := fr_iff.1 hr.few
  obtain ⟨j, hj, ej⟩ := rem_in a L.length (by omega) (by omega)
  have eu : (IntKind.u64.wrap (L.length : Int) == 0) = false := beq_eq_false_iff_ne.2 (by rw [wrap_u64]; omega)
  have ek : wI ((j : Int) + 1) = ((j + 1 : Nat) : Int) := by rw [wI_id (by omega)]; omega
  have ed : List.take ((L.length : Int) - ((j + 1 : Nat) : Int)).toNat (List.drop (j + 1) L) = List.drop (j + 1) L := List.take_of_length_le (by rw [List.length_drop]; omega)
  have hg : phOk (grow (5 - L.length) L) = true ∧ (grow (5 - L.length) L).length = 5 := by
    match L, hw, hp, hfew with
    | [], _, _, hfew => simp at hfew
    | l :: R, hw, hp, hfew =>
      rw [grow_is (hw l List.mem_cons_self)]
      have hlen : ((l :: R) ++ List.replicate (5 - (l :: R).length) l).length = 5 := by
        rw [List.length_append, List.length_replicate]
        omega
      refine ⟨phOk_mem hp (fun o ho => ?_) (by omega), hlen⟩
      rcases List.mem_append.1 ho with ho | ho
      · exact ho
      · rw [(List.mem_replicate.1 ho).2]
        exact List.mem_cons_self
  have hw5 := wr_five (r1 := r1) (r2 := r2) (r3 := r3) (r4 := r4) (r5 := r5) (r6 := r6) (r7 := r7) (r8 := r8) (.inl hg.2)
  have hbl : Nat.blt 0 L.length = true := by rw [Nat.blt_eq]; omega
  have hb5 : L.length.ble 5 = true := Nat.ble_eq_true_of_le (by omega)
  by_cases hc : j + 1 < L.length
  · refine ⟨ΓPA, OkPA, (treeA r1 r2 r3 r4 r5 r6 r7 r8 L a).trans ?_⟩
    simp only [ej, ek, ed, Int.toNat_natCast]
    have hx : (List.take j L ++ List.drop (j + 1) L).length = L.length - 1 := by
      rw [List.length_append, List.length_take, List.length_drop]
      omega
    have hxs : ∀ l ∈ List.take j L ++ List.drop (j + 1) L, l ∈ L := fun l hm => by
      rcases List.mem_append.1 hm with hm | hm
      · exact List.mem_of_mem_take hm
      · exact List.mem_of_mem_drop hm
    have hdl : (List.drop (j + 1) L).length = L.length - (j + 1) := List.length_drop
    have hsz : decide (0 < (List.drop (j + 1) L).length ∧ (j + (List.drop (j + 1) L).length) * 56 ≤ 140737488355328 ∧ j + (List.drop (j + 1) L).length ≤ 9223372036854775807) = true := decide_eq_true (by omega)
    have hwx := wr_less hr hxs (by omega) (by omega)
    have hpx := phOk_mem hp hxs (by omega)
    generalize hX : List.take j L ++ List.drop (j + 1) L = X at *
    have hx0 : ((X.length : Int) == 0) = false := beq_eq_false_iff_ne.2 (by omega)
    simp only [hl', hf, hp, e0, hne, hb, hbl, hb5, eu, hsz, hg.1, hw5, hpx, hx0, hwx, decide_eq_true (show (0 : Int) ≤ (j : Int) by omega), decide_eq_true (show (j : Int) ≤ (L.length : Int) by omega), decide_eq_true (show (0 : Int) ≤ ((j + 1 : Nat) : Int) by omega), decide_eq_true (show ((j + 1 : Nat) : Int) ≤ (L.length : Int) by omega), decide_eq_true (show (L.length : Int) ≤ (L.length : Int) by omega), decide_true, beq_self_eq_true, bne_self_eq_false, Bool.and_self, Bool.not_true, cond_true, cond_false]
    rfl
  · refine ⟨ΓPB, OkPB, (treeB r1 r2 r3 r4 r5 r6 r7 r8 L a).trans ?_⟩
    simp only [ej, ek, ed, Int.toNat_natCast]
    have hx : (List.take j L).length = L.length - 1 := by
      rw [List.length_take]
      omega
    have hxs : ∀ l ∈ List.take j L, l ∈ L := fun l hm => List.mem_of_mem_take hm
    have hsz : decide ((List.drop (j + 1) L).length = 0) = true := decide_eq_true (by rw [List.length_drop]; omega)
    have hpx := phOk_mem hp hxs (by omega)
    by_cases hz : L.length = 1
    · have hwx : ∀ q : Int, wrB (List.take j L) r1 r2 r3 r4 r5 r6 r7 q = 1 := fun q => wr_five (.inr (by omega))
      generalize hX : List.take j L = X at *
      have hx0 : ((X.length : Int) == 0) = true := by rw [show X.length = 0 by omega]; rfl
      simp only [hl', hf, hp, e0, hne, hb, hbl, hb5, eu, hsz, hg.1, hw5, hpx, hx0, hwx, decide_eq_true (show (0 : Int) ≤ (j : Int) by omega), decide_eq_true (show (j : Int) ≤ (L.length : Int) by omega), decide_eq_true (show (0 : Int) ≤ ((j + 1 : Nat) : Int) by omega), decide_eq_true (show ((j + 1 : Nat) : Int) ≤ (L.length : Int) by omega), decide_eq_true (show (L.length : Int) ≤ (L.length : Int) by omega), decide_true, beq_self_eq_true, bne_self_eq_false, Bool.and_self, Bool.not_true, cond_true, cond_false]
      rfl
    · have hwx := wr_less hr hxs (by omega) (by omega)
      generalize hX : List.take j L = X at *
      have hx0 : ((X.length : Int) == 0) = false := beq_eq_false_iff_ne.2 (by omega)
      simp only [hl', hf, hp, e0, hne, hb, hbl, hb5, eu, hsz, hg.1, hw5, hpx, hx0, hwx, decide_eq_true (show (0 : Int) ≤ (j : Int) by omega), decide_eq_true (show (j : Int) ≤ (L.length : Int) by omega), decide_eq_true (show (0 : Int) ≤ ((j + 1 : Nat) : Int) by omega), decide_eq_true (show ((j + 1 : Nat) : Int) ≤ (L.length : Int) by omega), decide_eq_true (show (L.length : Int) ≤ (L.length : Int) by omega), decide_true, beq_self_eq_true, bne_self_eq_false, Bool.and_self, Bool.not_true, cond_true, cond_false]
      rfl
end Go.Proofs.Ytikekoabadhmiaa

namespace Go.Proofs.Ytikekoabadhmiaa
open Go Go.Proofs Go.Sx Go.RowKit Go.Joins Go.ChangeShapes Go.WideShapes
set_option linter.unusedVariables false
theorem phasesLoops (z : Base) (z1 : z.L.length = 0) (z2 : z.U.length = 1) : ∀ b ∈ loopsOf (Try.f4.body.getD .skip), LoopOk ΛPab Try.prog z b :=
  twoLoops loopsPab (eitherL tagPa (loopOkPa z z1 z2)) (eitherR tagPb (loopOkPb z z1 z2))
theorem rulesPhasesLaw (l0 : List TD) (a1 : Int) (w0 : WfT kR l0) (u1 : (Lit.int .i64 a1).wf = true) : ∃ Γ Λ m', Γ.Ok Try.prog ∧ (∀ z : Base, z.L.length = 0 → z.U.length = 1 → ∀ b ∈ loopsOf (Try.f4.body.getD .skip), LoopOk Λ Try.prog z b) ∧ runG Γ Λ Try.prog Try.f4 (inArgs [.ag (tkIn kR l0), .v (.int .i64 a1)] 0) (inMem [.ag (tkIn kR l0), .v (.int .i64 a1)]) = some (.v (.bool true), m') := by
  obtain ⟨L, r1, r2, r3, r4, r5, r6, r7, r8, rfl, ⟨hw, hl⟩, _⟩ := rul_is w0
  obtain ⟨Γ, hΓ, h⟩ := rulesPhases r1 r2 r3 r4 r5 r6 r7 r8 a1 L hw hl
  exact ⟨Γ, ΛPab, _, hΓ, phasesLoops, h⟩
end Go.Proofs.Ytikekoabadhmiaa

