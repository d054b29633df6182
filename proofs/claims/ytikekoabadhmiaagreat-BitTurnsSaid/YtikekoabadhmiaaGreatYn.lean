/-
  Rules printed and read; cut off, with more behind, with bits turned: four laws of rulefile over values.
-/
import Derived.Test.YtikekoabadhmiaaGreatYm
import Derived.Test.YtikekoabadhmiaaGreatSx
import Derived.DataShut
namespace Go.Proofs.YtikekoabadhmiaaGreat
open Go Go.Proofs Go.Sx
set_option linter.unusedVariables false
/-! norm -/
/-! cast -/
/-! rep [CK.sl 51 [CK0.num IntKind.i64, CK0.num IntKind.i64], .num .i64, .num .i64, .num .i64, .num .i64] => kPh -/
/-! rep (dropT (0 : Nat) (L.getD k.toNat [])) => (L.getD k.toNat []) -/
/-! rep (dropT (0 : Nat) (L2.getD k.toNat [])) => (L2.getD k.toNat []) -/
/-! rep (dropT (0 : Nat) (L.getD i.toNat [])) => (L.getD i.toNat []) -/
/-! rep (dropT (0 : Nat) (M.getD k.toNat [])) => (M.getD k.toNat []) -/
/-! repp (List.brecOn.go (motive := fun x => Nat → List Dat → List (List Dat)) M List.set._f).1 k.toNat ==> M.set k.toNat -/
/-! rep (((L.getD i.toNat []).headD (Dat.n (0 : Int))).toL) => (phA L i) -/
/-! rep ((L.getD i.toNat []).headD (Dat.n (0 : Int))).toL => (phA L i) -/
/-! rep (((L.getD i.toNat []).tail.headD (Dat.n (0 : Int))).toI) => (phG L i) -/
/-! rep ((L.getD i.toNat []).tail.headD (Dat.n (0 : Int))).toI => (phG L i) -/
/-! rep (((L.getD i.toNat []).tail.tail.headD (Dat.n (0 : Int))).toI) => (phV L i) -/
/-! rep ((L.getD i.toNat []).tail.tail.headD (Dat.n (0 : Int))).toI => (phV L i) -/
/-! rep (((L.getD i.toNat []).tail.tail.tail.headD (Dat.n (0 : Int))).toI) => (phM L i) -/
/-! rep ((L.getD i.toNat []).tail.tail.tail.headD (Dat.n (0 : Int))).toI => (phM L i) -/
/-! rep (((L.getD i.toNat []).tail.tail.tail.tail.headD (Dat.n (0 : Int))).toI) => (phU L i) -/
/-! rep ((L.getD i.toNat []).tail.tail.tail.tail.headD (Dat.n (0 : Int))).toI => (phU L i) -/
/-! rep (((L2.getD i.toNat []).headD (Dat.n (0 : Int))).toL) => (phA L2 i) -/
/-! rep ((L2.getD i.toNat []).headD (Dat.n (0 : Int))).toL => (phA L2 i) -/
/-! rep (((L2.getD i.toNat []).tail.headD (Dat.n (0 : Int))).toI) => (phG L2 i) -/
/-! rep ((L2.getD i.toNat []).tail.headD (Dat.n (0 : Int))).toI => (phG L2 i) -/
/-! rep (((L2.getD i.toNat []).tail.tail.headD (Dat.n (0 : Int))).toI) => (phV L2 i) -/
/-! rep ((L2.getD i.toNat []).tail.tail.headD (Dat.n (0 : Int))).toI => (phV L2 i) -/
/-! rep (((L2.getD i.toNat []).tail.tail.tail.headD (Dat.n (0 : Int))).toI) => (phM L2 i) -/
/-! rep ((L2.getD i.toNat []).tail.tail.tail.headD (Dat.n (0 : Int))).toI => (phM L2 i) -/
/-! rep (((L2.getD i.toNat []).tail.tail.tail.tail.headD (Dat.n (0 : Int))).toI) => (phU L2 i) -/
/-! rep ((L2.getD i.toNat []).tail.tail.tail.tail.headD (Dat.n (0 : Int))).toI => (phU L2 i) -/
/-! rep (((M.getD i.toNat []).headD (Dat.n (0 : Int))).toL) => (phA M i) -/
/-! rep ((M.getD i.toNat []).headD (Dat.n (0 : Int))).toL => (phA M i) -/
/-! rep (((M.getD i.toNat []).tail.headD (Dat.n (0 : Int))).toI) => (phG M i) -/
/-! rep ((M.getD i.toNat []).tail.headD (Dat.n (0 : Int))).toI => (phG M i) -/
/-! rep (((M.getD i.toNat []).tail.tail.headD (Dat.n (0 : Int))).toI) => (phV M i) -/
/-! rep ((M.getD i.toNat []).tail.tail.headD (Dat.n (0 : Int))).toI => (phV M i) -/
/-! rep (((M.getD i.toNat []).tail.tail.tail.headD (Dat.n (0 : Int))).toI) => (phM M i) -/
/-! rep ((M.getD i.toNat []).tail.tail.tail.headD (Dat.n (0 : Int))).toI => (phM M i) -/
/-! rep (((M.getD i.toNat []).tail.tail.tail.tail.headD (Dat.n (0 : Int))).toI) => (phU M i) -/
/-! rep ((M.getD i.toNat []).tail.tail.tail.tail.headD (Dat.n (0 : Int))).toI => (phU M i) -/
/-! rep (((L.getD k.toNat []).headD (Dat.n (0 : Int))).toL) => (phA L k) -/
/-! rep ((L.getD k.toNat []).headD (Dat.n (0 : Int))).toL => (phA L k) -/
/-! rep (((L.getD k.toNat []).tail.headD (Dat.n (0 : Int))).toI) => (phG L k) -/
/-! rep ((L.getD k.toNat []).tail.headD (Dat.n (0 : Int))).toI => (phG L k) -/
/-! rep (((L.getD k.toNat []).tail.tail.headD (Dat.n (0 : Int))).toI) => (phV L k) -/
/-! rep ((L.getD k.toNat []).tail.tail.headD (Dat.n (0 : Int))).toI => (phV L k) -/
/-! rep (((L.getD k.toNat []).tail.tail.tail.headD (Dat.n (0 : Int))).toI) => (phM L k) -/
/-! rep ((L.getD k.toNat []).tail.tail.tail.headD (Dat.n (0 : Int))).toI => (phM L k) -/
/-! rep (((L.getD k.toNat []).tail.tail.tail.tail.headD (Dat.n (0 : Int))).toI) => (phU L k) -/
/-! rep ((L.getD k.toNat []).tail.tail.tail.tail.headD (Dat.n (0 : Int))).toI => (phU L k) -/
/-! rep (((L2.getD k.toNat []).headD (Dat.n (0 : Int))).toL) => (phA L2 k) -/
/-! rep ((L2.getD k.toNat []).headD (Dat.n (0 : Int))).toL => (phA L2 k) -/
/-! rep (((L2.getD k.toNat []).tail.headD (Dat.n (0 : Int))).toI) => (phG L2 k) -/
/-! rep ((L2.getD k.toNat []).tail.headD (Dat.n (0 : Int))).toI => (phG L2 k) -/
/-! rep (((L2.getD k.toNat []).tail.tail.headD (Dat.n (0 : Int))).toI) => (phV L2 k) -/
/-! rep ((L2.getD k.toNat []).tail.tail.headD (Dat.n (0 : Int))).toI => (phV L2 k) -/
/-! rep (((L2.getD k.toNat []).tail.tail.tail.headD (Dat.n (0 : Int))).toI) => (phM L2 k) -/
/-! rep ((L2.getD k.toNat []).tail.tail.tail.headD (Dat.n (0 : Int))).toI => (phM L2 k) -/
/-! rep (((L2.getD k.toNat []).tail.tail.tail.tail.headD (Dat.n (0 : Int))).toI) => (phU L2 k) -/
/-! rep ((L2.getD k.toNat []).tail.tail.tail.tail.headD (Dat.n (0 : Int))).toI => (phU L2 k) -/
/-! rep (((M.getD k.toNat []).headD (Dat.n (0 : Int))).toL) => (phA M k) -/
/-! rep ((M.getD k.toNat []).headD (Dat.n (0 : Int))).toL => (phA M k) -/
/-! rep (((M.getD k.toNat []).tail.headD (Dat.n (0 : Int))).toI) => (phG M k) -/
/-! rep ((M.getD k.toNat []).tail.headD (Dat.n (0 : Int))).toI => (phG M k) -/
/-! rep (((M.getD k.toNat []).tail.tail.headD (Dat.n (0 : Int))).toI) => (phV M k) -/
/-! rep ((M.getD k.toNat []).tail.tail.headD (Dat.n (0 : Int))).toI => (phV M k) -/
/-! rep (((M.getD k.toNat []).tail.tail.tail.headD (Dat.n (0 : Int))).toI) => (phM M k) -/
/-! rep ((M.getD k.toNat []).tail.tail.tail.headD (Dat.n (0 : Int))).toI => (phM M k) -/
/-! rep (((M.getD k.toNat []).tail.tail.tail.tail.headD (Dat.n (0 : Int))).toI) => (phU M k) -/
/-! rep ((M.getD k.toNat []).tail.tail.tail.tail.headD (Dat.n (0 : Int))).toI => (phU M k) -/

end Go.Proofs.YtikekoabadhmiaaGreat

namespace Go.Proofs.YtikekoabadhmiaaGreat
open Go Go.Proofs Go.Sx Go.RowKit
set_option linter.unusedVariables false
theorem phR_of {l : List Dat} (hw : WfN kPh l) (hb : bad1 l = false) : PhR l ∧ (l.headD (.n 0)).toL.length ≤ 8 := by
  match l, hw with
  | [.l (.slice none 0 0) A, .n G, .n V, .n M, .n U], hw =>
    have hA : ∀ o ∈ A, WfL [.num .i64, .num .i64] o := hw.1.1
    have hb' : rpB A G V M U = true := by
      rw [← Bool.not_eq_false']
      exact hb
    unfold rpB at hb'
    simp only [Bool.and_eq_true] at hb'
    obtain ⟨e1, e2, e3, e4, e5⟩ := hb'
    rw [frB_iff] at e1 e2 e3 e4
    have hI := isArea e5
    have h8 := hI.hi
    refine ⟨⟨A, G, V, M, U, rfl, by omega, fun a ha => ?_, by omega, by omega, by omega, by omega⟩, by show A.length ≤ 8; omega⟩
    obtain ⟨i, hi⟩ := List.getElem?_of_mem ha
    have hlt := (List.getElem?_eq_some_iff.1 hi).1
    have hg : A.getD (i : Int).toNat [] = a := by rw [Int.toNat_natCast, List.getD, hi]; rfl
    have hn := hI.near (i : Int) (by omega) (by omega)
    unfold pX pY at hn
    rw [hg] at hn
    match a, hA a ha with
    | [.n x, .n y], _ =>
      have hn : -1073741824 ≤ x ∧ x ≤ 1073741824 ∧ -1073741824 ≤ y ∧ y ≤ 1073741824 := hn
      exact ⟨x, y, rfl, by omega, by omega⟩
theorem phsR_of {L : List (List Dat)} (hw : ∀ o ∈ L, WfN kPh o) (hb : L.any bad1 = false) : (∀ l ∈ L, PhR l) ∧ (phsW L).size ≤ 78 * L.length := by
  have h1 : ∀ l ∈ L, PhR l ∧ (l.headD (.n 0)).toL.length ≤ 8 := fun l hl => phR_of (hw l hl) (by
    have := List.any_eq_false.1 hb l hl
    simpa using this)
  refine ⟨fun l hl => (h1 l hl).1, ?_⟩
  clear hw hb
  induction L with
  | nil => exact Nat.le_refl _
  | cons l L ih =>
    have := ih fun b hb => h1 b (by simp [hb])
    have h2 := (h1 l (by simp)).2
    rw [phsW, ba_size, ba_size, phW_size, ptsW_size, List.length_cons]
    omega
theorem hd_app (L : List (List Dat)) (r1 r2 r3 r4 r5 r6 r7 r8 : Int) (X : ByteArray) : hdT L r1 r2 r3 r4 r5 r6 r7 r8 ++ X = mkA ++ (be 1 (L.length : Int) ++ (be 1 r1 ++ (be 1 r2 ++ (be 1 r3 ++ (be 1 r6 ++ (be 1 r8 ++ (be 4 r4 ++ (be 4 r5 ++ (be 4 r7 ++ X))))))))) := by
  unfold hdT
  simp only [ba_assoc]
theorem hd_dt (L : List (List Dat)) (r1 r2 r3 r4 r5 r6 r7 r8 : Int) (X : ByteArray) :
    dt 4 (hdT L r1 r2 r3 r4 r5 r6 r7 r8 ++ X) = be 1 (L.length : Int) ++ (be 1 r1 ++ (be 1 r2 ++ (be 1 r3 ++ (be 1 r6 ++ (be 1 r8 ++ (be 4 r4 ++ (be 4 r5 ++ (be 4 r7 ++ X)))))))) ∧
    dt 5 (hdT L r1 r2 r3 r4 r5 r6 r7 r8 ++ X) = be 1 r1 ++ (be 1 r2 ++ (be 1 r3 ++ (be 1 r6 ++ (be 1 r8 ++ (be 4 r4 ++ (be 4 r5 ++ (be 4 r7 ++ X))))))) ∧
    dt 6 (hdT L r1 r2 r3 r4 r5 r6 r7 r8 ++ X) = be 1 r2 ++ (be 1 r3 ++ (be 1 r6 ++ (be 1 r8 ++ (be 4 r4 ++ (be 4 r5 ++ (be 4 r7 ++ X)))))) ∧
    dt 7 (hdT L r1 r2 r3 r4 r5 r6 r7 r8 ++ X) = be 1 r3 ++ (be 1 r6 ++ (be 1 r8 ++ (be 4 r4 ++ (be 4 r5 ++ (be 4 r7 ++ X))))) ∧
    dt 8 (hdT L r1 r2 r3 r4 r5 r6 r7 r8 ++ X) = be 1 r6 ++ (be 1 r8 ++ (be 4 r4 ++ (be 4 r5 ++ (be 4 r7 ++ X)))) ∧
    dt 9 (hdT L r1 r2 r3 r4 r5 r6 r7 r8 ++ X) = be 1 r8 ++ (be 4 r4 ++ (be 4 r5 ++ (be 4 r7 ++ X))) ∧
    dt 10 (hdT L r1 r2 r3 r4 r5 r6 r7 r8 ++ X) = be 4 r4 ++ (be 4 r5 ++ (be 4 r7 ++ X)) ∧
    dt 14 (hdT L r1 r2 r3 r4 r5 r6 r7 r8 ++ X) = be 4 r5 ++ (be 4 r7 ++ X) ∧
    dt 18 (hdT L r1 r2 r3 r4 r5 r6 r7 r8 ++ X) = be 4 r7 ++ X ∧
    dt 22 (hdT L r1 r2 r3 r4 r5 r6 r7 r8 ++ X) = X := by
  rw [hd_app]
  have e4 : ∀ Y, dt 4 (mkA ++ Y) = Y := fun Y => dt_app (by rfl)
  have e1 : ∀ x Y, dt 1 (be 1 x ++ Y) = Y := fun x Y => dt_app (be_size 1 x)
  have e44 : ∀ x Y, dt 4 (be 4 x ++ Y) = Y := fun x Y => dt_app (be_size 4 x)
  refine ⟨e4 _, ?_, ?_, ?_, ?_, ?_, ?_, ?_, ?_, ?_⟩
  · rw [show 5 = 4 + 1 from rfl, ← dt_dt, e4, e1]
  · rw [show 6 = 4 + 1 + 1 from rfl, ← dt_dt, ← dt_dt, e4, e1, e1]
  · rw [show 7 = 4 + 1 + 1 + 1 from rfl, ← dt_dt, ← dt_dt, ← dt_dt, e4, e1, e1, e1]
  · rw [show 8 = 4 + 1 + 1 + 1 + 1 from rfl, ← dt_dt, ← dt_dt, ← dt_dt, ← dt_dt, e4, e1, e1, e1, e1]
  · rw [show 9 = 4 + 1 + 1 + 1 + 1 + 1 from rfl, ← dt_dt, ← dt_dt, ← dt_dt, ← dt_dt, ← dt_dt, e4, e1, e1, e1, e1, e1]
  · rw [show 10 = 4 + 1 + 1 + 1 + 1 + 1 + 1 from rfl, ← dt_dt, ← dt_dt, ← dt_dt, ← dt_dt, ← dt_dt, ← dt_dt, e4, e1, e1, e1, e1, e1, e1]
  · rw [show 14 = 4 + 1 + 1 + 1 + 1 + 1 + 1 + 4 from rfl, ← dt_dt, ← dt_dt, ← dt_dt, ← dt_dt, ← dt_dt, ← dt_dt, ← dt_dt, e4, e1, e1, e1, e1, e1, e1, e44]
  · rw [show 18 = 4 + 1 + 1 + 1 + 1 + 1 + 1 + 4 + 4 from rfl, ← dt_dt, ← dt_dt, ← dt_dt, ← dt_dt, ← dt_dt, ← dt_dt, ← dt_dt, ← dt_dt, e4, e1, e1, e1, e1, e1, e1, e44, e44]
  · rw [show 22 = 4 + 1 + 1 + 1 + 1 + 1 + 1 + 4 + 4 + 4 from rfl, ← dt_dt, ← dt_dt, ← dt_dt, ← dt_dt, ← dt_dt, ← dt_dt, ← dt_dt, ← dt_dt, ← dt_dt, e4, e1, e1, e1, e1, e1, e1, e44, e44, e44]
/-- Text that begins so is well begun. -/
theorem pfx_mk (Y : ByteArray) : pfxB (mkA ++ Y) = true := by
  have hs : (mkA ++ Y).size = 4 + Y.size := by rw [ba_size]; rfl
  unfold pfxB hasP
  have e : (if (4 : Int) < ((mkA ++ Y).size : Int) then (4 : Int) else ((mkA ++ Y).size : Int)).toNat = 4 := by
    rw [hs]
    split <;> omega
  rw [e, beq_TS, show (mkA.extract 0 4).size = 4 from rfl, decide_eq_true (show ((mkA ++ Y).size : Int) ≥ ((4 : Nat) : Int) by omega), tk_app (show mkA.size = 4 from rfl)]
  rfl
/-- A text of rules, whatever stands where the sum does, and behind. -/
theorem body_rd {L : List (List Dat)} {r1 r2 r3 r4 r5 r6 r7 r8 : Int} (hw : ∀ o ∈ L, WfN kPh o) (h : wrB L r1 r2 r3 r4 r5 r6 r7 r8 = 0) (X : ByteArray) :
    by1 (dt 4 (hdT L r1 r2 r3 r4 r5 r6 r7 r8 ++ X)) = L.length ∧ (by1 (dt 5 (hdT L r1 r2 r3 r4 r5 r6 r7 r8 ++ X)) : Int) = r1 ∧ (by1 (dt 6 (hdT L r1 r2 r3 r4 r5 r6 r7 r8 ++ X)) : Int) = r2 ∧ (by1 (dt 7 (hdT L r1 r2 r3 r4 r5 r6 r7 r8 ++ X)) : Int) = r3 ∧ (by1 (dt 8 (hdT L r1 r2 r3 r4 r5 r6 r7 r8 ++ X)) : Int) = r6 ∧ (by1 (dt 9 (hdT L r1 r2 r3 r4 r5 r6 r7 r8 ++ X)) : Int) = r8 ∧
    sgn (num4s (dt 10 (hdT L r1 r2 r3 r4 r5 r6 r7 r8 ++ X))) = r4 ∧ sgn (num4s (dt 14 (hdT L r1 r2 r3 r4 r5 r6 r7 r8 ++ X))) = r5 ∧ sgn (num4s (dt 18 (hdT L r1 r2 r3 r4 r5 r6 r7 r8 ++ X))) = r7 ∧ dt 22 (hdT L r1 r2 r3 r4 r5 r6 r7 r8 ++ X) = X ∧ pfxB (hdT L r1 r2 r3 r4 r5 r6 r7 r8 ++ X) = true := by
  obtain ⟨hl, hb, e1, e2, e3, e4, e5, e6, e7, e8⟩ := wrB_0 h
  obtain ⟨d4, d5, d6, d7, d8, d9, d10, d14, d18, d22⟩ := hd_dt L r1 r2 r3 r4 r5 r6 r7 r8 X
  rw [d4, d5, d6, d7, d8, d9, d10, d14, d18, d22]
  refine ⟨?_, by1_be _ (by omega) (by omega), by1_be _ (by omega) (by omega), by1_be _ (by omega) (by omega), by1_be _ (by omega) (by omega), by1_be _ (by omega) (by omega), sgn_be _ (by omega) (by omega), sgn_be _ (by omega) (by omega), sgn_be _ (by omega) (by omega), rfl, ?_⟩
  · have := by1_be (x := (L.length : Int)) (be 1 r1 ++ (be 1 r2 ++ (be 1 r3 ++ (be 1 r6 ++ (be 1 r8 ++ (be 4 r4 ++ (be 4 r5 ++ (be 4 r7 ++ X)))))))) (by omega) (by omega)
    omega
  · rw [hd_app]
    exact pfx_mk _
theorem filR_is (L : List (List Dat)) (r1 r2 r3 r4 r5 r6 r7 r8 : Int) : filR L r1 r2 r3 r4 r5 r6 r7 r8 = hdT L r1 r2 r3 r4 r5 r6 r7 r8 ++ (phsW L ++ be 4 (sum32 (bodR L r1 r2 r3 r4 r5 r6 r7 r8))) := by
  unfold filR
  rw [(sum_wI _).1]
  show bodR L r1 r2 r3 r4 r5 r6 r7 r8 ++ be 4 (sum32 (bodR L r1 r2 r3 r4 r5 r6 r7 r8)) = _
  rw [show bodR L r1 r2 r3 r4 r5 r6 r7 r8 = hdT L r1 r2 r3 r4 r5 r6 r7 r8 ++ phsW L from phsT_is L _, ba_assoc]
theorem bodR_is (L : List (List Dat)) (r1 r2 r3 r4 r5 r6 r7 r8 : Int) : bodR L r1 r2 r3 r4 r5 r6 r7 r8 = hdT L r1 r2 r3 r4 r5 r6 r7 r8 ++ phsW L := phsT_is L _
theorem fil_size {L : List (List Dat)} {r1 r2 r3 r4 r5 r6 r7 r8 : Int} (hw : ∀ o ∈ L, WfN kPh o) (h : wrB L r1 r2 r3 r4 r5 r6 r7 r8 = 0) : (filR L r1 r2 r3 r4 r5 r6 r7 r8).size = 26 + (phsW L).size ∧ (phsW L).size ≤ 312 := by
  obtain ⟨hl, hb, _⟩ := wrB_0 h
  have := (phsR_of hw hb).2
  rw [filR_is, ba_size, ba_size, be_size, hdT_size]
  omega
/-- What is printed is read. -/
theorem fil_ok {L : List (List Dat)} {r1 r2 r3 r4 r5 r6 r7 r8 : Int} (hw : ∀ o ∈ L, WfN kPh o) (h : wrB L r1 r2 r3 r4 r5 r6 r7 r8 = 0) :
    rfE (filR L r1 r2 r3 r4 r5 r6 r7 r8) = 0 ∧ phsP sgn (by1 (dt 4 (filR L r1 r2 r3 r4 r5 r6 r7 r8))) (dt 22 (filR L r1 r2 r3 r4 r5 r6 r7 r8)) = L := by
  obtain ⟨hl, hb, _⟩ := wrB_0 h
  have hR := (phsR_of hw hb).1
  have hz := fil_size hw h
  have hbs : (bodR L r1 r2 r3 r4 r5 r6 r7 r8).size = 22 + (phsW L).size := by rw [bodR_is, ba_size, hdT_size]
  have hfb : filR L r1 r2 r3 r4 r5 r6 r7 r8 = bodR L r1 r2 r3 r4 r5 r6 r7 r8 ++ be 4 (sum32 (bodR L r1 r2 r3 r4 r5 r6 r7 r8)) := by rw [filR_is, bodR_is, ba_assoc]
  have hsum := sum_wI (bodR L r1 r2 r3 r4 r5 r6 r7 r8)
  have hfi := filR_is L r1 r2 r3 r4 r5 r6 r7 r8
  generalize hc : be 4 (sum32 (bodR L r1 r2 r3 r4 r5 r6 r7 r8)) = c at *
  have hcs : c.size = 4 := by rw [← hc]; exact be_size 4 _
  obtain ⟨q4, q5, q6, q7, q8, q9, q10, q14, q18, q22, qp⟩ := body_rd hw h (phsW L ++ c)
  rw [← hfi] at q4 q5 q6 q7 q8 q9 q10 q14 q18 q22 qp
  obtain ⟨p1, p2, p3⟩ := P_phsW sgn sgn_id L c hR
  have hph : phsP sgn (by1 (dt 4 (filR L r1 r2 r3 r4 r5 r6 r7 r8))) (dt 22 (filR L r1 r2 r3 r4 r5 r6 r7 r8)) = L := by rw [q4, q22, p1]
  refine ⟨?_, hph⟩
  have hask : askN (filR L r1 r2 r3 r4 r5 r6 r7 r8) = (filR L r1 r2 r3 r4 r5 r6 r7 r8).size := by
    unfold askN
    rw [decide_eq_false (show ¬ ((filR L r1 r2 r3 r4 r5 r6 r7 r8).size : Int) < 22 by omega), q4, q22]
    have := (fit_need _ _ p3).2
    rw [p2, ba_size, hcs] at this
    show 22 + needP L.length (phsW L ++ c) = _
    omega
  have hex : (filR L r1 r2 r3 r4 r5 r6 r7 r8).extract 0 (22 + (phsW L).size) = bodR L r1 r2 r3 r4 r5 r6 r7 r8 := by
    rw [hfb]
    exact tk_app hbs
  have hsn : ((sumN (filR L r1 r2 r3 r4 r5 r6 r7 r8) : Nat) : Int) = sum32 (bodR L r1 r2 r3 r4 r5 r6 r7 r8) := by
    unfold sumN
    rw [decide_eq_false (show ¬ ((filR L r1 r2 r3 r4 r5 r6 r7 r8).size : Int) < 4 by omega), cond_false]
    have e : (filR L r1 r2 r3 r4 r5 r6 r7 r8).extract ((filR L r1 r2 r3 r4 r5 r6 r7 r8).size - 4) (filR L r1 r2 r3 r4 r5 r6 r7 r8).size = c := by
      have := dt_app (a := bodR L r1 r2 r3 r4 r5 r6 r7 r8) (b := c) hbs
      rw [← hfb] at this
      unfold dt at this
      rwa [show (filR L r1 r2 r3 r4 r5 r6 r7 r8).size - 4 = 22 + (phsW L).size by omega]
    rw [e, ← hc, num_be4]
    omega
  unfold rfE
  rw [qp, hask, hph, q5, q6, q7, q8, q9, q10, q14, q18, h, hsn, show (filR L r1 r2 r3 r4 r5 r6 r7 r8).size - 4 = 22 + (phsW L).size by omega, hex]
  simp only [Bool.not_true, cond_false, Int.lt_irrefl, gt_iff_lt, decide_false, bne_self_eq_false, beq_self_eq_true, cond_true]
end Go.Proofs.YtikekoabadhmiaaGreat

namespace Go.Proofs.YtikekoabadhmiaaGreat
open Go Go.Proofs Go.Sx
set_option linter.unusedVariables false
/-! norm -/
/-! cast -/
/-! rep [CK.sl 51 [CK0.num IntKind.i64, CK0.num IntKind.i64], .num .i64, .num .i64, .num .i64, .num .i64] => kPh -/
/-! rep (dropT (0 : Nat) (L.getD k.toNat [])) => (L.getD k.toNat []) -/
/-! rep (dropT (0 : Nat) (L2.getD k.toNat [])) => (L2.getD k.toNat []) -/
/-! rep (dropT (0 : Nat) (L.getD i.toNat [])) => (L.getD i.toNat []) -/
/-! rep (dropT (0 : Nat) (M.getD k.toNat [])) => (M.getD k.toNat []) -/
/-! repp (List.brecOn.go (motive := fun x => Nat → List Dat → List (List Dat)) M List.set._f).1 k.toNat ==> M.set k.toNat -/
/-! rep (((L.getD i.toNat []).headD (Dat.n (0 : Int))).toL) => (phA L i) -/
/-! rep ((L.getD i.toNat []).headD (Dat.n (0 : Int))).toL => (phA L i) -/
/-! rep (((L.getD i.toNat []).tail.headD (Dat.n (0 : Int))).toI) => (phG L i) -/
/-! rep ((L.getD i.toNat []).tail.headD (Dat.n (0 : Int))).toI => (phG L i) -/
/-! rep (((L.getD i.toNat []).tail.tail.headD (Dat.n (0 : Int))).toI) => (phV L i) -/
/-! rep ((L.getD i.toNat []).tail.tail.headD (Dat.n (0 : Int))).toI => (phV L i) -/
/-! rep (((L.getD i.toNat []).tail.tail.tail.headD (Dat.n (0 : Int))).toI) => (phM L i) -/
/-! rep ((L.getD i.toNat []).tail.tail.tail.headD (Dat.n (0 : Int))).toI => (phM L i) -/
/-! rep (((L.getD i.toNat []).tail.tail.tail.tail.headD (Dat.n (0 : Int))).toI) => (phU L i) -/
/-! rep ((L.getD i.toNat []).tail.tail.tail.tail.headD (Dat.n (0 : Int))).toI => (phU L i) -/
/-! rep (((L2.getD i.toNat []).headD (Dat.n (0 : Int))).toL) => (phA L2 i) -/
/-! rep ((L2.getD i.toNat []).headD (Dat.n (0 : Int))).toL => (phA L2 i) -/
/-! rep (((L2.getD i.toNat []).tail.headD (Dat.n (0 : Int))).toI) => (phG L2 i) -/
/-! rep ((L2.getD i.toNat []).tail.headD (Dat.n (0 : Int))).toI => (phG L2 i) -/
/-! rep (((L2.getD i.toNat []).tail.tail.headD (Dat.n (0 : Int))).toI) => (phV L2 i) -/
/-! rep ((L2.getD i.toNat []).tail.tail.headD (Dat.n (0 : Int))).toI => (phV L2 i) -/
/-! rep (((L2.getD i.toNat []).tail.tail.tail.headD (Dat.n (0 : Int))).toI) => (phM L2 i) -/
/-! rep ((L2.getD i.toNat []).tail.tail.tail.headD (Dat.n (0 : Int))).toI => (phM L2 i) -/
/-! rep (((L2.getD i.toNat []).tail.tail.tail.tail.headD (Dat.n (0 : Int))).toI) => (phU L2 i) -/
/-! rep ((L2.getD i.toNat []).tail.tail.tail.tail.headD (Dat.n (0 : Int))).toI => (phU L2 i) -/
/-! rep (((M.getD i.toNat []).headD (Dat.n (0 : Int))).toL) => (phA M i) -/
/-! rep ((M.getD i.toNat []).headD (Dat.n (0 : Int))).toL => (phA M i) -/
/-! rep (((M.getD i.toNat []).tail.headD (Dat.n (0 : Int))).toI) => (phG M i) -/
/-! rep ((M.getD i.toNat []).tail.headD (Dat.n (0 : Int))).toI => (phG M i) -/
/-! rep (((M.getD i.toNat []).tail.tail.headD (Dat.n (0 : Int))).toI) => (phV M i) -/
/-! rep ((M.getD i.toNat []).tail.tail.headD (Dat.n (0 : Int))).toI => (phV M i) -/
/-! rep (((M.getD i.toNat []).tail.tail.tail.headD (Dat.n (0 : Int))).toI) => (phM M i) -/
/-! rep ((M.getD i.toNat []).tail.tail.tail.headD (Dat.n (0 : Int))).toI => (phM M i) -/
/-! rep (((M.getD i.toNat []).tail.tail.tail.tail.headD (Dat.n (0 : Int))).toI) => (phU M i) -/
/-! rep ((M.getD i.toNat []).tail.tail.tail.tail.headD (Dat.n (0 : Int))).toI => (phU M i) -/
/-! rep (((L.getD k.toNat []).headD (Dat.n (0 : Int))).toL) => (phA L k) -/
/-! rep ((L.getD k.toNat []).headD (Dat.n (0 : Int))).toL => (phA L k) -/
/-! rep (((L.getD k.toNat []).tail.headD (Dat.n (0 : Int))).toI) => (phG L k) -/
/-! rep ((L.getD k.toNat []).tail.headD (Dat.n (0 : Int))).toI => (phG L k) -/
/-! rep (((L.getD k.toNat []).tail.tail.headD (Dat.n (0 : Int))).toI) => (phV L k) -/
/-! rep ((L.getD k.toNat []).tail.tail.headD (Dat.n (0 : Int))).toI => (phV L k) -/
/-! rep (((L.getD k.toNat []).tail.tail.tail.headD (Dat.n (0 : Int))).toI) => (phM L k) -/
/-! rep ((L.getD k.toNat []).tail.tail.tail.headD (Dat.n (0 : Int))).toI => (phM L k) -/
/-! rep (((L.getD k.toNat []).tail.tail.tail.tail.headD (Dat.n (0 : Int))).toI) => (phU L k) -/
/-! rep ((L.getD k.toNat []).tail.tail.tail.tail.headD (Dat.n (0 : Int))).toI => (phU L k) -/
/-! rep (((L2.getD k.toNat []).headD (Dat.n (0 : Int))).toL) => (phA L2 k) -/
/-! rep ((L2.getD k.toNat []).headD (Dat.n (0 : Int))).toL => (phA L2 k) -/
/-! rep (((L2.getD k.toNat []).tail.headD (Dat.n (0 : Int))).toI) => (phG L2 k) -/
/-! rep ((L2.getD k.toNat []).tail.headD (Dat.n (0 : Int))).toI => (phG L2 k) -/
/-! rep (((L2.getD k.toNat []).tail.tail.headD (Dat.n (0 : Int))).toI) => (phV L2 k) -/
/-! rep ((L2.getD k.toNat []).tail.tail.headD (Dat.n (0 : Int))).toI => (phV L2 k) -/
/-! rep (((L2.getD k.toNat []).tail.tail.tail.headD (Dat.n (0 : Int))).toI) => (phM L2 k) -/
/-! rep ((L2.getD k.toNat []).tail.tail.tail.headD (Dat.n (0 : Int))).toI => (phM L2 k) -/
/-! rep (((L2.getD k.toNat []).tail.tail.tail.tail.headD (Dat.n (0 : Int))).toI) => (phU L2 k) -/
/-! rep ((L2.getD k.toNat []).tail.tail.tail.tail.headD (Dat.n (0 : Int))).toI => (phU L2 k) -/
/-! rep (((M.getD k.toNat []).headD (Dat.n (0 : Int))).toL) => (phA M k) -/
/-! rep ((M.getD k.toNat []).headD (Dat.n (0 : Int))).toL => (phA M k) -/
/-! rep (((M.getD k.toNat []).tail.headD (Dat.n (0 : Int))).toI) => (phG M k) -/
/-! rep ((M.getD k.toNat []).tail.headD (Dat.n (0 : Int))).toI => (phG M k) -/
/-! rep (((M.getD k.toNat []).tail.tail.headD (Dat.n (0 : Int))).toI) => (phV M k) -/
/-! rep ((M.getD k.toNat []).tail.tail.headD (Dat.n (0 : Int))).toI => (phV M k) -/
/-! rep (((M.getD k.toNat []).tail.tail.tail.headD (Dat.n (0 : Int))).toI) => (phM M k) -/
/-! rep ((M.getD k.toNat []).tail.tail.tail.headD (Dat.n (0 : Int))).toI => (phM M k) -/
/-! rep (((M.getD k.toNat []).tail.tail.tail.tail.headD (Dat.n (0 : Int))).toI) => (phU M k) -/
/-! rep ((M.getD k.toNat []).tail.tail.tail.tail.headD (Dat.n (0 : Int))).toI => (phU M k) -/

def rfL (s : ByteArray) : List (List Dat) := bif rfE s == 0 then phsP sgn (by1 (dt 4 s)) (dt 22 s) else []
def rf1 (s : ByteArray) : Int := bif rfE s == 0 then (by1 (dt 5 s) : Int) else 0
def rf2 (s : ByteArray) : Int := bif rfE s == 0 then (by1 (dt 6 s) : Int) else 0
def rf3 (s : ByteArray) : Int := bif rfE s == 0 then (by1 (dt 7 s) : Int) else 0
def rf4 (s : ByteArray) : Int := bif rfE s == 0 then (sgn (num4s (dt 10 s)) : Int) else 0
def rf5 (s : ByteArray) : Int := bif rfE s == 0 then (sgn (num4s (dt 14 s)) : Int) else 0
def rf6 (s : ByteArray) : Int := bif rfE s == 0 then (by1 (dt 8 s) : Int) else 0
def rf7 (s : ByteArray) : Int := bif rfE s == 0 then (sgn (num4s (dt 18 s)) : Int) else 0
def rf8 (s : ByteArray) : Int := bif rfE s == 0 then (by1 (dt 9 s) : Int) else 0
theorem gRd0_at (s : ByteArray) (h1 : Nat.ble s.size 1000000 = true) (he : (rfE s == 0) = false) : gRd0 [.v (.string s)] ⟨[], [], []⟩ = some (true, .v (.tuple #[(.agg #[(Value.slice none (0 : Nat) (0 : Nat)), (I 0), (I 0), (I 0), (I 0), (I 0), (I 0), (I 0), (I 0)]), I (rfE s)]), M0) := by
  unfold gRd0
  simp only [h1, he, Bool.not_false, Bool.and_self]
theorem gRd1_at (s : ByteArray) (h1 : Nat.ble s.size 1000000 = true) (he : (rfE s == 0) = true) : gRd1 [.v (.string s)] ⟨[], [], []⟩ = some (true, .tup [.ag [.row 0, .v (I (by1 (dt 5 s) : Int)), .v (I (by1 (dt 6 s) : Int)), .v (I (by1 (dt 7 s) : Int)), .v (I (sgn (num4s (dt 10 s)) : Int)), .v (I (sgn (num4s (dt 14 s)) : Int)), .v (I (by1 (dt 8 s) : Int)), .v (I (sgn (num4s (dt 18 s)) : Int)), .v (I (by1 (dt 9 s) : Int))], .one (.v (I 0))], ⟨[], [], [rH (phsP sgn (by1 (dt 4 s)) (dt 22 s)) true false]⟩) := by
  unfold gRd1
  simp only [h1, he, Bool.and_self]
def gRdU (xs : List SV) (m : Mem) : Option (Bool × SV × Mem) :=
  match xs, m with
  | [.v (.string s)], ⟨[], [], []⟩ => some (Nat.ble s.size 1000000, .tup [.ag [.row 0, .v (I (rf1 s)), .v (I (rf2 s)), .v (I (rf3 s)), .v (I (rf4 s)), .v (I (rf5 s)), .v (I (rf6 s)), .v (I (rf7 s)), .v (I (rf8 s))], .one (.v (I (rfE s)))], ⟨[], [], [rH (rfL s) true false]⟩)
  | _, _ => none
theorem gRdU_ok : ∀ xs m r m', gRdU xs m = some (true, r, m') → CallOk Tryz.prog 21 xs m r m' := by
  intro xs m r m' h
  unfold gRdU at h
  split at h
  · rename_i s
    obtain ⟨h1, rfl, rfl⟩ := some_t2 h
    unfold rfL rf1 rf2 rf3 rf4 rf5 rf6 rf7 rf8
    cases he : rfE s == 0
    · simp only [cond_false]
      exact CallOk.nilRow (vs := [I 0, I 0, I 0, I 0, I 0, I 0, I 0, I 0]) (x := I (rfE s)) 49 kPh (by decide) (gRd0_ok _ _ _ _ (gRd0_at s h1 he))
    · have e0 : rfE s = 0 := eq_of_beq he
      simp only [cond_true]
      rw [e0]
      exact gRd1_ok _ _ _ _ (gRd1_at s h1 he)
  · cases h
noncomputable def ΓRU : Orc := addCl 21 gRdU ΓRf9
theorem OkRU : ΓRU.Ok Tryz.prog := addCl_ok OkRf9 gRdU_ok
end Go.Proofs.YtikekoabadhmiaaGreat

namespace Go.Proofs.YtikekoabadhmiaaGreat
open Go Go.Proofs Go.Sx
set_option linter.unusedVariables false
/-! Sums of 32 bits are linear. -/
theorem n32_eq (a : Nat) : n32 a = (a / 2) ^^^ (bif a.testBit 0 then 3988292384 else 0) := by
  have e : Nat.beq (a % 2) 1 = a.testBit 0 := by
    rw [Nat.testBit_zero]
    rcases Nat.mod_two_eq_zero_or_one a with h | h <;> rw [h] <;> rfl
  unfold n32
  rw [e]
  cases a.testBit 0
  · simp
  · rfl
theorem cond_xor (p q : Bool) (c : Nat) : (bif (p ^^ q) then c else 0) = (bif p then c else 0) ^^^ (bif q then c else 0) := by
  cases p <;> cases q <;> simp
theorem xor4 (a b c d : Nat) : (a ^^^ b) ^^^ (c ^^^ d) = (a ^^^ c) ^^^ (b ^^^ d) := by
  rw [Nat.xor_assoc, ← Nat.xor_assoc b c d, Nat.xor_comm b c, Nat.xor_assoc c b d, ← Nat.xor_assoc a c]
theorem n32_xor (a b : Nat) : n32 (a ^^^ b) = n32 a ^^^ n32 b := by
  rw [n32_eq a, n32_eq b, n32_eq (a ^^^ b), xor4, Nat.testBit_xor, cond_xor]
  congr 1
  apply Nat.eq_of_testBit_eq
  intro j
  rw [Nat.testBit_xor, Nat.testBit_div_two, Nat.testBit_div_two, Nat.testBit_div_two, Nat.testBit_xor]
theorem it32_xor : ∀ (k a b : Nat), it n32 k (a ^^^ b) = it n32 k a ^^^ it n32 k b
  | 0, _, _ => rfl
  | k + 1, a, b => by
    show it n32 k (n32 (a ^^^ b)) = it n32 k (n32 a) ^^^ it n32 k (n32 b)
    rw [n32_xor a b, it32_xor k]
theorem N32_xor (a b : Nat) : N32 (a ^^^ b) = N32 a ^^^ N32 b := it32_xor 8 a b
theorem it32_high : ∀ (j k : Nat), it n32 j (2 ^ j * k) = k
  | 0, k => by simp [it]
  | j + 1, k => by
    have e : n32 (2 ^ (j + 1) * k) = 2 ^ j * k := by
      have : 2 ^ (j + 1) * k = 2 * (2 ^ j * k) := by rw [Nat.pow_succ, Nat.mul_comm (2 ^ j) 2, Nat.mul_assoc]
      rw [this]
      unfold n32
      rw [show 2 * (2 ^ j * k) % 2 = 0 by omega]
      show 2 * (2 ^ j * k) / 2 = _
      omega
    show it n32 j (n32 (2 ^ (j + 1) * k)) = k
    rw [e, it32_high j k]
def p32n (x b : Nat) : Nat := N32 (x ^^^ b)
def small (B : List Nat) : Prop := ∀ b ∈ B, b < 256
theorem it_add (f : Nat → Nat) (a : Nat) : ∀ (b x : Nat), it f (a + b) x = it f a (it f b x)
  | 0, _ => rfl
  | b + 1, x => by
    show it f (a + b) (f x) = it f a (it f b (f x))
    exact it_add f a b (f x)
theorem fold32_xor : ∀ (B : List Nat) (x y : Nat), B.foldl p32n (x ^^^ y) = B.foldl p32n x ^^^ it n32 (8 * B.length) y
  | [], x, y => rfl
  | b :: B, x, y => by
    have e : p32n (x ^^^ y) b = p32n x b ^^^ N32 y := by
      unfold p32n
      rw [Nat.xor_assoc, Nat.xor_comm y, ← Nat.xor_assoc, N32_xor]
    rw [List.foldl_cons, List.foldl_cons, e, fold32_xor B, List.length_cons, show 8 * (B.length + 1) = 8 * B.length + 8 by omega, it_add]
    rfl
theorem flip32_fold (v : Nat) : ∀ (B : List Nat) (q x : Nat), q < B.length → (B.set q (B.getD q 0 ^^^ v)).foldl p32n x = B.foldl p32n x ^^^ it n32 (8 * (B.length - q)) v
  | [], _, _, h => by simp at h
  | b :: B, 0, x, _ => by
    have e : p32n x (b ^^^ v) = p32n x b ^^^ N32 v := by
      unfold p32n
      rw [← Nat.xor_assoc, N32_xor]
    show (B.foldl p32n (p32n x (b ^^^ v))) = B.foldl p32n (p32n x b) ^^^ _
    rw [e, fold32_xor B, List.length_cons, show 8 * (B.length + 1 - 0) = 8 * B.length + 8 by omega, it_add]
    rfl
  | b :: B, q + 1, x, h => by
    have := flip32_fold v B q (p32n x b) (by simpa using h)
    simpa using this
theorem down32 (r : Nat) : it n32 r (2 ^ r) = 1 := by
  have := it32_high r 1
  rwa [Nat.mul_one] at this
theorem turned32 {n a i : Nat} (hk : a + i < 8 * n) : it n32 (8 * (n - (a + i) / 8)) (2 ^ ((a + i) % 8)) = it n32 (8 * n - a) (2 ^ i) := by
  rw [show 8 * (n - (a + i) / 8) = (8 * n - (a + i)) + (a + i) % 8 by omega, show 8 * n - a = (8 * n - (a + i)) + i by omega, it_add, it_add, down32, down32]
theorem n32_zero {x : Nat} (hx : x < 4294967296) (h : n32 x = 0) : x = 0 := by
  rw [n32_eq, Nat.testBit_zero] at h
  rcases Nat.mod_two_eq_zero_or_one x with h1 | h1
  · rw [h1] at h
    simp at h
    omega
  · rw [h1] at h
    have h2 : x / 2 = 3988292384 := by
      have := congrArg (· ^^^ 3988292384) h
      simpa [Nat.xor_assoc] using this
    omega
theorem it32_zero : ∀ (k x : Nat), x < 4294967296 → it n32 k x = 0 → x = 0
  | 0, _, _, h => h
  | k + 1, x, hx, h => n32_zero hx (it32_zero k (n32 x) (n32_lt hx) h)
theorem small_set {B : List Nat} (h : small B) {q v : Nat} (hv : v < 256) : small (B.set q (B.getD q 0 ^^^ v)) := by
  intro b hb
  rcases List.mem_or_eq_of_mem_set hb with h1 | h1
  · exact h b h1
  · subst h1
    refine Nat.xor_lt_two_pow (n := 8) ?_ hv
    show B.getD q 0 < 256
    by_cases hq : q < B.length
    · have : B.getD q 0 = B[q] := by simp [List.getD, hq]
      rw [this]; exact h _ (List.getElem_mem hq)
    · have : B.getD q 0 = 0 := by simp [List.getD, List.getElem?_eq_none (by omega : B.length ≤ q)]
      rw [this]; decide
theorem pow8 {r : Nat} : 2 ^ (r % 8) < 256 := by
  have h : r % 8 < 8 := Nat.mod_lt _ (by decide)
  calc 2 ^ (r % 8) < 2 ^ 8 := Nat.pow_lt_pow_right (by decide) h
  _ = 256 := rfl
theorem getD_lt {B : List Nat} (h : small B) (q : Nat) : B.getD q 0 < 256 := by
  by_cases hq : q < B.length
  · have : B.getD q 0 = B[q] := by simp [List.getD, hq]
    rw [this]; exact h _ (List.getElem_mem hq)
  · have : B.getD q 0 = 0 := by simp [List.getD, List.getElem?_eq_none (by omega : B.length ≤ q)]
    rw [this]; decide
/-! Some of 32 neighbouring bits turned, of the first n bytes. -/
structure TB where
  q : Bool
  C : List Nat
def turn (C : List Nat) (k : Nat) : List Nat := C.set (k / 8) (C.getD (k / 8) 0 ^^^ 2 ^ (k % 8))
def stB (a t n i : Nat) (z : TB) : TB := bif t.testBit i && decide (a + i < 8 * n) then ⟨true, turn z.C (a + i)⟩ else z
def goB (a t n : Nat) : Nat → Nat → TB → TB
  | 0, _, z => z
  | j + 1, i, z => goB a t n j (i + 1) (stB a t n i z)
theorem take_turn {C : List Nat} {k n : Nat} (h : k < 8 * n) : (turn C k).take n = turn (C.take n) k := by
  unfold turn
  rw [List.take_set]
  congr 1
  rw [List.getD_eq_getElem?_getD, List.getD_eq_getElem?_getD, List.getElem?_take_of_lt (by omega)]
theorem drop_turn {C : List Nat} {k n : Nat} (h : k < 8 * n) : (turn C k).drop n = C.drop n := by
  unfold turn
  rw [List.drop_set_of_lt (by omega)]
/-- How far it is from what came in. -/
structure Far (a n i : Nat) (l : List Nat) (z : TB) (V : Nat) : Prop where
  len : z.C.length = l.length
  sm : small z.C
  tl : z.C.drop n = l.drop n
  v : V < 2 ^ i
  q : z.q = decide (V ≠ 0)
  same : z.q = false → z.C = l
  c : ∀ x, (z.C.take n).foldl p32n x = (l.take n).foldl p32n x ^^^ it n32 (8 * n - a) V
theorem stB_far {a t n i : Nat} {l : List Nat} {z : TB} {V : Nat} (hn : n ≤ l.length) (hi : i < 32) (hf : Far a n i l z V) : ∃ V', Far a n (i + 1) l (stB a t n i z) V' := by
  have hv2 : V < 2 ^ (i + 1) := Nat.lt_of_lt_of_le hf.v (Nat.pow_le_pow_right (by decide) (by omega))
  have hV : V ^^^ 2 ^ i < 2 ^ (i + 1) := Nat.xor_lt_two_pow hv2 (Nat.pow_lt_pow_right (by decide) (by omega))
  have hVz : V ^^^ 2 ^ i ≠ 0 := by
    intro h0
    have : V = 2 ^ i := by
      have := congrArg (· ^^^ 2 ^ i) h0
      simpa [Nat.xor_assoc] using this
    have := hf.v
    omega
  unfold stB
  cases hc : t.testBit i && decide (a + i < 8 * n)
  · exact ⟨V, hf.len, hf.sm, hf.tl, hv2, hf.q, hf.same, hf.c⟩
  · simp only [Bool.and_eq_true, decide_eq_true_eq] at hc
    have hk := hc.2
    refine ⟨V ^^^ 2 ^ i, ?_, small_set hf.sm pow8, ?_, hV, by simp [hVz], fun h => by simp at h, fun x => ?_⟩
    · simp only [cond_true, turn, List.length_set]; exact hf.len
    · simp only [cond_true]; rw [drop_turn hk]; exact hf.tl
    · simp only [cond_true]
      have hl : (z.C.take n).length = n := by rw [List.length_take, hf.len]; omega
      rw [take_turn hk]
      unfold turn
      rw [flip32_fold _ (z.C.take n) _ x (by omega), hf.c, hl, turned32 hk, it32_xor, Nat.xor_assoc]
theorem goB_far {a t n : Nat} {l : List Nat} (hn : n ≤ l.length) : ∀ (j i : Nat) (z : TB) (V : Nat), i + j = 32 → Far a n i l z V → ∃ V', Far a n 32 l (goB a t n j i z) V'
  | 0, i, z, V, hi, hf => by
    have : i = 32 := by omega
    subst this
    exact ⟨V, hf⟩
  | j + 1, i, z, V, hi, hf => by
    obtain ⟨V', hf'⟩ := stB_far (t := t) hn (by omega) hf
    exact goB_far hn j (i + 1) _ V' (by omega) hf'
theorem start_far {a n : Nat} {l : List Nat} (h : small l) : Far a n 0 l ⟨false, l⟩ 0 :=
  ⟨rfl, h, rfl, by decide, rfl, fun _ => rfl, fun x => by
    have : it n32 (8 * n - a) 0 = 0 := by
      generalize 8 * n - a = k
      induction k with
      | zero => rfl
      | succ k ih => exact ih
    rw [this, Nat.xor_zero]⟩
/-- What comes out: the same if nothing is turned; else another sum of the first n bytes, the rest the same. -/
theorem bits_out {a t n : Nat} {l : List Nat} (hn : n ≤ l.length) (h : small l) :
    (goB a t n 32 0 ⟨false, l⟩).C.length = l.length ∧ small (goB a t n 32 0 ⟨false, l⟩).C ∧ (goB a t n 32 0 ⟨false, l⟩).C.drop n = l.drop n ∧
    ((goB a t n 32 0 ⟨false, l⟩).q = false → (goB a t n 32 0 ⟨false, l⟩).C = l) ∧
    ((goB a t n 32 0 ⟨false, l⟩).q = true → ((goB a t n 32 0 ⟨false, l⟩).C.take n).foldl p32n 4294967295 ≠ (l.take n).foldl p32n 4294967295) := by
  obtain ⟨V, hf⟩ := goB_far (t := t) hn 32 0 ⟨false, l⟩ 0 rfl (start_far (a := a) h)
  refine ⟨hf.len, hf.sm, hf.tl, hf.same, fun hq he => ?_⟩
  rw [hf.q] at hq
  have hV := of_decide_eq_true hq
  have hc := hf.c 4294967295
  rw [he] at hc
  have hz : it n32 (8 * n - a) V = 0 := by
    have := congrArg (fun y => (l.take n).foldl p32n 4294967295 ^^^ y) hc
    simp only [Nat.xor_self] at this
    rw [← Nat.xor_assoc, Nat.xor_self, Nat.zero_xor] at this
    exact this.symm
  exact hV (it32_zero _ V (by rw [← two32]; exact hf.v) hz)
def kk (a i : Int) : Int := wI (a + i)
def dv (k : Int) : Int := wI (Int.tdiv k 8)
def rm (k : Int) : Int := Int.tmod k 8
def okR (Q : List (List Dat)) (k : Int) : Bool := decide (0 ≤ dv k) && decide (dv k < (Q.length : Int))
def on (t i : Int) : Bool := IntKind.u32.wrap (((BitVec.ofInt 32 (Int.fdiv t (2 ^ min i.toNat 32)) &&& BitVec.ofInt 32 1).toNat : Nat) : Int) == 1
def get8 (Q : List (List Dat)) (j : Nat) : Int := ((Q.getD j []).headD (.n 0)).toI
def xQ (Q : List (List Dat)) (k : Int) : List (List Dat) := Q.set (dv k).toNat [.n (IntKind.u8.wrap (((BitVec.ofInt 8 (get8 Q (dv k).toNat) ^^^ BitVec.ofInt 8 (IntKind.u8.wrap (1 * 2 ^ min (rm k).toNat 8))).toNat : Nat) : Int))]
def rU (Q : List (List Dat)) : RowS := .live ⟨5, [.num .u8], Q, true, true⟩
def rw8 (C : List Nat) : List (List Dat) := C.map fun (n : Nat) => [.n ((n : Nat) : Int)]
def nats (B : List (List Dat)) : List Nat := B.map fun l => ((l.headD (.n 0)).toI).toNat
def isU8 (l : List Dat) : Bool :=
  match l with
  | [.n x] => inN 256 x
  | _ => false
theorem rw8_length (C : List Nat) : (rw8 C).length = C.length := by simp [rw8]
theorem rw8_get (C : List Nat) (j : Nat) : get8 (rw8 C) j = ((C.getD j 0 : Nat) : Int) := by
  unfold get8 rw8
  rw [List.getD_eq_getElem?_getD, List.getD_eq_getElem?_getD, List.getElem?_map]
  cases C[j]? <;> rfl
theorem rw8_set (C : List Nat) (j v : Nat) : (rw8 C).set j [.n (v : Int)] = rw8 (C.set j v) := by
  unfold rw8
  rw [List.map_set]
theorem rw8_of : ∀ {B : List (List Dat)}, B.all isU8 = true → B = rw8 (nats B) ∧ small (nats B)
  | [], _ => ⟨rfl, fun _ h => by simp [nats] at h⟩
  | b :: B, h => by
    simp only [List.all_cons, Bool.and_eq_true] at h
    obtain ⟨h1, h2⟩ := rw8_of h.2
    have hb : ∃ n : Nat, b = [.n (n : Int)] ∧ n < 256 := by
      have := h.1
      unfold isU8 at this
      split at this
      · obtain ⟨n, rfl, hn⟩ := inN_nat this
        exact ⟨n, rfl, hn⟩
      · cases this
    obtain ⟨n, rfl, hn⟩ := hb
    refine ⟨?_, fun c hc => ?_⟩
    · conv => lhs; rw [h1]
      rfl
    · unfold nats at hc
      rw [List.map_cons, List.mem_cons] at hc
      rcases hc with rfl | hc
      · simpa [Dat.toI] using hn
      · exact h2 c hc
theorem pow_nat (r : Nat) : (2 : Int) ^ r = ((2 ^ r : Nat) : Int) := by
  rw [Int.natCast_pow]; rfl
theorem dv_nat {k : Nat} (h : k < 100000) : dv (k : Int) = ((k / 8 : Nat) : Int) := by
  unfold dv
  rw [Int.tdiv_eq_ediv_of_nonneg (by omega), wI_id (by omega)]
  omega
theorem rm_nat (k : Nat) : rm (k : Int) = ((k % 8 : Nat) : Int) := by
  unfold rm
  rw [Int.tmod_eq_emod_of_nonneg (by omega)]
  omega
theorem okR_nat {k : Nat} {C : List Nat} (h : k < 100000) (hk : k < 8 * C.length) : okR (rw8 C) (k : Int) = true := by
  unfold okR
  rw [dv_nat h, rw8_length, decide_eq_true (by omega), decide_eq_true (by omega)]
  rfl
theorem xQ_nat {k : Nat} {C : List Nat} (h : k < 100000) (hs : small C) : xQ (rw8 C) (k : Int) = rw8 (turn C k) := by
  have h1 := getD_lt hs (k / 8)
  have h2 := pow8 (r := k)
  unfold xQ turn
  rw [dv_nat h, rm_nat, Int.toNat_natCast, Int.toNat_natCast, rw8_get, show min (k % 8) 8 = k % 8 by omega, pow_nat, Int.one_mul, wrap8 (2 ^ (k % 8)), Nat.mod_eq_of_lt h2, xorB 8 _ _ h1 h2, wrap8, Nat.mod_eq_of_lt (xor_lt 8 h1 h2), rw8_set]
  rfl
theorem on_nat {t i : Nat} (ht : t < 4294967296) (hi : i < 32) : on (t : Int) (i : Int) = t.testBit i := by
  have hq : t / 2 ^ i < 2 ^ 32 := by rw [two32]; exact Nat.lt_of_le_of_lt (Nat.div_le_self _ _) ht
  unfold on
  rw [Int.toNat_natCast, show min i 32 = i by omega, pow_nat, Int.fdiv_eq_ediv_of_nonneg _ (Int.natCast_nonneg _), show ((t : Nat) : Int) / ((2 ^ i : Nat) : Int) = ((t / 2 ^ i : Nat) : Int) from (Int.natCast_ediv t _).symm, show (1 : Int) = ((1 : Nat) : Int) from rfl, andB 32 _ _ hq (by decide), wrap32, Nat.testBit_eq_decide_div_mod_eq]
  have e2 : Nat.land (t / 2 ^ i) 1 = t / 2 ^ i % 2 := Nat.and_one_is_mod _
  rw [e2]
  rcases Nat.mod_two_eq_zero_or_one (t / 2 ^ i) with h0 | h0 <;> rw [h0] <;> rfl
theorem stB_small {a t n i : Nat} {z : TB} (h : small z.C) : small (stB a t n i z).C ∧ (stB a t n i z).C.length = z.C.length := by
  unfold stB
  cases t.testBit i && decide (a + i < 8 * n)
  · exact ⟨h, rfl⟩
  · exact ⟨small_set h pow8, by simp [turn]⟩
def lN (s : ByteArray) : List Nat := (L s).map UInt8.toNat
def ofN (C : List Nat) : ByteArray := ⟨(C.map UInt8.ofNat).toArray⟩
theorem lN_small (s : ByteArray) : small (lN s) := by
  intro b hb
  obtain ⟨c, _, rfl⟩ := List.mem_map.1 hb
  exact byte_lt c
theorem lN_length (s : ByteArray) : (lN s).length = s.size := by unfold lN; rw [List.length_map, L_len]
theorem L_ofN (C : List Nat) : L (ofN C) = C.map UInt8.ofNat := by simp [L, ofN]
theorem lN_ofN {C : List Nat} (h : small C) : lN (ofN C) = C := by
  unfold lN
  rw [L_ofN, List.map_map]
  refine (List.map_congr_left (g := id) fun c hc => ?_).trans (List.map_id C)
  show (UInt8.ofNat c).toNat = c
  rw [UInt8.toNat_ofNat', Nat.mod_eq_of_lt (h c hc)]
theorem lN_inj {x y : ByteArray} (h : lN x = lN y) : x = y := by
  rw [← L_inj]
  unfold lN at h
  exact (List.map_inj_right (fun a b h => UInt8.toNat_inj.1 h)).1 h
theorem rowN_lN (s : ByteArray) : rowN (bytesL s) = rw8 (lN s) := by
  unfold rowN bytesL rw8 lN L
  rw [List.map_map, List.map_map]
  rfl
theorem nats_rw8 (C : List Nat) : nats (rw8 C) = C := by
  unfold nats rw8
  rw [List.map_map]
  refine (List.map_congr_left (g := id) fun c _ => ?_).trans (List.map_id C)
  show ((c : Int)).toNat = c
  omega
theorem str_rw8 (C : List Nat) : strOfNums (numsOf (rw8 C)) = ofN C := by
  rw [← L_inj, L_nums, L_ofN]
  unfold numsOf rw8
  rw [List.map_map, List.map_map]
  refine List.map_congr_left fun c _ => ?_
  show UInt8.ofNat ((c : Int)).toNat = UInt8.ofNat c
  rw [Int.toNat_natCast]
theorem all_rw8 {C : List Nat} (h : small C) : (rw8 C).all isU8 = true := by
  unfold rw8
  rw [List.all_map, List.all_eq_true]
  intro c hc
  exact inN_of (h c hc)
theorem F32_lN (s : ByteArray) : F32 s = (lN s).foldl p32n 4294967295 := by
  unfold F32 lN
  rw [List.foldl_map]
  rfl
theorem lN_ext (s : ByteArray) (n : Nat) : lN (s.extract 0 n) = (lN s).take n := by
  unfold lN
  rw [L_ext, List.drop_zero, List.map_take, Nat.sub_zero]
theorem lN_ext2 (s : ByteArray) (n : Nat) : lN (s.extract n s.size) = (lN s).drop n := by
  unfold lN
  rw [L_ext, List.take_of_length_le (by rw [List.length_drop, L_len]; omega), List.map_drop]
theorem sum32_inj {x y : ByteArray} (h : sum32 x = sum32 y) : F32 x = F32 y := by
  unfold sum32 at h
  have h : Nat.xor (F32 x) 4294967295 = Nat.xor (F32 y) 4294967295 := by omega
  have h2 : F32 x ^^^ 4294967295 = F32 y ^^^ 4294967295 := h
  have h3 := congrArg (· ^^^ 4294967295) h2
  simpa [Nat.xor_assoc] using h3
end Go.Proofs.YtikekoabadhmiaaGreat

namespace Go.Proofs.YtikekoabadhmiaaGreat
open Go Go.Proofs Go.Sx
set_option linter.unusedVariables false
/-! RulefileTurns: the loop that turns bits. -/
end Go.Proofs.YtikekoabadhmiaaGreat

namespace Go.Proofs.YtikekoabadhmiaaGreat
open Go Go.Proofs Go.Sx
set_option linter.unusedVariables false
/-! norm -/
/-! cast -/
/-! rep [CK.sl 51 [CK0.num IntKind.i64, CK0.num IntKind.i64], .num .i64, .num .i64, .num .i64, .num .i64] => kPh -/
/-! rep (dropT (0 : Nat) (L.getD k.toNat [])) => (L.getD k.toNat []) -/
/-! rep (dropT (0 : Nat) (L2.getD k.toNat [])) => (L2.getD k.toNat []) -/
/-! rep (dropT (0 : Nat) (L.getD i.toNat [])) => (L.getD i.toNat []) -/
/-! rep (dropT (0 : Nat) (M.getD k.toNat [])) => (M.getD k.toNat []) -/
/-! repp (List.brecOn.go (motive := fun x => Nat → List Dat → List (List Dat)) M List.set._f).1 k.toNat ==> M.set k.toNat -/
/-! rep (((L.getD i.toNat []).headD (Dat.n (0 : Int))).toL) => (phA L i) -/
/-! rep ((L.getD i.toNat []).headD (Dat.n (0 : Int))).toL => (phA L i) -/
/-! rep (((L.getD i.toNat []).tail.headD (Dat.n (0 : Int))).toI) => (phG L i) -/
/-! rep ((L.getD i.toNat []).tail.headD (Dat.n (0 : Int))).toI => (phG L i) -/
/-! rep (((L.getD i.toNat []).tail.tail.headD (Dat.n (0 : Int))).toI) => (phV L i) -/
/-! rep ((L.getD i.toNat []).tail.tail.headD (Dat.n (0 : Int))).toI => (phV L i) -/
/-! rep (((L.getD i.toNat []).tail.tail.tail.headD (Dat.n (0 : Int))).toI) => (phM L i) -/
/-! rep ((L.getD i.toNat []).tail.tail.tail.headD (Dat.n (0 : Int))).toI => (phM L i) -/
/-! rep (((L.getD i.toNat []).tail.tail.tail.tail.headD (Dat.n (0 : Int))).toI) => (phU L i) -/
/-! rep ((L.getD i.toNat []).tail.tail.tail.tail.headD (Dat.n (0 : Int))).toI => (phU L i) -/
/-! rep (((L2.getD i.toNat []).headD (Dat.n (0 : Int))).toL) => (phA L2 i) -/
/-! rep ((L2.getD i.toNat []).headD (Dat.n (0 : Int))).toL => (phA L2 i) -/
/-! rep (((L2.getD i.toNat []).tail.headD (Dat.n (0 : Int))).toI) => (phG L2 i) -/
/-! rep ((L2.getD i.toNat []).tail.headD (Dat.n (0 : Int))).toI => (phG L2 i) -/
/-! rep (((L2.getD i.toNat []).tail.tail.headD (Dat.n (0 : Int))).toI) => (phV L2 i) -/
/-! rep ((L2.getD i.toNat []).tail.tail.headD (Dat.n (0 : Int))).toI => (phV L2 i) -/
/-! rep (((L2.getD i.toNat []).tail.tail.tail.headD (Dat.n (0 : Int))).toI) => (phM L2 i) -/
/-! rep ((L2.getD i.toNat []).tail.tail.tail.headD (Dat.n (0 : Int))).toI => (phM L2 i) -/
/-! rep (((L2.getD i.toNat []).tail.tail.tail.tail.headD (Dat.n (0 : Int))).toI) => (phU L2 i) -/
/-! rep ((L2.getD i.toNat []).tail.tail.tail.tail.headD (Dat.n (0 : Int))).toI => (phU L2 i) -/
/-! rep (((M.getD i.toNat []).headD (Dat.n (0 : Int))).toL) => (phA M i) -/
/-! rep ((M.getD i.toNat []).headD (Dat.n (0 : Int))).toL => (phA M i) -/
/-! rep (((M.getD i.toNat []).tail.headD (Dat.n (0 : Int))).toI) => (phG M i) -/
/-! rep ((M.getD i.toNat []).tail.headD (Dat.n (0 : Int))).toI => (phG M i) -/
/-! rep (((M.getD i.toNat []).tail.tail.headD (Dat.n (0 : Int))).toI) => (phV M i) -/
/-! rep ((M.getD i.toNat []).tail.tail.headD (Dat.n (0 : Int))).toI => (phV M i) -/
/-! rep (((M.getD i.toNat []).tail.tail.tail.headD (Dat.n (0 : Int))).toI) => (phM M i) -/
/-! rep ((M.getD i.toNat []).tail.tail.tail.headD (Dat.n (0 : Int))).toI => (phM M i) -/
/-! rep (((M.getD i.toNat []).tail.tail.tail.tail.headD (Dat.n (0 : Int))).toI) => (phU M i) -/
/-! rep ((M.getD i.toNat []).tail.tail.tail.tail.headD (Dat.n (0 : Int))).toI => (phU M i) -/
/-! rep (((L.getD k.toNat []).headD (Dat.n (0 : Int))).toL) => (phA L k) -/
/-! rep ((L.getD k.toNat []).headD (Dat.n (0 : Int))).toL => (phA L k) -/
/-! rep (((L.getD k.toNat []).tail.headD (Dat.n (0 : Int))).toI) => (phG L k) -/
/-! rep ((L.getD k.toNat []).tail.headD (Dat.n (0 : Int))).toI => (phG L k) -/
/-! rep (((L.getD k.toNat []).tail.tail.headD (Dat.n (0 : Int))).toI) => (phV L k) -/
/-! rep ((L.getD k.toNat []).tail.tail.headD (Dat.n (0 : Int))).toI => (phV L k) -/
/-! rep (((L.getD k.toNat []).tail.tail.tail.headD (Dat.n (0 : Int))).toI) => (phM L k) -/
/-! rep ((L.getD k.toNat []).tail.tail.tail.headD (Dat.n (0 : Int))).toI => (phM L k) -/
/-! rep (((L.getD k.toNat []).tail.tail.tail.tail.headD (Dat.n (0 : Int))).toI) => (phU L k) -/
/-! rep ((L.getD k.toNat []).tail.tail.tail.tail.headD (Dat.n (0 : Int))).toI => (phU L k) -/
/-! rep (((L2.getD k.toNat []).headD (Dat.n (0 : Int))).toL) => (phA L2 k) -/
/-! rep ((L2.getD k.toNat []).headD (Dat.n (0 : Int))).toL => (phA L2 k) -/
/-! rep (((L2.getD k.toNat []).tail.headD (Dat.n (0 : Int))).toI) => (phG L2 k) -/
/-! rep ((L2.getD k.toNat []).tail.headD (Dat.n (0 : Int))).toI => (phG L2 k) -/
/-! rep (((L2.getD k.toNat []).tail.tail.headD (Dat.n (0 : Int))).toI) => (phV L2 k) -/
/-! rep ((L2.getD k.toNat []).tail.tail.headD (Dat.n (0 : Int))).toI => (phV L2 k) -/
/-! rep (((L2.getD k.toNat []).tail.tail.tail.headD (Dat.n (0 : Int))).toI) => (phM L2 k) -/
/-! rep ((L2.getD k.toNat []).tail.tail.tail.headD (Dat.n (0 : Int))).toI => (phM L2 k) -/
/-! rep (((L2.getD k.toNat []).tail.tail.tail.tail.headD (Dat.n (0 : Int))).toI) => (phU L2 k) -/
/-! rep ((L2.getD k.toNat []).tail.tail.tail.tail.headD (Dat.n (0 : Int))).toI => (phU L2 k) -/
/-! rep (((M.getD k.toNat []).headD (Dat.n (0 : Int))).toL) => (phA M k) -/
/-! rep ((M.getD k.toNat []).headD (Dat.n (0 : Int))).toL => (phA M k) -/
/-! rep (((M.getD k.toNat []).tail.headD (Dat.n (0 : Int))).toI) => (phG M k) -/
/-! rep ((M.getD k.toNat []).tail.headD (Dat.n (0 : Int))).toI => (phG M k) -/
/-! rep (((M.getD k.toNat []).tail.tail.headD (Dat.n (0 : Int))).toI) => (phV M k) -/
/-! rep ((M.getD k.toNat []).tail.tail.headD (Dat.n (0 : Int))).toI => (phV M k) -/
/-! rep (((M.getD k.toNat []).tail.tail.tail.headD (Dat.n (0 : Int))).toI) => (phM M k) -/
/-! rep ((M.getD k.toNat []).tail.tail.tail.headD (Dat.n (0 : Int))).toI => (phM M k) -/
/-! rep (((M.getD k.toNat []).tail.tail.tail.tail.headD (Dat.n (0 : Int))).toI) => (phU M k) -/
/-! rep ((M.getD k.toNat []).tail.tail.tail.tail.headD (Dat.n (0 : Int))).toI => (phU M k) -/

theorem goesT {α : Type} {a t n : Nat} (hn : n ≤ 1000) (ha : a + 32 ≤ 8 * n) (ht : t < 4294967296) (E : Nat → List (List Dat) → Int → Option α) (F : List (List Dat) → Option α)
    (hE : ∀ k B i, E (k + 1) B i = bif decide (i < 32) then
      bif decide (i < 0) then none
      else bif on t i then
          bif okR B (kk a i) then bif decide (rm (kk a i) < 0) then none
          else bif okR B (kk a i) then E k (xQ B (kk a i)) (wI (i + 1))
          else none else none
      else E k B (wI (i + 1))
    else F B) : ∀ (j i : Nat) (z : TB), i + j = 32 → small z.C → n ≤ z.C.length → E (j + 1) (rw8 z.C) (i : Int) = F (rw8 (goB a t n j i z).C) := by
  intro j
  induction j with
  | zero =>
    intro i z hi h hl
    have : i = 32 := by omega
    subst this
    rw [hE]
    rfl
  | succ j ih =>
    intro i z hi h hl
    have hi' : i < 32 := by omega
    have hs := stB_small (a := a) (t := t) (n := n) (i := i) h
    have hih := ih (i + 1) (stB a t n i z) (by omega) hs.1 (by omega)
    show _ = F (rw8 (goB a t n j (i + 1) (stB a t n i z)).C)
    have hkk : kk (a : Int) (i : Int) = ((a + i : Nat) : Int) := by unfold kk; rw [wI_id (by omega)]; omega
    rw [← hih, hE, decide_eq_true (show (i : Int) < 32 by omega), decide_eq_false (show ¬ (i : Int) < 0 by omega), wI_id (n := (i : Int) + 1) (by omega), on_nat ht hi', hkk, show (i : Int) + 1 = ((i + 1 : Nat) : Int) by omega]
    simp only [cond_true, cond_false]
    unfold stB
    cases hb : t.testBit i
    · rfl
    · rw [decide_eq_true (show a + i < 8 * n by omega), okR_nat (by omega) (by omega), rm_nat, decide_eq_false (show ¬ (((a + i) % 8 : Nat) : Int) < 0 by omega), xQ_nat (by omega) h]
      rfl
def gTu (t a i : Int) (Q : List (List Dat)) : Bool := i == 0 && (inN 8000 a && (in32 t && (Q.all isU8 && (Nat.ble (a.toNat + 64) (8 * Q.length) && Nat.ble Q.length 1000))))
def zTu (t a : Int) (Q : List (List Dat)) : List (List Dat) := rw8 (goB a.toNat t.toNat (Q.length - 4) 32 0 ⟨false, nats Q⟩).C
end Go.Proofs.YtikekoabadhmiaaGreat

namespace Go.Proofs.YtikekoabadhmiaaGreat
open Go Go.Proofs Go.Sx
set_option linter.unusedVariables false
theorem tk_tk (a b : Nat) (h : a ≤ b) (s : ByteArray) : (s.extract 0 b).extract 0 a = s.extract 0 a := by
  rw [← L_inj, L_ext, L_ext, L_ext, List.drop_zero, List.drop_zero, List.take_take]
  congr 1
  omega
theorem pfx_4 {s : ByteArray} (h : 4 ≤ s.size) : pfxB s = (s.extract 0 4 == mkA) := by
  unfold pfxB hasP
  have e : (if (4 : Int) < (s.size : Int) then (4 : Int) else (s.size : Int)).toNat = 4 := by split <;> omega
  rw [e, beq_TS, show (mkA.extract 0 4).size = 4 from rfl, decide_eq_true (show (s.size : Int) ≥ ((4 : Nat) : Int) by omega), show mkA.extract 0 4 = mkA from rfl]
  rfl
theorem rest4 {s : ByteArray} (h : rfE s = 0) : (restP (by1 (dt 4 s)) (dt 22 s)).size = 4 := by
  obtain ⟨h26, hp, hf, he, hsum, hw⟩ := rf_ok h
  obtain ⟨k, hk, hk2⟩ := restP_dt _ _ hf
  have : (restP (by1 (dt 4 s)) (dt 22 s)).size ≤ s.size := by rw [hk, dt_size, dt_size]; omega
  unfold endN at he
  omega
/-- Bytes that are turned behind the first five and ahead of the phases, and have another sum: the sum doesn't hold. -/
theorem turned_sum {s x : ByteArray} (h : rfE s = 0) (hz : x.size = s.size) (h5 : x.extract 0 5 = s.extract 0 5) (h22 : dt 22 x = dt 22 s) (hs : sum32 (x.extract 0 (s.size - 4)) ≠ sum32 (s.extract 0 (s.size - 4))) : rfE x = 4 := by
  obtain ⟨h26, hp, hf, he, hsum, hw⟩ := rf_ok h
  have hp2 : pfxB x = true := by
    rw [pfx_4 (by omega), ← tk_tk 4 5 (by omega) x, h5, tk_tk 4 5 (by omega), ← pfx_4 (by omega)]
    exact hp
  have hb : by1 (dt 4 x) = by1 (dt 4 s) := by
    unfold by1
    rw [ext_dt 0 1 4 x (by omega), ext_dt 0 1 4 s (by omega)]
    have : ∀ y : ByteArray, y.extract (4 + 0) (4 + 1) = (y.extract 0 5).extract 4 5 := fun y => by
      rw [← L_inj, L_ext, L_ext, L_ext, List.drop_zero, List.drop_take, List.take_take]
      rfl
    rw [this x, this s, h5]
  have ha : askN x = s.size := by
    unfold askN
    rw [hz, decide_eq_false (show ¬ (s.size : Int) < 22 by omega), hb, h22]
    have := (fit_need _ _ hf).2
    rw [rest4 h, dt_size] at this
    show 22 + _ = _
    omega
  have hsn : ((sumN x : Nat) : Int) = sum32 (s.extract 0 (s.size - 4)) := by
    rw [show s.size - 4 = endN s by omega, hsum, ← sum_end he]
    unfold sumN
    rw [hz, decide_eq_false (show ¬ (s.size : Int) < 4 by omega)]
    have : ∀ y : ByteArray, y.size = s.size → y.extract (s.size - 4) s.size = dt (s.size - 26) (dt 22 y) := fun y hy => by
      rw [dt_dt, show 22 + (s.size - 26) = s.size - 4 by omega]
      unfold dt
      rw [hy]
    rw [this x hz, this s rfl, h22]
  unfold rfE
  rw [hp2, ha, hz, hsn, decide_eq_false (show ¬ (s.size : Int) < (s.size : Int) by omega), show (sum32 (x.extract 0 (s.size - 4)) != sum32 (s.extract 0 (s.size - 4))) = true from bne_iff_ne.2 hs]
  rfl
/-! What is turned, and what isn't. -/
theorem stB_get {a t n i p : Nat} {z : TB} (hp : p ≠ (a + i) / 8) : (stB a t n i z).C[p]? = z.C[p]? := by
  unfold stB
  cases t.testBit i && decide (a + i < 8 * n)
  · rfl
  · show (turn z.C (a + i))[p]? = _
    unfold turn
    rw [List.getElem?_set_ne (by omega)]
theorem goB_get {a t n p : Nat} (hp : p < a / 8 ∨ (a + 31) / 8 < p) : ∀ (j i : Nat) (z : TB), i + j = 32 → (goB a t n j i z).C[p]? = z.C[p]?
  | 0, _, _, _ => rfl
  | j + 1, i, z, h => by
    show (goB a t n j (i + 1) (stB a t n i z)).C[p]? = _
    rw [goB_get hp j (i + 1) _ (by omega), stB_get (by omega)]
theorem stB_q {a t n i : Nat} {z : TB} (h : z.q = true) : (stB a t n i z).q = true := by
  unfold stB
  cases t.testBit i && decide (a + i < 8 * n)
  · exact h
  · rfl
theorem goB_q1 {a t n : Nat} : ∀ (j i : Nat) (z : TB), z.q = true → (goB a t n j i z).q = true
  | 0, _, _, h => h
  | j + 1, i, z, h => goB_q1 j (i + 1) _ (stB_q h)
theorem goB_q {a t n : Nat} (ha : a + 32 ≤ 8 * n) : ∀ (j i : Nat) (z : TB), i + j = 32 → (∃ k, i ≤ k ∧ k < 32 ∧ t.testBit k = true) → (goB a t n j i z).q = true
  | 0, i, z, h, ⟨k, h1, h2, _⟩ => by omega
  | j + 1, i, z, h, ⟨k, h1, h2, h3⟩ => by
    show (goB a t n j (i + 1) (stB a t n i z)).q = true
    by_cases e : k = i
    · subst e
      refine goB_q1 _ _ _ ?_
      unfold stB
      rw [h3, decide_eq_true (show a + k < 8 * n by omega)]
      rfl
    · exact goB_q ha j (i + 1) _ (by omega) ⟨k, by omega, h2, h3⟩
theorem bit_of {t : Nat} (h0 : t ≠ 0) (h : t < 4294967296) : ∃ k, 0 ≤ k ∧ k < 32 ∧ t.testBit k = true := by
  obtain ⟨k, hk⟩ := Nat.exists_testBit_of_ne_zero h0
  refine ⟨k, Nat.zero_le _, ?_, hk⟩
  rcases Nat.lt_or_ge k 32 with h1 | h1
  · exact h1
  · have : t < 2 ^ k := Nat.lt_of_lt_of_le h (by
      calc 4294967296 = 2 ^ 32 := by decide
      _ ≤ 2 ^ k := Nat.pow_le_pow_right (by decide) h1)
    rw [Nat.testBit_lt_two_pow this] at hk
    cases hk
theorem turns_4 {s : ByteArray} (h : rfE s = 0) {a t : Nat} (ha : 40 ≤ a ∧ a ≤ 128) (ht0 : t ≠ 0) (ht : t < 4294967296) (hs : 30 ≤ s.size) : rfE (ofN (goB a t (s.size - 4) 32 0 ⟨false, lN s⟩).C) = 4 := by
  have hll := lN_length s
  obtain ⟨b1, b2, b3, b4, b5⟩ := bits_out (a := a) (t := t) (n := s.size - 4) (l := lN s) (by omega) (lN_small s)
  have hq := goB_q (a := a) (t := t) (n := s.size - 4) (by omega) 32 0 ⟨false, lN s⟩ rfl (bit_of ht0 ht)
  have hd := b5 hq
  have hget : ∀ p, p < a / 8 ∨ (a + 31) / 8 < p → (goB a t (s.size - 4) 32 0 ⟨false, lN s⟩).C[p]? = (lN s)[p]? := fun p hp => goB_get hp 32 0 _ rfl
  generalize (goB a t (s.size - 4) 32 0 ⟨false, lN s⟩).C = C at *
  have hz : (ofN C).size = s.size := by rw [← lN_length, lN_ofN b2, b1, hll]
  refine turned_sum h hz (lN_inj ?_) (lN_inj ?_) ?_
  · rw [lN_ext, lN_ext, lN_ofN b2]
    apply List.ext_getElem?
    intro i
    by_cases hi : i < 5
    · rw [List.getElem?_take_of_lt hi, List.getElem?_take_of_lt hi, hget i (by omega)]
    · rw [List.getElem?_eq_none (by rw [List.length_take]; omega), List.getElem?_eq_none (by rw [List.length_take]; omega)]
  · unfold dt
    rw [lN_ext2, lN_ext2, lN_ofN b2]
    apply List.ext_getElem?
    intro i
    rw [List.getElem?_drop, List.getElem?_drop, hget (22 + i) (by omega)]
  · intro e
    refine hd ?_
    have e2 := sum32_inj e
    rw [F32_lN, F32_lN, lN_ext, lN_ext, lN_ofN b2] at e2
    exact e2
end Go.Proofs.YtikekoabadhmiaaGreat

namespace Go.Proofs.YtikekoabadhmiaaGreat
open Go Go.Proofs Go.Sx Go.RowKit Go.Joins Go.ChangeShapes Go.WideShapes
set_option linter.unusedVariables false
theorem be_u64 (x : Int) : IntKind.u64.wrap x = x % 18446744073709551616 := by rw [← wr_eq true]; rfl
theorem rem_at (a : Int) (m : Nat) (h0 : 0 < m) (h : m ≤ 8000) : ∃ j : Nat, j < m ∧ wI (Int.tmod (IntKind.u64.wrap a) (IntKind.u64.wrap (m : Int))) = (j : Int) := by
  have e : IntKind.u64.wrap (m : Int) = (m : Int) := by rw [be_u64]; omega
  have h1 : 0 ≤ IntKind.u64.wrap a := by rw [be_u64]; omega
  rw [e, Int.tmod_eq_emod_of_nonneg h1]
  have h2 := Int.emod_nonneg (IntKind.u64.wrap a) (show (m : Int) ≠ 0 by omega)
  have h3 := Int.emod_lt_of_pos (IntKind.u64.wrap a) (show (0 : Int) < (m : Int) by omega)
  rw [wI_id (by omega)]
  exact ⟨(IntKind.u64.wrap a % (m : Int)).toNat, by omega, by omega⟩
/-- Parts that are the same tell the same rules. -/
theorem fil_all {L : List (List Dat)} {r1 r2 r3 r4 r5 r6 r7 r8 : Int} (hw : ∀ o ∈ L, WfN kPh o) (h : wrB L r1 r2 r3 r4 r5 r6 r7 r8 = 0) :
    (by1 (dt 5 (filR L r1 r2 r3 r4 r5 r6 r7 r8)) : Int) = r1 ∧ (by1 (dt 6 (filR L r1 r2 r3 r4 r5 r6 r7 r8)) : Int) = r2 ∧ (by1 (dt 7 (filR L r1 r2 r3 r4 r5 r6 r7 r8)) : Int) = r3 ∧ sgn (num4s (dt 10 (filR L r1 r2 r3 r4 r5 r6 r7 r8))) = r4 ∧ sgn (num4s (dt 14 (filR L r1 r2 r3 r4 r5 r6 r7 r8))) = r5 ∧ (by1 (dt 8 (filR L r1 r2 r3 r4 r5 r6 r7 r8)) : Int) = r6 ∧ sgn (num4s (dt 18 (filR L r1 r2 r3 r4 r5 r6 r7 r8))) = r7 ∧ (by1 (dt 9 (filR L r1 r2 r3 r4 r5 r6 r7 r8)) : Int) = r8 := by
  rw [filR_is]
  obtain ⟨q4, q5, q6, q7, q8, q9, q10, q14, q18, q22, qp⟩ := body_rd hw h (phsW L ++ be 4 (sum32 (bodR L r1 r2 r3 r4 r5 r6 r7 r8)))
  exact ⟨q5, q6, q7, q10, q14, q8, q18, q9⟩
theorem few_gets {L : List (List Dat)} (hw : ∀ o ∈ L, WfN kPh o) (h : fewB L = true) : phOk L = true ∧ Nat.ble L.length 1000 = true := by
  obtain ⟨h1, h2⟩ := few_ok h hw
  exact ⟨h1, Nat.ble_eq_true_of_le (by omega)⟩
theorem in32_wf {x : Int} (h : (Lit.int .u32 x).wf = true) : in32 x = true := by
  have h := (Lit.wf_int_iff .u32 x).1 h
  have e1 : IntKind.u32.min = 0 := by decide
  have e2 : IntKind.u32.max = 4294967295 := by decide
  rw [e1, e2] at h
  obtain ⟨n, rfl⟩ : ∃ n : Nat, x = (n : Int) := ⟨x.toNat, by omega⟩
  exact inN_of (by omega)
theorem phsW_ge {L : List (List Dat)} (h : 1 ≤ (L.length : Int)) : 14 ≤ (phsW L).size := by
  cases L with
  | nil => simp at h
  | cons l R =>
    rw [phsW, ba_size, ba_size, phW_size]
    omega
/-! the laws' forms -/
end Go.Proofs.YtikekoabadhmiaaGreat

