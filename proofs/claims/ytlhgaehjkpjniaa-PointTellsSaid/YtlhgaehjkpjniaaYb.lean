/-
  The six laws of point over values.
-/
import Derived.Test.YtlhgaehjkpjniaaYa
import Derived.Test.YtlhgaehjkpjniaaSx
import Derived.Test.YtlhgaehjkpjniaaSw
namespace Go.Proofs.Ytlhgaehjkpjniaa
open Go Go.Proofs Go.Sx
set_option linter.unusedVariables false
/-! norm -/

set_option maxRecDepth 40000 in
theorem treePointTells (a1 a2 b1 b2 c1 c2 d1 d2 : Int) : runG ΓPx L0 Try.prog Try.f11 [.v (.agg #[I a1, I a2]), .v (.agg #[I b1, I b2]), .v (.agg #[I c1, I c2]), .v (.agg #[I d1, I d2])] M0 = 
    (bif plR a1 a2 == plR a1 a2 then (bif turnI a1 a2 b1 b2 c1 c2 == turnI a1 a2 b1 b2 c1 c2 then (bif onB a1 a2 b1 b2 c1 c2 == onB a1 a2 b1 b2 c1 c2 then some (.v (Bo (meetB a1 a2 b1 b2 c1 c2 d1 d2 == meetB a1 a2 b1 b2 c1 c2 d1 d2)), M0) else some (.v (Bo false), M0)) else some (.v (Bo false), M0)) else some (.v (Bo false), M0)) := by kernel_rfl
set_option maxRecDepth 40000 in
theorem treePointTurns (a1 a2 b1 b2 c1 c2 : Int) : runG ΓPx L0 Try.prog Try.f12 [.v (.agg #[I a1, I a2]), .v (.agg #[I b1, I b2]), .v (.agg #[I c1, I c2])] M0 = 
    (bif turnI b1 b2 c1 c2 a1 a2 == turnI a1 a2 b1 b2 c1 c2 then (bif turnI c1 c2 b1 b2 a1 a2 == wI ((0 : Int) - turnI a1 a2 b1 b2 c1 c2) then (bif turnI a1 a2 a1 a2 b1 b2 == (0 : Int) then some (.v (Bo (turnI a1 a2 b1 b2 b1 b2 == (0 : Int))), M0) else some (.v (Bo false), M0)) else some (.v (Bo false), M0)) else some (.v (Bo false), M0)) := by kernel_rfl
set_option maxRecDepth 40000 in
theorem treePointMeets (a1 a2 b1 b2 c1 c2 d1 d2 : Int) : runG ΓPx L0 Try.prog Try.f14 [.v (.agg #[I a1, I a2]), .v (.agg #[I b1, I b2]), .v (.agg #[I c1, I c2]), .v (.agg #[I d1, I d2])] M0 = 
    (bif !meetB a1 a2 b1 b2 c1 c2 d1 d2 == meetB c1 c2 d1 d2 a1 a2 b1 b2 then some (.v (Bo false), M0) else (bif !meetB a1 a2 b1 b2 c1 c2 d1 d2 == meetB b1 b2 a1 a2 c1 c2 d1 d2 then some (.v (Bo false), M0) else (bif !meetB a1 a2 b1 b2 c1 c2 d1 d2 == meetB a1 a2 b1 b2 d1 d2 c1 c2 then some (.v (Bo false), M0) else (bif !plR a1 a2 then some (.v (Bo true), M0) else (bif !plR b1 b2 then some (.v (Bo true), M0) else (bif !plR c1 c2 then some (.v (Bo true), M0) else (bif meetB a1 a2 b1 b2 a1 a2 b1 b2 then (bif onB a1 a2 a1 a2 b1 b2 then (bif onB b1 b2 a1 a2 b1 b2 then some (.v (Bo (meetB a1 a2 b1 b2 c1 c2 c1 c2 == onB c1 c2 a1 a2 b1 b2)), M0) else some (.v (Bo false), M0)) else some (.v (Bo false), M0)) else some (.v (Bo false), M0)))))))) := by kernel_rfl
set_option maxRecDepth 40000 in
theorem treePointMoves (a1 a2 b1 b2 c1 c2 d1 d2 x y : Int) : runG ΓPx L0 Try.prog Try.f13 [.v (.agg #[I a1, I a2]), .v (.agg #[I b1, I b2]), .v (.agg #[I c1, I c2]), .v (.agg #[I d1, I d2]), .v (I x), .v (I y)] M0 = 
    (bif inI a1 && (inI a2 && (inI x && inI y)) then (bif !moveB a1 a2 x y then some (.v (Bo true), M0) else (bif inI (bif moveB a1 a2 x y then a1 + x else (0 : Int)) && (inI (bif moveB a1 a2 x y then a2 + y else (0 : Int)) && (inI (wI ((0 : Int) - x)) && inI (wI ((0 : Int) - y)))) then (bif !moveB (bif moveB a1 a2 x y then a1 + x else (0 : Int)) (bif moveB a1 a2 x y then a2 + y else (0 : Int)) (wI ((0 : Int) - x)) (wI ((0 : Int) - y)) then some (.v (Bo false), M0) else (bif !((bif moveB (bif moveB a1 a2 x y then a1 + x else (0 : Int)) (bif moveB a1 a2 x y then a2 + y else (0 : Int)) (wI ((0 : Int) - x)) (wI ((0 : Int) - y)) then (bif moveB a1 a2 x y then a1 + x else (0 : Int)) + wI ((0 : Int) - x) else (0 : Int)) == a1 && ((bif moveB (bif moveB a1 a2 x y then a1 + x else (0 : Int)) (bif moveB a1 a2 x y then a2 + y else (0 : Int)) (wI ((0 : Int) - x)) (wI ((0 : Int) - y)) then (bif moveB a1 a2 x y then a2 + y else (0 : Int)) + wI ((0 : Int) - y) else (0 : Int)) == a2 && true)) then some (.v (Bo false), M0) else (bif inI b1 && (inI b2 && (inI x && inI y)) then (bif !moveB b1 b2 x y then some (.v (Bo true), M0) else (bif inI (bif moveB b1 b2 x y then b1 + x else (0 : Int)) && (inI (bif moveB b1 b2 x y then b2 + y else (0 : Int)) && (inI (wI ((0 : Int) - x)) && inI (wI ((0 : Int) - y)))) then (bif !moveB (bif moveB b1 b2 x y then b1 + x else (0 : Int)) (bif moveB b1 b2 x y then b2 + y else (0 : Int)) (wI ((0 : Int) - x)) (wI ((0 : Int) - y)) then some (.v (Bo false), M0) else (bif !((bif moveB (bif moveB b1 b2 x y then b1 + x else (0 : Int)) (bif moveB b1 b2 x y then b2 + y else (0 : Int)) (wI ((0 : Int) - x)) (wI ((0 : Int) - y)) then (bif moveB b1 b2 x y then b1 + x else (0 : Int)) + wI ((0 : Int) - x) else (0 : Int)) == b1 && ((bif moveB (bif moveB b1 b2 x y then b1 + x else (0 : Int)) (bif moveB b1 b2 x y then b2 + y else (0 : Int)) (wI ((0 : Int) - x)) (wI ((0 : Int) - y)) then (bif moveB b1 b2 x y then b2 + y else (0 : Int)) + wI ((0 : Int) - y) else (0 : Int)) == b2 && true)) then some (.v (Bo false), M0) else (bif inI c1 && (inI c2 && (inI x && inI y)) then (bif !moveB c1 c2 x y then some (.v (Bo true), M0) else (bif inI (bif moveB c1 c2 x y then c1 + x else (0 : Int)) && (inI (bif moveB c1 c2 x y then c2 + y else (0 : Int)) && (inI (wI ((0 : Int) - x)) && inI (wI ((0 : Int) - y)))) then (bif !moveB (bif moveB c1 c2 x y then c1 + x else (0 : Int)) (bif moveB c1 c2 x y then c2 + y else (0 : Int)) (wI ((0 : Int) - x)) (wI ((0 : Int) - y)) then some (.v (Bo false), M0) else (bif !((bif moveB (bif moveB c1 c2 x y then c1 + x else (0 : Int)) (bif moveB c1 c2 x y then c2 + y else (0 : Int)) (wI ((0 : Int) - x)) (wI ((0 : Int) - y)) then (bif moveB c1 c2 x y then c1 + x else (0 : Int)) + wI ((0 : Int) - x) else (0 : Int)) == c1 && ((bif moveB (bif moveB c1 c2 x y then c1 + x else (0 : Int)) (bif moveB c1 c2 x y then c2 + y else (0 : Int)) (wI ((0 : Int) - x)) (wI ((0 : Int) - y)) then (bif moveB c1 c2 x y then c2 + y else (0 : Int)) + wI ((0 : Int) - y) else (0 : Int)) == c2 && true)) then some (.v (Bo false), M0) else (bif inI d1 && (inI d2 && (inI x && inI y)) then (bif !moveB d1 d2 x y then some (.v (Bo true), M0) else (bif inI (bif moveB d1 d2 x y then d1 + x else (0 : Int)) && (inI (bif moveB d1 d2 x y then d2 + y else (0 : Int)) && (inI (wI ((0 : Int) - x)) && inI (wI ((0 : Int) - y)))) then (bif !moveB (bif moveB d1 d2 x y then d1 + x else (0 : Int)) (bif moveB d1 d2 x y then d2 + y else (0 : Int)) (wI ((0 : Int) - x)) (wI ((0 : Int) - y)) then some (.v (Bo false), M0) else (bif !((bif moveB (bif moveB d1 d2 x y then d1 + x else (0 : Int)) (bif moveB d1 d2 x y then d2 + y else (0 : Int)) (wI ((0 : Int) - x)) (wI ((0 : Int) - y)) then (bif moveB d1 d2 x y then d1 + x else (0 : Int)) + wI ((0 : Int) - x) else (0 : Int)) == d1 && ((bif moveB (bif moveB d1 d2 x y then d1 + x else (0 : Int)) (bif moveB d1 d2 x y then d2 + y else (0 : Int)) (wI ((0 : Int) - x)) (wI ((0 : Int) - y)) then (bif moveB d1 d2 x y then d2 + y else (0 : Int)) + wI ((0 : Int) - y) else (0 : Int)) == d2 && true)) then some (.v (Bo false), M0) else (bif turnI a1 a2 b1 b2 c1 c2 == turnI (bif moveB a1 a2 x y then a1 + x else (0 : Int)) (bif moveB a1 a2 x y then a2 + y else (0 : Int)) (bif moveB b1 b2 x y then b1 + x else (0 : Int)) (bif moveB b1 b2 x y then b2 + y else (0 : Int)) (bif moveB c1 c2 x y then c1 + x else (0 : Int)) (bif moveB c1 c2 x y then c2 + y else (0 : Int)) then (bif onB a1 a2 b1 b2 c1 c2 == onB (bif moveB a1 a2 x y then a1 + x else (0 : Int)) (bif moveB a1 a2 x y then a2 + y else (0 : Int)) (bif moveB b1 b2 x y then b1 + x else (0 : Int)) (bif moveB b1 b2 x y then b2 + y else (0 : Int)) (bif moveB c1 c2 x y then c1 + x else (0 : Int)) (bif moveB c1 c2 x y then c2 + y else (0 : Int)) then some (.v (Bo (meetB a1 a2 b1 b2 c1 c2 d1 d2 == meetB (bif moveB a1 a2 x y then a1 + x else (0 : Int)) (bif moveB a1 a2 x y then a2 + y else (0 : Int)) (bif moveB b1 b2 x y then b1 + x else (0 : Int)) (bif moveB b1 b2 x y then b2 + y else (0 : Int)) (bif moveB c1 c2 x y then c1 + x else (0 : Int)) (bif moveB c1 c2 x y then c2 + y else (0 : Int)) (bif moveB d1 d2 x y then d1 + x else (0 : Int)) (bif moveB d1 d2 x y then d2 + y else (0 : Int)))), M0) else some (.v (Bo false), M0)) else some (.v (Bo false), M0)))) else none)) else none))) else none)) else none))) else none)) else none))) else none)) else none) := by kernel_rfl
set_option maxRecDepth 40000 in
theorem treePointMirror (a1 a2 b1 b2 c1 c2 d1 d2 : Int) : runG ΓPx L0 Try.prog Try.f15 [.v (.agg #[I a1, I a2]), .v (.agg #[I b1, I b2]), .v (.agg #[I c1, I c2]), .v (.agg #[I d1, I d2])] M0 = 
    (bif !plR a1 a2 then some (.v (Bo true), M0) else (bif !plR b1 b2 then some (.v (Bo true), M0) else (bif !plR c1 c2 then some (.v (Bo true), M0) else (bif !plR d1 d2 then some (.v (Bo true), M0) else (bif turnI (wI ((0 : Int) - a1)) a2 (wI ((0 : Int) - b1)) b2 (wI ((0 : Int) - c1)) c2 == wI ((0 : Int) - turnI a1 a2 b1 b2 c1 c2) then (bif meetB (wI ((0 : Int) - a1)) a2 (wI ((0 : Int) - b1)) b2 (wI ((0 : Int) - c1)) c2 (wI ((0 : Int) - d1)) d2 == meetB a1 a2 b1 b2 c1 c2 d1 d2 then (bif turnI (wI ((0 : Int) - a2)) a1 (wI ((0 : Int) - b2)) b1 (wI ((0 : Int) - c2)) c1 == turnI a1 a2 b1 b2 c1 c2 then some (.v (Bo (meetB (wI ((0 : Int) - a2)) a1 (wI ((0 : Int) - b2)) b1 (wI ((0 : Int) - c2)) c1 (wI ((0 : Int) - d2)) d1 == meetB a1 a2 b1 b2 c1 c2 d1 d2)), M0) else some (.v (Bo false), M0)) else some (.v (Bo false), M0)) else some (.v (Bo false), M0)))))) := by kernel_rfl
theorem i64R {a : Int} (h : (Lit.int .i64 a).wf = true) : inI a = true := by
  rw [inI_iff]
  have h' : IntKind.i64.min ≤ a ∧ a ≤ IntKind.i64.max := by simpa [Lit.wf] using h
  have e1 : IntKind.i64.min = -9223372036854775808 := by decide
  have e2 : IntKind.i64.max = 9223372036854775807 := by decide
  omega
abbrev ksPt : List CK := [.num .i64, .num .i64]
theorem pt_is {l : List Dat} (h : WfL ksPt l) : ∃ a b, l = [.n a, .n b] ∧ inI a = true ∧ inI b = true := by
  match l, h with
  | [.n a, .n b], h => exact ⟨a, b, rfl, i64R h.1, i64R h.2.1⟩
theorem pointTells (a1 a2 b1 b2 c1 c2 d1 d2 : Int) : runG ΓPx L0 Try.prog Try.f11 [.v (.agg #[I a1, I a2]), .v (.agg #[I b1, I b2]), .v (.agg #[I c1, I c2]), .v (.agg #[I d1, I d2])] M0 = some (.v (.bool true), M0) := (treePointTells a1 a2 b1 b2 c1 c2 d1 d2).trans (by rw [beq_self_eq_true, beq_self_eq_true, beq_self_eq_true, beq_self_eq_true]; rfl)
theorem neg_turn (a1 a2 b1 b2 c1 c2 : Int) : wI (0 - turnI a1 a2 b1 b2 c1 c2) = - turnI a1 a2 b1 b2 c1 c2 := by
  have := turnI_bd a1 a2 b1 b2 c1 c2
  rw [wI_id (by omega)]; omega
theorem pointTurns (a1 a2 b1 b2 c1 c2 : Int) : runG ΓPx L0 Try.prog Try.f12 [.v (.agg #[I a1, I a2]), .v (.agg #[I b1, I b2]), .v (.agg #[I c1, I c2])] M0 = some (.v (.bool true), M0) := (treePointTurns a1 a2 b1 b2 c1 c2).trans (by
  rw [turn_next a1 a2 b1 b2 c1 c2, turn_other a1 a2 b1 b2 c1 c2, neg_turn, turn_aab, turn_abb, beq_self_eq_true, beq_self_eq_true]; rfl)
theorem pointMeets (a1 a2 b1 b2 c1 c2 d1 d2 : Int) : runG ΓPx L0 Try.prog Try.f14 [.v (.agg #[I a1, I a2]), .v (.agg #[I b1, I b2]), .v (.agg #[I c1, I c2]), .v (.agg #[I d1, I d2])] M0 = some (.v (.bool true), M0) := (treePointMeets a1 a2 b1 b2 c1 c2 d1 d2).trans (by
  rw [meet_swap a1 a2 b1 b2 c1 c2 d1 d2, meet_back a1 a2 b1 b2 c1 c2 d1 d2, meet_back2 a1 a2 b1 b2 c1 c2 d1 d2, beq_self_eq_true]
  cases ha : plR a1 a2
  · rfl
  cases hb : plR b1 b2
  · rfl
  cases hc : plR c1 c2
  · rfl
  rw [meet_self ha hb, on_first ha hb, on_last ha hb, meet_one ha hb hc, beq_self_eq_true]
  rfl)
theorem mv {a1 a2 x y : Int} (h : moveB a1 a2 x y = true) : plR a1 a2 = true ∧ plR (a1 + x) (a2 + y) = true ∧ inI (a1 + x) = true ∧ inI (a2 + y) = true ∧ wI (0 - x) = -x ∧ wI (0 - y) = -y ∧ inI (-x) = true ∧ inI (-y) = true ∧ moveB (a1 + x) (a2 + y) (-x) (-y) = true ∧ a1 + x + -x = a1 ∧ a2 + y + -y = a2 := by
  have h' := h
  unfold moveB at h'
  rw [Bool.and_eq_true] at h'
  obtain ⟨h1, h2⟩ := h'
  have p1 := plR_iff.1 h1
  have p2 := plR_iff.1 h2
  refine ⟨h1, h2, inI_iff.2 (by omega), inI_iff.2 (by omega), by rw [wI_id (by omega)]; omega, by rw [wI_id (by omega)]; omega, inI_iff.2 (by omega), inI_iff.2 (by omega), ?_, by omega, by omega⟩
  unfold moveB
  rw [h2, show a1 + x + -x = a1 by omega, show a2 + y + -y = a2 by omega, h1]
  rfl
theorem pointMoves (a1 a2 b1 b2 c1 c2 d1 d2 x y : Int) (u1 : inI a1 = true) (u2 : inI a2 = true) (u3 : inI b1 = true) (u4 : inI b2 = true) (u5 : inI c1 = true) (u6 : inI c2 = true) (u7 : inI d1 = true) (u8 : inI d2 = true) (u9 : inI x = true) (u10 : inI y = true) :
    runG ΓPx L0 Try.prog Try.f13 [.v (.agg #[I a1, I a2]), .v (.agg #[I b1, I b2]), .v (.agg #[I c1, I c2]), .v (.agg #[I d1, I d2]), .v (I x), .v (I y)] M0 = some (.v (.bool true), M0) := (treePointMoves a1 a2 b1 b2 c1 c2 d1 d2 x y).trans (by
  rw [u1, u2, u3, u4, u5, u6, u7, u8, u9, u10]
  simp only [Bool.and_self, cond_true]
  cases ha : moveB a1 a2 x y
  · rfl
  obtain ⟨a3, a4, a5, a6, a7, a8, a9, a10, a11, a12, a13⟩ := mv ha
  simp only [cond_true, Bool.not_true, cond_false, a5, a6, a7, a8, a9, a10, a11, a12, a13, Bool.and_self, beq_self_eq_true]
  cases hb : moveB b1 b2 x y
  · rfl
  obtain ⟨b3, b4, b5, b6, b7, b8, b9, b10, b11, b12, b13⟩ := mv hb
  simp only [cond_true, Bool.not_true, cond_false, b5, b6, b11, b12, b13, Bool.and_self, beq_self_eq_true]
  cases hc : moveB c1 c2 x y
  · rfl
  obtain ⟨c3, c4, c5, c6, c7, c8, c9, c10, c11, c12, c13⟩ := mv hc
  simp only [cond_true, Bool.not_true, cond_false, c5, c6, c11, c12, c13, Bool.and_self, beq_self_eq_true]
  cases hd : moveB d1 d2 x y
  · rfl
  obtain ⟨d3, d4, d5, d6, d7, d8, d9, d10, d11, d12, d13⟩ := mv hd
  simp only [cond_true, Bool.not_true, cond_false, d5, d6, d11, d12, d13, Bool.and_self, beq_self_eq_true]
  have T : ∀ {p1 p2 q1 q2 r1 r2 : Int}, plR p1 p2 = true → plR q1 q2 = true → plR r1 r2 = true → plR (p1 + x) (p2 + y) = true → plR (q1 + x) (q2 + y) = true → plR (r1 + x) (r2 + y) = true → turnI p1 p2 q1 q2 r1 r2 = 1 * turnI (p1 + x) (p2 + y) (q1 + x) (q2 + y) (r1 + x) (r2 + y) := by
    intro p1 p2 q1 q2 r1 r2 h1 h2 h3 h4 h5 h6
    exact turnI_sg (.inl rfl) (by rw [h1, h2, h3, h4, h5, h6]) (by
      rw [show q1 + x - (p1 + x) = q1 - p1 by omega, show r2 + y - (p2 + y) = r2 - p2 by omega, show q2 + y - (p2 + y) = q2 - p2 by omega, show r1 + x - (p1 + x) = r1 - p1 by omega]; omega)
  have W : ∀ {p1 p2 q1 q2 r1 r2 : Int}, (btw p1 q1 r1 && btw p2 q2 r2) = (btw (p1 + x) (q1 + x) (r1 + x) && btw (p2 + y) (q2 + y) (r2 + y)) := by
    intro p1 p2 q1 q2 r1 r2
    rw [btw_eq (x' := p1 + x) (a' := q1 + x) (b' := r1 + x) (by omega), btw_eq (x' := p2 + y) (a' := q2 + y) (b' := r2 + y) (x := p2) (by omega)]
  have t0 := T a3 b3 c3 a4 b4 c4
  rw [Int.one_mul] at t0
  rw [t0, beq_self_eq_true, on_sg (.inl rfl) (a3.trans a4.symm) (b3.trans b4.symm) (c3.trans c4.symm) (T b3 c3 a3 b4 c4 a4) W, beq_self_eq_true,
    meet_sg (.inl rfl) (a3.trans a4.symm) (b3.trans b4.symm) (c3.trans c4.symm) (d3.trans d4.symm) (T a3 b3 c3 a4 b4 c4) (T a3 b3 d3 a4 b4 d4) (T c3 d3 a3 c4 d4 a4) (T c3 d3 b3 c4 d4 b4) W W W W, beq_self_eq_true]
  rfl)
theorem mir {a1 a2 : Int} (h : plR a1 a2 = true) : wI (0 - a1) = -a1 ∧ wI (0 - a2) = -a2 ∧ plR (-a1) a2 = true ∧ plR (-a2) a1 = true := by
  have p := plR_iff.1 h
  exact ⟨by rw [wI_id (by omega)]; omega, by rw [wI_id (by omega)]; omega, plR_iff.2 (by omega), plR_iff.2 (by omega)⟩
theorem pointMirror (a1 a2 b1 b2 c1 c2 d1 d2 : Int) : runG ΓPx L0 Try.prog Try.f15 [.v (.agg #[I a1, I a2]), .v (.agg #[I b1, I b2]), .v (.agg #[I c1, I c2]), .v (.agg #[I d1, I d2])] M0 = some (.v (.bool true), M0) := (treePointMirror a1 a2 b1 b2 c1 c2 d1 d2).trans (by
  cases ha : plR a1 a2
  · rfl
  cases hb : plR b1 b2
  · rfl
  cases hc : plR c1 c2
  · rfl
  cases hd : plR d1 d2
  · rfl
  obtain ⟨a3, a4, a5, a6⟩ := mir ha
  obtain ⟨b3, b4, b5, b6⟩ := mir hb
  obtain ⟨c3, c4, c5, c6⟩ := mir hc
  obtain ⟨d3, d4, d5, d6⟩ := mir hd
  rw [neg_turn, a3, a4, b3, b4, c3, c4, d3, d4]
  have T : ∀ {p1 p2 q1 q2 r1 r2 : Int}, plR p1 p2 = true → plR q1 q2 = true → plR r1 r2 = true → turnI (-p1) p2 (-q1) q2 (-r1) r2 = -1 * turnI p1 p2 q1 q2 r1 r2 ∧ turnI (-p2) p1 (-q2) q1 (-r2) r1 = 1 * turnI p1 p2 q1 q2 r1 r2 := by
    intro p1 p2 q1 q2 r1 r2 h1 h2 h3
    obtain ⟨_, _, h4, h5⟩ := mir h1
    obtain ⟨_, _, h6, h7⟩ := mir h2
    obtain ⟨_, _, h8, h9⟩ := mir h3
    exact ⟨turnI_sg (.inr rfl) (by rw [h1, h2, h3, h4, h6, h8]) (by grind), turnI_sg (.inl rfl) (by rw [h1, h2, h3, h5, h7, h9]) (by grind)⟩
  have W1 : ∀ {p1 p2 q1 q2 r1 r2 : Int}, (btw (-p1) (-q1) (-r1) && btw p2 q2 r2) = (btw p1 q1 r1 && btw p2 q2 r2) := by
    intro p1 p2 q1 q2 r1 r2
    rw [btw_eq (x := -p1) (a := -q1) (b := -r1) (x' := p1) (a' := q1) (b' := r1) (by omega)]
  have W2 : ∀ {p1 p2 q1 q2 r1 r2 : Int}, (btw (-p2) (-q2) (-r2) && btw p1 q1 r1) = (btw p1 q1 r1 && btw p2 q2 r2) := by
    intro p1 p2 q1 q2 r1 r2
    rw [btw_eq (x := -p2) (a := -q2) (b := -r2) (x' := p2) (a' := q2) (b' := r2) (by omega), Bool.and_comm]
  have t1 := (T ha hb hc).1
  have t2 := (T ha hb hc).2
  rw [Int.neg_mul, Int.one_mul] at t1
  rw [Int.one_mul] at t2
  rw [t1, t2, beq_self_eq_true, beq_self_eq_true,
    meet_sg (.inr rfl) (a5.trans ha.symm) (b5.trans hb.symm) (c5.trans hc.symm) (d5.trans hd.symm) (T ha hb hc).1 (T ha hb hd).1 (T hc hd ha).1 (T hc hd hb).1 W1 W1 W1 W1,
    meet_sg (a1 := -a2) (a2 := a1) (.inl rfl) (a6.trans ha.symm) (b6.trans hb.symm) (c6.trans hc.symm) (d6.trans hd.symm) (T ha hb hc).2 (T ha hb hd).2 (T hc hd ha).2 (T hc hd hb).2 W2 W2 W2 W2, beq_self_eq_true]
  rfl)
theorem pointTellsLaw (l0 l1 l2 l3 : List Dat) (w0 : WfL ksPt l0) (w1 : WfL ksPt l1) (w2 : WfL ksPt l2) (w3 : WfL ksPt l3)  : ∃ m', runG ΓPx L0 Try.prog Try.f11 (inArgs [.v (.agg (mkEl ksPt l0).toArray), .v (.agg (mkEl ksPt l1).toArray), .v (.agg (mkEl ksPt l2).toArray), .v (.agg (mkEl ksPt l3).toArray)] 0) (inMem [.v (.agg (mkEl ksPt l0).toArray), .v (.agg (mkEl ksPt l1).toArray), .v (.agg (mkEl ksPt l2).toArray), .v (.agg (mkEl ksPt l3).toArray)]) = some (.v (.bool true), m') := by
  obtain ⟨a1, a2, rfl, aw1, aw2⟩ := pt_is w0
  obtain ⟨b1, b2, rfl, bw1, bw2⟩ := pt_is w1
  obtain ⟨c1, c2, rfl, cw1, cw2⟩ := pt_is w2
  obtain ⟨d1, d2, rfl, dw1, dw2⟩ := pt_is w3
  exact ⟨_, pointTells a1 a2 b1 b2 c1 c2 d1 d2⟩
theorem pointTurnsLaw (l0 l1 l2 : List Dat) (w0 : WfL ksPt l0) (w1 : WfL ksPt l1) (w2 : WfL ksPt l2)  : ∃ m', runG ΓPx L0 Try.prog Try.f12 (inArgs [.v (.agg (mkEl ksPt l0).toArray), .v (.agg (mkEl ksPt l1).toArray), .v (.agg (mkEl ksPt l2).toArray)] 0) (inMem [.v (.agg (mkEl ksPt l0).toArray), .v (.agg (mkEl ksPt l1).toArray), .v (.agg (mkEl ksPt l2).toArray)]) = some (.v (.bool true), m') := by
  obtain ⟨a1, a2, rfl, aw1, aw2⟩ := pt_is w0
  obtain ⟨b1, b2, rfl, bw1, bw2⟩ := pt_is w1
  obtain ⟨c1, c2, rfl, cw1, cw2⟩ := pt_is w2
  exact ⟨_, pointTurns a1 a2 b1 b2 c1 c2⟩
theorem pointMeetsLaw (l0 l1 l2 l3 : List Dat) (w0 : WfL ksPt l0) (w1 : WfL ksPt l1) (w2 : WfL ksPt l2) (w3 : WfL ksPt l3)  : ∃ m', runG ΓPx L0 Try.prog Try.f14 (inArgs [.v (.agg (mkEl ksPt l0).toArray), .v (.agg (mkEl ksPt l1).toArray), .v (.agg (mkEl ksPt l2).toArray), .v (.agg (mkEl ksPt l3).toArray)] 0) (inMem [.v (.agg (mkEl ksPt l0).toArray), .v (.agg (mkEl ksPt l1).toArray), .v (.agg (mkEl ksPt l2).toArray), .v (.agg (mkEl ksPt l3).toArray)]) = some (.v (.bool true), m') := by
  obtain ⟨a1, a2, rfl, aw1, aw2⟩ := pt_is w0
  obtain ⟨b1, b2, rfl, bw1, bw2⟩ := pt_is w1
  obtain ⟨c1, c2, rfl, cw1, cw2⟩ := pt_is w2
  obtain ⟨d1, d2, rfl, dw1, dw2⟩ := pt_is w3
  exact ⟨_, pointMeets a1 a2 b1 b2 c1 c2 d1 d2⟩
theorem pointMovesLaw (l0 l1 l2 l3 : List Dat) (a4 a5 : Int) (w0 : WfL ksPt l0) (w1 : WfL ksPt l1) (w2 : WfL ksPt l2) (w3 : WfL ksPt l3) (u4 : (Lit.int .i64 a4).wf = true) (u5 : (Lit.int .i64 a5).wf = true) : ∃ m', runG ΓPx L0 Try.prog Try.f13 (inArgs [.v (.agg (mkEl ksPt l0).toArray), .v (.agg (mkEl ksPt l1).toArray), .v (.agg (mkEl ksPt l2).toArray), .v (.agg (mkEl ksPt l3).toArray), .v (.int .i64 a4), .v (.int .i64 a5)] 0) (inMem [.v (.agg (mkEl ksPt l0).toArray), .v (.agg (mkEl ksPt l1).toArray), .v (.agg (mkEl ksPt l2).toArray), .v (.agg (mkEl ksPt l3).toArray), .v (.int .i64 a4), .v (.int .i64 a5)]) = some (.v (.bool true), m') := by
  obtain ⟨a1, a2, rfl, aw1, aw2⟩ := pt_is w0
  obtain ⟨b1, b2, rfl, bw1, bw2⟩ := pt_is w1
  obtain ⟨c1, c2, rfl, cw1, cw2⟩ := pt_is w2
  obtain ⟨d1, d2, rfl, dw1, dw2⟩ := pt_is w3
  exact ⟨_, pointMoves a1 a2 b1 b2 c1 c2 d1 d2 a4 a5 aw1 aw2 bw1 bw2 cw1 cw2 dw1 dw2 (i64R u4) (i64R u5)⟩
theorem pointMirrorLaw (l0 l1 l2 l3 : List Dat) (w0 : WfL ksPt l0) (w1 : WfL ksPt l1) (w2 : WfL ksPt l2) (w3 : WfL ksPt l3)  : ∃ m', runG ΓPx L0 Try.prog Try.f15 (inArgs [.v (.agg (mkEl ksPt l0).toArray), .v (.agg (mkEl ksPt l1).toArray), .v (.agg (mkEl ksPt l2).toArray), .v (.agg (mkEl ksPt l3).toArray)] 0) (inMem [.v (.agg (mkEl ksPt l0).toArray), .v (.agg (mkEl ksPt l1).toArray), .v (.agg (mkEl ksPt l2).toArray), .v (.agg (mkEl ksPt l3).toArray)]) = some (.v (.bool true), m') := by
  obtain ⟨a1, a2, rfl, aw1, aw2⟩ := pt_is w0
  obtain ⟨b1, b2, rfl, bw1, bw2⟩ := pt_is w1
  obtain ⟨c1, c2, rfl, cw1, cw2⟩ := pt_is w2
  obtain ⟨d1, d2, rfl, dw1, dw2⟩ := pt_is w3
  exact ⟨_, pointMirror a1 a2 b1 b2 c1 c2 d1 d2⟩

end Go.Proofs.Ytlhgaehjkpjniaa

namespace Go.Proofs.Ytlhgaehjkpjniaa
open Go Go.Proofs Go.Sx
set_option linter.unusedVariables false
/-! norm -/
/-! rep (if wI (smallI a2 - smallI b2) > if wI (smallI b2 - smallI a2) > if wI (smallI a1 - smallI b1) > wI (smallI b1 - smallI a1) then wI (smallI a1 - smallI b1) else wI (smallI b1 - smallI a1) then wI (smallI b2 - smallI a2) else if wI (smallI a1 - smallI b1) > wI (smallI b1 - smallI a1) then wI (smallI a1 - smallI b1) else wI (smallI b1 - smallI a1) then wI (smallI a2 - smallI b2) else if wI (smallI b2 - smallI a2) > if wI (smallI a1 - smallI b1) > wI (smallI b1 - smallI a1) then wI (smallI a1 - smallI b1) else wI (smallI b1 - smallI a1) then wI (smallI b2 - smallI a2) else if wI (smallI a1 - smallI b1) > wI (smallI b1 - smallI a1) then wI (smallI a1 - smallI b1) else wI (smallI b1 - smallI a1)) => (mx4 (smallI a1) (smallI a2) (smallI b1) (smallI b2)) -/
def smallI (n : Int) : Int := wI (((BitVec.ofInt 64 n &&& BitVec.ofInt 64 15).toNat : Nat) : Int)
theorem runSmall (n : Int) : runG ΓPx L0 Try.prog Try.f49 [.v (I n)] M0 = some (.v (I (smallI n)), M0) := by kernel_rfl
def gSmall (vs : List Value) : Option (Bool × Value) :=
  match vs with
  | [.int .i64 n] => some (true, I (smallI n))
  | _ => none
theorem gSmall_ok : ∀ vs r, gSmall vs = some (true, r) → ∀ m, CallOk Try.prog 49 (vs.map .v) m (.v r) m := by
  intro vs r h
  unfold gSmall at h
  split at h
  · rename_i n
    obtain ⟨h1, rfl⟩ := some_t h
    exact runV (vs := [I n]) (Λ := L0) (m' := M0) OkPx Try.func49 rfl (fun z _ _ => l0Ok' _ z) (runSmall n)
  · cases h
noncomputable def ΓPy : Orc := addVal 49 gSmall ΓPx
theorem OkPy : ΓPy.Ok Try.prog := addVal_ok OkPx gSmall_ok
noncomputable def bdGr : Code := loopAt (Try.f16.body.getD .skip) 0
theorem loopsGr : loopsOf (Try.f16.body.getD .skip) = [bdGr] := by kernel_rfl
theorem loopsGr0 : loopsOf bdGr = [] := by kernel_rfl
def kGr : List Bool := maskOf 133 [3, 4, 5, 8, 9]
def xGr : List Bool := maskOf 133 [3, 4, 5, 8]
def KGr (e : Ex) (st : St) : Option (Ex × St) := some (e, cutC 0 0 xGr st)
def MGr (a1 a2 b1 b2 p1 p2 : Int) : Mem := ⟨[[.v (I a1), .v (I a2)], [.v (I b1), .v (I b2)], [.v (I p1), .v (I p2)]], [true, true, true], []⟩
def HGr (a1 a2 b1 b2 p1 p2 : Int) (on : Bool) (k : Int) : St := mk kGr [.ptr 0 0, .ptr 1 0, .ptr 2 0, .v (Bo on), .v (I k)] (MGr a1 a2 b1 b2 p1 p2)
def XGr (a1 a2 b1 b2 p1 p2 : Int) (on : Bool) : St := mk xGr [.ptr 0 0, .ptr 1 0, .ptr 2 0, .v (Bo on)] (MGr a1 a2 b1 b2 p1 p2)
theorem gridLoop {α : Type} (f g : Int → Bool) (E : Nat → Bool → Int → Option α) (X : Bool → Option α)
    (st : ∀ k on i, E (k + 1) on i = bif decide (i ≤ 240) then (bif on then E k true (IntKind.i64.wrap (i + 1)) else (bif f i then E k (g i) (IntKind.i64.wrap (i + 1)) else E k false (IntKind.i64.wrap (i + 1)))) else X on) :
    ∀ (m j : Nat), j + m = 241 → E (m + 1) (anyM (fun i => f i && g i) j) j = X (anyM (fun i => f i && g i) 241) := by
  intro m
  induction m with
  | zero =>
    intro j hj
    obtain rfl : j = 241 := by omega
    rw [st]
    rfl
  | succ m ih =>
    intro j hj
    rw [st]
    have g1 : decide ((j : Int) ≤ 240) = true := by simp; omega
    rw [g1, wrap1 j (by omega)]
    have := ih (j + 1) (by omega)
    rw [← this]
    show _ = E (m + 1) (anyM (fun i => f i && g i) j || (f (j : Int) && g (j : Int))) _
    cases anyM (fun i => f i && g i) j
    · cases f (j : Int) <;> rfl
    · rfl
theorem stepGr (a1 a2 b1 b2 p1 p2 k : Int) (on : Bool) (n : Nat) : evLoop ΓPy Try.prog L0 (cutC 0 0 kGr) bdGr (n + 1) (HGr a1 a2 b1 b2 p1 p2 on k) KGr =
    bif decide (k ≤ 240) then (bif on then evLoop ΓPy Try.prog L0 (cutC 0 0 kGr) bdGr n (HGr a1 a2 b1 b2 p1 p2 true (IntKind.i64.wrap (k + 1))) KGr else (bif met1 a1 b1 p1 k then evLoop ΓPy Try.prog L0 (cutC 0 0 kGr) bdGr n (HGr a1 a2 b1 b2 p1 p2 (met1 a2 b2 p2 k) (IntKind.i64.wrap (k + 1))) KGr else evLoop ΓPy Try.prog L0 (cutC 0 0 kGr) bdGr n (HGr a1 a2 b1 b2 p1 p2 false (IntKind.i64.wrap (k + 1))) KGr)) else some (.exit 0, XGr a1 a2 b1 b2 p1 p2 on) := by kernel_rfl
def GGr (vals : List SV) (m : Mem) : Option (Bool × Ex × St) :=
  match vals, m with
  | [.ptr 0 0, .ptr 1 0, .ptr 2 0, .v (.bool on), .v (.int .i64 k)], ⟨[[.v (.int .i64 a1), .v (.int .i64 a2)], [.v (.int .i64 b1), .v (.int .i64 b2)], [.v (.int .i64 p1), .v (.int .i64 p2)]], [true, true, true], []⟩ => some (!on && (k == 0), .exit 0, XGr a1 a2 b1 b2 p1 p2 (metAll a1 a2 b1 b2 p1 p2))
  | _, _ => none
noncomputable def ΛGr : LoopOrc := fun _ st => viaC 0 0 kGr GGr st
theorem loopOkGr (z : Base) (z1 : z.L.length = 0) (z2 : z.U.length = 0) : LoopOk ΛGr Try.prog z bdGr := by
  refine loop_okC (Λ := L0) (kx := fun _ => xGr) OkPy mixed z1 z2 (fun b hb => by rw [loopsGr0] at hb; cases hb) (G := GGr) (fun _ => rfl) ?_
  intro vals m e st' h
  unfold GGr at h
  split at h
  · rename_i on k a1 a2 b1 b2 p1 p2
    obtain ⟨h1, rfl, rfl⟩ := some_t2 h
    simp only [Bool.and_eq_true, beq_iff_eq, Bool.not_eq_true'] at h1
    obtain ⟨rfl, rfl⟩ := h1
    exact ⟨242, gridLoop (met1 a1 b1 p1) (met1 a2 b2 p2) (fun n on k => evLoop ΓPy Try.prog L0 (cutC 0 0 kGr) bdGr n (HGr a1 a2 b1 b2 p1 p2 on k) KGr) (fun on => some (.exit 0, XGr a1 a2 b1 b2 p1 p2 on)) (fun n on k => stepGr a1 a2 b1 b2 p1 p2 k on n) 241 0 rfl⟩
  · cases h
theorem loopsAllGr (z : Base) (z1 : z.L.length = 0) (z2 : z.U.length = 0) : ∀ b ∈ loopsOf (Try.f16.body.getD .skip), LoopOk ΛGr Try.prog z b := oneLoop loopsGr (loopOkGr z z1 z2)
set_option maxRecDepth 40000 in
theorem treePointGrid (a1 a2 b1 b2 p1 p2 : Int) : runG ΓPy ΛGr Try.prog Try.f16 [.v (.agg #[I a1, I a2]), .v (.agg #[I b1, I b2]), .v (.agg #[I p1, I p2])] M0 = 
    (bif (mx4 (smallI a1) (smallI a2) (smallI b1) (smallI b2)) == (0 : Int) then (bif (mx4 (smallI a1) (smallI a2) (smallI b1) (smallI b2)) != (0 : Int) then some (.v (Bo true), M0) else some (.v (Bo (onB (smallI p1) (smallI p2) (smallI a1) (smallI a2) (smallI b1) (smallI b2) == (smallI p1 == smallI a1 && (smallI p2 == smallI a2 && true)))), M0)) else (bif (mx4 (smallI a1) (smallI a2) (smallI b1) (smallI b2)) == (0 : Int) then none else (bif Int.tmod (240 : Int) (mx4 (smallI a1) (smallI a2) (smallI b1) (smallI b2)) != (0 : Int) then (bif (mx4 (smallI a1) (smallI a2) (smallI b1) (smallI b2)) != (0 : Int) then some (.v (Bo true), M0) else some (.v (Bo (onB (smallI p1) (smallI p2) (smallI a1) (smallI a2) (smallI b1) (smallI b2) == (smallI p1 == smallI a1 && (smallI p2 == smallI a2 && true)))), M0)) else some (.v (Bo (onB (smallI p1) (smallI p2) (smallI a1) (smallI a2) (smallI b1) (smallI b2) == metAll (smallI a1) (smallI a2) (smallI b1) (smallI b2) (smallI p1) (smallI p2))), M0)))) := by kernel_rfl
theorem small15 (n : Int) : sm15 (smallI n) := by
  have e : (BitVec.ofInt 64 15) = BitVec.ofNat 64 (2 ^ 4 - 1) := by decide
  have h : ((BitVec.ofInt 64 n &&& BitVec.ofInt 64 15).toNat : Int) ≤ 15 := by
    rw [e, BitVec.toNat_and, BitVec.toNat_ofNat, Nat.mod_eq_of_lt (a := 2 ^ 4 - 1) (by decide), Nat.and_two_pow_sub_one_eq_mod]
    omega
  unfold smallI sm15
  rw [wI_id (by omega)]
  omega
theorem pointGrid (a1 a2 b1 b2 p1 p2 : Int) : runG ΓPy ΛGr Try.prog Try.f16 [.v (.agg #[I a1, I a2]), .v (.agg #[I b1, I b2]), .v (.agg #[I p1, I p2])] M0 = some (.v (.bool true), M0) := (treePointGrid a1 a2 b1 b2 p1 p2).trans (by
  obtain ⟨g1, g2⟩ := grid_main (small15 a1) (small15 a2) (small15 b1) (small15 b2) (small15 p1) (small15 p2)
  by_cases h : mx4 (smallI a1) (smallI a2) (smallI b1) (smallI b2) = 0
  · rw [g1 h, h]
    rfl
  · rw [beq_eq_false_iff_ne.2 h, bne_iff_ne.2 h]
    by_cases hd : Int.tmod 240 (mx4 (smallI a1) (smallI a2) (smallI b1) (smallI b2)) = 0
    · rw [g2 h hd, hd]
      rfl
    · rw [bne_iff_ne.2 hd]
      rfl)
theorem pointGridLaw (l0 l1 l2 : List Dat) (w0 : WfL ksPt l0) (w1 : WfL ksPt l1) (w2 : WfL ksPt l2) : ∃ m', runG ΓPy ΛGr Try.prog Try.f16 (inArgs [.v (.agg (mkEl ksPt l0).toArray), .v (.agg (mkEl ksPt l1).toArray), .v (.agg (mkEl ksPt l2).toArray)] 0) (inMem [.v (.agg (mkEl ksPt l0).toArray), .v (.agg (mkEl ksPt l1).toArray), .v (.agg (mkEl ksPt l2).toArray)]) = some (.v (.bool true), m') := by
  obtain ⟨a1, a2, rfl, _, _⟩ := pt_is w0
  obtain ⟨b1, b2, rfl, _, _⟩ := pt_is w1
  obtain ⟨p1, p2, rfl, _, _⟩ := pt_is w2
  exact ⟨_, pointGrid a1 a2 b1 b2 p1 p2⟩
end Go.Proofs.Ytlhgaehjkpjniaa

