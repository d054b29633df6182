/-
  A box that no edge meets, over values: so are the boxes and the places in it.
-/
import Derived.Test.YtcjkkfhdnealpaaZe
import Derived.Test.YtcjkkfhdnealpaaZf
namespace Go.Proofs.Ytcjkkfhdnealpaa
open Go Go.Proofs Go.Sx
set_option linter.unusedVariables false
/-! norm -/
/-! cast -/
set_option maxRecDepth 20000 in
theorem runBSt (a : Int) (b : Int) (c : Int) (d : Int) (L : List (List Dat)) (p1 : Int) (p2 : Int) (q1 : Int) (q2 : Int) : runG ΓBs L0 Try.prog Try.f12 [.v (.agg #[I a, I b, I c, I d]), .row 0, .v (.agg #[I p1, I p2]), .v (.agg #[I q1, I q2])] ⟨[], [], [rP L false false]⟩ = 
    (bif decide ((L.length : Int) > (12 : Int)) then some (.v (Bo true), ⟨[], [], [.live ⟨24, [.num .i64, .num .i64], L, false, false⟩]⟩) else (bif L.length.ble (1000000) then (bif !areaR L then some (.v (Bo true), ⟨[], [], [.live ⟨24, [.num .i64, .num .i64], L, false, false⟩]⟩) else (bif !boR a b c d then some (.v (Bo true), ⟨[], [], [.live ⟨24, [.num .i64, .num .i64], L, false, false⟩]⟩) else (bif L.length.ble (1000000) then (bif !inBx (if hdI q1 a c < hdI p1 a c then hdI q1 a c else hdI p1 a c) (if hdI q2 b d < hdI p2 b d then hdI q2 b d else hdI p2 b d) (if hdI q1 a c > hdI p1 a c then hdI q1 a c else hdI p1 a c) (if hdI q2 b d > hdI p2 b d then hdI q2 b d else hdI p2 b d) a b c d then some (.v (Bo false), ⟨[], [], [.live ⟨24, [.num .i64, .num .i64], L, false, false⟩]⟩) else (bif relBx a b c d L == (0 : Int) then some (.v (Bo true), ⟨[], [], [.live ⟨24, [.num .i64, .num .i64], L, false, false⟩]⟩) else (bif L.length.ble (1000000) then (bif relBx (if hdI q1 a c < hdI p1 a c then hdI q1 a c else hdI p1 a c) (if hdI q2 b d < hdI p2 b d then hdI q2 b d else hdI p2 b d) (if hdI q1 a c > hdI p1 a c then hdI q1 a c else hdI p1 a c) (if hdI q2 b d > hdI p2 b d then hdI q2 b d else hdI p2 b d) L == relBx a b c d L then (bif L.length.ble (1000000) then (bif sideI L (hdI p1 a c) (hdI p2 b d) == relBx a b c d L then (bif L.length.ble (1000000) then some (.v (Bo (sideI L (hdI q1 a c) (hdI q2 b d) == relBx a b c d L)), ⟨[], [], [.live ⟨24, [.num .i64, .num .i64], L, false, false⟩]⟩) else none) else some (.v (Bo false), ⟨[], [], [.live ⟨24, [.num .i64, .num .i64], L, false, false⟩]⟩)) else none) else some (.v (Bo false), ⟨[], [], [.live ⟨24, [.num .i64, .num .i64], L, false, false⟩]⟩)) else none))) else none))) else none)) := by kernel_rfl
end Go.Proofs.Ytcjkkfhdnealpaa

namespace Go.Proofs.Ytcjkkfhdnealpaa
open Go Go.Proofs Go.Sx
set_option linter.unusedVariables false
theorem hd_in {x lo hi : Int} (h : lo ≤ hi) : lo ≤ hdI x lo hi ∧ hdI x lo hi ≤ hi := by
  unfold hdI
  split <;> split at * <;> omega
/-- A box in one that no edge meets is met by none. -/
theorem rl_in {L : List (List Dat)} {a b c d m1 m2 n1 n2 : Int} (ha : areaB L = true) (hb : boR a b c d = true) (hs : boR m1 m2 n1 n2 = true) (hm : ∀ k, 0 ≤ k → k < (L.length : Int) → rlBx a b c d L k = false) (h1 : a ≤ m1) (h2 : b ≤ m2) (h3 : n1 ≤ c) (h4 : n2 ≤ d) : ∀ k, 0 ≤ k → k < (L.length : Int) → rlBx m1 m2 n1 n2 L k = false := by
  intro k k0 k1
  have h := isArea ha
  have n := nx_lt h k0 k1
  obtain ⟨b1, b2, b3, b4⟩ := boR_le hs
  have p0 := h.pl k k0 k1
  have p1 := h.pl _ n.1 n.2
  have e := hm k k0 k1
  have w : ∀ {u1 u2 v1 v2 : Int}, a ≤ u1 ∧ u1 ≤ c ∧ b ≤ u2 ∧ u2 ≤ d → a ≤ v1 ∧ v1 ≤ c ∧ b ≤ v2 ∧ v2 ≤ d → meetB (pX L k) (pY L k) (pX L (nx L k)) (pY L (nx L k)) u1 u2 v1 v2 = false := fun hu hv => by
    rw [meet_swap]
    exact box_ways ha hb hm hu hv k k0 k1
  unfold rlBx mtB at e ⊢
  rw [hb, p0, p1] at e
  rw [hs, p0, p1]
  simp only [Bool.true_and, Bool.or_eq_false_iff] at e ⊢
  refine ⟨?_, ?_⟩
  · cases hh : hasB m1 m2 n1 n2 (pX L k) (pY L k)
    · rfl
    · have i := (has_iff hs p0).1 hh
      have := (has_iff hb p0).2 ⟨by omega, by omega, by omega, by omega⟩
      rw [this] at e
      cases e.1
  · unfold msB
    rw [w (u1 := m1) (u2 := m2) (v1 := n1) (v2 := m2) (by omega) (by omega), w (u1 := n1) (u2 := m2) (v1 := n1) (v2 := n2) (by omega) (by omega), w (u1 := n1) (u2 := n2) (v1 := m1) (v2 := n2) (by omega) (by omega), w (u1 := m1) (u2 := n2) (v1 := m1) (v2 := m2) (by omega) (by omega)]
    rfl
theorem rel_free {L : List (List Dat)} {a b c d : Int} (ha : areaB L = true) (hb : boR a b c d = true) (hm : ∀ k, 0 ≤ k → k < (L.length : Int) → rlBx a b c d L k = false) : relBx a b c d L = sideI L a b := by
  unfold relBx
  rw [hb, ha, anyN_none.2 fun i h1 h2 => hm i h1 (by omega)]
  rfl
theorem side_in {L : List (List Dat)} {a b c d u1 u2 : Int} (ha : areaB L = true) (hb : boR a b c d = true) (hm : ∀ k, 0 ≤ k → k < (L.length : Int) → rlBx a b c d L k = false) (hu : a ≤ u1 ∧ u1 ≤ c ∧ b ≤ u2 ∧ u2 ≤ d) : sideI L u1 u2 = sideI L a b := by
  obtain ⟨b1, b2, b3, b4⟩ := boR_le hb
  have pu : plR u1 u2 = true := by rw [plR_iff] at b1 b2 ⊢; omega
  exact (ways ha b1 pu (box_ways ha hb hm ⟨Int.le_refl a, b3, Int.le_refl b, b4⟩ hu)).1.symm
theorem boxStays (a b c d : Int) (L : List (List Dat)) (p1 p2 q1 q2 : Int) : runG ΓBs L0 Try.prog Try.f12 [.v (.agg #[I a, I b, I c, I d]), .row 0, .v (.agg #[I p1, I p2]), .v (.agg #[I q1, I q2])] (mP L) = some (.v (Bo true), mP L) := by
  refine (runBSt a b c d L p1 p2 q1 q2).trans ?_
  by_cases h : (L.length : Int) > 12
  · rw [decide_eq_true h]; rfl
  rw [decide_eq_false h, Nat.ble_eq_true_of_le (show L.length ≤ 1000000 by omega), area_eq]
  cases ha : areaB L
  · rfl
  cases hb : boR a b c d
  · rfl
  obtain ⟨b1, b2, b3, b4⟩ := boR_le hb
  have x1 := hd_in (x := p1) b3
  have x2 := hd_in (x := p2) b4
  have y1 := hd_in (x := q1) b3
  have y2 := hd_in (x := q2) b4
  generalize hdI p1 a c = u1 at *
  generalize hdI p2 b d = u2 at *
  generalize hdI q1 a c = v1 at *
  generalize hdI q2 b d = v2 at *
  have s1 : a ≤ (if v1 < u1 then v1 else u1) ∧ (if v1 < u1 then v1 else u1) ≤ (if v1 > u1 then v1 else u1) ∧ (if v1 > u1 then v1 else u1) ≤ c := by split <;> split <;> omega
  have s2 : b ≤ (if v2 < u2 then v2 else u2) ∧ (if v2 < u2 then v2 else u2) ≤ (if v2 > u2 then v2 else u2) ∧ (if v2 > u2 then v2 else u2) ≤ d := by split <;> split <;> omega
  generalize (if v1 < u1 then v1 else u1) = m1 at *
  generalize (if v1 > u1 then v1 else u1) = n1 at *
  generalize (if v2 < u2 then v2 else u2) = m2 at *
  generalize (if v2 > u2 then v2 else u2) = n2 at *
  have hs : boR m1 m2 n1 n2 = true := boR_iff.2 ⟨by rw [plR_iff] at b1 b2 ⊢; omega, by rw [plR_iff] at b1 b2 ⊢; omega, s1.2.1, s2.2.1⟩
  rw [in_iff.2 ⟨hs, hb, s1.1, s2.1, s1.2.2, s2.2.2⟩]
  cases hr : anyN (rlBx a b c d L) L.length 0
  · have hm : ∀ k, 0 ≤ k → k < (L.length : Int) → rlBx a b c d L k = false := fun k k0 k1 => anyN_none.1 hr k k0 (by omega)
    have hm' := rl_in ha hb hs hm s1.1 s2.1 s1.2.2 s2.2.2
    rw [rel_free ha hb hm, rel_free ha hs hm', side_in ha hb hm (u1 := m1) (u2 := m2) (by omega), side_in ha hb hm (u1 := u1) (u2 := u2) (by omega), side_in ha hb hm (u1 := v1) (u2 := v2) (by omega), beq_self_eq_true]
    cases sideI L a b == (0 : Int) <;> rfl
  · have : relBx a b c d L = 0 := by
      unfold relBx
      rw [hb, ha, hr]
      rfl
    rw [this]
    rfl
theorem boxStaysLaw (l0 : List Dat) (l1 : List (List Dat)) (l2 : List Dat) (l3 : List Dat) (w0 : WfL ks4 l0) (w1 : ∀ o ∈ l1, WfL ks2 o) (n1 : l1.length ≤ 281474976710656) (w2 : WfL ks2 l2) (w3 : WfL ks2 l3) : ∃ m', runG ΓBs L0 Try.prog Try.f12 (inArgs [.v (.agg (mkEl ks4 l0).toArray), .row 24 ks2 l1, .v (.agg (mkEl ks2 l2).toArray), .v (.agg (mkEl ks2 l3).toArray)] 0) (inMem [.v (.agg (mkEl ks4 l0).toArray), .row 24 ks2 l1, .v (.agg (mkEl ks2 l2).toArray), .v (.agg (mkEl ks2 l3).toArray)]) = some (.v (.bool true), m') := by
  obtain ⟨x0, y0, z0, t0, rfl⟩ := bx_is w0
  obtain ⟨x2, y2, rfl, _, _⟩ := pt_is w2
  obtain ⟨x3, y3, rfl, _, _⟩ := pt_is w3
  exact ⟨_, boxStays x0 y0 z0 t0 l1 x2 y2 x3 y3⟩
end Go.Proofs.Ytcjkkfhdnealpaa

