/-
  Contracts: wide.Add, Sub, Int, Mul, Cmp, Neg, Sign, and awake.
-/
import Derived.Test.YtanjomncnbmgkaaYa
namespace Go.Proofs.Ytanjomncnbmgkaa
open Go Go.Proofs Go.Sx

theorem call58 (x y : Int) : CallOk Try.prog 58 [.int .i64 x, .int .i64 y] (.int .i64 (cmpI x y)) := by
  refine by_run Ok1 Try.func58 rfl (by kernel_rfl) ?_
  have e : run Γ1 L0 Try.prog Try.f58 [.int .i64 x, .int .i64 y] = bif decide (x < y) then some (.int .i64 (-1)) else bif decide (x > y) then some (.int .i64 1) else some (.int .i64 0) := by kernel_rfl
  rw [e]
  unfold cmpI
  cases decide (x < y)
  · show _ = some (Value.int .i64 (bif decide (x > y) then 1 else 0))
    cases decide (x > y) <;> rfl
  · rfl

theorem call59 (x y : Int) : CallOk Try.prog 59 [.int .u64 x, .int .u64 y] (.int .i64 (cmpI x y)) := by
  refine by_run Ok1 Try.func59 rfl (by kernel_rfl) ?_
  have e : run Γ1 L0 Try.prog Try.f59 [.int .u64 x, .int .u64 y] = bif decide (x < y) then some (.int .i64 (-1)) else bif decide (x > y) then some (.int .i64 1) else some (.int .i64 0) := by kernel_rfl
  rw [e]
  unfold cmpI
  cases decide (x < y)
  · show _ = some (Value.int .i64 (bif decide (x > y) then 1 else 0))
    cases decide (x > y) <;> rfl
  · rfl

theorem bt (x : Bool) : (x == true) = x := by cases x <;> rfl
theorem bf (x : Bool) : (x == false) = !x := by cases x <;> rfl

theorem addC_bd {b d : Int} (hb : 0 ≤ b) (hb' : b < 18446744073709551616) (hd : 0 ≤ d) (hd' : d < 18446744073709551616) : 0 ≤ addC b d 0 ∧ addC b d 0 ≤ 1 := by
  unfold addC; omega

theorem call15 (a b c d : Int) (h1 : inW a b = true) (h2 : inW c d = true) : CallOk Try.prog 15 [W a b, W c d] (.tuple #[Wn (wv a b + wv c d), .bool (okW (wv a b + wv c d))]) := by
  refine by_run Ok1 Try.func15 rfl (by kernel_rfl) ?_
  have e : run Γ1 L0 Try.prog Try.f15 [W a b, W c d] =
    bif decide (0 ≤ b ∧ 0 ≤ d ∧ 0 ≤ (0 : Int) ∧ (0 : Int) ≤ 1) then
      bif decide (0 ≤ IntKind.u64.wrap a ∧ 0 ≤ IntKind.u64.wrap c ∧ 0 ≤ addC b d 0 ∧ addC b d 0 ≤ 1) then
        bif decide (a < 0) == decide (c < 0) then
          bif !(decide (IntKind.i64.wrap (addS (IntKind.u64.wrap a) (IntKind.u64.wrap c) (addC b d 0)) < 0) == decide (a < 0)) then
            some (.tuple #[W 0 0, .bool false])
          else some (.tuple #[W (IntKind.i64.wrap (addS (IntKind.u64.wrap a) (IntKind.u64.wrap c) (addC b d 0))) (addS b d 0), .bool true])
        else some (.tuple #[W (IntKind.i64.wrap (addS (IntKind.u64.wrap a) (IntKind.u64.wrap c) (addC b d 0))) (addS b d 0), .bool true])
      else none
    else none := by kernel_rfl
  rw [e]
  rw [inW_iff] at h1 h2
  obtain ⟨⟨a1, a2⟩, b1, b2⟩ := h1
  obtain ⟨⟨c1, c2⟩, d1, d2⟩ := h2
  have hc := addC_bd b1 b2 d1 d2
  have g1 : decide (0 ≤ b ∧ 0 ≤ d ∧ 0 ≤ (0 : Int) ∧ (0 : Int) ≤ 1) = true := by simp; omega
  have g2 : decide (0 ≤ IntKind.u64.wrap a ∧ 0 ≤ IntKind.u64.wrap c ∧ 0 ≤ addC b d 0 ∧ addC b d 0 ≤ 1) = true := by
    rw [wrapU, wrapU]; simp; omega
  rw [g1, g2]
  simp only [cond_true]
  rw [wrapU, wrapU, wrapI]
  unfold addS addC
  unfold wv
  have hs : (a % 18446744073709551616 + c % 18446744073709551616 + (b + d + 0) / 18446744073709551616) % 18446744073709551616 % 18446744073709551616 = (a + c + (b + d) / 18446744073709551616) % 18446744073709551616 := by omega
  rw [hs]
  by_cases hA : a < 0 <;> by_cases hC : c < 0 <;> simp only [hA, hC, decide_true, decide_false, bt, bf, cond_true, cond_false, Bool.not_true, Bool.not_false, Bool.not_not]
  · by_cases hn : (if (a + c + (b + d) / 18446744073709551616) % 18446744073709551616 ≥ 9223372036854775808 then (a + c + (b + d) / 18446744073709551616) % 18446744073709551616 - 18446744073709551616 else (a + c + (b + d) / 18446744073709551616) % 18446744073709551616) < 0
    · obtain ⟨k1, k2, k3⟩ := okW_of (n := a * 18446744073709551616 + b + (c * 18446744073709551616 + d)) (by split at hn <;> omega) (by omega)
      simp only [hn, decide_true, Bool.not_true, cond_false]
      exact wb (by rw [k2]; split <;> omega) (by rw [k3]; omega) k1.symm
    · obtain ⟨k1, k2, k3⟩ := okW_not (n := a * 18446744073709551616 + b + (c * 18446744073709551616 + d)) (by split at hn <;> omega)
      simp only [hn, decide_false, Bool.not_false, cond_true]
      exact wb k2.symm k3.symm k1.symm
  · obtain ⟨k1, k2, k3⟩ := okW_of (n := a * 18446744073709551616 + b + (c * 18446744073709551616 + d)) (by omega) (by omega)
    exact wb (by rw [k2]; split <;> omega) (by rw [k3]; omega) k1.symm
  · obtain ⟨k1, k2, k3⟩ := okW_of (n := a * 18446744073709551616 + b + (c * 18446744073709551616 + d)) (by omega) (by omega)
    exact wb (by rw [k2]; split <;> omega) (by rw [k3]; omega) k1.symm
  · by_cases hn : (if (a + c + (b + d) / 18446744073709551616) % 18446744073709551616 ≥ 9223372036854775808 then (a + c + (b + d) / 18446744073709551616) % 18446744073709551616 - 18446744073709551616 else (a + c + (b + d) / 18446744073709551616) % 18446744073709551616) < 0
    · obtain ⟨k1, k2, k3⟩ := okW_not (n := a * 18446744073709551616 + b + (c * 18446744073709551616 + d)) (by split at hn <;> omega)
      simp only [hn, decide_true, cond_true]
      exact wb k2.symm k3.symm k1.symm
    · obtain ⟨k1, k2, k3⟩ := okW_of (n := a * 18446744073709551616 + b + (c * 18446744073709551616 + d)) (by omega) (by split at hn <;> omega)
      simp only [hn, decide_false, cond_false]
      exact wb (by rw [k2]; split <;> omega) (by rw [k3]; omega) k1.symm

theorem call16 (a b c d : Int) (h1 : inW a b = true) (h2 : inW c d = true) : CallOk Try.prog 16 [W a b, W c d] (.tuple #[Wn (wv a b - wv c d), .bool (okW (wv a b - wv c d))]) := by
  refine by_run Ok1 Try.func16 rfl (by kernel_rfl) ?_
  have e : run Γ1 L0 Try.prog Try.f16 [W a b, W c d] =
    bif decide (0 ≤ b ∧ 0 ≤ d ∧ d < 18446744073709551616 ∧ 0 ≤ (0 : Int) ∧ (0 : Int) ≤ 1) then
      bif decide (0 ≤ IntKind.u64.wrap a ∧ 0 ≤ IntKind.u64.wrap c ∧ IntKind.u64.wrap c < 18446744073709551616 ∧ 0 ≤ subC b d 0 ∧ subC b d 0 ≤ 1) then
        bif !(decide (a < 0) == decide (c < 0)) then
          bif !(decide (IntKind.i64.wrap (subS (IntKind.u64.wrap a) (IntKind.u64.wrap c) (subC b d 0)) < 0) == decide (a < 0)) then
            some (.tuple #[W 0 0, .bool false])
          else some (.tuple #[W (IntKind.i64.wrap (subS (IntKind.u64.wrap a) (IntKind.u64.wrap c) (subC b d 0))) (subS b d 0), .bool true])
        else some (.tuple #[W (IntKind.i64.wrap (subS (IntKind.u64.wrap a) (IntKind.u64.wrap c) (subC b d 0))) (subS b d 0), .bool true])
      else none
    else none := by kernel_rfl
  rw [e]
  rw [inW_iff] at h1 h2
  obtain ⟨⟨a1, a2⟩, b1, b2⟩ := h1
  obtain ⟨⟨c1, c2⟩, d1, d2⟩ := h2
  have hc : subC b d 0 = if b < d then 1 else 0 := by
    unfold subC
    by_cases hh : b < d + 0
    · simp only [hh, decide_true, cond_true]; rw [if_pos (by omega)]
    · simp only [hh, decide_false, cond_false]; rw [if_neg (by omega)]
  have g1 : decide (0 ≤ b ∧ 0 ≤ d ∧ d < 18446744073709551616 ∧ 0 ≤ (0 : Int) ∧ (0 : Int) ≤ 1) = true := by simp; omega
  have g2 : decide (0 ≤ IntKind.u64.wrap a ∧ 0 ≤ IntKind.u64.wrap c ∧ IntKind.u64.wrap c < 18446744073709551616 ∧ 0 ≤ subC b d 0 ∧ subC b d 0 ≤ 1) = true := by
    rw [wrapU, wrapU, hc]; simp; split <;> omega
  rw [g1, g2]
  simp only [cond_true]
  rw [wrapU, wrapU, wrapI, hc]
  clear e g1 g2 hc
  unfold subS
  unfold wv
  have hs : (a % 18446744073709551616 - c % 18446744073709551616 - (if b < d then 1 else 0)) % 18446744073709551616 % 18446744073709551616 = (a - c - (if b < d then 1 else 0)) % 18446744073709551616 := by split <;> omega
  rw [hs]
  generalize hk : (if b < d then (1 : Int) else 0) = k
  have hk' : (b < d ∧ k = 1) ∨ (d ≤ b ∧ k = 0) := by
    rw [← hk]; by_cases hh : b < d
    · left; simp [hh]
    · right; simp [hh]; omega
  clear hk hs
  by_cases hA : a < 0 <;> by_cases hC : c < 0 <;> simp only [hA, hC, decide_true, decide_false, bt, bf, cond_true, cond_false, Bool.not_true, Bool.not_false, Bool.not_not]
  · obtain ⟨k1, k2, k3⟩ := okW_of (n := a * 18446744073709551616 + b - (c * 18446744073709551616 + d)) (by omega) (by omega)
    exact wb (by rw [k2]; split <;> omega) (by rw [k3]; omega) k1.symm
  · by_cases hn : (if (a - c - k) % 18446744073709551616 ≥ 9223372036854775808 then (a - c - k) % 18446744073709551616 - 18446744073709551616 else (a - c - k) % 18446744073709551616) < 0
    · obtain ⟨k1, k2, k3⟩ := okW_of (n := a * 18446744073709551616 + b - (c * 18446744073709551616 + d)) (by split at hn <;> omega) (by omega)
      simp only [hn, decide_true, Bool.not_true, cond_false]
      exact wb (by rw [k2]; split <;> omega) (by rw [k3]; omega) k1.symm
    · obtain ⟨k1, k2, k3⟩ := okW_not (n := a * 18446744073709551616 + b - (c * 18446744073709551616 + d)) (by split at hn <;> omega)
      simp only [hn, decide_false, Bool.not_false, cond_true]
      exact wb k2.symm k3.symm k1.symm
  · by_cases hn : (if (a - c - k) % 18446744073709551616 ≥ 9223372036854775808 then (a - c - k) % 18446744073709551616 - 18446744073709551616 else (a - c - k) % 18446744073709551616) < 0
    · obtain ⟨k1, k2, k3⟩ := okW_not (n := a * 18446744073709551616 + b - (c * 18446744073709551616 + d)) (by split at hn <;> omega)
      simp only [hn, decide_true, cond_true]
      exact wb k2.symm k3.symm k1.symm
    · obtain ⟨k1, k2, k3⟩ := okW_of (n := a * 18446744073709551616 + b - (c * 18446744073709551616 + d)) (by omega) (by split at hn <;> omega)
      simp only [hn, decide_false, cond_false]
      exact wb (by rw [k2]; split <;> omega) (by rw [k3]; omega) k1.symm
  · obtain ⟨k1, k2, k3⟩ := okW_of (n := a * 18446744073709551616 + b - (c * 18446744073709551616 + d)) (by omega) (by omega)
    exact wb (by rw [k2]; split <;> omega) (by rw [k3]; omega) k1.symm

theorem call18 (a b : Int) (h1 : inW a b = true) : CallOk Try.prog 18 [W a b] (.tuple #[.int .i64 (smI (wv a b)), .bool (inI (wv a b))]) := by
  refine by_run Ok1 Try.func18 rfl (by kernel_rfl) ?_
  have e : run Γ1 L0 Try.prog Try.f18 [W a b] =
    bif inI (IntKind.i64.wrap b) then
      bif !(hiW (IntKind.i64.wrap b) == a && (loW (IntKind.i64.wrap b) == b && true)) then some (.tuple #[.int .i64 0, .bool false])
      else some (.tuple #[.int .i64 (IntKind.i64.wrap b), .bool true])
    else none := by kernel_rfl
  rw [e]
  rw [inW_iff] at h1
  obtain ⟨⟨a1, a2⟩, b1, b2⟩ := h1
  have hw : IntKind.i64.wrap b = if b ≥ 9223372036854775808 then b - 18446744073709551616 else b := by
    rw [wrapI, show b % 18446744073709551616 = b by omega]
  rw [hw]
  generalize hn : (if b ≥ 9223372036854775808 then b - 18446744073709551616 else b) = n
  have hn' : (9223372036854775808 ≤ b ∧ n = b - 18446744073709551616) ∨ (b < 9223372036854775808 ∧ n = b) := by
    rw [← hn]; by_cases hh : b ≥ 9223372036854775808
    · left; simp [hh] <;> omega
    · right; simp [hh] <;> omega
  have g1 : inI n = true := by rw [inI_iff]; omega
  obtain ⟨_, k2, k3⟩ := okW_of (n := n) (by omega) (by omega)
  rw [g1, k2, k3]
  simp only [cond_true, Bool.and_true]
  by_cases hq : inI (wv a b) = true
  · have hq' := hq
    rw [inI_iff] at hq'
    unfold wv at hq'
    have e1 : (n / 18446744073709551616 == a) = true := by simp; omega
    have e2 : (n % 18446744073709551616 == b) = true := by simp; omega
    rw [e1, e2]
    simp only [Bool.and_true, Bool.not_true, cond_false]
    refine ib ?_ hq.symm
    simp only [smI, hq, cond_true]
    unfold wv
    omega
  · have hq0 : inI (wv a b) = false := by simpa using hq
    have hq' : ¬ (-9223372036854775808 ≤ wv a b ∧ wv a b < 9223372036854775808) := fun h => hq (inI_iff.2 h)
    unfold wv at hq'
    have e1 : (n / 18446744073709551616 == a) = false := by simp; omega
    rw [e1]
    simp only [Bool.false_and, Bool.not_false, cond_true]
    refine ib ?_ hq0.symm
    simp [smI, hq0]

theorem call28 (a b : Int) (h1 : inI a = true) (h2 : inI b = true) : CallOk Try.prog 28 [.int .i64 a, .int .i64 b] (Wn (a * b)) := by
  refine by_run Ok1 Try.func28 rfl (by kernel_rfl) ?_
  let U := IntKind.u64.wrap
  let I := IntKind.i64.wrap
  have e : run Γ1 L0 Try.prog Try.f28 [.int .i64 a, .int .i64 b] =
    bif inU (U a) && inU (U b) then
      bif decide (a < 0) then
        bif decide (b < 0) then some (W (I (U (U (U a * U b / 18446744073709551616 - U b) - U a))) (U a * U b % 18446744073709551616))
        else some (W (I (U (U a * U b / 18446744073709551616 - U b))) (U a * U b % 18446744073709551616))
      else
        bif decide (b < 0) then some (W (I (U (U a * U b / 18446744073709551616 - U a))) (U a * U b % 18446744073709551616))
        else some (W (I (U a * U b / 18446744073709551616)) (U a * U b % 18446744073709551616))
    else none := by kernel_rfl
  rw [e]
  rw [inI_iff] at h1 h2
  have eU : ∀ z, U z = z % 18446744073709551616 := wrapU
  have eI : ∀ z, I z = if z % 18446744073709551616 ≥ 9223372036854775808 then z % 18446744073709551616 - 18446744073709551616 else z % 18446744073709551616 := wrapI
  have g : (inU (U a) && inU (U b)) = true := by
    rw [Bool.and_eq_true, inU_iff, inU_iff, eU, eU]; omega
  rw [g]
  simp only [cond_true]
  have hab : -85070591730234615865843651857942052864 ≤ a * b ∧ a * b ≤ 85070591730234615865843651857942052864 := by
    have m1 : (a.natAbs : Int) * b.natAbs ≤ 9223372036854775808 * 9223372036854775808 := Int.mul_le_mul (by omega) (by omega) (by omega) (by omega)
    rw [← Int.natCast_mul, ← Int.natAbs_mul] at m1
    omega
  obtain ⟨_, k2, k3⟩ := okW_of (n := a * b) (by omega) (by omega)
  by_cases hA : a < 0
  · by_cases hB : b < 0
    · simp only [hA, hB, decide_true, cond_true]
      have ea : U a = a + 18446744073709551616 := by rw [eU]; omega
      have eb : U b = b + 18446744073709551616 := by rw [eU]; omega
      have ep : U a * U b = a * b + 18446744073709551616 * a + 18446744073709551616 * b + 340282366920938463463374607431768211456 := by
        rw [ea, eb, Int.add_mul, Int.mul_add]; omega
      rw [ep, ea, eb]
      generalize a * b = Z at *
      refine agg_int ?_ ?_
      · rw [k2, eI, eU, eU]; split <;> omega
      · rw [k3]; omega
    · simp only [hA, hB, decide_true, decide_false, cond_true, cond_false]
      have ea : U a = a + 18446744073709551616 := by rw [eU]; omega
      have eb : U b = b := by rw [eU]; omega
      have ep : U a * U b = a * b + 18446744073709551616 * b := by
        rw [ea, eb, Int.add_mul]
      rw [ep, eb]
      generalize a * b = Z at *
      refine agg_int ?_ ?_
      · rw [k2, eI, eU]; split <;> omega
      · rw [k3]; omega
  · by_cases hB : b < 0
    · simp only [hA, hB, decide_true, decide_false, cond_true, cond_false]
      have ea : U a = a := by rw [eU]; omega
      have eb : U b = b + 18446744073709551616 := by rw [eU]; omega
      have ep : U a * U b = a * b + 18446744073709551616 * a := by
        rw [ea, eb, Int.mul_add]; omega
      rw [ep, ea]
      generalize a * b = Z at *
      refine agg_int ?_ ?_
      · rw [k2, eI, eU]; split <;> omega
      · rw [k3]; omega
    · simp only [hA, hB, decide_false, cond_false]
      have ea : U a = a := by rw [eU]; omega
      have eb : U b = b := by rw [eU]; omega
      rw [ea, eb]
      have hz : 0 ≤ a * b := Int.mul_nonneg (by omega) (by omega)
      generalize a * b = Z at *
      refine agg_int ?_ ?_
      · rw [k2, eI]; split <;> omega
      · rw [k3]

theorem t2_ok (f : FuncId) (vs : List Value) (r : Value) (h : t2 f vs = some (true, r)) : CallOk Try.prog f vs r := by
  unfold t2 at h
  split at h
  · injection h with h; injection h with h1 h2; subst h2; exact call58 _ _
  · injection h with h; injection h with h1 h2; subst h2; exact call59 _ _
  · injection h with h; injection h with h1 h2; subst h2; simp only [Bool.and_eq_true] at h1; exact call15 _ _ _ _ h1.1 h1.2
  · injection h with h; injection h with h1 h2; subst h2; simp only [Bool.and_eq_true] at h1; exact call16 _ _ _ _ h1.1 h1.2
  · injection h with h; injection h with h1 h2; subst h2; exact call18 _ _ h1
  · injection h with h; injection h with h1 h2; subst h2; simp only [Bool.and_eq_true] at h1; exact call28 _ _ h1.1 h1.2
  · cases h
theorem Ok2 : Γ2.Ok Try.prog := add_ok Ok1 t2_ok

theorem call25 (a b c d : Int) (h1 : inW a b = true) (h2 : inW c d = true) : CallOk Try.prog 25 [W a b, W c d] (.int .i64 (cmpI (wv a b) (wv c d))) := by
  refine by_run Ok2 Try.func25 rfl (by kernel_rfl) ?_
  have e : run Γ2 L0 Try.prog Try.f25 [W a b, W c d] = bif (cmpI a c != 0) then some (.int .i64 (cmpI a c)) else some (.int .i64 (cmpI b d)) := by kernel_rfl
  rw [e]
  rw [inW_iff] at h1 h2
  unfold cmpI wv
  by_cases p1 : a < c
  · have q1 : a * 18446744073709551616 + b < c * 18446744073709551616 + d := by omega
    simp [p1, q1]
  · by_cases p2 : c < a
    · have q1 : ¬ a * 18446744073709551616 + b < c * 18446744073709551616 + d := by omega
      have q2 : c * 18446744073709551616 + d < a * 18446744073709551616 + b := by omega
      simp [p1, p2, q1, q2]
    · have : a = c := by omega
      subst this
      simp

theorem call17 (a b : Int) (h1 : inW a b = true) : CallOk Try.prog 17 [W a b] (.tuple #[Wn (- wv a b), .bool (okW (- wv a b))]) := by
  refine by_run Ok2 Try.func17 rfl (by kernel_rfl) ?_
  have e : run Γ2 L0 Try.prog Try.f17 [W a b] = bif inW 0 0 && inW a b then some (.tuple #[Wn (wv 0 0 - wv a b), .bool (okW (wv 0 0 - wv a b))]) else none := by kernel_rfl
  rw [e, h1, show inW 0 0 = true by decide, show wv 0 0 - wv a b = - wv a b by unfold wv; omega]
  rfl

theorem t3_ok (f : FuncId) (vs : List Value) (r : Value) (h : t3 f vs = some (true, r)) : CallOk Try.prog f vs r := by
  unfold t3 at h
  split at h
  · injection h with h; injection h with h1 h2; subst h2; simp only [Bool.and_eq_true] at h1; exact call25 _ _ _ _ h1.1 h1.2
  · injection h with h; injection h with h1 h2; subst h2; exact call17 _ _ h1
  · cases h
theorem Ok3 : Γ3.Ok Try.prog := add_ok Ok2 t3_ok

theorem call27 (a b : Int) (h1 : inW a b = true) : CallOk Try.prog 27 [W a b] (.int .i64 (cmpI (wv a b) 0)) := by
  refine by_run Ok3 Try.func27 rfl (by kernel_rfl) ?_
  have e : run Γ3 L0 Try.prog Try.f27 [W a b] = bif inW a b && inW 0 0 then some (.int .i64 (cmpI (wv a b) (wv 0 0))) else none := by kernel_rfl
  rw [e, h1, show inW 0 0 = true by decide, show wv 0 0 = 0 by decide]
  rfl

theorem call24 : CallOk Try.prog 24 [] (.bool true) := by
  refine callOk_of_runV (X_ok 70 5) mixed names Try.func24 rfl (fun w b hm => ?_) (Λ := L0) (r := .bool true) (by kernel_rfl)
  have hl : loopsOf (Try.f24.body.getD .skip) = [] := by kernel_rfl
  exact absurd hm (by intro hm; have h2 : b ∈ loopsOf (Try.f24.body.getD .skip) := hm; rw [hl] at h2; cases h2)

theorem t4_ok (f : FuncId) (vs : List Value) (r : Value) (h : t4 f vs = some (true, r)) : CallOk Try.prog f vs r := by
  unfold t4 at h
  split at h
  · injection h with h; injection h with h1 h2; subst h2; exact call27 _ _ h1
  · injection h with h; injection h with h1 h2; subst h2; exact call24
  · cases h
theorem Ok4 : Γ4.Ok Try.prog := add_ok Ok3 t4_ok
end Go.Proofs.Ytanjomncnbmgkaa

