/-
  Contracts: the document's sums, differences, signs and orders.
-/
import Derived.Test.YtanjomncnbmgkaaYc
import Derived.Test.YtanjomncnbmgkaaYb
namespace Go.Proofs.Ytanjomncnbmgkaa
open Go Go.Proofs Go.Sx
def tB : FuncId → List Value → Option (Bool × Value)
  | 56, [.agg ⟨[.int .i64 a, .int .u64 b]⟩, .agg ⟨[.int .i64 c, .int .u64 d]⟩] => some (inU b && inU d, pW (wv a b + wv c d))
  | _, _ => none
noncomputable def Γb := add tB Γa
theorem OkB : Γb.Ok Try.prog := add_ok OkA (fun f vs r h => by
  unfold tB at h
  split at h
  · injection h with h; injection h with h1 h2; subst h2
    simp only [Bool.and_eq_true] at h1
    exact call56 _ _ _ _ h1.1 h1.2
  · cases h)
end Go.Proofs.Ytanjomncnbmgkaa

namespace Go.Proofs.Ytanjomncnbmgkaa
open Go Go.Proofs Go.Sx

theorem pW_eq {n m : Int} (h : n % 340282366920938463463374607431768211456 = m % 340282366920938463463374607431768211456) : pW n = pW m := by
  unfold pW
  have h1 : n / 18446744073709551616 % 18446744073709551616 = m / 18446744073709551616 % 18446744073709551616 := by omega
  have h2 : n % 18446744073709551616 = m % 18446744073709551616 := by omega
  rw [wrapI, wrapI, h1, h2]

theorem pW_ok {n : Int} (h : okW n = true) : pW n = Wn n := by
  have h' : -170141183460469231731687303715884105728 ≤ n ∧ n < 170141183460469231731687303715884105728 := by simpa [okW] using h
  obtain ⟨_, k2, k3⟩ := okW_of h'.1 h'.2
  unfold pW
  show W _ _ = W (hiW n) (loW n)
  rw [k2, k3, wrapI]
  have : (if n / 18446744073709551616 % 18446744073709551616 ≥ 9223372036854775808 then n / 18446744073709551616 % 18446744073709551616 - 18446744073709551616 else n / 18446744073709551616 % 18446744073709551616) = n / 18446744073709551616 := by
    split <;> omega
  rw [this]

theorem call57 (a b : Int) (h : inU b = true) : CallOk Try.prog 57 [W a b] (pW (- wv a b)) := by
  refine by_run OkB Try.func57 rfl (by kernel_rfl) ?_
  have e : run Γb L0 Try.prog Try.f57 [W a b] =
    bif inU (IntKind.u64.wrap (-1 - b)) && inU 1 then some (pW (wv (IntKind.i64.wrap (-1 - a)) (IntKind.u64.wrap (-1 - b)) + wv 0 1)) else none := by kernel_rfl
  rw [e]
  rw [inU_iff] at h
  have g : (inU (IntKind.u64.wrap (-1 - b)) && inU 1) = true := by
    rw [Bool.and_eq_true, inU_iff, inU_iff, wrapU]; omega
  rw [g]
  simp only [cond_true]
  refine congrArg some (pW_eq ?_)
  unfold wv
  rw [wrapU, wrapI]
  split <;> omega

theorem call49 (n : Int) (h : inI n = true) : CallOk Try.prog 49 [.int .i64 n] (Wn n) := by
  refine by_run OkB Try.func49 rfl (by kernel_rfl) ?_
  have e : run Γb L0 Try.prog Try.f49 [.int .i64 n] = bif decide (n < 0) then some (W (-1) (IntKind.u64.wrap n)) else some (W 0 (IntKind.u64.wrap n)) := by kernel_rfl
  rw [e]
  rw [inI_iff] at h
  obtain ⟨_, h1, h2⟩ := okW_of (n := n) (by omega) (by omega)
  by_cases hn : n < 0
  · simp only [hn, decide_true, cond_true]
    exact agg_int (by rw [h1]; omega) (by rw [h2, wrapU])
  · simp only [hn, decide_false, cond_false]
    exact agg_int (by rw [h1]; omega) (by rw [h2, wrapU])

theorem call20 (a b : Int) : CallOk Try.prog 20 [W a b] (W a b) := by
  refine by_run OkB Try.func20 rfl (by kernel_rfl) ?_
  kernel_rfl

def tC : FuncId → List Value → Option (Bool × Value)
  | 57, [.agg ⟨[.int .i64 a, .int .u64 b]⟩] => some (inU b, pW (- wv a b))
  | 49, [.int .i64 n] => some (inI n, Wn n)
  | 20, [.agg ⟨[.int .i64 a, .int .u64 b]⟩] => some (true, W a b)
  | _, _ => none
noncomputable def Γc := add tC Γb
theorem OkC : Γc.Ok Try.prog := add_ok OkB (fun f vs r h => by
  unfold tC at h
  split at h
  · injection h with h; injection h with h1 h2; subst h2; exact call57 _ _ h1
  · injection h with h; injection h with h1 h2; subst h2; exact call49 _ h1
  · injection h with h; injection h with h1 h2; subst h2; exact call20 _ _
  · cases h)
end Go.Proofs.Ytanjomncnbmgkaa

namespace Go.Proofs.Ytanjomncnbmgkaa
open Go Go.Proofs Go.Sx

theorem sgn (n : Int) (h1 : -340282366920938463463374607431768211456 ≤ n) (h2 : n < 340282366920938463463374607431768211456) :
    decide (IntKind.i64.wrap (n / 18446744073709551616) < 0) = (decide (n < 0) == okW n) := by
  rw [wrapI]
  by_cases hk : -170141183460469231731687303715884105728 ≤ n ∧ n < 170141183460469231731687303715884105728
  · have : okW n = true := by simp [okW, hk]
    rw [this, bt]
    apply decide_eq_decide.2
    split <;> omega
  · have : okW n = false := by simp only [okW, hk, decide_false]
    rw [this, bf, ← decide_not]
    apply decide_eq_decide.2
    split <;> omega

theorem fine (n : Int) (g : Bool) (hg : g = !okW n) : (bif g then some (.tuple #[W 0 0, .bool false]) else some (.tuple #[pW n, .bool true]) : Option Value) = some (.tuple #[Wn n, .bool (okW n)]) := by
  subst hg
  cases hk : okW n
  · have : n < -170141183460469231731687303715884105728 ∨ 170141183460469231731687303715884105728 ≤ n := by
      have : ¬ (-170141183460469231731687303715884105728 ≤ n ∧ n < 170141183460469231731687303715884105728) := by simpa [okW] using hk
      omega
    obtain ⟨_, k2, k3⟩ := okW_not this
    show some (Value.tuple #[W 0 0, .bool false]) = some (.tuple #[W (hiW n) (loW n), .bool false])
    rw [k2, k3]
  · show some (Value.tuple #[pW n, .bool true]) = _
    rw [pW_ok hk]

theorem call19 (a b c d : Int) (h1 : inW a b = true) (h2 : inW c d = true) : CallOk Try.prog 19 [W a b, W c d] (.tuple #[Wn (wv a b + wv c d), .bool (okW (wv a b + wv c d))]) := by
  refine by_run OkC Try.func19 rfl (by kernel_rfl) ?_
  have e : run Γc L0 Try.prog Try.f19 [W a b, W c d] =
    bif inU b && inU d then
      bif decide (a < 0) == decide (c < 0) then
        bif !(decide (IntKind.i64.wrap ((wv a b + wv c d) / 18446744073709551616) < 0) == decide (a < 0)) then some (.tuple #[W 0 0, .bool false])
        else some (.tuple #[pW (wv a b + wv c d), .bool true])
      else some (.tuple #[pW (wv a b + wv c d), .bool true])
    else none := by kernel_rfl
  rw [e]
  rw [inW_iff] at h1 h2
  have g : (inU b && inU d) = true := by rw [Bool.and_eq_true, inU_iff, inU_iff]; omega
  have ha : (a < 0 ↔ wv a b < 0) := by unfold wv; omega
  have hc : (c < 0 ↔ wv c d < 0) := by unfold wv; omega
  have bx : -170141183460469231731687303715884105728 ≤ wv a b ∧ wv a b < 170141183460469231731687303715884105728 := by unfold wv; omega
  have by' : -170141183460469231731687303715884105728 ≤ wv c d ∧ wv c d < 170141183460469231731687303715884105728 := by unfold wv; omega
  have da : decide (a < 0) = decide (wv a b < 0) := decide_eq_decide.2 ha
  have dc : decide (c < 0) = decide (wv c d < 0) := decide_eq_decide.2 hc
  rw [g, da, dc]
  clear da dc g
  clear e
  generalize wv a b = x at *
  generalize wv c d = y at *
  rw [sgn (x + y) (by omega) (by omega)]
  simp only [cond_true]
  by_cases hx : x < 0 <;> by_cases hy : y < 0
  · have hn : x + y < 0 := by omega
    simp only [hx, hy, hn, decide_true, BEq.rfl, cond_true]
    exact fine _ _ (by cases okW (x + y) <;> rfl)
  · have hk : okW (x + y) = true := by simp only [okW, decide_eq_true_eq]; omega
    have := fine (x + y) false (by rw [hk]; rfl)
    simpa only [hx, hy, decide_true, decide_false, cond_false, bt, bf, Bool.not_true] using this
  · have hk : okW (x + y) = true := by simp only [okW, decide_eq_true_eq]; omega
    have := fine (x + y) false (by rw [hk]; rfl)
    simpa only [hx, hy, decide_true, decide_false, cond_false, bt, bf, Bool.not_true, Bool.not_false] using this
  · have hn : ¬ x + y < 0 := by omega
    simp only [hx, hy, hn, decide_false, BEq.rfl, cond_true]
    exact fine _ _ (by cases okW (x + y) <;> rfl)

theorem call21 (a b c d : Int) (h1 : inW a b = true) (h2 : inW c d = true) : CallOk Try.prog 21 [W a b, W c d] (.tuple #[Wn (wv a b - wv c d), .bool (okW (wv a b - wv c d))]) := by
  refine by_run OkC Try.func21 rfl (by kernel_rfl) ?_
  have e : run Γc L0 Try.prog Try.f21 [W a b, W c d] =
    bif inU d then
      bif inU b && inU (-wv c d % 18446744073709551616) then
        bif !(decide (a < 0) == decide (c < 0)) then
          bif !(decide (IntKind.i64.wrap ((wv a b + wv (IntKind.i64.wrap (-wv c d / 18446744073709551616)) (-wv c d % 18446744073709551616)) / 18446744073709551616) < 0) == decide (a < 0)) then some (.tuple #[W 0 0, .bool false])
          else some (.tuple #[pW (wv a b + wv (IntKind.i64.wrap (-wv c d / 18446744073709551616)) (-wv c d % 18446744073709551616)), .bool true])
        else some (.tuple #[pW (wv a b + wv (IntKind.i64.wrap (-wv c d / 18446744073709551616)) (-wv c d % 18446744073709551616)), .bool true])
      else none
    else none := by kernel_rfl
  rw [e]
  clear e
  rw [inW_iff] at h1 h2
  have g0 : inU d = true := by rw [inU_iff]; omega
  have g : (inU b && inU (-wv c d % 18446744073709551616)) = true := by rw [Bool.and_eq_true, inU_iff, inU_iff]; omega
  have hm : wv a b + wv (IntKind.i64.wrap (-wv c d / 18446744073709551616)) (-wv c d % 18446744073709551616) = wv a b - wv c d ∨ wv a b + wv (IntKind.i64.wrap (-wv c d / 18446744073709551616)) (-wv c d % 18446744073709551616) = wv a b - wv c d - 340282366920938463463374607431768211456 := by
    rw [wrapI]
    have : -170141183460469231731687303715884105728 ≤ wv c d ∧ wv c d < 170141183460469231731687303715884105728 := by unfold wv; omega
    generalize wv c d = y at *
    unfold wv
    split <;> omega
  have hp : pW (wv a b + wv (IntKind.i64.wrap (-wv c d / 18446744073709551616)) (-wv c d % 18446744073709551616)) = pW (wv a b - wv c d) := pW_eq (by omega)
  have hs : IntKind.i64.wrap ((wv a b + wv (IntKind.i64.wrap (-wv c d / 18446744073709551616)) (-wv c d % 18446744073709551616)) / 18446744073709551616) = IntKind.i64.wrap ((wv a b - wv c d) / 18446744073709551616) := by
    have hp' := hp
    unfold pW at hp'
    injection hp' with hp'
    injection hp' with hp'
    injection hp' with hp' _
    injection hp'
  rw [hp, hs, g0, g]
  clear hp hs hm
  have ha : (a < 0 ↔ wv a b < 0) := by unfold wv; omega
  have hc : (c < 0 ↔ wv c d < 0) := by unfold wv; omega
  have bx : -170141183460469231731687303715884105728 ≤ wv a b ∧ wv a b < 170141183460469231731687303715884105728 := by unfold wv; omega
  have by' : -170141183460469231731687303715884105728 ≤ wv c d ∧ wv c d < 170141183460469231731687303715884105728 := by unfold wv; omega
  have da : decide (a < 0) = decide (wv a b < 0) := decide_eq_decide.2 ha
  have dc : decide (c < 0) = decide (wv c d < 0) := decide_eq_decide.2 hc
  rw [da, dc]
  clear da dc g
  generalize wv a b = x at *
  generalize wv c d = y at *
  rw [sgn (x - y) (by omega) (by omega)]
  simp only [cond_true]
  by_cases hx : x < 0 <;> by_cases hy : y < 0
  · have hk : okW (x - y) = true := by simp only [okW, decide_eq_true_eq]; omega
    have := fine (x - y) false (by rw [hk]; rfl)
    simpa only [hx, hy, decide_true, cond_false, BEq.rfl, Bool.not_true] using this
  · have hn : x - y < 0 := by omega
    simp only [hx, hy, hn, decide_true, decide_false, bt, bf, Bool.not_true, Bool.not_false, cond_true]
    exact fine _ _ (by cases okW (x - y) <;> rfl)
  · have hn : ¬ x - y < 0 := by omega
    simp only [hx, hy, hn, decide_true, decide_false, bt, bf, Bool.not_false, cond_true]
    exact fine _ _ (by cases okW (x - y) <;> rfl)
  · have hk : okW (x - y) = true := by simp only [okW, decide_eq_true_eq]; omega
    have := fine (x - y) false (by rw [hk]; rfl)
    simpa only [hx, hy, decide_false, cond_false, BEq.rfl, Bool.not_true] using this

theorem call22 (a b : Int) (h1 : inW a b = true) : CallOk Try.prog 22 [W a b] (.tuple #[Wn (- wv a b), .bool (okW (- wv a b))]) := by
  refine by_run OkC Try.func22 rfl (by kernel_rfl) ?_
  have e : run Γc L0 Try.prog Try.f22 [W a b] =
    bif a == -9223372036854775808 then
      bif b == 0 then some (.tuple #[W 0 0, .bool false]) else bif inU b then some (.tuple #[pW (- wv a b), .bool true]) else none
    else bif inU b then some (.tuple #[pW (- wv a b), .bool true]) else none := by kernel_rfl
  rw [e]
  clear e
  rw [inW_iff] at h1
  have g : inU b = true := by rw [inU_iff]; omega
  rw [g]
  simp only [cond_true]
  by_cases p : a = -9223372036854775808
  · by_cases q : b = 0
    · have hk : okW (- wv a b) = false := by
        simp only [okW, decide_eq_false_iff_not]; unfold wv; omega
      have := fine (- wv a b) true (by rw [hk]; rfl)
      simpa only [p, q, BEq.rfl, cond_true] using this
    · have hk : okW (- wv a b) = true := by
        simp only [okW, decide_eq_true_eq]; unfold wv; omega
      have q' : (b == 0) = false := by simpa using q
      have := fine (- wv a b) false (by rw [hk]; rfl)
      simpa only [p, q', BEq.rfl, cond_true, cond_false] using this
  · have hk : okW (- wv a b) = true := by
      simp only [okW, decide_eq_true_eq]; unfold wv; omega
    have p' : (a == -9223372036854775808) = false := by simpa using p
    have := fine (- wv a b) false (by rw [hk]; rfl)
    simpa only [p', cond_false] using this

theorem call23 (a b : Int) (h1 : inW a b = true) : CallOk Try.prog 23 [W a b] (.tuple #[.int .i64 (smI (wv a b)), .bool (inI (wv a b))]) := by
  refine by_run OkC Try.func23 rfl (by kernel_rfl) ?_
  have e : run Γc L0 Try.prog Try.f23 [W a b] =
    bif inI (IntKind.i64.wrap b) then
      bif !(hiW (IntKind.i64.wrap b) == a && (loW (IntKind.i64.wrap b) == b && true)) then some (.tuple #[.int .i64 0, .bool false])
      else some (.tuple #[.int .i64 (IntKind.i64.wrap b), .bool true])
    else none := by kernel_rfl
  rw [e]
  rw [inW_iff] at h1
  obtain ⟨⟨a1, a2⟩, b1, b2⟩ := h1
  have hw : IntKind.i64.wrap b = if b ≥ 9223372036854775808 then b - 18446744073709551616 else b := by
    rw [wrapI, show b % 18446744073709551616 = b by omega]
  rw [hw]
  generalize hn : (if b ≥ 9223372036854775808 then b - 18446744073709551616 else b) = n
  have hn' : (9223372036854775808 ≤ b ∧ n = b - 18446744073709551616) ∨ (b < 9223372036854775808 ∧ n = b) := by
    rw [← hn]; by_cases hh : b ≥ 9223372036854775808
    · left; simp [hh] <;> omega
    · right; simp [hh] <;> omega
  have g1 : inI n = true := by rw [inI_iff]; omega
  obtain ⟨_, k2, k3⟩ := okW_of (n := n) (by omega) (by omega)
  rw [g1, k2, k3]
  simp only [cond_true, Bool.and_true]
  by_cases hq : inI (wv a b) = true
  · have hq' := hq
    rw [inI_iff] at hq'
    unfold wv at hq'
    have e1 : (n / 18446744073709551616 == a) = true := by simp; omega
    have e2 : (n % 18446744073709551616 == b) = true := by simp; omega
    rw [e1, e2]
    simp only [Bool.and_true, Bool.not_true, cond_false]
    refine ib ?_ hq.symm
    simp only [smI, hq, cond_true]
    unfold wv
    omega
  · have hq0 : inI (wv a b) = false := by simpa using hq
    have hq' : ¬ (-9223372036854775808 ≤ wv a b ∧ wv a b < 9223372036854775808) := fun h => hq (inI_iff.2 h)
    unfold wv at hq'
    have e1 : (n / 18446744073709551616 == a) = false := by simp; omega
    rw [e1]
    simp only [Bool.false_and, Bool.not_false, cond_true]
    refine ib ?_ hq0.symm
    simp [smI, hq0]


theorem call26 (a b c d : Int) (h1 : inW a b = true) (h2 : inW c d = true) : CallOk Try.prog 26 [W a b, W c d] (.int .i64 (cmpI (wv a b) (wv c d))) := by
  refine by_run OkC Try.func26 rfl (by kernel_rfl) ?_
  have e : run Γc L0 Try.prog Try.f26 [W a b, W c d] =
    bif decide (a < c) then some (.int .i64 (-1)) else
      bif a == c then
        bif decide (b < d) then some (.int .i64 (-1)) else bif a == c && (b == d && true) then some (.int .i64 0) else some (.int .i64 1)
      else bif a == c && (b == d && true) then some (.int .i64 0) else some (.int .i64 1) := by kernel_rfl
  rw [e]
  rw [inW_iff] at h1 h2
  have key : ∀ n, cmpI (wv a b) (wv c d) = n → some (Value.int .i64 n) = some (.int .i64 (cmpI (wv a b) (wv c d))) := fun n h => by rw [h]
  have lt : wv a b < wv c d → cmpI (wv a b) (wv c d) = -1 := fun h => by simp [cmpI, h]
  have gt : wv c d < wv a b → cmpI (wv a b) (wv c d) = 1 := fun h => by
    have : ¬ wv a b < wv c d := by omega
    simp [cmpI, h, this]
  have eq : wv a b = wv c d → cmpI (wv a b) (wv c d) = 0 := fun h => by simp [cmpI, h]
  by_cases p : a < c
  · simp only [p, decide_true, cond_true]
    exact key _ (lt (by unfold wv; omega))
  · by_cases q : a = c
    · subst q
      by_cases r : b < d
      · simp only [p, r, decide_true, decide_false, cond_true, cond_false, BEq.rfl]
        exact key _ (lt (by unfold wv; omega))
      · by_cases s : b = d
        · subst s
          simp only [p, r, decide_false, cond_true, cond_false, BEq.rfl, Bool.and_self]
          exact key _ (eq rfl)
        · have s' : (b == d) = false := by simpa using s
          simp only [p, r, s', decide_false, cond_true, cond_false, BEq.rfl, Bool.false_and, Bool.and_false]
          exact key _ (gt (by unfold wv; omega))
    · have q' : (a == c) = false := by simpa using q
      simp only [p, q', decide_false, cond_false, Bool.false_and]
      exact key _ (gt (by unfold wv; omega))

def tD : FuncId → List Value → Option (Bool × Value)
  | 19, [.agg ⟨[.int .i64 a, .int .u64 b]⟩, .agg ⟨[.int .i64 c, .int .u64 d]⟩] => some (inW a b && inW c d, .tuple #[Wn (wv a b + wv c d), .bool (okW (wv a b + wv c d))])
  | 21, [.agg ⟨[.int .i64 a, .int .u64 b]⟩, .agg ⟨[.int .i64 c, .int .u64 d]⟩] => some (inW a b && inW c d, .tuple #[Wn (wv a b - wv c d), .bool (okW (wv a b - wv c d))])
  | 22, [.agg ⟨[.int .i64 a, .int .u64 b]⟩] => some (inW a b, .tuple #[Wn (- wv a b), .bool (okW (- wv a b))])
  | 23, [.agg ⟨[.int .i64 a, .int .u64 b]⟩] => some (inW a b, .tuple #[.int .i64 (smI (wv a b)), .bool (inI (wv a b))])
  | 26, [.agg ⟨[.int .i64 a, .int .u64 b]⟩, .agg ⟨[.int .i64 c, .int .u64 d]⟩] => some (inW a b && inW c d, .int .i64 (cmpI (wv a b) (wv c d)))
  | _, _ => none
theorem tD_ok (f : FuncId) (vs : List Value) (r : Value) (h : tD f vs = some (true, r)) : CallOk Try.prog f vs r := by
  unfold tD at h
  split at h
  · injection h with h; injection h with h1 h2; subst h2
    simp only [Bool.and_eq_true] at h1; exact call19 _ _ _ _ h1.1 h1.2
  · injection h with h; injection h with h1 h2; subst h2
    simp only [Bool.and_eq_true] at h1; exact call21 _ _ _ _ h1.1 h1.2
  · injection h with h; injection h with h1 h2; subst h2; exact call22 _ _ h1
  · injection h with h; injection h with h1 h2; subst h2; exact call23 _ _ h1
  · injection h with h; injection h with h1 h2; subst h2
    simp only [Bool.and_eq_true] at h1; exact call26 _ _ _ _ h1.1 h1.2
  · cases h
end Go.Proofs.Ytanjomncnbmgkaa

namespace Go.Proofs.Ytanjomncnbmgkaa
open Go Go.Proofs Go.Sx
theorem tC_ok (f : FuncId) (vs : List Value) (r : Value) (h : tC f vs = some (true, r)) : CallOk Try.prog f vs r := by
  unfold tC at h
  split at h
  · injection h with h; injection h with h1 h2; subst h2; exact call57 _ _ h1
  · injection h with h; injection h with h1 h2; subst h2; exact call49 _ h1
  · injection h with h; injection h with h1 h2; subst h2; exact call20 _ _
  · cases h
noncomputable def Γe := add tD (add tC Γ4)
theorem Oke : Γe.Ok Try.prog := add_ok (add_ok Ok4 tC_ok) tD_ok
end Go.Proofs.Ytanjomncnbmgkaa

