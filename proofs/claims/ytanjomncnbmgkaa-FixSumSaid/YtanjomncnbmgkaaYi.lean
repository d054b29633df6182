/-
  Contract: wide.Div; the law WideMul over numbers.
-/
import Derived.Test.YtanjomncnbmgkaaYh
import Derived.Test.YtanjomncnbmgkaaYe
namespace Go.Proofs.Ytanjomncnbmgkaa
open Go Go.Proofs Go.Sx
def tG : FuncId → List Value → Option (Bool × Value)
  | 61, [.int .u64 a, .int .u64 b, .int .u64 y] => some (inU b && (decide (0 ≤ a) && (decide (a < y) && inU y)), two ((a * 18446744073709551616 + b) / y) ((a * 18446744073709551616 + b) % y))
  | _, _ => none
theorem tG_ok (f : FuncId) (vs : List Value) (r : Value) (h : tG f vs = some (true, r)) : CallOk Try.prog f vs r := by
  unfold tG at h
  split at h
  · injection h with h; injection h with h1 h2; subst h2
    simp only [Bool.and_eq_true, decide_eq_true_eq] at h1
    exact call61 _ _ _ h1.1 h1.2.1 h1.2.2.1 h1.2.2.2
  · cases h
noncomputable def Γj := add tG Γi
theorem Okj : Γj.Ok Try.prog := add_ok Oki tG_ok

def dvQ (n d : Int) : Int := bif decide (0 < d) then n / d else 0
def dvR (n d : Int) : Int := bif decide (0 < d) then n % d else 0
def hiD (a d : Int) : Int := IntKind.i64.wrap (a.tdiv d)
theorem run30 (a b d : Int) : run Γj L0 Try.prog Try.f30 [W a b, .int .i64 d] =
    bif decide (d ≤ 0) then some (.tuple #[W 0 0, .int .i64 0, .bool false])
    else bif d == 0 then none else bif d == 0 then none else
      bif decide (a.tmod d < 0) then
        bif inU b && (decide (0 ≤ wU (IntKind.i64.wrap (a.tmod d + d))) && (decide (wU (IntKind.i64.wrap (a.tmod d + d)) < wU d) && inU (wU d))) then
          some (.tuple #[W (IntKind.i64.wrap (hiD a d - 1)) ((wU (IntKind.i64.wrap (a.tmod d + d)) * 18446744073709551616 + b) / wU d), .int .i64 (IntKind.i64.wrap ((wU (IntKind.i64.wrap (a.tmod d + d)) * 18446744073709551616 + b) % wU d)), .bool true])
        else none
      else
        bif inU b && (decide (0 ≤ wU (a.tmod d)) && (decide (wU (a.tmod d) < wU d) && inU (wU d))) then
          some (.tuple #[W (hiD a d) ((wU (a.tmod d) * 18446744073709551616 + b) / wU d), .int .i64 (IntKind.i64.wrap ((wU (a.tmod d) * 18446744073709551616 + b) % wU d)), .bool true])
        else none := by kernel_rfl

theorem divmod_of {d x y : Int} (h0 : 0 ≤ y) (h1 : y < d) : (d * x + y) / d = x ∧ (d * x + y) % d = y := by
  refine ⟨?_, ?_⟩
  · rw [Int.mul_add_ediv_left _ _ (by omega : d ≠ 0), Int.ediv_eq_zero_of_lt h0 h1]; omega
  · rw [Int.mul_add_emod_self_left, Int.emod_eq_of_lt h0 h1]

theorem tdm (a d : Int) (hd : 0 < d) : (a.tmod d < 0 → a / d = a.tdiv d - 1 ∧ a % d = a.tmod d + d) ∧ (¬ a.tmod d < 0 → a / d = a.tdiv d ∧ a % d = a.tmod d) := by
  have h := Int.mul_tdiv_add_tmod a d
  have l1 : a.tmod d < d := Int.tmod_lt_of_pos a hd
  have l2 : -d < a.tmod d := Int.lt_tmod_of_pos a hd
  refine ⟨fun hm => ?_, fun hm => ?_⟩
  · have := @divmod_of d (a.tdiv d - 1) (a.tmod d + d) (by omega) (by omega)
    rw [Int.mul_sub, Int.mul_one, show d * a.tdiv d - d + (a.tmod d + d) = a by omega] at this
    exact this
  · have := @divmod_of d (a.tdiv d) (a.tmod d) (by omega) (by omega)
    rw [h] at this
    exact this

theorem div30 (a b d : Int) (hW : inW a b = true) (hd : 0 < d) (hdI : inI d = true) : okW (wv a b / d) = true ∧ hiW (wv a b / d) = a / d ∧ loW (wv a b / d) = (a % d * 18446744073709551616 + b) / d ∧ wv a b % d = (a % d * 18446744073709551616 + b) % d ∧ inI (a / d) = true := by
  rw [inW_iff] at hW
  rw [inI_iff] at hdI
  have r0 := Int.emod_nonneg a (by omega : d ≠ 0)
  have r1 := Int.emod_lt_of_pos a hd
  have dm := Int.mul_ediv_add_emod a d
  have q0 : -9223372036854775808 ≤ a / d := (Int.le_ediv_iff_mul_le hd).2 (by omega)
  have q1 : a / d < 9223372036854775808 := (Int.ediv_lt_iff_lt_mul hd).2 (by omega)
  have z0 : 0 ≤ (a % d * 18446744073709551616 + b) / d := Int.ediv_nonneg (by omega) (by omega)
  have z1 : (a % d * 18446744073709551616 + b) / d < 18446744073709551616 := (Int.ediv_lt_iff_lt_mul hd).2 (by omega)
  have s0 := Int.emod_nonneg (a % d * 18446744073709551616 + b) (by omega : d ≠ 0)
  have s1 := Int.emod_lt_of_pos (a % d * 18446744073709551616 + b) hd
  have em := Int.mul_ediv_add_emod (a % d * 18446744073709551616 + b) d
  have e : wv a b = d * (a / d * 18446744073709551616 + (a % d * 18446744073709551616 + b) / d) + (a % d * 18446744073709551616 + b) % d := by
    rw [Int.mul_add, ← Int.mul_assoc]
    unfold wv; omega
  obtain ⟨f1, f2⟩ := @divmod_of d (a / d * 18446744073709551616 + (a % d * 18446744073709551616 + b) / d) ((a % d * 18446744073709551616 + b) % d) s0 s1
  rw [← e] at f1 f2
  rw [f1]
  obtain ⟨k1, k2, k3⟩ := okW_of (n := a / d * 18446744073709551616 + (a % d * 18446744073709551616 + b) / d) (by omega) (by omega)
  exact ⟨k1, by rw [k2]; omega, by rw [k3]; omega, f2, by rw [inI_iff]; omega⟩

theorem call30 (a b d : Int) (hW : inW a b = true) (hdI : inI d = true) : CallOk Try.prog 30 [W a b, .int .i64 d] (.tuple #[Wn (dvQ (wv a b) d), .int .i64 (dvR (wv a b) d), .bool (decide (0 < d))]) := by
  refine by_run Okj Try.func30 rfl (by kernel_rfl) ?_
  rw [run30]
  have hW' := inW_iff.1 hW
  by_cases hd : d ≤ 0
  · have h0 : ¬ 0 < d := by omega
    unfold dvQ dvR
    simp only [hd, h0, decide_true, decide_false, cond_true, cond_false]
    rfl
  · have h0 : 0 < d := by omega
    have hd0 : (d == 0) = false := by simp; omega
    obtain ⟨k1, k2, k3, k4, k5⟩ := div30 a b d hW h0 hdI
    obtain ⟨t1, t2⟩ := tdm a d h0
    rw [inI_iff] at hdI k5
    have r0 := Int.emod_nonneg a (by omega : d ≠ 0)
    have r1 := Int.emod_lt_of_pos a h0
    have wd : wU d = d := by unfold wU; rw [wrapU]; omega
    have hb : inU b = true := by rw [inU_iff]; omega
    have hdU : inU d = true := by rw [inU_iff]; omega
    have s0 := Int.emod_nonneg (a % d * 18446744073709551616 + b) (by omega : d ≠ 0)
    have s1 := Int.emod_lt_of_pos (a % d * 18446744073709551616 + b) h0
    unfold dvQ dvR
    simp only [hd, h0, hd0, decide_true, decide_false, cond_true, cond_false, wd, hb, hdU, Bool.true_and, Bool.and_true]
    show _ = some (Value.tuple #[W (hiW (wv a b / d)) (loW (wv a b / d)), .int .i64 (wv a b % d), .bool true])
    rw [k2, k3, k4]
    by_cases hm : a.tmod d < 0
    · obtain ⟨u1, u2⟩ := t1 hm
      have e1 : wU (IntKind.i64.wrap (a.tmod d + d)) = a % d := by
        rw [← u2]; unfold wU; rw [wrapU, wrapI]; split <;> omega
      have e2 : IntKind.i64.wrap (hiD a d - 1) = a / d := by
        unfold hiD; rw [wrapI, wrapI]; split <;> split <;> omega
      have e3 : IntKind.i64.wrap ((a % d * 18446744073709551616 + b) % d) = (a % d * 18446744073709551616 + b) % d := by
        rw [wrapI]; split <;> omega
      rw [e1, e2, e3]
      have g : (decide (0 ≤ a % d) && decide (a % d < d)) = true := by simp; omega
      simp only [hm, decide_true, cond_true, g]
    · obtain ⟨u1, u2⟩ := t2 hm
      have e1 : wU (a.tmod d) = a % d := by
        rw [← u2]; unfold wU; rw [wrapU]; omega
      have e2 : hiD a d = a / d := by
        unfold hiD; rw [← u1, wrapI]; split <;> omega
      have e3 : IntKind.i64.wrap ((a % d * 18446744073709551616 + b) % d) = (a % d * 18446744073709551616 + b) % d := by
        rw [wrapI]; split <;> omega
      rw [e1, e2, e3]
      have g : (decide (0 ≤ a % d) && decide (a % d < d)) = true := by simp; omega
      simp only [hm, decide_false, cond_true, cond_false, g]
def tH : FuncId → List Value → Option (Bool × Value)
  | 30, [.agg ⟨[.int .i64 a, .int .u64 b]⟩, .int .i64 d] => some (inW a b && inI d, .tuple #[Wn (dvQ (wv a b) d), .int .i64 (dvR (wv a b) d), .bool (decide (0 < d))])
  | _, _ => none
theorem tH_ok (f : FuncId) (vs : List Value) (r : Value) (h : tH f vs = some (true, r)) : CallOk Try.prog f vs r := by
  unfold tH at h
  split at h
  · injection h with h; injection h with h1 h2; subst h2
    simp only [Bool.and_eq_true] at h1
    exact call30 _ _ _ h1.1 h1.2
  · cases h
noncomputable def Γk := add tH Γj
theorem Okk : Γk.Ok Try.prog := add_ok Okj tH_ok
end Go.Proofs.Ytanjomncnbmgkaa

namespace Go.Proofs.Ytanjomncnbmgkaa
open Go Go.Proofs Go.Sx
theorem run4 (a b : Int) : run Γk L0 Try.prog Try.f4 [.int .i64 a, .int .i64 b] =
    bif inI a && inI b then
     bif inI a && inI b then
      bif !(hiW (a * b) == pHi (a * b) && (loW (a * b) == pLo (a * b) && true)) then some (.bool false)
      else bif inI b && inI a then
        bif !(hiW (a * b) == hiW (b * a) && (loW (a * b) == loW (b * a) && true)) then some (.bool false)
        else bif decide (b ≤ 0) then some (.bool true)
        else bif inW (hiW (a * b)) (loW (a * b)) && inI b then
          bif decide (0 < b) then
            bif dvR (wv (hiW (a * b)) (loW (a * b))) b == 0 then
              bif inI a then some (.bool (hiW (dvQ (wv (hiW (a * b)) (loW (a * b))) b) == hiW a && (loW (dvQ (wv (hiW (a * b)) (loW (a * b))) b) == loW a && true)))
              else none
            else some (.bool false)
          else some (.bool false)
        else none
      else none
     else none
    else none := by kernel_rfl

theorem W_inj {a b c d : Int} (h : W a b = W c d) : a = c ∧ b = d := by
  injection h with h
  simp at h
  exact h
theorem p_ok {n : Int} (h : okW n = true) : pHi n = hiW n ∧ pLo n = loW n := W_inj (pW_ok h)
theorem mulI_bound {a b : Int} (ha : -9223372036854775808 ≤ a) (ha' : a < 9223372036854775808) (hb : -9223372036854775808 ≤ b) (hb' : b < 9223372036854775808) : -85070591730234615865843651857942052864 ≤ a * b ∧ a * b ≤ 85070591730234615865843651857942052864 := by
  have h := Nat.mul_le_mul (show a.natAbs ≤ 9223372036854775808 by omega) (show b.natAbs ≤ 9223372036854775808 by omega)
  rw [← Int.natAbs_mul] at h
  generalize a * b = c at *
  omega
theorem okW_mul {a b : Int} (ha : inI a = true) (hb : inI b = true) : okW (a * b) = true := by
  rw [inI_iff] at ha hb
  have := mulI_bound ha.1 ha.2 hb.1 hb.2
  generalize a * b = c at *
  simp only [okW, decide_eq_true_eq]; omega
theorem wideMul (a b : Int) (ha : inI a = true) (hb : inI b = true) : run Γk L0 Try.prog Try.f4 [.int .i64 a, .int .i64 b] = some (.bool true) := by
  have hk := okW_mul ha hb
  obtain ⟨e1, e2⟩ := p_ok hk
  obtain ⟨e3, e4⟩ := wv_Wn hk
  rw [run4, ha, hb, e1, e2, e3, e4, Int.mul_comm b a]
  simp only [BEq.rfl, Bool.and_self, cond_true, Bool.not_true, cond_false]
  by_cases h0 : b ≤ 0
  · simp only [h0, decide_true, cond_true]
  · have hb0 : 0 < b := by omega
    have d1 : dvQ (a * b) b = a := by unfold dvQ; simp only [hb0, decide_true, cond_true]; exact Int.mul_ediv_cancel _ (by omega)
    have d2 : dvR (a * b) b = 0 := by unfold dvR; simp only [hb0, decide_true, cond_true]; exact Int.mul_emod_left _ _
    rw [d1, d2]
    simp only [h0, hb0, decide_true, decide_false, cond_true, cond_false, BEq.rfl, Bool.and_self]
end Go.Proofs.Ytanjomncnbmgkaa

