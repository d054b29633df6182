/-
  Contract: the document's product, by sums.
-/
import Derived.Test.YtanjomncnbmgkaaSz
import Derived.Test.YtanjomncnbmgkaaYd
namespace Go.Proofs.Ytanjomncnbmgkaa
open Go Go.Proofs Go.Sx
theorem tA_ok (f : FuncId) (vs : List Arg) (r : Res) (h : tA f vs = some (true, r)) : Go.Sx.CallOk Try.prog f vs r := by
  unfold tA at h
  split at h
  · rename_i a b
    injection h with h; injection h with h1 h2; subst h2
    have := call62 a b h1
    rw [inU_iff] at h1
    rw [bl_join _ _ h1.1 h1.2] at this
    exact this
  · injection h with h; injection h with h1 h2; subst h2
    exact call63 _ (by simpa using h1)
  · cases h
theorem tB_ok (f : FuncId) (vs : List Value) (r : Value) (h : tB f vs = some (true, r)) : CallOk Try.prog f vs r := by
  unfold tB at h
  split at h
  · injection h with h; injection h with h1 h2; subst h2
    simp only [Bool.and_eq_true] at h1
    exact call56 _ _ _ _ h1.1 h1.2
  · cases h
noncomputable def Γg := addA tA (add tB Γe)
theorem Okg : Γg.Ok Try.prog := addA_ok (add_ok Oke tB_ok) tA_ok
end Go.Proofs.Ytanjomncnbmgkaa

namespace Go.Proofs.Ytanjomncnbmgkaa
open Go Go.Proofs Go.Sx

def pHi (n : Int) : Int := IntKind.i64.wrap (n / 18446744073709551616)
def pLo (n : Int) : Int := n % 18446744073709551616
theorem pHi_mod {n m : Int} (h : n % 340282366920938463463374607431768211456 = m % 340282366920938463463374607431768211456) : pHi n = pHi m := by
  unfold pHi
  have h1 : n / 18446744073709551616 % 18446744073709551616 = m / 18446744073709551616 % 18446744073709551616 := by omega
  rw [wrapI, wrapI, h1]
theorem pLo_mod {n m : Int} (h : n % 340282366920938463463374607431768211456 = m % 340282366920938463463374607431768211456) : pLo n = pLo m := by
  unfold pLo; omega
theorem wv_p (n : Int) : wv (pHi n) (pLo n) % 340282366920938463463374607431768211456 = n % 340282366920938463463374607431768211456 := by
  unfold wv pHi pLo
  rw [wrapI]
  split <;> omega
theorem pHi_add (x y : Int) : pHi (wv (pHi x) (pLo x) + wv (pHi y) (pLo y)) = pHi (x + y) := by
  apply pHi_mod
  have h1 := wv_p x
  have h2 := wv_p y
  omega
theorem pLo_add (x y : Int) : pLo (wv (pHi x) (pLo x) + wv (pHi y) (pLo y)) = pLo (x + y) := by
  apply pLo_mod
  have h1 := wv_p x
  have h2 := wv_p y
  omega
theorem pW_def (n : Int) : pW n = W (pHi n) (pLo n) := rfl
theorem inU_pLo (n : Int) : inU (pLo n) = true := by rw [inU_iff]; unfold pLo; omega
theorem p_self {a b : Int} (h : inW a b = true) : pHi (wv a b) = a ∧ pLo (wv a b) = b := by
  rw [inW_iff] at h
  unfold pHi pLo wv
  rw [wrapI]
  refine ⟨?_, by omega⟩
  split <;> omega

def bu (n i : Int) : Int := IntKind.u64.wrap ((BitVec.ofInt 64 (n.fdiv (2 ^ (min i.toNat IntKind.u64.bits))) &&& BitVec.ofInt 64 1).toNat : Int)
theorem bu_eq (b : Int) (h0 : 0 ≤ b) (h1 : b < 18446744073709551616) (i : Nat) (hi : i < 64) : bu b i = bitI b i := by
  unfold bu bitI
  have hm : min (i : Int).toNat IntKind.u64.bits = i := by
    show min (i : Int).toNat 64 = i
    omega
  have hp : (0 : Int) < 2 ^ i := Int.pow_pos (by decide)
  rw [hm, Int.fdiv_eq_ediv_of_nonneg _ (by omega)]
  have d0 : 0 ≤ b / 2 ^ i := Int.ediv_nonneg h0 (by omega)
  have d1 : b / 2 ^ i ≤ b := Int.ediv_le_self _ h0
  generalize b / 2 ^ i = y at *
  rw [and1 _ d0 (by omega), wrapU]
  omega

def keep29 : List Bool := maskOf 36 [8, 7, 6, 5, 1, 4]
def kx29 : List Bool := maskOf 36 [1, 6, 5, 4]
noncomputable def body29 : Code := loopAt (Try.f29.body.getD .skip) 0
theorem loops29 : loopsOf (Try.f29.body.getD .skip) = [body29] := by kernel_rfl
theorem loops29a : loopsOf body29 = [] := by kernel_rfl
def M29 (oa ob xa xb ya yb : Int) : Mem := ⟨[[.v (.int .i64 oa), .v (.int .u64 ob)], [.v (.int .i64 xa), .v (.int .u64 xb)], [.v (.int .i64 ya), .v (.int .u64 yb)]], [true, true, true], []⟩
def S29 (b n i oa ob xa xb ya yb : Int) : St := mk keep29 [.v (.int .i64 b), .ptr 0 0, .ptr 1 0, .ptr 2 0, .v (.int .u64 n), .v (.int .i64 i)] (M29 oa ob xa xb ya yb)
def S29x (b oa ob xa xb ya yb : Int) : St := mk kx29 [.v (.int .i64 b), .ptr 0 0, .ptr 1 0, .ptr 2 0] (M29 oa ob xa xb ya yb)
def K29 (e : Ex) (st : St) : Option (Ex × St) := some (e, cutG kx29 st)
theorem step29 (b n i oa ob xa xb ya yb : Int) (m : Nat) : evLoop Γg Try.prog L0 (cutG keep29) body29 (m + 1) (S29 b n i oa ob xa xb ya yb) K29 =
    bif decide (i < 64) then
      bif decide (i < 0) then none else
        bif bu n i == 1 then
          bif inU yb && inU xb then
            bif inU xb && inU xb then
              evLoop Γg Try.prog L0 (cutG keep29) body29 m (S29 b n (IntKind.i64.wrap (i + 1)) oa ob (pHi (wv xa xb + wv xa xb)) (pLo (wv xa xb + wv xa xb)) (pHi (wv ya yb + wv xa xb)) (pLo (wv ya yb + wv xa xb))) K29
            else none
          else none
        else
          bif inU xb && inU xb then
            evLoop Γg Try.prog L0 (cutG keep29) body29 m (S29 b n (IntKind.i64.wrap (i + 1)) oa ob (pHi (wv xa xb + wv xa xb)) (pLo (wv xa xb + wv xa xb)) ya yb) K29
          else none
    else some (.exit 0, S29x b oa ob xa xb ya yb) := by kernel_rfl

theorem loop29 (b n oa ob X : Int) (h0 : 0 ≤ n) (h1 : n < 18446744073709551616) : ∀ (m j : Nat), j + m = 64 →
    evLoop Γg Try.prog L0 (cutG keep29) body29 (m + 1) (S29 b n j oa ob (pHi (X * 2 ^ j)) (pLo (X * 2 ^ j)) (pHi (X * (n % 2 ^ j))) (pLo (X * (n % 2 ^ j)))) K29 =
      some (.exit 0, S29x b oa ob (pHi (X * 2 ^ 64)) (pLo (X * 2 ^ 64)) (pHi (X * (n % 2 ^ 64))) (pLo (X * (n % 2 ^ 64)))) := by
  intro m
  induction m with
  | zero =>
    intro j hj
    obtain rfl : j = 64 := by omega
    rw [step29]
    rfl
  | succ m ih =>
    intro j hj
    have hp : (0 : Int) < 2 ^ j := Int.pow_pos (by decide)
    have g1 : decide ((j : Int) < 64) = true := by simp; omega
    have g2 : decide ((j : Int) < 0) = false := by simp
    rw [step29, g1, g2, inU_pLo, inU_pLo, bu_eq n h0 h1 j (by omega), wrap1 j (by omega), pHi_add, pLo_add, pHi_add, pLo_add]
    simp only [cond_true, cond_false, Bool.and_self]
    have ih := ih (j + 1) (by omega)
    have e1 : X * 2 ^ j + X * 2 ^ j = X * 2 ^ (j + 1) := by rw [Int.pow_succ, ← Int.mul_add]; congr 1; omega
    have e2 := emod2 n (2 ^ j) hp
    rw [← Int.pow_succ] at e2
    rw [e1]
    have hb : n / 2 ^ j % 2 = 0 ∨ n / 2 ^ j % 2 = 1 := by omega
    unfold bitI
    rcases hb with hb | hb
    · rw [hb] at e2 ⊢
      rw [Int.mul_zero, Int.add_zero] at e2
      rw [e2] at ih
      exact ih
    · rw [hb] at e2 ⊢
      rw [Int.mul_one] at e2
      rw [e2, Int.mul_add] at ih
      exact ih

def G29 (vals : List SV) (m : Mem) : Option (Bool × Ex × St) :=
  match vals, m with
  | [.v (.int .i64 b), .ptr 0 0, .ptr 1 0, .ptr 2 0, .v (.int .u64 n), .v (.int .i64 i)], ⟨[[.v (.int .i64 oa), .v (.int .u64 ob)], [.v (.int .i64 xa), .v (.int .u64 xb)], [.v (.int .i64 ya), .v (.int .u64 yb)]], [true, true, true], []⟩ =>
    some (inW xa xb && (inU n && (i == 0 && (ya == 0 && yb == 0))), .exit 0, S29x b oa ob (pHi (wv xa xb * 2 ^ 64)) (pLo (wv xa xb * 2 ^ 64)) (pHi (wv xa xb * (n % 2 ^ 64))) (pLo (wv xa xb * (n % 2 ^ 64))))
  | _, _ => none
def Λ29 : LoopOrc := fun _ st => viaK keep29 G29 st
theorem loopOk29 (w0 : World) : LoopOk Λ29 Try.prog w0 body29 := by
  refine loop_okK (Λ := L0) (keep := keep29) (kx := fun _ => kx29) Okg mixed (fun b hb => by rw [loops29a] at hb; cases hb) (G := G29) (fun _ => rfl) ?_
  intro vals m e st' h
  unfold G29 at h
  split at h
  · rename_i b n i oa ob xa xb ya yb
    injection h with h
    injection h with h1 h
    injection h with h2 h3
    subst h2 h3
    simp only [Bool.and_eq_true, beq_iff_eq] at h1
    obtain ⟨g1, g2, rfl, rfl, rfl⟩ := h1
    rw [inU_iff] at g2
    have := loop29 b n oa ob (wv xa xb) g2.1 g2.2 64 0 rfl
    refine ⟨65, ?_⟩
    rw [Int.pow_zero, Int.mul_one, Int.emod_one, Int.mul_zero, (p_self g1).1, (p_self g1).2] at this
    exact this
  · cases h

theorem run29 (a b : Int) : run Γg Λ29 Try.prog Try.f29 [.int .i64 a, .int .i64 b] =
    bif inI a then
      bif inW (hiW a) (loW a) && (inU (IntKind.u64.wrap b) && ((0 : Int) == 0 && ((0 : Int) == 0 && (0 : Int) == 0))) then
        bif decide (b < 0) then
          bif inU (pLo (wv (hiW a) (loW a) * 2 ^ 64)) then
            bif inU (pLo (wv (hiW a) (loW a) * (IntKind.u64.wrap b % 2 ^ 64))) && inU (pLo (-wv (pHi (wv (hiW a) (loW a) * 2 ^ 64)) (pLo (wv (hiW a) (loW a) * 2 ^ 64)))) then
              some (pW (wv (pHi (wv (hiW a) (loW a) * (IntKind.u64.wrap b % 2 ^ 64))) (pLo (wv (hiW a) (loW a) * (IntKind.u64.wrap b % 2 ^ 64))) + wv (pHi (-wv (pHi (wv (hiW a) (loW a) * 2 ^ 64)) (pLo (wv (hiW a) (loW a) * 2 ^ 64)))) (pLo (-wv (pHi (wv (hiW a) (loW a) * 2 ^ 64)) (pLo (wv (hiW a) (loW a) * 2 ^ 64))))))
            else none
          else none
        else some (W (pHi (wv (hiW a) (loW a) * (IntKind.u64.wrap b % 2 ^ 64))) (pLo (wv (hiW a) (loW a) * (IntKind.u64.wrap b % 2 ^ 64))))
      else none
    else none := by kernel_rfl

theorem wv_Wn {n : Int} (h : okW n = true) : wv (hiW n) (loW n) = n ∧ inW (hiW n) (loW n) = true := by
  have h' : -170141183460469231731687303715884105728 ≤ n ∧ n < 170141183460469231731687303715884105728 := by simpa [okW] using h
  obtain ⟨_, k2, k3⟩ := okW_of h'.1 h'.2
  rw [inW_iff, k2, k3]
  unfold wv
  omega
theorem okW_I {n : Int} (h : inI n = true) : okW n = true := by
  rw [inI_iff] at h
  simp only [okW, decide_eq_true_eq]; omega

theorem call29 (a b : Int) (h1 : inI a = true) (h2 : inI b = true) : CallOk Try.prog 29 [.int .i64 a, .int .i64 b] (pW (a * b)) := by
  refine callOk_of_runV Okg mixed names (Λ := Λ29) Try.func29 rfl (fun w b hb => ?_) ?_
  · have hb' : b ∈ loopsOf (Try.f29.body.getD .skip) := hb
    rw [loops29, List.mem_singleton] at hb'
    subst hb'; exact loopOk29 w
  · obtain ⟨e1, e2⟩ := wv_Wn (okW_I h1)
    have e3 : inU (IntKind.u64.wrap b) = true := by rw [inU_iff, wrapU]; omega
    rw [run29, h1, e1, e2, e3, inU_pLo, inU_pLo, inU_pLo]
    simp only [BEq.rfl, Bool.and_self, cond_true]
    rw [inI_iff] at h2
    have e64 : (2 : Int) ^ 64 = 18446744073709551616 := by decide
    rw [e64]
    have em : IntKind.u64.wrap b % 18446744073709551616 = b % 18446744073709551616 := by rw [wrapU]; omega
    rw [em]
    by_cases hb : b < 0
    · simp only [hb, decide_true, cond_true]
      refine congrArg some (pW_eq ?_)
      have q1 := wv_p (a * (b % 18446744073709551616))
      have q2 := wv_p (-wv (pHi (a * 18446744073709551616)) (pLo (a * 18446744073709551616)))
      have q3 := wv_p (a * 18446744073709551616)
      have : b % 18446744073709551616 = b + 18446744073709551616 := by omega
      rw [this, Int.mul_add] at q1 ⊢
      omega
    · simp only [hb, decide_false, cond_false]
      have : b % 18446744073709551616 = b := by omega
      rw [this]; rfl
end Go.Proofs.Ytanjomncnbmgkaa

