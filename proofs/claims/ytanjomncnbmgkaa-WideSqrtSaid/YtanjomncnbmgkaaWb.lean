/-
  Contracts: math/bits.Mul64, wide.Of and others.
-/
import Derived.Test.YtanjomncnbmgkaaWa
namespace Go.Proofs.Ytanjomncnbmgkaa
open Go Go.Proofs Go.Sx

theorem Ok0 : Γ0.Ok Try.prog := ⟨ext_ok, eqvOf_ok eqs_ok⟩

theorem add_ok {t : FuncId → List Value → Option (Bool × Value)} {Γ : Orc} {P : Program} (h : Γ.Ok P) (ht : ∀ f vs r, t f vs = some (true, r) → CallOk P f vs r) : (add t Γ).Ok P := by
  refine ⟨fun f vs r hr => ?_, h.eqv⟩
  simp only [add] at hr
  split at hr
  · rename_i q hq
    injection hr with hr
    subst hr
    exact ht f vs r hq
  · exact h.call f vs r hr

theorem by_run {Γ : Orc} (hΓ : Γ.Ok Try.prog) {f : FuncId} {fn : Func} {c : Code} (hf : Try.prog.funcs[f]? = some fn) (hb : fn.body = some c) (hl : loopsOf c = []) {vs : List Value} {r : Value} (h : run Γ L0 Try.prog fn vs = some r) : CallOk Try.prog f vs r :=
  callOk_of_run hΓ mixed names hf hb (fun w b hm => by rw [hl] at hm; cases hm) h

theorem wrapU (n : Int) : IntKind.u64.wrap n = n % 18446744073709551616 := (wr_eq true .u64 n).symm
theorem wrapI (n : Int) : IntKind.i64.wrap n = if n % 18446744073709551616 ≥ 9223372036854775808 then n % 18446744073709551616 - 18446744073709551616 else n % 18446744073709551616 := by
  rw [← wr_eq true .i64 n]
  simp only [wr]
  split <;> simp_all <;> omega

theorem inI_iff {n : Int} : inI n = true ↔ -9223372036854775808 ≤ n ∧ n < 9223372036854775808 := by simp [inI]
theorem inU_iff {n : Int} : inU n = true ↔ 0 ≤ n ∧ n < 18446744073709551616 := by simp [inU]
theorem inW_iff {a b : Int} : inW a b = true ↔ (-9223372036854775808 ≤ a ∧ a < 9223372036854775808) ∧ 0 ≤ b ∧ b < 18446744073709551616 := by simp [inW, inI_iff, inU_iff]

theorem agg_int {a b c d : Int} (h1 : a = c) (h2 : b = d) : (some (W a b) : Option Value) = some (W c d) := by rw [h1, h2]
theorem wb {a b c d : Int} {s t : Bool} (h1 : a = c) (h2 : b = d) (h3 : s = t) : (some (.tuple #[W a b, .bool s]) : Option Value) = some (.tuple #[W c d, .bool t]) := by rw [h1, h2, h3]
theorem ib {a c : Int} {s t : Bool} (h1 : a = c) (h3 : s = t) : (some (.tuple #[.int .i64 a, .bool s]) : Option Value) = some (.tuple #[.int .i64 c, .bool t]) := by rw [h1, h3]

theorem okW_of {n : Int} (h1 : -170141183460469231731687303715884105728 ≤ n) (h2 : n < 170141183460469231731687303715884105728) : okW n = true ∧ hiW n = n / 18446744073709551616 ∧ loW n = n % 18446744073709551616 := by
  have : okW n = true := by simp [okW, h1, h2]
  simp [hiW, loW, this]
theorem okW_not {n : Int} (h : n < -170141183460469231731687303715884105728 ∨ 170141183460469231731687303715884105728 ≤ n) : okW n = false ∧ hiW n = 0 ∧ loW n = 0 := by
  have : okW n = false := by simp [okW]; omega
  simp [hiW, loW, this]

theorem call31 (n : Int) (h : inI n = true) : CallOk Try.prog 31 [.int .i64 n] (Wn n) := by
  refine by_run Ok0 Try.func31 rfl (by kernel_rfl) ?_
  have e : run Γ0 L0 Try.prog Try.f31 [.int .i64 n] = some (W (n.fdiv (2 ^ 63)) (IntKind.u64.wrap n)) := by kernel_rfl
  rw [e]
  rw [inI_iff] at h
  obtain ⟨_, h1, h2⟩ := okW_of (n := n) (by omega) (by omega)
  refine agg_int ?_ ?_
  · rw [h1, Int.fdiv_eq_ediv_of_nonneg _ (by decide)]
    rw [show (2 : Int) ^ 63 = 9223372036854775808 from by decide]
    omega
  · rw [h2, wrapU]

theorem call54 (a b : Int) : CallOk Try.prog 54 [W a b] (.bool (decide (a < 0))) := by
  refine by_run Ok0 Try.func54 rfl (by kernel_rfl) ?_
  kernel_rfl

theorem call68 (a : Int) : CallOk Try.prog 68 [.int .i64 a] (.bool false) := by
  refine by_run Ok0 Try.func68 rfl (by kernel_rfl) ?_
  have e : run Γ0 L0 Try.prog Try.f68 [.int .i64 a] = some (.bool (a != a)) := by kernel_rfl
  rw [e]; simp
theorem call69 (a : Int) : CallOk Try.prog 69 [.int .u64 a] (.bool false) := by
  refine by_run Ok0 Try.func69 rfl (by kernel_rfl) ?_
  have e : run Γ0 L0 Try.prog Try.f69 [.int .u64 a] = some (.bool (a != a)) := by kernel_rfl
  rw [e]; simp

/-! ### math/bits.Mul64 -/
theorem and32 (x : Int) (h0 : 0 ≤ x) (h1 : x < 18446744073709551616) : ((BitVec.ofInt 64 x &&& BitVec.ofInt 64 4294967295).toNat : Int) = x % 4294967296 := by
  obtain ⟨n, rfl⟩ := Int.eq_ofNat_of_zero_le h0
  have e : (BitVec.ofInt 64 4294967295) = BitVec.ofNat 64 (2 ^ 32 - 1) := by decide
  rw [e, BitVec.toNat_and, BitVec.ofInt_natCast, BitVec.toNat_ofNat, BitVec.toNat_ofNat]
  rw [Nat.mod_eq_of_lt (a := 2 ^ 32 - 1) (by decide), Nat.and_two_pow_sub_one_eq_mod]
  show ((n % 18446744073709551616 % 4294967296 : Nat) : Int) = _
  omega

theorem mul_lt (a b m n : Int) (ha : 0 ≤ a) (ha' : a < m) (hb : 0 ≤ b) (hb' : b < n) : 0 ≤ a * b ∧ a * b ≤ (m - 1) * (n - 1) := by
  refine ⟨Int.mul_nonneg ha hb, ?_⟩
  exact Int.mul_le_mul (by omega) (by omega) hb (by omega)

theorem mul64_core (x y : Int) :
    (x / 4294967296 * (y / 4294967296) + (x / 4294967296 * (y % 4294967296) + x % 4294967296 * (y % 4294967296) / 4294967296) / 4294967296 +
      ((x / 4294967296 * (y % 4294967296) + x % 4294967296 * (y % 4294967296) / 4294967296) % 4294967296 + x % 4294967296 * (y / 4294967296)) / 4294967296) = x * y / 18446744073709551616 := by
  have ex := Int.mul_ediv_add_emod x 4294967296
  have ey := Int.mul_ediv_add_emod y 4294967296
  generalize x / 4294967296 = p at *
  generalize x % 4294967296 = q at *
  generalize y / 4294967296 = r at *
  generalize y % 4294967296 = s at *
  have e : x * y = 18446744073709551616 * (p * r) + 4294967296 * (p * s) + 4294967296 * (q * r) + q * s := by
    rw [← ex, ← ey]
    simp only [Int.add_mul, Int.mul_add]
    have h1 : 4294967296 * p * (4294967296 * r) = 18446744073709551616 * (p * r) := by
      rw [Int.mul_assoc, Int.mul_left_comm p, ← Int.mul_assoc]; rfl
    have h2 : 4294967296 * p * s = 4294967296 * (p * s) := Int.mul_assoc _ _ _
    have h3 : q * (4294967296 * r) = 4294967296 * (q * r) := Int.mul_left_comm _ _ _
    rw [h1, h2, h3]
    omega
  rw [e]
  generalize p * r = A
  generalize p * s = B
  generalize q * r = C
  generalize q * s = D
  omega

theorem call60 (x y : Int) (hx : inU x = true) (hy : inU y = true) : CallOk Try.prog 60 [.int .u64 x, .int .u64 y] (.tuple #[.int .u64 (x * y / 18446744073709551616), .int .u64 (x * y % 18446744073709551616)]) := by
  refine by_run Ok0 Try.func60 rfl (by kernel_rfl) ?_
  let U := IntKind.u64.wrap
  let A := fun z : Int => U ((BitVec.ofInt 64 z &&& BitVec.ofInt 64 4294967295).toNat : Int)
  let S := fun z : Int => z.fdiv (2 ^ 32)
  have e : run Γ0 L0 Try.prog Try.f60 [.int .u64 x, .int .u64 y] =
      (let w0 := U (A x * A y); let t := U (U (S x * A y) + S w0); let w1 := U (A t + U (A x * S y)); some (.tuple #[.int .u64 (U (U (U (S x * S y) + S t) + S w1)), .int .u64 (U (x * y))])) := by kernel_rfl
  rw [e]
  rw [inU_iff] at hx hy
  have eS : ∀ z, S z = z / 4294967296 := by
    intro z
    show z.fdiv (2 ^ 32) = _
    rw [Int.fdiv_eq_ediv_of_nonneg _ (by decide)]
    rfl
  have eU : ∀ z, 0 ≤ z → z < 18446744073709551616 → U z = z := by
    intro z h0 h1
    show IntKind.u64.wrap z = z
    rw [wrapU]; omega
  have eA : ∀ z, 0 ≤ z → z < 18446744073709551616 → A z = z % 4294967296 := by
    intro z h0 h1
    show U _ = _
    rw [and32 z h0 h1, eU _ (by omega) (by omega)]
  have hcore := mul64_core x y
  have hxy := mul_lt x y 18446744073709551616 18446744073709551616 hx.1 hx.2 hy.1 hy.2
  have e0 : U (x * y) = x * y % 18446744073709551616 := wrapU _
  have b1 := mul_lt (x % 4294967296) (y % 4294967296) 4294967296 4294967296 (by omega) (by omega) (by omega) (by omega)
  have b2 := mul_lt (x / 4294967296) (y % 4294967296) 4294967296 4294967296 (by omega) (by omega) (by omega) (by omega)
  have b3 := mul_lt (x % 4294967296) (y / 4294967296) 4294967296 4294967296 (by omega) (by omega) (by omega) (by omega)
  have b4 := mul_lt (x / 4294967296) (y / 4294967296) 4294967296 4294967296 (by omega) (by omega) (by omega) (by omega)
  simp only [eS, eA x hx.1 hx.2, eA y hy.1 hy.2]
  rw [e0]
  clear e e0
  generalize x / 4294967296 = p at *
  generalize x % 4294967296 = q at *
  generalize y / 4294967296 = r at *
  generalize y % 4294967296 = s at *
  generalize p * r = B4 at *
  generalize p * s = B2 at *
  generalize q * r = B3 at *
  generalize q * s = B1 at *
  generalize x * y = Z at *
  have h1 : U B1 = B1 := eU _ (by omega) (by omega)
  have h2 : U B2 = B2 := eU _ (by omega) (by omega)
  have h3 : U (B2 + B1 / 4294967296) = B2 + B1 / 4294967296 := eU _ (by omega) (by omega)
  have h4 : A (B2 + B1 / 4294967296) = (B2 + B1 / 4294967296) % 4294967296 := eA _ (by omega) (by omega)
  have h5 : U B3 = B3 := eU _ (by omega) (by omega)
  have h6 : U ((B2 + B1 / 4294967296) % 4294967296 + B3) = (B2 + B1 / 4294967296) % 4294967296 + B3 := eU _ (by omega) (by omega)
  have h7 : U B4 = B4 := eU _ (by omega) (by omega)
  have h8 : U (B4 + (B2 + B1 / 4294967296) / 4294967296) = B4 + (B2 + B1 / 4294967296) / 4294967296 := eU _ (by omega) (by omega)
  have h9 : U (B4 + (B2 + B1 / 4294967296) / 4294967296 + ((B2 + B1 / 4294967296) % 4294967296 + B3) / 4294967296) = B4 + (B2 + B1 / 4294967296) / 4294967296 + ((B2 + B1 / 4294967296) % 4294967296 + B3) / 4294967296 :=
    eU _ (by omega) (by omega)
  rw [h1, h2, h3, h4, h5, h6, h7, h8, h9, hcore]

theorem t1_ok (f : FuncId) (vs : List Value) (r : Value) (h : t1 f vs = some (true, r)) : CallOk Try.prog f vs r := by
  unfold t1 at h
  split at h
  · injection h with h; injection h with h1 h2; subst h2; exact call31 _ h1
  · injection h with h; injection h with h1 h2; subst h2; exact call54 _ _
  · injection h with h; injection h with h1 h2; subst h2; exact call68 _
  · injection h with h; injection h with h1 h2; subst h2; exact call69 _
  · injection h with h; injection h with h1 h2; subst h2
    simp only [Bool.and_eq_true] at h1
    exact call60 _ _ h1.1 h1.2
  · cases h
theorem Ok1 : Γ1.Ok Try.prog := add_ok Ok0 t1_ok
end Go.Proofs.Ytanjomncnbmgkaa

