/-
  What is known of this program: externs, equality of structs, names; contracts of math/bits.Mul64, wide.Of and others.
-/
import Derived.Test.YtanjomncnbmgkaaSz
import Derived.Shelf.Spec.BitsCarry
import Derived.Test.YtanjomncnbmgkaaProg
namespace Go.Proofs.Ytanjomncnbmgkaa
open Go Go.Proofs Go.Sx

def addS (x y c : Int) : Int := (x + y + c) % 18446744073709551616
def addC (x y c : Int) : Int := (x + y + c) / 18446744073709551616
def subS (x y c : Int) : Int := (x - y - c) % 18446744073709551616
def subC (x y c : Int) : Int := bif decide (x < y + c) then 1 else 0

def ext : FuncId → List Value → Option (Bool × Value)
  | 53, [.int .u64 x, .int .u64 y, .int .u64 c] => some (decide (0 ≤ x ∧ 0 ≤ y ∧ 0 ≤ c ∧ c ≤ 1), .tuple #[.int .u64 (addS x y c), .int .u64 (addC x y c)])
  | 55, [.int .u64 x, .int .u64 y, .int .u64 c] => some (decide (0 ≤ x ∧ 0 ≤ y ∧ y < 18446744073709551616 ∧ 0 ≤ c ∧ c ≤ 1), .tuple #[.int .u64 (subS x y c), .int .u64 (subC x y c)])
  | _, _ => none

theorem mixed : Try.prog.follows .mixedOrders = true := by kernel_rfl
theorem names : namesOk Try.prog = true := by kernel_rfl

theorem ext_ok (f : FuncId) (vs : List Value) (r : Value) (h : ext f vs = some (true, r)) : Go.Sx.CallOk Try.prog f (vs.map .v) (.v r) := by
  refine callV _ (fun w => ?_)
  unfold ext at h
  split at h
  · rename_i x y c
    injection h with h
    injection h with h1 h2
    subst h2
    have hc : 0 ≤ x ∧ 0 ≤ y ∧ 0 ≤ c ∧ c ≤ 1 := by simpa using h1
    left
    rw [run_callFunc_extern Try.func53 (by kernel_rfl) (by kernel_rfl) (by kernel_rfl) (e := add64Entry) (by kernel_rfl)]
    rw [show (List.toArray [Value.int .u64 x, .int .u64 y, .int .u64 c]) = #[Value.int .u64 x, .int .u64 y, .int .u64 c] from rfl, run_add64 x y c hc.1 hc.2.1 hc.2.2.1 hc.2.2.2]
    rfl
  · rename_i x y c
    injection h with h
    injection h with h1 h2
    subst h2
    have hc : 0 ≤ x ∧ 0 ≤ y ∧ y < 18446744073709551616 ∧ 0 ≤ c ∧ c ≤ 1 := by simpa using h1
    obtain ⟨n, rfl⟩ := Int.eq_ofNat_of_zero_le hc.1
    obtain ⟨m, rfl⟩ := Int.eq_ofNat_of_zero_le hc.2.1
    obtain ⟨q, rfl⟩ := Int.eq_ofNat_of_zero_le hc.2.2.2.1
    left
    rw [run_callFunc_extern Try.func55 (by kernel_rfl) (by kernel_rfl) (by kernel_rfl) (e := sub64Entry) (by kernel_rfl)]
    rw [show (List.toArray [Value.int .u64 (n : Int), .int .u64 (m : Int), .int .u64 (q : Int)]) = #[Value.int .u64 (n : Int), .int .u64 (m : Int), .int .u64 (q : Int)] from rfl, run_sub64 n m q (by omega)]
    have e1 : (((n + 18446744073709551616 - m - q) % 18446744073709551616 : Nat) : Int) = subS n m q := by unfold subS; omega
    have e2 : ((if n < m + q then 1 else 0 : Nat) : Int) = subC n m q := by
      unfold subC
      by_cases hh : n < m + q
      · have : ((n : Int) < m + q) := by omega
        simp [hh, this]
      · have : ¬ ((n : Int) < m + q) := by omega
        simp [hh, this]
    rw [e1, e2]
    rfl
  · cases h

def eqs : List TypeId := [24, 30]
theorem eqs_ok : eqs.all (eqTypeOk Try.prog) = true := by kernel_rfl

noncomputable def X (n d : Nat) : Orc := exec Try.prog (tabV ext) (eqvOf Try.prog eqs) n d
theorem X_ok (n d : Nat) : (X n d).Ok Try.prog := exec_ok mixed names ⟨tabV_ok ext_ok, eqvOf_ok eqs_ok⟩ n d

end Go.Proofs.Ytanjomncnbmgkaa

namespace Go.Proofs.Ytanjomncnbmgkaa
open Go Go.Proofs Go.Sx
abbrev W (a b : Int) : Value := .agg #[.int .i64 a, .int .u64 b]
def inI (n : Int) : Bool := decide (-9223372036854775808 ≤ n ∧ n < 9223372036854775808)
def inU (n : Int) : Bool := decide (0 ≤ n ∧ n < 18446744073709551616)
def inW (a b : Int) : Bool := inI a && inU b
def wv (a b : Int) : Int := a * 18446744073709551616 + b
def okW (n : Int) : Bool := decide (-170141183460469231731687303715884105728 ≤ n ∧ n < 170141183460469231731687303715884105728)
def hiW (n : Int) : Int := bif okW n then n / 18446744073709551616 else 0
def loW (n : Int) : Int := bif okW n then n % 18446744073709551616 else 0
abbrev Wn (n : Int) : Value := W (hiW n) (loW n)
def cmpI (m n : Int) : Int := bif decide (m < n) then -1 else bif decide (n < m) then 1 else 0
def smI (n : Int) : Int := bif inI n then n else 0
abbrev CallOk (P : Program) (f : FuncId) (vs : List Value) (r : Value) : Prop := Go.Sx.CallOk P f (vs.map .v) (.v r)
def addA (t : FuncId → List Arg → Option (Bool × Res)) (Γ : Orc) : Orc :=
  ⟨fun f vs => match t f vs with | some r => some r | none => Γ.call f vs, Γ.eqv, Γ.conc⟩
def add (t : FuncId → List Value → Option (Bool × Value)) (Γ : Orc) : Orc :=
  ⟨fun f vs => match tabV t f vs with | some r => some r | none => Γ.call f vs, Γ.eqv, Γ.conc⟩
def t1 : FuncId → List Value → Option (Bool × Value)
  | 31, [.int .i64 n] => some (inI n, Wn n)
  | 54, [.agg ⟨[.int .i64 a, .int .u64 _]⟩] => some (true, .bool (decide (a < 0)))
  | 68, [.int .i64 _] => some (true, .bool false)
  | 69, [.int .u64 _] => some (true, .bool false)
  | 60, [.int .u64 x, .int .u64 y] => some (inU x && inU y, .tuple #[.int .u64 (x * y / 18446744073709551616), .int .u64 (x * y % 18446744073709551616)])
  | _, _ => none
def t2 : FuncId → List Value → Option (Bool × Value)
  | 58, [.int .i64 a, .int .i64 b] => some (true, .int .i64 (cmpI a b))
  | 59, [.int .u64 a, .int .u64 b] => some (true, .int .i64 (cmpI a b))
  | 15, [.agg ⟨[.int .i64 a, .int .u64 b]⟩, .agg ⟨[.int .i64 c, .int .u64 d]⟩] => some (inW a b && inW c d, .tuple #[Wn (wv a b + wv c d), .bool (okW (wv a b + wv c d))])
  | 16, [.agg ⟨[.int .i64 a, .int .u64 b]⟩, .agg ⟨[.int .i64 c, .int .u64 d]⟩] => some (inW a b && inW c d, .tuple #[Wn (wv a b - wv c d), .bool (okW (wv a b - wv c d))])
  | 18, [.agg ⟨[.int .i64 a, .int .u64 b]⟩] => some (inW a b, .tuple #[.int .i64 (smI (wv a b)), .bool (inI (wv a b))])
  | 28, [.int .i64 a, .int .i64 b] => some (inI a && inI b, Wn (a * b))
  | _, _ => none
def t3 : FuncId → List Value → Option (Bool × Value)
  | 25, [.agg ⟨[.int .i64 a, .int .u64 b]⟩, .agg ⟨[.int .i64 c, .int .u64 d]⟩] => some (inW a b && inW c d, .int .i64 (cmpI (wv a b) (wv c d)))
  | 17, [.agg ⟨[.int .i64 a, .int .u64 b]⟩] => some (inW a b, .tuple #[Wn (- wv a b), .bool (okW (- wv a b))])
  | _, _ => none
def t4 : FuncId → List Value → Option (Bool × Value)
  | 27, [.agg ⟨[.int .i64 a, .int .u64 b]⟩] => some (inW a b, .int .i64 (cmpI (wv a b) 0))
  | 24, [] => some (true, .bool true)
  | _, _ => none
noncomputable def Γ0 : Orc := ⟨tabV ext, eqvOf Try.prog eqs, false⟩
noncomputable def Γ1 := add t1 Γ0
noncomputable def Γ2 := add t2 Γ1
noncomputable def Γ3 := add t3 Γ2
noncomputable def Γ4 := add t4 Γ3
def L0 : LoopOrc := fun _ _ => none
end Go.Proofs.Ytanjomncnbmgkaa

namespace Go.Proofs.Ytanjomncnbmgkaa
open Go Go.Proofs Go.Sx

theorem Ok0 : Γ0.Ok Try.prog := ⟨tabV_ok ext_ok, eqvOf_ok eqs_ok⟩

theorem addA_ok {t : FuncId → List Arg → Option (Bool × Res)} {Γ : Orc} {P : Program} (h : Γ.Ok P) (ht : ∀ f vs r, t f vs = some (true, r) → Go.Sx.CallOk P f vs r) : (addA t Γ).Ok P := by
  refine ⟨fun f vs r hr => ?_, h.eqv⟩
  simp only [addA] at hr
  split at hr
  · rename_i q hq
    injection hr with hr
    subst hr
    exact ht f vs r hq
  · exact h.call f vs r hr

theorem add_ok {t : FuncId → List Value → Option (Bool × Value)} {Γ : Orc} {P : Program} (h : Γ.Ok P) (ht : ∀ f vs r, t f vs = some (true, r) → CallOk P f vs r) : (add t Γ).Ok P := by
  refine ⟨fun f vs r hr => ?_, h.eqv⟩
  simp only [add] at hr
  split at hr
  · rename_i q hq
    injection hr with hr
    subst hr
    exact tabV_ok ht f vs r hq
  · exact h.call f vs r hr

theorem by_run {Γ : Orc} (hΓ : Γ.Ok Try.prog) {f : FuncId} {fn : Func} {c : Code} (hf : Try.prog.funcs[f]? = some fn) (hb : fn.body = some c) (hl : loopsOf c = []) {vs : List Value} {r : Value} (h : run Γ L0 Try.prog fn vs = some r) : CallOk Try.prog f vs r :=
  callOk_of_runV hΓ mixed names hf hb (fun w b hm => by rw [hl] at hm; cases hm) h

theorem wrapU (n : Int) : IntKind.u64.wrap n = n % 18446744073709551616 := (wr_eq true .u64 n).symm
theorem wrapI (n : Int) : IntKind.i64.wrap n = if n % 18446744073709551616 ≥ 9223372036854775808 then n % 18446744073709551616 - 18446744073709551616 else n % 18446744073709551616 := by
  rw [← wr_eq true .i64 n]
  simp only [wr]
  split <;> simp_all <;> omega

theorem inI_iff {n : Int} : inI n = true ↔ -9223372036854775808 ≤ n ∧ n < 9223372036854775808 := by simp [inI]
theorem inU_iff {n : Int} : inU n = true ↔ 0 ≤ n ∧ n < 18446744073709551616 := by simp [inU]
theorem inW_iff {a b : Int} : inW a b = true ↔ (-9223372036854775808 ≤ a ∧ a < 9223372036854775808) ∧ 0 ≤ b ∧ b < 18446744073709551616 := by simp [inW, inI_iff, inU_iff]

theorem agg_int {a b c d : Int} (h1 : a = c) (h2 : b = d) : (some (W a b) : Option Value) = some (W c d) := by rw [h1, h2]
theorem wb {a b c d : Int} {s t : Bool} (h1 : a = c) (h2 : b = d) (h3 : s = t) : (some (.tuple #[W a b, .bool s]) : Option Value) = some (.tuple #[W c d, .bool t]) := by rw [h1, h2, h3]
theorem ib {a c : Int} {s t : Bool} (h1 : a = c) (h3 : s = t) : (some (.tuple #[.int .i64 a, .bool s]) : Option Value) = some (.tuple #[.int .i64 c, .bool t]) := by rw [h1, h3]

theorem okW_of {n : Int} (h1 : -170141183460469231731687303715884105728 ≤ n) (h2 : n < 170141183460469231731687303715884105728) : okW n = true ∧ hiW n = n / 18446744073709551616 ∧ loW n = n % 18446744073709551616 := by
  have : okW n = true := by simp [okW, h1, h2]
  simp [hiW, loW, this]
theorem okW_not {n : Int} (h : n < -170141183460469231731687303715884105728 ∨ 170141183460469231731687303715884105728 ≤ n) : okW n = false ∧ hiW n = 0 ∧ loW n = 0 := by
  have : okW n = false := by simp [okW]; omega
  simp [hiW, loW, this]

theorem call31 (n : Int) (h : inI n = true) : CallOk Try.prog 31 [.int .i64 n] (Wn n) := by
  refine by_run Ok0 Try.func31 rfl (by kernel_rfl) ?_
  have e : run Γ0 L0 Try.prog Try.f31 [.int .i64 n] = some (W (n.fdiv (2 ^ 63)) (IntKind.u64.wrap n)) := by kernel_rfl
  rw [e]
  rw [inI_iff] at h
  obtain ⟨_, h1, h2⟩ := okW_of (n := n) (by omega) (by omega)
  refine agg_int ?_ ?_
  · rw [h1, Int.fdiv_eq_ediv_of_nonneg _ (by decide)]
    rw [show (2 : Int) ^ 63 = 9223372036854775808 from by decide]
    omega
  · rw [h2, wrapU]

theorem call54 (a b : Int) : CallOk Try.prog 54 [W a b] (.bool (decide (a < 0))) := by
  refine by_run Ok0 Try.func54 rfl (by kernel_rfl) ?_
  kernel_rfl

theorem call68 (a : Int) : CallOk Try.prog 68 [.int .i64 a] (.bool false) := by
  refine by_run Ok0 Try.func68 rfl (by kernel_rfl) ?_
  have e : run Γ0 L0 Try.prog Try.f68 [.int .i64 a] = some (.bool (a != a)) := by kernel_rfl
  rw [e]; simp
theorem call69 (a : Int) : CallOk Try.prog 69 [.int .u64 a] (.bool false) := by
  refine by_run Ok0 Try.func69 rfl (by kernel_rfl) ?_
  have e : run Γ0 L0 Try.prog Try.f69 [.int .u64 a] = some (.bool (a != a)) := by kernel_rfl
  rw [e]; simp

/-! ### math/bits.Mul64 -/
theorem and32 (x : Int) (h0 : 0 ≤ x) (h1 : x < 18446744073709551616) : ((BitVec.ofInt 64 x &&& BitVec.ofInt 64 4294967295).toNat : Int) = x % 4294967296 := by
  obtain ⟨n, rfl⟩ := Int.eq_ofNat_of_zero_le h0
  have e : (BitVec.ofInt 64 4294967295) = BitVec.ofNat 64 (2 ^ 32 - 1) := by decide
  rw [e, BitVec.toNat_and, BitVec.ofInt_natCast, BitVec.toNat_ofNat, BitVec.toNat_ofNat]
  rw [Nat.mod_eq_of_lt (a := 2 ^ 32 - 1) (by decide), Nat.and_two_pow_sub_one_eq_mod]
  show ((n % 18446744073709551616 % 4294967296 : Nat) : Int) = _
  omega

theorem mul_lt (a b m n : Int) (ha : 0 ≤ a) (ha' : a < m) (hb : 0 ≤ b) (hb' : b < n) : 0 ≤ a * b ∧ a * b ≤ (m - 1) * (n - 1) := by
  refine ⟨Int.mul_nonneg ha hb, ?_⟩
  exact Int.mul_le_mul (by omega) (by omega) hb (by omega)

theorem mul64_core (x y : Int) :
    (x / 4294967296 * (y / 4294967296) + (x / 4294967296 * (y % 4294967296) + x % 4294967296 * (y % 4294967296) / 4294967296) / 4294967296 +
      ((x / 4294967296 * (y % 4294967296) + x % 4294967296 * (y % 4294967296) / 4294967296) % 4294967296 + x % 4294967296 * (y / 4294967296)) / 4294967296) = x * y / 18446744073709551616 := by
  have ex := Int.mul_ediv_add_emod x 4294967296
  have ey := Int.mul_ediv_add_emod y 4294967296
  generalize x / 4294967296 = p at *
  generalize x % 4294967296 = q at *
  generalize y / 4294967296 = r at *
  generalize y % 4294967296 = s at *
  have e : x * y = 18446744073709551616 * (p * r) + 4294967296 * (p * s) + 4294967296 * (q * r) + q * s := by
    rw [← ex, ← ey]
    simp only [Int.add_mul, Int.mul_add]
    have h1 : 4294967296 * p * (4294967296 * r) = 18446744073709551616 * (p * r) := by
      rw [Int.mul_assoc, Int.mul_left_comm p, ← Int.mul_assoc]; rfl
    have h2 : 4294967296 * p * s = 4294967296 * (p * s) := Int.mul_assoc _ _ _
    have h3 : q * (4294967296 * r) = 4294967296 * (q * r) := Int.mul_left_comm _ _ _
    rw [h1, h2, h3]
    omega
  rw [e]
  generalize p * r = A
  generalize p * s = B
  generalize q * r = C
  generalize q * s = D
  omega

theorem call60 (x y : Int) (hx : inU x = true) (hy : inU y = true) : CallOk Try.prog 60 [.int .u64 x, .int .u64 y] (.tuple #[.int .u64 (x * y / 18446744073709551616), .int .u64 (x * y % 18446744073709551616)]) := by
  refine by_run Ok0 Try.func60 rfl (by kernel_rfl) ?_
  let U := IntKind.u64.wrap
  let A := fun z : Int => U ((BitVec.ofInt 64 z &&& BitVec.ofInt 64 4294967295).toNat : Int)
  let S := fun z : Int => z.fdiv (2 ^ 32)
  have e : run Γ0 L0 Try.prog Try.f60 [.int .u64 x, .int .u64 y] =
      (let w0 := U (A x * A y); let t := U (U (S x * A y) + S w0); let w1 := U (A t + U (A x * S y)); some (.tuple #[.int .u64 (U (U (U (S x * S y) + S t) + S w1)), .int .u64 (U (x * y))])) := by kernel_rfl
  rw [e]
  rw [inU_iff] at hx hy
  have eS : ∀ z, S z = z / 4294967296 := by
    intro z
    show z.fdiv (2 ^ 32) = _
    rw [Int.fdiv_eq_ediv_of_nonneg _ (by decide)]
    rfl
  have eU : ∀ z, 0 ≤ z → z < 18446744073709551616 → U z = z := by
    intro z h0 h1
    show IntKind.u64.wrap z = z
    rw [wrapU]; omega
  have eA : ∀ z, 0 ≤ z → z < 18446744073709551616 → A z = z % 4294967296 := by
    intro z h0 h1
    show U _ = _
    rw [and32 z h0 h1, eU _ (by omega) (by omega)]
  have hcore := mul64_core x y
  have hxy := mul_lt x y 18446744073709551616 18446744073709551616 hx.1 hx.2 hy.1 hy.2
  have e0 : U (x * y) = x * y % 18446744073709551616 := wrapU _
  have b1 := mul_lt (x % 4294967296) (y % 4294967296) 4294967296 4294967296 (by omega) (by omega) (by omega) (by omega)
  have b2 := mul_lt (x / 4294967296) (y % 4294967296) 4294967296 4294967296 (by omega) (by omega) (by omega) (by omega)
  have b3 := mul_lt (x % 4294967296) (y / 4294967296) 4294967296 4294967296 (by omega) (by omega) (by omega) (by omega)
  have b4 := mul_lt (x / 4294967296) (y / 4294967296) 4294967296 4294967296 (by omega) (by omega) (by omega) (by omega)
  simp only [eS, eA x hx.1 hx.2, eA y hy.1 hy.2]
  rw [e0]
  clear e e0
  generalize x / 4294967296 = p at *
  generalize x % 4294967296 = q at *
  generalize y / 4294967296 = r at *
  generalize y % 4294967296 = s at *
  generalize p * r = B4 at *
  generalize p * s = B2 at *
  generalize q * r = B3 at *
  generalize q * s = B1 at *
  generalize x * y = Z at *
  have h1 : U B1 = B1 := eU _ (by omega) (by omega)
  have h2 : U B2 = B2 := eU _ (by omega) (by omega)
  have h3 : U (B2 + B1 / 4294967296) = B2 + B1 / 4294967296 := eU _ (by omega) (by omega)
  have h4 : A (B2 + B1 / 4294967296) = (B2 + B1 / 4294967296) % 4294967296 := eA _ (by omega) (by omega)
  have h5 : U B3 = B3 := eU _ (by omega) (by omega)
  have h6 : U ((B2 + B1 / 4294967296) % 4294967296 + B3) = (B2 + B1 / 4294967296) % 4294967296 + B3 := eU _ (by omega) (by omega)
  have h7 : U B4 = B4 := eU _ (by omega) (by omega)
  have h8 : U (B4 + (B2 + B1 / 4294967296) / 4294967296) = B4 + (B2 + B1 / 4294967296) / 4294967296 := eU _ (by omega) (by omega)
  have h9 : U (B4 + (B2 + B1 / 4294967296) / 4294967296 + ((B2 + B1 / 4294967296) % 4294967296 + B3) / 4294967296) = B4 + (B2 + B1 / 4294967296) / 4294967296 + ((B2 + B1 / 4294967296) % 4294967296 + B3) / 4294967296 :=
    eU _ (by omega) (by omega)
  rw [h1, h2, h3, h4, h5, h6, h7, h8, h9, hcore]

theorem t1_ok (f : FuncId) (vs : List Value) (r : Value) (h : t1 f vs = some (true, r)) : CallOk Try.prog f vs r := by
  unfold t1 at h
  split at h
  · injection h with h; injection h with h1 h2; subst h2; exact call31 _ h1
  · injection h with h; injection h with h1 h2; subst h2; exact call54 _ _
  · injection h with h; injection h with h1 h2; subst h2; exact call68 _
  · injection h with h; injection h with h1 h2; subst h2; exact call69 _
  · injection h with h; injection h with h1 h2; subst h2
    simp only [Bool.and_eq_true] at h1
    exact call60 _ _ h1.1 h1.2
  · cases h
theorem Ok1 : Γ1.Ok Try.prog := add_ok Ok0 t1_ok
end Go.Proofs.Ytanjomncnbmgkaa

