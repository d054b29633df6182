/-
  Numbers of 64 and of 128 bits, digit by digit; places, turns, ways, boxes: what doesn't meet is on one side. No condition.
-/
import Derived.Test.YtcjkkfhdnealpaaSx
import Derived.Shelf.Spec.BitsCarry
namespace Go.Sx
/-! Numbers of 64 and of 128 bits. -/
abbrev Wd (a b : Int) : Value := .agg #[.int .i64 a, .int .u64 b]
def inI (n : Int) : Bool := decide (-9223372036854775808 ≤ n ∧ n < 9223372036854775808)
def inU (n : Int) : Bool := decide (0 ≤ n ∧ n < 18446744073709551616)
def inW (a b : Int) : Bool := inI a && inU b
def wv (a b : Int) : Int := a * 18446744073709551616 + b
def okW (n : Int) : Bool := decide (-170141183460469231731687303715884105728 ≤ n ∧ n < 170141183460469231731687303715884105728)
def hiW (n : Int) : Int := bif okW n then n / 18446744073709551616 else 0
def loW (n : Int) : Int := bif okW n then n % 18446744073709551616 else 0
abbrev Wn (n : Int) : Value := Wd (hiW n) (loW n)
def cmpI (m n : Int) : Int := bif decide (m < n) then -1 else bif decide (n < m) then 1 else 0
def smI (n : Int) : Int := bif inI n then n else 0
def addS3 (x y c : Int) : Int := (x + y + c) % 18446744073709551616
def addC3 (x y c : Int) : Int := (x + y + c) / 18446744073709551616
def subS3 (x y c : Int) : Int := (x - y - c) % 18446744073709551616
def subC3 (x y c : Int) : Int := bif decide (x < y + c) then 1 else 0
theorem wrU (n : Int) : IntKind.u64.wrap n = n % 18446744073709551616 := (wr_eq true .u64 n).symm
theorem wrI (n : Int) : IntKind.i64.wrap n = if n % 18446744073709551616 ≥ 9223372036854775808 then n % 18446744073709551616 - 18446744073709551616 else n % 18446744073709551616 := by
  rw [← wr_eq true .i64 n]
  simp only [wr]
  split <;> simp_all <;> omega
def wI (n : Int) : Int := IntKind.i64.wrap n
theorem wrI_id {n : Int} (h : -9223372036854775808 ≤ n ∧ n < 9223372036854775808) : IntKind.i64.wrap n = n := by
  rw [wrI]; split <;> omega
theorem wI_id {n : Int} (h : -9223372036854775808 ≤ n ∧ n < 9223372036854775808) : wI n = n := wrI_id h
theorem inI_iff {n : Int} : inI n = true ↔ -9223372036854775808 ≤ n ∧ n < 9223372036854775808 := by simp [inI]
theorem inU_iff {n : Int} : inU n = true ↔ 0 ≤ n ∧ n < 18446744073709551616 := by simp [inU]
theorem inW_iff {a b : Int} : inW a b = true ↔ (-9223372036854775808 ≤ a ∧ a < 9223372036854775808) ∧ 0 ≤ b ∧ b < 18446744073709551616 := by simp [inW, inI_iff, inU_iff]
theorem inI_wrap (n : Int) : inI (IntKind.i64.wrap n) = true := by rw [inI_iff, wrI]; split <;> omega
theorem inU_wrap (n : Int) : inU (IntKind.u64.wrap n) = true := by rw [inU_iff, wrU]; omega
theorem wd_eq {a b c d : Int} (h1 : a = c) (h2 : b = d) : Wd a b = Wd c d := by rw [h1, h2]
theorem okW_of {n : Int} (h1 : -170141183460469231731687303715884105728 ≤ n) (h2 : n < 170141183460469231731687303715884105728) : okW n = true ∧ hiW n = n / 18446744073709551616 ∧ loW n = n % 18446744073709551616 := by
  have : okW n = true := by simp [okW, h1, h2]
  simp [hiW, loW, this]
theorem okW_not {n : Int} (h : n < -170141183460469231731687303715884105728 ∨ 170141183460469231731687303715884105728 ≤ n) : okW n = false ∧ hiW n = 0 ∧ loW n = 0 := by
  have : okW n = false := by simp [okW]; omega
  simp [hiW, loW, this]
theorem wv_Wn {n : Int} (h : okW n = true) : wv (hiW n) (loW n) = n ∧ inW (hiW n) (loW n) = true := by
  have h' : -170141183460469231731687303715884105728 ≤ n ∧ n < 170141183460469231731687303715884105728 := by simpa [okW] using h
  obtain ⟨_, k2, k3⟩ := okW_of h'.1 h'.2
  rw [inW_iff, k2, k3]
  unfold wv
  omega
theorem inW_Wn (n : Int) : inW (hiW n) (loW n) = true := by
  cases h : okW n with
  | true => exact (wv_Wn h).2
  | false => simp [hiW, loW, h, inW_iff]
theorem okW_I {n : Int} (h : inI n = true) : okW n = true := by
  rw [inI_iff] at h
  simp only [okW, decide_eq_true_eq]; omega

theorem and32 (x : Int) (h0 : 0 ≤ x) (h1 : x < 18446744073709551616) : ((BitVec.ofInt 64 x &&& BitVec.ofInt 64 4294967295).toNat : Int) = x % 4294967296 := by
  obtain ⟨n, rfl⟩ := Int.eq_ofNat_of_zero_le h0
  have e : (BitVec.ofInt 64 4294967295) = BitVec.ofNat 64 (2 ^ 32 - 1) := by decide
  rw [e, BitVec.toNat_and, BitVec.ofInt_natCast, BitVec.toNat_ofNat, BitVec.toNat_ofNat]
  rw [Nat.mod_eq_of_lt (a := 2 ^ 32 - 1) (by decide), Nat.and_two_pow_sub_one_eq_mod]
  show ((n % 18446744073709551616 % 4294967296 : Nat) : Int) = _
  omega
theorem mul_lt (a b m n : Int) (ha : 0 ≤ a) (ha' : a < m) (hb : 0 ≤ b) (hb' : b < n) : 0 ≤ a * b ∧ a * b ≤ (m - 1) * (n - 1) := by
  refine ⟨Int.mul_nonneg ha hb, ?_⟩
  exact Int.mul_le_mul (by omega) (by omega) hb (by omega)
theorem mul64_core (x y : Int) :
    (x / 4294967296 * (y / 4294967296) + (x / 4294967296 * (y % 4294967296) + x % 4294967296 * (y % 4294967296) / 4294967296) / 4294967296 +
      ((x / 4294967296 * (y % 4294967296) + x % 4294967296 * (y % 4294967296) / 4294967296) % 4294967296 + x % 4294967296 * (y / 4294967296)) / 4294967296) = x * y / 18446744073709551616 := by
  have ex := Int.mul_ediv_add_emod x 4294967296
  have ey := Int.mul_ediv_add_emod y 4294967296
  generalize x / 4294967296 = p at *
  generalize x % 4294967296 = q at *
  generalize y / 4294967296 = r at *
  generalize y % 4294967296 = s at *
  have e : x * y = 18446744073709551616 * (p * r) + 4294967296 * (p * s) + 4294967296 * (q * r) + q * s := by
    rw [← ex, ← ey]
    simp only [Int.add_mul, Int.mul_add]
    have h1 : 4294967296 * p * (4294967296 * r) = 18446744073709551616 * (p * r) := by
      rw [Int.mul_assoc, Int.mul_left_comm p, ← Int.mul_assoc]; rfl
    have h2 : 4294967296 * p * s = 4294967296 * (p * s) := Int.mul_assoc _ _ _
    have h3 : q * (4294967296 * r) = 4294967296 * (q * r) := Int.mul_left_comm _ _ _
    rw [h1, h2, h3]
    omega
  rw [e]
  generalize p * r = A
  generalize p * s = B
  generalize q * r = C
  generalize q * s = D
  omega
/-- The upper and the lower half of a product, by halves. -/
theorem mul64_halves (x y : Int) (hx : inU x = true) (hy : inU y = true) :
    let U := IntKind.u64.wrap
    let A := fun z : Int => U ((BitVec.ofInt 64 z &&& BitVec.ofInt 64 4294967295).toNat : Int)
    let S := fun z : Int => z.fdiv (2 ^ 32)
    let w0 := U (A x * A y); let t := U (U (S x * A y) + S w0); let w1 := U (A t + U (A x * S y))
    U (U (U (S x * S y) + S t) + S w1) = x * y / 18446744073709551616 ∧ U (x * y) = x * y % 18446744073709551616 := by
  intro U A S w0 t w1
  show U (U (U (S x * S y) + S (U (U (S x * A y) + S (U (A x * A y))))) + S (U (A (U (U (S x * A y) + S (U (A x * A y)))) + U (A x * S y)))) = _ ∧ _
  clear w0 t w1
  rw [inU_iff] at hx hy
  have eS : ∀ z, S z = z / 4294967296 := by
    intro z
    show z.fdiv (2 ^ 32) = _
    rw [Int.fdiv_eq_ediv_of_nonneg _ (by decide)]
    rfl
  have eU : ∀ z, 0 ≤ z → z < 18446744073709551616 → U z = z := by
    intro z h0 h1
    show IntKind.u64.wrap z = z
    rw [wrU]; omega
  have eA : ∀ z, 0 ≤ z → z < 18446744073709551616 → A z = z % 4294967296 := by
    intro z h0 h1
    show U _ = _
    rw [and32 z h0 h1, eU _ (by omega) (by omega)]
  have hcore := mul64_core x y
  have hxy := mul_lt x y 18446744073709551616 18446744073709551616 hx.1 hx.2 hy.1 hy.2
  have e0 : U (x * y) = x * y % 18446744073709551616 := wrU _
  have b1 := mul_lt (x % 4294967296) (y % 4294967296) 4294967296 4294967296 (by omega) (by omega) (by omega) (by omega)
  have b2 := mul_lt (x / 4294967296) (y % 4294967296) 4294967296 4294967296 (by omega) (by omega) (by omega) (by omega)
  have b3 := mul_lt (x % 4294967296) (y / 4294967296) 4294967296 4294967296 (by omega) (by omega) (by omega) (by omega)
  have b4 := mul_lt (x / 4294967296) (y / 4294967296) 4294967296 4294967296 (by omega) (by omega) (by omega) (by omega)
  simp only [eS, eA x hx.1 hx.2, eA y hy.1 hy.2]
  rw [e0]
  refine ⟨?_, rfl⟩
  clear e0
  generalize x / 4294967296 = p at *
  generalize x % 4294967296 = q at *
  generalize y / 4294967296 = r at *
  generalize y % 4294967296 = s at *
  generalize p * r = B4 at *
  generalize p * s = B2 at *
  generalize q * r = B3 at *
  generalize q * s = B1 at *
  generalize x * y = Z at *
  have h1 : U B1 = B1 := eU _ (by omega) (by omega)
  have h2 : U B2 = B2 := eU _ (by omega) (by omega)
  have h3 : U (B2 + B1 / 4294967296) = B2 + B1 / 4294967296 := eU _ (by omega) (by omega)
  have h4 : A (B2 + B1 / 4294967296) = (B2 + B1 / 4294967296) % 4294967296 := eA _ (by omega) (by omega)
  have h5 : U B3 = B3 := eU _ (by omega) (by omega)
  have h6 : U ((B2 + B1 / 4294967296) % 4294967296 + B3) = (B2 + B1 / 4294967296) % 4294967296 + B3 := eU _ (by omega) (by omega)
  have h7 : U B4 = B4 := eU _ (by omega) (by omega)
  have h8 : U (B4 + (B2 + B1 / 4294967296) / 4294967296) = B4 + (B2 + B1 / 4294967296) / 4294967296 := eU _ (by omega) (by omega)
  have h9 : U (B4 + (B2 + B1 / 4294967296) / 4294967296 + ((B2 + B1 / 4294967296) % 4294967296 + B3) / 4294967296) = B4 + (B2 + B1 / 4294967296) / 4294967296 + ((B2 + B1 / 4294967296) % 4294967296 + B3) / 4294967296 :=
    eU _ (by omega) (by omega)
  rw [h1, h2, h3, h4, h5, h6, h7, h8, h9, hcore]

/-- A sum, with the carry. -/
theorem addW (a b c d : Int) (h1 : inW a b = true) (h2 : inW c d = true) :
    let lo := addS3 b d 0
    let hi := IntKind.i64.wrap (addS3 (IntKind.u64.wrap a) (IntKind.u64.wrap c) (addC3 b d 0))
    (0 ≤ addC3 b d 0 ∧ addC3 b d 0 ≤ 1) ∧
    ((decide (a < 0) == decide (c < 0)) && (decide (hi < 0) != decide (a < 0))) = !okW (wv a b + wv c d) ∧ (okW (wv a b + wv c d) = true → hi = hiW (wv a b + wv c d) ∧ lo = loW (wv a b + wv c d)) := by
  intro lo hi
  rw [inW_iff] at h1 h2
  obtain ⟨⟨a1, a2⟩, b1, b2⟩ := h1
  obtain ⟨⟨c1, c2⟩, d1, d2⟩ := h2
  have hlo : lo = (b + d) % 18446744073709551616 := by show addS3 b d 0 = _; unfold addS3; omega
  generalize hk : addC3 b d 0 = k
  have hk' : (b + d < 18446744073709551616 ∧ k = 0) ∨ (18446744073709551616 ≤ b + d ∧ k = 1) := by
    rw [← hk]; unfold addC3; omega
  have hhi : hi = if (a + c + k) % 18446744073709551616 ≥ 9223372036854775808 then (a + c + k) % 18446744073709551616 - 18446744073709551616 else (a + c + k) % 18446744073709551616 := by
    show IntKind.i64.wrap (addS3 _ _ (addC3 b d 0)) = _
    rw [hk, wrI]
    unfold addS3
    rw [wrU, wrU]
    have : (a % 18446744073709551616 + c % 18446744073709551616 + k) % 18446744073709551616 % 18446744073709551616 = (a + c + k) % 18446744073709551616 := by omega
    rw [this]
  clear_value lo hi
  refine ⟨by omega, ?_⟩
  by_cases ho : okW (wv a b + wv c d) = true
  · have ho' : -170141183460469231731687303715884105728 ≤ wv a b + wv c d ∧ wv a b + wv c d < 170141183460469231731687303715884105728 := by simpa [okW] using ho
    obtain ⟨_, k2, k3⟩ := okW_of ho'.1 ho'.2
    unfold wv at ho' k2 k3 ⊢
    have e1 : hi = hiW (a * 18446744073709551616 + b + (c * 18446744073709551616 + d)) := by rw [k2, hhi]; split <;> omega
    refine ⟨?_, fun _ => ⟨e1, by rw [k3, hlo]; omega⟩⟩
    unfold wv at ho
    rw [ho, e1, k2]
    rw [Bool.not_true, Bool.and_eq_false_imp]
    intro hs
    have hs' : (a < 0) ↔ (c < 0) := by simpa using hs
    rw [bne_eq_false_iff_eq, decide_eq_decide]
    omega
  · have ho0 : okW (wv a b + wv c d) = false := by simpa using ho
    refine ⟨?_, fun h => absurd h ho⟩
    have ho' : ¬ (-170141183460469231731687303715884105728 ≤ wv a b + wv c d ∧ wv a b + wv c d < 170141183460469231731687303715884105728) := by simpa [okW] using ho
    rw [ho0, Bool.not_false, Bool.and_eq_true]
    unfold wv at ho'
    have s1 : (a < 0) ↔ (c < 0) := by omega
    have s2 : ¬ ((hi < 0) ↔ (a < 0)) := by rw [hhi]; split <;> omega
    refine ⟨by simpa using s1, ?_⟩
    rw [bne_iff_ne, Ne, decide_eq_decide]
    exact s2
theorem intW (a b : Int) (h1 : inW a b = true) : inI (IntKind.i64.wrap b) = true ∧ (hiW (IntKind.i64.wrap b) == a && (loW (IntKind.i64.wrap b) == b && true)) = inI (wv a b) ∧ (inI (wv a b) = true → IntKind.i64.wrap b = wv a b) := by
  rw [inW_iff] at h1
  obtain ⟨⟨a1, a2⟩, b1, b2⟩ := h1
  have hw : IntKind.i64.wrap b = if b ≥ 9223372036854775808 then b - 18446744073709551616 else b := by
    rw [wrI, show b % 18446744073709551616 = b by omega]
  rw [hw]
  generalize hn : (if b ≥ 9223372036854775808 then b - 18446744073709551616 else b) = n
  have hn' : (9223372036854775808 ≤ b ∧ n = b - 18446744073709551616) ∨ (b < 9223372036854775808 ∧ n = b) := by
    rw [← hn]; by_cases hh : b ≥ 9223372036854775808
    · left; simp [hh] <;> omega
    · right; simp [hh] <;> omega
  obtain ⟨_, k2, k3⟩ := okW_of (n := n) (by omega) (by omega)
  rw [k2, k3]
  refine ⟨by rw [inI_iff]; omega, ?_, fun hq => ?_⟩
  · rw [Bool.and_true, Bool.eq_iff_iff, Bool.and_eq_true, beq_iff_eq, beq_iff_eq, inI_iff]
    unfold wv
    omega
  · rw [inI_iff] at hq
    unfold wv at hq ⊢
    omega
theorem wdB {p q r s : Int} {t u : Bool} (h1 : p = r) (h2 : q = s) (h3 : t = u) : (Value.tuple #[Wd p q, .bool t]) = .tuple #[Wd r s, .bool u] := by rw [h1, h2, h3]
theorem inB {p r : Int} {t u : Bool} (h1 : p = r) (h3 : t = u) : (Value.tuple #[.int .i64 p, .bool t]) = .tuple #[.int .i64 r, .bool u] := by rw [h1, h3]
theorem cmpW {a b c d : Int} (h1 : inW a b = true) (h2 : inW c d = true) : (bif cmpI a c != 0 then cmpI a c else cmpI b d) = cmpI (wv a b) (wv c d) := by
  rw [inW_iff] at h1 h2
  unfold cmpI wv
  by_cases p1 : a < c
  · have q1 : a * 18446744073709551616 + b < c * 18446744073709551616 + d := by omega
    simp [p1, q1]
  · by_cases p2 : c < a
    · have q1 : ¬ a * 18446744073709551616 + b < c * 18446744073709551616 + d := by omega
      have q2 : c * 18446744073709551616 + d < a * 18446744073709551616 + b := by omega
      simp [p1, p2, q1, q2]
    · have : a = c := by omega
      subst this
      simp
/-- A product, of the halves' one. -/
theorem mulW (a b : Int) (h1 : inI a = true) (h2 : inI b = true) :
    let U := IntKind.u64.wrap
    let hi := bif decide (a < 0) then (bif decide (b < 0) then U (U (U a * U b / 18446744073709551616 - U b) - U a) else U (U a * U b / 18446744073709551616 - U b)) else (bif decide (b < 0) then U (U a * U b / 18446744073709551616 - U a) else U a * U b / 18446744073709551616)
    Wd (IntKind.i64.wrap hi) (U a * U b % 18446744073709551616) = Wn (a * b) := by
  intro U hi
  rw [inI_iff] at h1 h2
  have eU : ∀ z, U z = z % 18446744073709551616 := wrU
  have eI : ∀ z, IntKind.i64.wrap z = if z % 18446744073709551616 ≥ 9223372036854775808 then z % 18446744073709551616 - 18446744073709551616 else z % 18446744073709551616 := wrI
  have hab : -85070591730234615865843651857942052864 ≤ a * b ∧ a * b ≤ 85070591730234615865843651857942052864 := by
    have m1 : (a.natAbs : Int) * b.natAbs ≤ 9223372036854775808 * 9223372036854775808 := Int.mul_le_mul (by omega) (by omega) (by omega) (by omega)
    rw [← Int.natCast_mul, ← Int.natAbs_mul] at m1
    omega
  obtain ⟨_, k2, k3⟩ := okW_of (n := a * b) (by omega) (by omega)
  by_cases hA : a < 0
  · by_cases hB : b < 0
    · have hh : hi = U (U (U a * U b / 18446744073709551616 - U b) - U a) := by show (bif decide (a < 0) then _ else _) = _; simp [hA, hB]
      rw [hh]
      have ea : U a = a + 18446744073709551616 := by rw [eU]; omega
      have eb : U b = b + 18446744073709551616 := by rw [eU]; omega
      have ep : U a * U b = a * b + 18446744073709551616 * a + 18446744073709551616 * b + 340282366920938463463374607431768211456 := by
        rw [ea, eb, Int.add_mul, Int.mul_add]; omega
      rw [ep, ea, eb]
      generalize a * b = Z at *
      refine wd_eq ?_ ?_
      · rw [k2, eI, eU, eU]; split <;> omega
      · rw [k3]; omega
    · have hh : hi = U (U a * U b / 18446744073709551616 - U b) := by show (bif decide (a < 0) then _ else _) = _; simp [hA, hB]
      rw [hh]
      have ea : U a = a + 18446744073709551616 := by rw [eU]; omega
      have eb : U b = b := by rw [eU]; omega
      have ep : U a * U b = a * b + 18446744073709551616 * b := by
        rw [ea, eb, Int.add_mul]
      rw [ep, eb]
      generalize a * b = Z at *
      refine wd_eq ?_ ?_
      · rw [k2, eI, eU]; split <;> omega
      · rw [k3]; omega
  · by_cases hB : b < 0
    · have hh : hi = U (U a * U b / 18446744073709551616 - U a) := by show (bif decide (a < 0) then _ else _) = _; simp [hA, hB]
      rw [hh]
      have ea : U a = a := by rw [eU]; omega
      have eb : U b = b + 18446744073709551616 := by rw [eU]; omega
      have ep : U a * U b = a * b + 18446744073709551616 * a := by
        rw [ea, eb, Int.mul_add]; omega
      rw [ep, ea]
      generalize a * b = Z at *
      refine wd_eq ?_ ?_
      · rw [k2, eI, eU]; split <;> omega
      · rw [k3]; omega
    · have hh : hi = U a * U b / 18446744073709551616 := by show (bif decide (a < 0) then _ else _) = _; simp [hA, hB]
      rw [hh]
      have ea : U a = a := by rw [eU]; omega
      have eb : U b = b := by rw [eU]; omega
      rw [ea, eb]
      have hz : 0 ≤ a * b := Int.mul_nonneg (by omega) (by omega)
      generalize a * b = Z at *
      refine wd_eq ?_ ?_
      · rw [k2, eI]; split <;> omega
      · rw [k3]
theorem okW_mul {a b : Int} (h1 : inI a = true) (h2 : inI b = true) : okW (a * b) = true := by
  rw [inI_iff] at h1 h2
  have m1 : (a.natAbs : Int) * b.natAbs ≤ 9223372036854775808 * 9223372036854775808 := Int.mul_le_mul (by omega) (by omega) (by omega) (by omega)
  rw [← Int.natCast_mul, ← Int.natAbs_mul] at m1
  exact (okW_of (by omega) (by omega)).1
end Go.Sx

namespace Go.Sx
/-- A test that nobody carries out. -/
noncomputable def isT (p : Prop) : Bool := @decide p (Classical.propDecidable p)
theorem isT_iff {p : Prop} : isT p = true ↔ p := by unfold isT; exact @decide_eq_true_iff p (Classical.propDecidable p)
theorem isT_of {p : Prop} (h : p) : isT p = true := isT_iff.2 h
/-! Numbers as rows of their digits. -/
def bitI (b : Int) (i : Nat) : Int := b / 2 ^ i % 2
def bl (b : Int) (n : Nat) : List Int := (List.range n).map (bitI b)
theorem bl_length (b : Int) (n : Nat) : (bl b n).length = n := by simp [bl]
theorem bl_succ (b : Int) (n : Nat) : bl b (n + 1) = bl b n ++ [bitI b n] := by simp [bl, List.range_succ]
theorem rowN_len (L : List Int) : (rowN L).length = L.length := by simp [rowN]
theorem rowN_snoc (L : List Int) (x : Int) : rowN L ++ [[.n x]] = rowN (L ++ [x]) := by simp [rowN]
theorem rowN_at (L : List Int) (i : Nat) : (((rowN L).getD i []).headD (.n 0)).toI = L.getD i 0 := by
  rcases Nat.lt_or_ge i L.length with h | h
  · simp [rowN, List.getD, h, Dat.toI]
  · simp [rowN, List.getD, h, Dat.toI]
theorem and1 (x : Int) (h0 : 0 ≤ x) (h1 : x < 18446744073709551616) : ((BitVec.ofInt 64 x &&& BitVec.ofInt 64 1).toNat : Int) = x % 2 := by
  obtain ⟨n, rfl⟩ := Int.eq_ofNat_of_zero_le h0
  have e : (BitVec.ofInt 64 1) = BitVec.ofNat 64 (2 ^ 1 - 1) := by decide
  rw [e, BitVec.toNat_and, BitVec.ofInt_natCast, BitVec.toNat_ofNat, BitVec.toNat_ofNat]
  rw [Nat.mod_eq_of_lt (a := 2 ^ 1 - 1) (by decide), Nat.and_two_pow_sub_one_eq_mod]
  show ((n % 18446744073709551616 % 2 : Nat) : Int) = _
  omega
def bu (n i : Int) : Int := IntKind.u64.wrap ((BitVec.ofInt 64 (n.fdiv (2 ^ (min i.toNat 64))) &&& BitVec.ofInt 64 1).toNat : Int)
theorem bu_eq (b : Int) (h0 : 0 ≤ b) (h1 : b < 18446744073709551616) (i : Nat) (hi : i < 64) : bu b i = bitI b i := by
  unfold bu bitI
  have hm : min (i : Int).toNat 64 = i := by omega
  have hp : (0 : Int) < 2 ^ i := Int.pow_pos (by decide)
  rw [hm, Int.fdiv_eq_ediv_of_nonneg _ (by omega)]
  have d0 : 0 ≤ b / 2 ^ i := Int.ediv_nonneg h0 (by omega)
  have d1 : b / 2 ^ i ≤ b := Int.ediv_le_self _ h0
  generalize b / 2 ^ i = y at *
  rw [and1 _ d0 (by omega), wrU]
  omega
def bx (b i : Int) : Int := IntKind.i64.wrap (bu b i)
theorem bx_eq (b : Int) (h0 : 0 ≤ b) (h1 : b < 18446744073709551616) (i : Nat) (hi : i < 64) : bx b i = bitI b i := by
  unfold bx
  rw [bu_eq b h0 h1 i hi]
  unfold bitI
  exact wrI_id (by omega)
theorem wrap1 (j : Nat) (h : j < 1000) : IntKind.i64.wrap ((j : Int) + 1) = ((j + 1 : Nat) : Int) := by
  rw [wrI]; split <;> omega
def roomA (n : Nat) : Bool := decide ((n + 1) * 8 ≤ 140737488355328 ∧ n + 1 ≤ 9223372036854775807)
theorem roomA_ok {n : Nat} (h : n ≤ 1000000) : roomA n = true := by unfold roomA; exact decide_eq_true (by omega)

theorem bitsLoop {α : Type} (b : Int) (h0 : 0 ≤ b) (h1 : b < 18446744073709551616) (E : Nat → Int → List (List Dat) → Option α) (X : List (List Dat) → Option α)
    (st : ∀ k i R, E (k + 1) i R = bif decide (i < 64) then (bif decide (i < 0) then none else bif roomA R.length then E k (IntKind.i64.wrap (i + 1)) (R ++ [[.n (bx b i)]]) else none) else X R) (P : List Int) (hP : P.length ≤ 1000) :
    ∀ (m j : Nat), j + m = 64 → E (m + 1) j (rowN (P ++ bl b j)) = X (rowN (P ++ bl b 64)) := by
  intro m
  induction m with
  | zero =>
    intro j hj
    obtain rfl : j = 64 := by omega
    rw [st]
    rfl
  | succ m ih =>
    intro j hj
    rw [st]
    have g1 : decide ((j : Int) < 64) = true := by simp; omega
    have g2 : decide ((j : Int) < 0) = false := by simp
    have g3 : roomA (rowN (P ++ bl b j)).length = true := roomA_ok (by rw [rowN_len, List.length_append, bl_length]; omega)
    rw [g1, g2, g3, bx_eq b h0 h1 j (by omega), wrap1 j (by omega), rowN_snoc, List.append_assoc, ← bl_succ]
    exact ih (j + 1) (by omega)

def orV (r i : Int) : Int := IntKind.u64.wrap ((BitVec.ofInt 64 r ||| BitVec.ofInt 64 (IntKind.u64.wrap (1 * 2 ^ (min i.toNat 64)))).toNat : Int)
def valD (f : Nat → Int) : Nat → Int
  | 0 => 0
  | n + 1 => bif f n == 1 then valD f n + 2 ^ n else valD f n
theorem valD_bd (f : Nat → Int) : ∀ n, 0 ≤ valD f n ∧ valD f n < 2 ^ n
  | 0 => by simp [valD]
  | n + 1 => by
    have := valD_bd f n
    have hs : (2 : Int) ^ (n + 1) = 2 ^ n * 2 := Int.pow_succ 2 n
    have hp : (0 : Int) < 2 ^ n := Int.pow_pos (by decide)
    unfold valD
    cases f n == 1 <;> simp only [cond_true, cond_false] <;> omega
theorem orV_add (r : Int) (k : Nat) (hk : k < 64) (h0 : 0 ≤ r) (h1 : r < 2 ^ k) : orV r k = r + 2 ^ k := by
  obtain ⟨m, rfl⟩ := Int.eq_ofNat_of_zero_le h0
  have e1 : ((2 : Int) ^ k) = ((2 ^ k : Nat) : Int) := by simp
  rw [e1] at h1 ⊢
  have h1' : m < 2 ^ k := by exact_mod_cast h1
  have hk2 : (2 : Nat) ^ k ≤ 2 ^ 63 := Nat.pow_le_pow_right (by decide) (by omega)
  have e63 : (2 : Nat) ^ 63 = 9223372036854775808 := by decide
  have e64 : (2 : Nat) ^ 64 = 18446744073709551616 := by decide
  have hm : min (k : Int).toNat 64 = k := by omega
  unfold orV
  rw [hm, e1, Int.one_mul]
  have hw : IntKind.u64.wrap ((2 ^ k : Nat) : Int) = ((2 ^ k : Nat) : Int) := by
    rw [wrU]; omega
  rw [hw, BitVec.ofInt_natCast, BitVec.ofInt_natCast, BitVec.toNat_or, BitVec.toNat_ofNat, BitVec.toNat_ofNat, e64]
  rw [Nat.mod_eq_of_lt (by omega : m < 18446744073709551616), Nat.mod_eq_of_lt (by omega : 2 ^ k < 18446744073709551616)]
  have hor : m ||| 2 ^ k = m + 2 ^ k := by
    have := Nat.two_pow_add_eq_or_of_lt h1' 1
    rw [Nat.mul_one] at this
    rw [Nat.or_comm, ← this, Nat.add_comm]
  rw [hor, wrU]
  omega
def loL (L : List Int) : Nat → Int := valD (fun i => L.getD i 0)
def hiL (L : List Int) : Nat → Int := valD (fun i => L.getD (64 + i) 0)
def oneAt (R : List (List Dat)) (i : Int) : Bool := ((R.getD i.toNat []).headD (Dat.n 0)).toI == 1
def inL (R : List (List Dat)) (i : Int) : Bool := decide (0 ≤ i) && decide (i < (R.length : Int))
theorem valueLoop {α : Type} (L : List Int) (hL : L.length = 128) (E : Nat → Int → Int → Int → Option α) (X : Int → Int → Option α)
    (st : ∀ k lo hi i, E (k + 1) lo hi i = bif decide (i < 64) then (bif inL (rowN L) i then (bif oneAt (rowN L) i then (bif decide (i < 0) then none else bif inL (rowN L) (IntKind.i64.wrap (64 + i)) then (bif oneAt (rowN L) (IntKind.i64.wrap (64 + i)) then (bif decide (i < 0) then none else E k (orV lo i) (orV hi i) (IntKind.i64.wrap (i + 1))) else E k (orV lo i) hi (IntKind.i64.wrap (i + 1))) else none)
      else (bif inL (rowN L) (IntKind.i64.wrap (64 + i)) then (bif oneAt (rowN L) (IntKind.i64.wrap (64 + i)) then (bif decide (i < 0) then none else E k lo (orV hi i) (IntKind.i64.wrap (i + 1))) else E k lo hi (IntKind.i64.wrap (i + 1))) else none)) else none) else X lo hi) :
    ∀ (m j : Nat), j + m = 64 → E (m + 1) (loL L j) (hiL L j) j = X (loL L 64) (hiL L 64) := by
  intro m
  induction m with
  | zero =>
    intro j hj
    obtain rfl : j = 64 := by omega
    rw [st]
    rfl
  | succ m ih =>
    intro j hj
    rw [st]
    have hw : IntKind.i64.wrap (64 + (j : Int)) = ((64 + j : Nat) : Int) := by rw [wrI]; split <;> omega
    have g1 : decide ((j : Int) < 64) = true := by simp; omega
    have g2 : decide ((j : Int) < 0) = false := by simp
    have g3 : inL (rowN L) (j : Int) = true := by unfold inL; rw [rowN_len, hL]; simp; omega
    have g4 : inL (rowN L) ((64 + j : Nat) : Int) = true := by unfold inL; rw [rowN_len, hL]; simp; omega
    have o3 : oneAt (rowN L) (j : Int) = (L.getD j 0 == 1) := by unfold oneAt; rw [Int.toNat_natCast, rowN_at]
    have o4 : oneAt (rowN L) ((64 + j : Nat) : Int) = (L.getD (64 + j) 0 == 1) := by unfold oneAt; rw [Int.toNat_natCast, rowN_at]
    have b1 := valD_bd (fun i => L.getD i 0) j
    have b2 := valD_bd (fun i => L.getD (64 + i) 0) j
    have o1 : orV (loL L j) j = loL L j + 2 ^ j := orV_add _ j (by omega) b1.1 b1.2
    have o2 : orV (hiL L j) j = hiL L j + 2 ^ j := orV_add _ j (by omega) b2.1 b2.2
    have n1 : loL L (j + 1) = bif L.getD j 0 == 1 then loL L j + 2 ^ j else loL L j := rfl
    have n2 : hiL L (j + 1) = bif L.getD (64 + j) 0 == 1 then hiL L j + 2 ^ j else hiL L j := rfl
    rw [g1, hw, g3, g4, g2, o1, o2, o3, o4, wrap1 j (by omega)]
    simp only [cond_true, cond_false]
    have := ih (j + 1) (by omega)
    rw [n1, n2] at this
    cases h1 : L.getD j 0 == 1 <;> cases h2 : L.getD (64 + j) 0 == 1 <;> rw [h1, h2] at this <;> simpa only [cond_true, cond_false] using this
/-- The digits' number. -/
theorem valD_bit (n : Int) (f : Nat → Int) (s : Nat) (h : ∀ i, i < 64 → f i = bitI n (s + i)) : ∀ k, k ≤ 64 → valD f k = n / 2 ^ s % 2 ^ k
  | 0, _ => by simp [valD, Int.emod_one]
  | k + 1, hk => by
    have ih := valD_bit n f s h k (by omega)
    have hp : (0 : Int) < 2 ^ k := Int.pow_pos (by decide)
    have hs : (2 : Int) ^ (k + 1) = 2 ^ k * 2 := Int.pow_succ 2 k
    have e : f k = n / 2 ^ s / 2 ^ k % 2 := by
      rw [h k (by omega)]
      unfold bitI
      rw [Int.pow_add, Int.ediv_ediv_of_nonneg (Int.le_of_lt (Int.pow_pos (by decide)))]
    unfold valD
    rw [e, ih, hs]
    generalize n / 2 ^ s = y
    generalize (2 : Int) ^ k = p at *
    have hy := Int.mul_ediv_add_emod y p
    have hu := Int.mul_ediv_add_emod (y / p) 2
    have r0 : 0 ≤ y % p := Int.emod_nonneg _ (by omega)
    have r1 : y % p < p := Int.emod_lt_of_pos _ hp
    generalize y % p = r at *
    generalize y / p = q at *
    generalize q / 2 = t at *
    have hq : q % 2 = 0 ∨ q % 2 = 1 := by omega
    rcases hq with hq | hq <;> rw [hq] at hu ⊢
    · have : y = r + p * 2 * t := by rw [← hy, ← hu, Int.mul_assoc]; simp [Int.add_comm]
      rw [this, Int.add_mul_emod_self_left, Int.emod_eq_of_lt r0 (by omega)]
      rfl
    · have : y = (r + p) + p * 2 * t := by rw [← hy, ← hu, Int.mul_assoc, Int.mul_add, Int.mul_one]; omega
      rw [this, Int.add_mul_emod_self_left, Int.emod_eq_of_lt (by omega) (by omega)]
      rfl
theorem bl_getD (n : Int) (k i : Nat) (h : i < k) : (bl n k).getD i 0 = bitI n i := by
  simp [bl, List.getD, h]
theorem lo_bl (n : Int) : loL (bl n 128) 64 = n % 18446744073709551616 := by
  have := valD_bit n (fun i => (bl n 128).getD i 0) 0 (fun i hi => by simp only [Nat.zero_add]; exact bl_getD n 128 i (by omega)) 64 (by omega)
  unfold loL
  rw [this]
  have e1 : (2 : Int) ^ 0 = 1 := by decide
  have e2 : (2 : Int) ^ 64 = 18446744073709551616 := by decide
  rw [e1, e2, Int.ediv_one]
theorem hi_bl (n : Int) : hiL (bl n 128) 64 = n / 18446744073709551616 % 18446744073709551616 := by
  have := valD_bit n (fun i => (bl n 128).getD (64 + i) 0) 64 (fun i hi => bl_getD n 128 (64 + i) (by omega)) 64 (by omega)
  unfold hiL
  rw [this]
  have e2 : (2 : Int) ^ 64 = 18446744073709551616 := by decide
  rw [e2]
theorem bl_join (b h : Int) (h0 : 0 ≤ b) (h1 : b < 18446744073709551616) : bl b 64 ++ bl h 64 = bl (h * 18446744073709551616 + b) 128 := by
  have e2 : (2 : Int) ^ 64 = 18446744073709551616 := by decide
  refine List.ext_getElem (by simp [bl]) ?_
  intro i hi hi'
  rw [List.getElem_append]
  simp only [bl_length] at hi'
  split
  · rename_i hlt
    simp only [bl_length] at hlt
    simp only [bl, List.getElem_map, List.getElem_range]
    unfold bitI
    have hs : (2 : Int) ^ 64 = 2 ^ i * 2 ^ (64 - i) := by rw [← Int.pow_add]; congr 1; omega
    have hs2 : (2 : Int) ^ (64 - i) = 2 ^ (63 - i) * 2 := by rw [← Int.pow_succ]; congr 1; omega
    have hp : (0 : Int) < 2 ^ i := Int.pow_pos (by decide)
    rw [← e2, hs, hs2, show h * (2 ^ i * (2 ^ (63 - i) * 2)) = 2 ^ i * (h * 2 ^ (63 - i) * 2) by
      rw [Int.mul_left_comm, Int.mul_assoc h]]
    rw [Int.add_comm, Int.add_mul_ediv_left _ _ (by omega)]
    omega
  · rename_i hge
    simp only [bl_length] at hge
    simp only [bl, List.getElem_map, List.getElem_range]
    unfold bitI
    have hs : (2 : Int) ^ i = 2 ^ 64 * 2 ^ (i - 64) := by rw [← Int.pow_add]; congr 1; omega
    simp only [List.length_map, List.length_range]
    rw [hs, ← Int.ediv_ediv_of_nonneg (by decide), e2]
    congr 2
    omega
theorem emod2 (y p : Int) (hp : 0 < p) : y % (p * 2) = y % p + p * (y / p % 2) := by
  have hy := Int.mul_ediv_add_emod y p
  have hu := Int.mul_ediv_add_emod (y / p) 2
  have r0 : 0 ≤ y % p := Int.emod_nonneg _ (by omega)
  have r1 : y % p < p := Int.emod_lt_of_pos _ hp
  generalize y % p = r at *
  generalize y / p = q at *
  generalize q / 2 = t at *
  have hq : q % 2 = 0 ∨ q % 2 = 1 := by omega
  rcases hq with hq | hq <;> rw [hq] at hu ⊢
  · have : y = r + p * 2 * t := by rw [← hy, ← hu, Int.mul_assoc]; simp [Int.add_comm]
    rw [this, Int.add_mul_emod_self_left, Int.emod_eq_of_lt r0 (by omega)]
    simp
  · have : y = (r + p) + p * 2 * t := by rw [← hy, ← hu, Int.mul_assoc, Int.mul_add, Int.mul_one]; omega
    rw [this, Int.add_mul_emod_self_left, Int.emod_eq_of_lt (by omega) (by omega)]
    simp
/-- What is carried into the next digit. -/
def cy (A B : Int) (j : Nat) : Int := (A % 2 ^ j + B % 2 ^ j) / 2 ^ j
theorem cy_step (A B : Int) (j : Nat) : 0 ≤ bitI A j ∧ bitI A j ≤ 1 ∧ 0 ≤ bitI B j ∧ bitI B j ≤ 1 ∧ 0 ≤ cy A B j ∧ cy A B j ≤ 1 ∧ (bitI A j + bitI B j + cy A B j) % 2 = bitI (A + B) j ∧ (bitI A j + bitI B j + cy A B j) / 2 = cy A B (j + 1) := by
  have hp : (0 : Int) < 2 ^ j := Int.pow_pos (by decide)
  have hs : (2 : Int) ^ (j + 1) = 2 ^ j * 2 := Int.pow_succ 2 j
  unfold cy bitI
  rw [hs, emod2 A _ hp, emod2 B _ hp]
  generalize (2 : Int) ^ j = p at *
  have a0 := Int.emod_nonneg A (by omega : p ≠ 0)
  have a1 := Int.emod_lt_of_pos A hp
  have b0 := Int.emod_nonneg B (by omega : p ≠ 0)
  have b1 := Int.emod_lt_of_pos B hp
  have eA := Int.mul_ediv_add_emod A p
  have eB := Int.mul_ediv_add_emod B p
  have hc0 : 0 ≤ (A % p + B % p) / p := Int.ediv_nonneg (by omega) (by omega)
  have hc1 : (A % p + B % p) / p < 2 := Int.ediv_lt_of_lt_mul hp (by omega)
  have eAB : (A + B) / p = A / p + B / p + (A % p + B % p) / p := by
    have : A + B = (A % p + B % p) + p * (A / p + B / p) := by rw [Int.mul_add]; omega
    rw [this, Int.add_mul_ediv_left _ _ (by omega)]
    have : A % p + B % p + p * (A / p + B / p) = A + B := by rw [Int.mul_add]; omega
    omega
  rw [eAB]
  have e2 : (A % p + p * (A / p % 2) + (B % p + p * (B / p % 2))) / (p * 2) = (A / p % 2 + B / p % 2 + (A % p + B % p) / p) / 2 := by
    rw [← Int.ediv_ediv_of_nonneg (by omega)]
    have : A % p + p * (A / p % 2) + (B % p + p * (B / p % 2)) = (A % p + B % p) + p * (A / p % 2 + B / p % 2) := by rw [Int.mul_add]; omega
    rw [this, Int.add_mul_ediv_left _ _ (by omega)]
    congr 1
    omega
  rw [e2]
  generalize (A % p + B % p) / p = q at *
  refine ⟨by omega, by omega, by omega, by omega, hc0, by omega, by omega, rfl⟩
def sm (X Y : List (List Dat)) (s i : Int) : Int := IntKind.i64.wrap (IntKind.i64.wrap (((X.getD i.toNat []).headD (Dat.n 0)).toI + ((Y.getD i.toNat []).headD (Dat.n 0)).toI) + s)
theorem sm_eq (A B : Int) (j : Nat) (hj : j < 128) : sm (rowN (bl A 128)) (rowN (bl B 128)) (cy A B j) j = bitI A j + bitI B j + cy A B j := by
  obtain ⟨h1, h2, h3, h4, h5, h6, _⟩ := cy_step A B j
  unfold sm
  rw [Int.toNat_natCast, rowN_at, rowN_at, bl_getD _ _ _ hj, bl_getD _ _ _ hj, wrI, wrI]
  split <;> split <;> omega
theorem sm_step (A B : Int) (j : Nat) (hj : j < 128) : (sm (rowN (bl A 128)) (rowN (bl B 128)) (cy A B j) j).tmod 2 = bitI (A + B) j ∧ IntKind.i64.wrap ((sm (rowN (bl A 128)) (rowN (bl B 128)) (cy A B j) j).tdiv 2) = cy A B (j + 1) := by
  obtain ⟨h1, h2, h3, h4, h5, h6, h7, h8⟩ := cy_step A B j
  rw [sm_eq A B j hj]
  refine ⟨by rw [Int.tmod_eq_emod_of_nonneg (by omega), h7], ?_⟩
  rw [Int.tdiv_eq_ediv_of_nonneg (by omega), wrI, ← h8]; split <;> omega
theorem plusLoop {α : Type} (A B : Int) (E : Nat → Int → Int → List (List Dat) → Option α) (X : List (List Dat) → Option α)
    (st : ∀ k s i R, E (k + 1) s i R = bif decide (i < 128) then (bif inL (rowN (bl A 128)) i then (bif inL (rowN (bl B 128)) i then (bif roomA R.length then E k (IntKind.i64.wrap ((sm (rowN (bl A 128)) (rowN (bl B 128)) s i).tdiv 2)) (IntKind.i64.wrap (i + 1)) (R ++ [[.n ((sm (rowN (bl A 128)) (rowN (bl B 128)) s i).tmod 2)]]) else none) else none) else none) else X R) :
    ∀ (m j : Nat), j + m = 128 → E (m + 1) (cy A B j) j (rowN (bl (A + B) j)) = X (rowN (bl (A + B) 128)) := by
  intro m
  induction m with
  | zero =>
    intro j hj
    obtain rfl : j = 128 := by omega
    rw [st]
    have g1 : decide (((128 : Nat) : Int) < 128) = false := by decide
    rw [g1]; rfl
  | succ m ih =>
    intro j hj
    obtain ⟨e1, e2⟩ := sm_step A B j (by omega)
    rw [st, e1, e2]
    have g1 : decide ((j : Int) < 128) = true := by simp; omega
    have g3 : ∀ n, inL (rowN (bl n 128)) (j : Int) = true := fun n => by unfold inL; rw [rowN_len, bl_length]; simp; omega
    have g4 : roomA (rowN (bl (A + B) j)).length = true := roomA_ok (by rw [rowN_len, bl_length]; omega)
    rw [g1, g3, g3, g4, rowN_snoc, wrap1 j (by omega), ← bl_succ]
    exact ih (j + 1) (by omega)
theorem cy_zero (A B : Int) : cy A B 0 = 0 := by simp [cy, Int.emod_one]

/-- A number, modulo 2^128. -/
def pHi (n : Int) : Int := IntKind.i64.wrap (n / 18446744073709551616)
def pLo (n : Int) : Int := n % 18446744073709551616
abbrev pW (n : Int) : Value := Wd (pHi n) (pLo n)
theorem pHi_mod {n m : Int} (h : n % 340282366920938463463374607431768211456 = m % 340282366920938463463374607431768211456) : pHi n = pHi m := by
  unfold pHi
  have h1 : n / 18446744073709551616 % 18446744073709551616 = m / 18446744073709551616 % 18446744073709551616 := by omega
  rw [wrI, wrI, h1]
theorem pLo_mod {n m : Int} (h : n % 340282366920938463463374607431768211456 = m % 340282366920938463463374607431768211456) : pLo n = pLo m := by
  unfold pLo; omega
theorem pW_eq {n m : Int} (h : n % 340282366920938463463374607431768211456 = m % 340282366920938463463374607431768211456) : pW n = pW m := wd_eq (pHi_mod h) (pLo_mod h)
theorem wv_p (n : Int) : wv (pHi n) (pLo n) % 340282366920938463463374607431768211456 = n % 340282366920938463463374607431768211456 := by
  unfold wv pHi pLo
  rw [wrI]
  split <;> omega
theorem pHi_add (x y : Int) : pHi (wv (pHi x) (pLo x) + wv (pHi y) (pLo y)) = pHi (x + y) := by
  apply pHi_mod
  have h1 := wv_p x
  have h2 := wv_p y
  omega
theorem pLo_add (x y : Int) : pLo (wv (pHi x) (pLo x) + wv (pHi y) (pLo y)) = pLo (x + y) := by
  apply pLo_mod
  have h1 := wv_p x
  have h2 := wv_p y
  omega
theorem inU_pLo (n : Int) : inU (pLo n) = true := by rw [inU_iff]; unfold pLo; omega
theorem p_self {a b : Int} (h : inW a b = true) : pHi (wv a b) = a ∧ pLo (wv a b) = b := by
  rw [inW_iff] at h
  unfold pHi pLo wv
  rw [wrI]
  refine ⟨?_, by omega⟩
  split <;> omega
theorem p_ok {n : Int} (h : okW n = true) : pHi n = hiW n ∧ pLo n = loW n := by
  have h' : -170141183460469231731687303715884105728 ≤ n ∧ n < 170141183460469231731687303715884105728 := by simpa [okW] using h
  obtain ⟨_, k2, k3⟩ := okW_of h'.1 h'.2
  rw [k2, k3]
  unfold pHi pLo
  refine ⟨?_, rfl⟩
  rw [wrI]
  split <;> omega
def wu (a b : Int) : Int := IntKind.u64.wrap a * 18446744073709551616 + b
/-- The number of a row of digits that is a sum. -/
theorem plusW (a b c d : Int) : Wd (IntKind.i64.wrap (hiL (bl (wu a b + wu c d) 128) 64)) (loL (bl (wu a b + wu c d) 128) 64) = pW (wv a b + wv c d) := by
  rw [lo_bl, hi_bl]
  refine wd_eq ?_ ?_
  · unfold pHi
    rw [wrI, wrI]
    unfold wu wv
    rw [wrU, wrU]
    have : (a % 18446744073709551616 * 18446744073709551616 + b + (c % 18446744073709551616 * 18446744073709551616 + d)) / 18446744073709551616 % 18446744073709551616 % 18446744073709551616 = (a * 18446744073709551616 + b + (c * 18446744073709551616 + d)) / 18446744073709551616 % 18446744073709551616 := by omega
    rw [this]
  · unfold pLo wu wv
    rw [wrU, wrU]; omega
theorem flipW (a b : Int) (h : inU b = true) : inU (IntKind.u64.wrap (-1 - b)) = true ∧ wv (IntKind.i64.wrap (-1 - a)) (IntKind.u64.wrap (-1 - b)) % 340282366920938463463374607431768211456 = (- wv a b - 1) % 340282366920938463463374607431768211456 := by
  refine ⟨inU_wrap _, ?_⟩
  rw [inU_iff] at h
  unfold wv
  rw [wrU, wrI]
  split <;> omega
/-- A product by sums, round by round. -/
theorem mulLoop {α : Type} (n X : Int) (h0 : 0 ≤ n) (h1 : n < 18446744073709551616) (E : Nat → Int → Int → Int → Int → Int → Option α) (Z : Int → Int → Int → Int → Option α)
    (st : ∀ k i xa xb ya yb, E (k + 1) i xa xb ya yb = bif decide (i < 64) then (bif decide (i < 0) then none else (bif bu n i == 1 then (bif inU yb && inU xb then (bif inU xb && inU xb then E k (IntKind.i64.wrap (i + 1)) (pHi (wv xa xb + wv xa xb)) (pLo (wv xa xb + wv xa xb)) (pHi (wv ya yb + wv xa xb)) (pLo (wv ya yb + wv xa xb)) else none) else none)
      else (bif inU xb && inU xb then E k (IntKind.i64.wrap (i + 1)) (pHi (wv xa xb + wv xa xb)) (pLo (wv xa xb + wv xa xb)) ya yb else none))) else Z xa xb ya yb) :
    ∀ (m j : Nat), j + m = 64 → E (m + 1) j (pHi (X * 2 ^ j)) (pLo (X * 2 ^ j)) (pHi (X * (n % 2 ^ j))) (pLo (X * (n % 2 ^ j))) = Z (pHi (X * 2 ^ 64)) (pLo (X * 2 ^ 64)) (pHi (X * (n % 2 ^ 64))) (pLo (X * (n % 2 ^ 64))) := by
  intro m
  induction m with
  | zero =>
    intro j hj
    obtain rfl : j = 64 := by omega
    rw [st]
    rfl
  | succ m ih =>
    intro j hj
    have hp : (0 : Int) < 2 ^ j := Int.pow_pos (by decide)
    have g1 : decide ((j : Int) < 64) = true := by simp; omega
    have g2 : decide ((j : Int) < 0) = false := by simp
    rw [st, g1, g2, inU_pLo, inU_pLo, bu_eq n h0 h1 j (by omega), wrap1 j (by omega), pHi_add, pLo_add, pHi_add, pLo_add]
    simp only [cond_true, cond_false, Bool.and_self]
    have ih := ih (j + 1) (by omega)
    have e1 : X * 2 ^ j + X * 2 ^ j = X * 2 ^ (j + 1) := by rw [Int.pow_succ, ← Int.mul_add]; congr 1; omega
    have e2 := emod2 n (2 ^ j) hp
    rw [← Int.pow_succ] at e2
    rw [e1]
    have hb : n / 2 ^ j % 2 = 0 ∨ n / 2 ^ j % 2 = 1 := by omega
    unfold bitI
    rcases hb with hb | hb
    · rw [hb] at e2 ⊢
      rw [Int.mul_zero, Int.add_zero] at e2
      rw [e2] at ih
      exact ih
    · rw [hb] at e2 ⊢
      rw [Int.mul_one] at e2
      rw [e2, Int.mul_add] at ih
      exact ih
theorem cmpR {a b c d : Int} (h1 : inW a b = true) (h2 : inW c d = true) : (bif decide (a < c) || (a == c && decide (b < d)) then (-1 : Int) else bif a == c && b == d then 0 else 1) = cmpI (wv a b) (wv c d) := by
  rw [inW_iff] at h1 h2
  unfold cmpI wv
  by_cases p : a < c
  · have q1 : a * 18446744073709551616 + b < c * 18446744073709551616 + d := by omega
    simp [p, q1]
  · by_cases q : a = c
    · subst q
      by_cases r : b < d
      · simp [r]
      · by_cases s : b = d
        · simp [s]
        · have t : d < b := by omega
          have s' : (b == d) = false := by simpa using s
          simp [r, t, s']
    · have q' : (a == c) = false := by simpa using q
      have q1 : ¬ a * 18446744073709551616 + b < c * 18446744073709551616 + d := by omega
      have q2 : c * 18446744073709551616 + d < a * 18446744073709551616 + b := by omega
      simp [p, q', q1, q2]
end Go.Sx

namespace Go.Sx
/-! Places, turns, ways. -/
def plR (x y : Int) : Bool := decide (-1099511627776 ≤ x ∧ x ≤ 1099511627776 ∧ -1099511627776 ≤ y ∧ y ≤ 1099511627776)
theorem plR_iff {x y : Int} : plR x y = true ↔ -1099511627776 ≤ x ∧ x ≤ 1099511627776 ∧ -1099511627776 ≤ y ∧ y ≤ 1099511627776 := by unfold plR; exact decide_eq_true_iff
def turnI (ax ay bx by_ cx cy : Int) : Int := bif plR ax ay && (plR bx by_ && plR cx cy) then cmpI ((bx - ax) * (cy - ay)) ((by_ - ay) * (cx - ax)) else 0
def btw (x a b : Int) : Bool := decide ((if b < a then b else a) ≤ x) && decide (x ≤ (if b > a then b else a))
def onB (px py ax ay bx by_ : Int) : Bool := (plR px py && (plR ax ay && plR bx by_)) && (turnI ax ay bx by_ px py == 0 && (btw px ax bx && btw py ay by_))
def crossB (ax ay bx by_ cx cy dx dy : Int) : Bool := decide (wI (turnI ax ay bx by_ cx cy * turnI ax ay bx by_ dx dy) < 0) && decide (wI (turnI cx cy dx dy ax ay * turnI cx cy dx dy bx by_) < 0)
def meetB (ax ay bx by_ cx cy dx dy : Int) : Bool := (plR ax ay && (plR bx by_ && (plR cx cy && plR dx dy))) && (onB ax ay cx cy dx dy || (onB bx by_ cx cy dx dy || (onB cx cy ax ay bx by_ || (onB dx dy ax ay bx by_ || crossB ax ay bx by_ cx cy dx dy))))
def moveB (a1 a2 x y : Int) : Bool := plR a1 a2 && plR (a1 + x) (a2 + y)
theorem turnI_wrap {ax ay bx by_ cx cy : Int} (h : (plR ax ay && (plR bx by_ && plR cx cy)) = true) : cmpI (wI (bx - ax) * wI (cy - ay)) (wI (by_ - ay) * wI (cx - ax)) = turnI ax ay bx by_ cx cy := by
  unfold turnI
  rw [h]
  simp only [Bool.and_eq_true, plR_iff] at h
  rw [wI_id (n := bx - ax) (by omega), wI_id (n := cy - ay) (by omega), wI_id (n := by_ - ay) (by omega), wI_id (n := cx - ax) (by omega)]
  rfl
theorem cmpI_bd (m n : Int) : -1 ≤ cmpI m n ∧ cmpI m n ≤ 1 := by
  unfold cmpI
  cases decide (m < n) <;> cases decide (n < m) <;> simp
theorem cmpI_zero {m n : Int} : cmpI m n = 0 ↔ m = n := by
  unfold cmpI
  by_cases h1 : m < n
  · simp [h1]; omega
  · by_cases h2 : n < m
    · simp [h1, h2]; omega
    · simp [h1, h2]; omega
theorem turnI_bd (a1 a2 b1 b2 c1 c2 : Int) : -1 ≤ turnI a1 a2 b1 b2 c1 c2 ∧ turnI a1 a2 b1 b2 c1 c2 ≤ 1 := by
  unfold turnI
  cases plR a1 a2 && (plR b1 b2 && plR c1 c2)
  · simp
  · exact cmpI_bd _ _
theorem btw_iff {x a b : Int} : btw x a b = true ↔ (a ≤ x ∧ x ≤ b) ∨ (b ≤ x ∧ x ≤ a) := by
  unfold btw
  simp only [Bool.and_eq_true, decide_eq_true_eq]
  split <;> split <;> omega
end Go.Sx

namespace Go.Sx
/-! The root of a number, rounded down. -/
end Go.Sx

namespace Go.Sx
/-! Falls. -/
end Go.Sx

namespace Go.Sx
/-! Impacts: products of ranges. -/
def mn (a b : Int) : Int := if b < a then b else a
def mx (a b : Int) : Int := if b > a then b else a
end Go.Sx

namespace Go.Sx
/-! Ways on the ground: what doesn't meet, and on which side it is. -/
theorem mul_posL {k x : Int} (hk : 0 < k) : 0 < k * x ↔ 0 < x := by
  constructor
  · intro h
    rcases Int.lt_or_le 0 x with h1 | h1
    · exact h1
    · have := Int.mul_nonneg (Int.le_of_lt hk) (show 0 ≤ -x by omega)
      rw [Int.mul_neg] at this
      omega
  · exact Int.mul_pos hk
theorem mul_negL {k x : Int} (hk : 0 < k) : k * x < 0 ↔ x < 0 := by
  have := mul_posL (x := -x) hk
  rw [Int.mul_neg] at this
  omega
theorem mul_nn {x y : Int} (hx : 0 ≤ x) (hy : 0 ≤ y) : 0 ≤ x * y := Int.mul_nonneg hx hy
theorem mul_np {x y : Int} (hx : 0 ≤ x) (hy : y ≤ 0) : x * y ≤ 0 := by
  have := Int.mul_nonneg hx (show 0 ≤ -y by omega)
  rw [Int.mul_neg] at this
  omega
theorem mul_pn {x y : Int} (hx : x ≤ 0) (hy : 0 ≤ y) : x * y ≤ 0 := by
  rw [Int.mul_comm]; exact mul_np hy hx
theorem mul_pp {x y : Int} (hx : x ≤ 0) (hy : y ≤ 0) : 0 ≤ x * y := by
  have := Int.mul_nonneg (show 0 ≤ -x by omega) (show 0 ≤ -y by omega)
  rw [Int.neg_mul_neg] at this
  exact this
theorem mul_PP {x y : Int} (hx : 0 < x) (hy : 0 < y) : 0 < x * y := Int.mul_pos hx hy
theorem mul_PN {x y : Int} (hx : 0 < x) (hy : y < 0) : x * y < 0 := (mul_negL hx).2 hy
theorem mul_NP {x y : Int} (hx : x < 0) (hy : 0 < y) : x * y < 0 := by rw [Int.mul_comm]; exact mul_PN hy hx
theorem mul_NN {x y : Int} (hx : x < 0) (hy : y < 0) : 0 < x * y := by
  have := Int.mul_pos (show 0 < -x by omega) (show 0 < -y by omega)
  rw [Int.neg_mul_neg] at this
  exact this
/-- Twice the area from a over b to c. -/
def tw (a1 a2 b1 b2 c1 c2 : Int) : Int := (b1 - a1) * (c2 - a2) - (b2 - a2) * (c1 - a1)
def bt (x a b : Int) : Prop := (a ≤ x ∧ x ≤ b) ∨ (b ≤ x ∧ x ≤ a)
def OnP (p1 p2 a1 a2 b1 b2 : Int) : Prop := tw a1 a2 b1 b2 p1 p2 = 0 ∧ bt p1 a1 b1 ∧ bt p2 a2 b2
def opp (x y : Int) : Prop := (0 < x ∧ y < 0) ∨ (x < 0 ∧ 0 < y)
structure Apart (a1 a2 b1 b2 c1 c2 d1 d2 : Int) : Prop where
  a : ¬ OnP a1 a2 c1 c2 d1 d2
  b : ¬ OnP b1 b2 c1 c2 d1 d2
  c : ¬ OnP c1 c2 a1 a2 b1 b2
  d : ¬ OnP d1 d2 a1 a2 b1 b2
  x : ¬ (opp (tw a1 a2 b1 b2 c1 c2) (tw a1 a2 b1 b2 d1 d2) ∧ opp (tw c1 c2 d1 d2 a1 a2) (tw c1 c2 d1 d2 b1 b2))
theorem cmpI_pos {m n : Int} : 0 < cmpI m n ↔ n < m := by
  unfold cmpI
  by_cases h1 : m < n
  · simp [h1]; omega
  · by_cases h2 : n < m
    · simp [h1, h2]
    · simp [h1, h2]
theorem cmpI_lt {m n : Int} : cmpI m n < 0 ↔ m < n := by
  unfold cmpI
  by_cases h1 : m < n
  · simp [h1]
  · by_cases h2 : n < m
    · simp [h1, h2]
    · simp [h1, h2]
section
variable {a1 a2 b1 b2 c1 c2 d1 d2 p1 p2 q1 q2 : Int}
theorem turn_tw (ha : plR a1 a2 = true) (hb : plR b1 b2 = true) (hc : plR c1 c2 = true) : (0 < turnI a1 a2 b1 b2 c1 c2 ↔ 0 < tw a1 a2 b1 b2 c1 c2) ∧ (turnI a1 a2 b1 b2 c1 c2 < 0 ↔ tw a1 a2 b1 b2 c1 c2 < 0) ∧ (turnI a1 a2 b1 b2 c1 c2 = 0 ↔ tw a1 a2 b1 b2 c1 c2 = 0) := by
  unfold turnI tw
  rw [ha, hb, hc]
  simp only [Bool.and_true, cond_true]
  refine ⟨cmpI_pos.trans (by omega), cmpI_lt.trans (by omega), cmpI_zero.trans (by omega)⟩
theorem on_iff (hp : plR p1 p2 = true) (ha : plR a1 a2 = true) (hb : plR b1 b2 = true) : onB p1 p2 a1 a2 b1 b2 = true ↔ OnP p1 p2 a1 a2 b1 b2 := by
  unfold onB OnP bt
  rw [hp, ha, hb]
  simp only [Bool.and_true, Bool.true_and, Bool.and_eq_true, beq_iff_eq, (turn_tw ha hb hp).2.2, btw_iff]
theorem cross_iff (ha : plR a1 a2 = true) (hb : plR b1 b2 = true) (hc : plR c1 c2 = true) (hd : plR d1 d2 = true) : crossB a1 a2 b1 b2 c1 c2 d1 d2 = true ↔ opp (tw a1 a2 b1 b2 c1 c2) (tw a1 a2 b1 b2 d1 d2) ∧ opp (tw c1 c2 d1 d2 a1 a2) (tw c1 c2 d1 d2 b1 b2) := by
  have key : ∀ {x y u v : Int}, (-1 ≤ x ∧ x ≤ 1) → (-1 ≤ y ∧ y ≤ 1) → ((0 < x ↔ 0 < u) ∧ (x < 0 ↔ u < 0)) → ((0 < y ↔ 0 < v) ∧ (y < 0 ↔ v < 0)) → (wI (x * y) < 0 ↔ opp u v) := by
    intro x y u v hx hy h1 h2
    unfold opp
    have ex : x = -1 ∨ x = 0 ∨ x = 1 := by omega
    have ey : y = -1 ∨ y = 0 ∨ y = 1 := by omega
    rcases ex with rfl | rfl | rfl <;> rcases ey with rfl | rfl | rfl <;> simp only [show wI (-1 * -1) = 1 from by decide, show wI (-1 * 0) = 0 from by decide, show wI (-1 * 1) = -1 from by decide, show wI (0 * -1) = 0 from by decide, show wI (0 * 0) = 0 from by decide, show wI (0 * 1) = 0 from by decide, show wI (1 * -1) = -1 from by decide, show wI (1 * 0) = 0 from by decide, show wI (1 * 1) = 1 from by decide] <;> omega
  unfold crossB
  simp only [Bool.and_eq_true, decide_eq_true_eq]
  have t1 := turn_tw ha hb hc
  have t2 := turn_tw ha hb hd
  have t3 := turn_tw hc hd ha
  have t4 := turn_tw hc hd hb
  rw [key (turnI_bd _ _ _ _ _ _) (turnI_bd _ _ _ _ _ _) ⟨t1.1, t1.2.1⟩ ⟨t2.1, t2.2.1⟩, key (turnI_bd _ _ _ _ _ _) (turnI_bd _ _ _ _ _ _) ⟨t3.1, t3.2.1⟩ ⟨t4.1, t4.2.1⟩]
theorem meet_apart (ha : plR a1 a2 = true) (hb : plR b1 b2 = true) (hc : plR c1 c2 = true) (hd : plR d1 d2 = true) : meetB a1 a2 b1 b2 c1 c2 d1 d2 = false ↔ Apart a1 a2 b1 b2 c1 c2 d1 d2 := by
  have e : meetB a1 a2 b1 b2 c1 c2 d1 d2 = false ↔ ¬ (onB a1 a2 c1 c2 d1 d2 = true) ∧ ¬ (onB b1 b2 c1 c2 d1 d2 = true) ∧ ¬ (onB c1 c2 a1 a2 b1 b2 = true) ∧ ¬ (onB d1 d2 a1 a2 b1 b2 = true) ∧ ¬ (crossB a1 a2 b1 b2 c1 c2 d1 d2 = true) := by
    unfold meetB
    rw [ha, hb, hc, hd]
    cases onB a1 a2 c1 c2 d1 d2 <;> cases onB b1 b2 c1 c2 d1 d2 <;> cases onB c1 c2 a1 a2 b1 b2 <;> cases onB d1 d2 a1 a2 b1 b2 <;> cases crossB a1 a2 b1 b2 c1 c2 d1 d2 <;> simp
  rw [e, on_iff ha hc hd, on_iff hb hc hd, on_iff hc ha hb, on_iff hd ha hb, cross_iff ha hb hc hd]
  exact ⟨fun ⟨h1, h2, h3, h4, h5⟩ => ⟨h1, h2, h3, h4, h5⟩, fun h => ⟨h.a, h.b, h.c, h.d, h.x⟩⟩
/-! What turns there are of four places. -/
/-- In one line with a way, and as high as some of it: on it. -/
theorem on_of (h : tw a1 a2 b1 b2 p1 p2 = 0) (hab : a2 < b2) (h1 : a2 ≤ p2) (h2 : p2 ≤ b2) : OnP p1 p2 a1 a2 b1 b2 := by
  refine ⟨h, ?_, .inl ⟨h1, h2⟩⟩
  have e1 : (b2 - a2) * (p1 - a1) = (b1 - a1) * (p2 - a2) := by unfold tw at h; omega
  have e2 : (b2 - a2) * (b1 - p1) = (b1 - a1) * (b2 - p2) := by grind
  have hk : 0 < b2 - a2 := by omega
  rcases Int.le_total a1 b1 with hx | hx
  · have f1 := mul_nn (show 0 ≤ b1 - a1 by omega) (show 0 ≤ p2 - a2 by omega)
    have f2 := mul_nn (show 0 ≤ b1 - a1 by omega) (show 0 ≤ b2 - p2 by omega)
    have g1 := mul_negL (x := p1 - a1) hk
    have g2 := mul_negL (x := b1 - p1) hk
    unfold bt
    omega
  · have f1 := mul_pn (show b1 - a1 ≤ 0 by omega) (show 0 ≤ p2 - a2 by omega)
    have f2 := mul_pn (show b1 - a1 ≤ 0 by omega) (show 0 ≤ b2 - p2 by omega)
    have g1 := mul_posL (x := p1 - a1) hk
    have g2 := mul_posL (x := b1 - p1) hk
    unfold bt
    omega
theorem Apart.swap (h : Apart a1 a2 b1 b2 c1 c2 d1 d2) : Apart c1 c2 d1 d2 a1 a2 b1 b2 := ⟨h.c, h.d, h.a, h.b, fun hx => h.x ⟨hx.2, hx.1⟩⟩
theorem tw_back : tw b1 b2 a1 a2 c1 c2 = - tw a1 a2 b1 b2 c1 c2 := by unfold tw; grind
theorem bt_comm {x a b : Int} : bt x b a ↔ bt x a b := by unfold bt; omega
theorem OnP.back : OnP p1 p2 b1 b2 a1 a2 ↔ OnP p1 p2 a1 a2 b1 b2 := by
  unfold OnP
  rw [tw_back, bt_comm, bt_comm (x := p2), Int.neg_eq_zero]
/-- Does the way from p to the right meet the edge from a to b? -/
def crB (p1 p2 a1 a2 b1 b2 : Int) : Bool := decide ((a2 ≤ p2 ∧ p2 < b2 ∧ 0 < tw a1 a2 b1 b2 p1 p2) ∨ (b2 ≤ p2 ∧ p2 < a2 ∧ tw a1 a2 b1 b2 p1 p2 < 0))
theorem crB_back : crB p1 p2 b1 b2 a1 a2 = crB p1 p2 a1 a2 b1 b2 := by
  unfold crB
  rw [tw_back]
  exact decide_eq_decide.2 (by omega)
end
end Go.Sx

namespace Go.Sx
set_option linter.unusedVariables false
/-! A way and a box. -/
section
variable {a1 a2 b1 b2 c1 c2 d1 d2 p1 p2 q1 q2 u1 u2 v1 v2 a b c d : Int}
end
end Go.Sx

namespace Go.Sx
set_option linter.unusedVariables false
/-! A place and a triangle. -/
section
variable {a1 a2 b1 b2 c1 c2 p1 p2 : Int}
theorem tri_sum : tw a1 a2 b1 b2 p1 p2 + tw b1 b2 c1 c2 p1 p2 + tw c1 c2 a1 a2 p1 p2 = tw a1 a2 b1 b2 c1 c2 := by unfold tw; grind
theorem tri_y : tw b1 b2 c1 c2 p1 p2 * (a2 - p2) + tw c1 c2 a1 a2 p1 p2 * (b2 - p2) + tw a1 a2 b1 b2 p1 p2 * (c2 - p2) = 0 := by unfold tw; grind
/-- In one line, and none of them one: one is between the others. -/
theorem line_on (h : tw a1 a2 b1 b2 c1 c2 = 0) : OnP c1 c2 a1 a2 b1 b2 ∨ OnP a1 a2 b1 b2 c1 c2 ∨ OnP b1 b2 c1 c2 a1 a2 := by
  have r1 : tw b1 b2 c1 c2 a1 a2 = 0 := by rw [← h]; unfold tw; grind
  have r2 : tw c1 c2 a1 a2 b1 b2 = 0 := by rw [← h]; unfold tw; grind
  by_cases hab : a2 = b2
  · by_cases hbc : b2 = c2
    · unfold OnP bt
      rw [h, r1, r2]
      omega
    · -- a is b, in height; c is elsewhere
      have e : (b1 - a1) * (c2 - a2) = 0 := by unfold tw at h; rw [hab] at h; rw [hab]; grind
      have : b1 = a1 := by
        rcases Int.mul_eq_zero.1 e with q | q <;> omega
      right; left
      exact ⟨r1, by unfold bt; omega, by unfold bt; omega⟩
  · rcases Int.lt_or_gt_of_ne hab with q | q
    · rcases Int.lt_or_le c2 a2 with s | s
      · right; left
        exact (OnP.back).1 (on_of (by rw [tw_back, r1]; rfl) (by omega) (by omega) (by omega))
      · rcases Int.lt_or_le b2 c2 with t | t
        · right; right
          exact (OnP.back).1 (on_of (by rw [tw_back, r2]; rfl) (by omega) (by omega) (by omega))
        · left; exact on_of h q s t
    · rcases Int.lt_or_le c2 b2 with s | s
      · right; right
        exact on_of r2 (by omega) (by omega) (by omega)
      · rcases Int.lt_or_le a2 c2 with t | t
        · right; left
          exact on_of r1 (by omega) (by omega) (by omega)
        · left; exact (OnP.back).1 (on_of (by rw [tw_back, h]; rfl) q s t)
/-- On an edge: in its line, and not beyond the other two. -/
theorem tri_hit (hT : 0 < tw a1 a2 b1 b2 c1 c2) : OnP p1 p2 a1 a2 b1 b2 ↔ tw a1 a2 b1 b2 p1 p2 = 0 ∧ 0 ≤ tw b1 b2 c1 c2 p1 p2 ∧ 0 ≤ tw c1 c2 a1 a2 p1 p2 := by
  have hs := tri_sum (a1 := a1) (a2 := a2) (b1 := b1) (b2 := b2) (c1 := c1) (c2 := c2) (p1 := p1) (p2 := p2)
  have hy := tri_y (a1 := a1) (a2 := a2) (b1 := b1) (b2 := b2) (c1 := c1) (c2 := c2) (p1 := p1) (p2 := p2)
  have hx : tw b1 b2 c1 c2 p1 p2 * (a1 - p1) + tw c1 c2 a1 a2 p1 p2 * (b1 - p1) + tw a1 a2 b1 b2 p1 p2 * (c1 - p1) = 0 := by unfold tw; grind
  have dist : ¬ (a1 = b1 ∧ a2 = b2) := by
    rintro ⟨e1, e2⟩
    have : tw a1 a2 b1 b2 c1 c2 = 0 := by unfold tw; rw [e1, e2]; grind
    omega
  -- of two weights, one below 0 and one above, along an axis
  have ax : ∀ {y z u v : Int}, y * u + z * v = 0 → y < 0 → 0 < z → ((u ≤ 0 ∧ 0 ≤ v) ∨ (v ≤ 0 ∧ 0 ≤ u)) → u = 0 ∧ v = 0 := by
    intro y z u v e hy hz h
    rcases h with ⟨h1, h2⟩ | ⟨h1, h2⟩
    · have f1 := mul_pp (Int.le_of_lt hy) h1
      have f2 := mul_nn (Int.le_of_lt hz) h2
      have g1 : u = 0 := by
        rcases Int.lt_or_eq_of_le h1 with q | q
        · have := mul_NN hy q; omega
        · exact q
      have g2 : v = 0 := by
        rcases Int.lt_or_eq_of_le h2 with q | q
        · have := mul_PP hz q; omega
        · omega
      exact ⟨g1, g2⟩
    · have f1 := mul_pn (Int.le_of_lt hy) h2
      have f2 := mul_np (Int.le_of_lt hz) h1
      have g1 : u = 0 := by
        rcases Int.lt_or_eq_of_le h2 with q | q
        · have := mul_NP hy q; omega
        · omega
      have g2 : v = 0 := by
        rcases Int.lt_or_eq_of_le h1 with q | q
        · have := mul_PN hz q; omega
        · exact q
      exact ⟨g1, g2⟩
  have bx : ∀ {y z u v : Int}, y * u + z * v = 0 → 0 ≤ y → 0 ≤ z → 0 < y + z → (u ≤ 0 ∧ 0 ≤ v) ∨ (v ≤ 0 ∧ 0 ≤ u) := by
    intro y z u v e hy hz hp
    rcases Int.lt_or_le 0 u with h1 | h1 <;> rcases Int.lt_or_le 0 v with h2 | h2
    · have f1 := mul_nn hy (Int.le_of_lt h1)
      have f2 := mul_nn hz (Int.le_of_lt h2)
      rcases Int.lt_or_eq_of_le hy with q | q
      · have := mul_PP q h1; omega
      · have := mul_PP (show 0 < z by omega) h2; omega
    · omega
    · omega
    · by_cases h3 : u = 0
      · omega
      · by_cases h4 : v = 0
        · omega
        · have f1 := mul_np hy h1
          have f2 := mul_np hz h2
          rcases Int.lt_or_eq_of_le hy with q | q
          · have := mul_PN q (show u < 0 by omega); omega
          · have := mul_PN (show 0 < z by omega) (show v < 0 by omega); omega
  constructor
  · rintro ⟨e, h1, h2⟩
    rw [e] at hs hx hy
    rw [Int.zero_mul, Int.add_zero] at hx hy
    unfold bt at h1 h2
    refine ⟨e, ?_, ?_⟩
    · rcases Int.lt_or_le (tw b1 b2 c1 c2 p1 p2) 0 with q | q
      · have r1 := ax hx q (by omega) (by omega)
        have r2 := ax hy q (by omega) (by omega)
        exact absurd ⟨by omega, by omega⟩ dist
      · exact q
    · rcases Int.lt_or_le (tw c1 c2 a1 a2 p1 p2) 0 with q | q
      · have r1 := ax (y := tw c1 c2 a1 a2 p1 p2) (z := tw b1 b2 c1 c2 p1 p2) (u := b1 - p1) (v := a1 - p1) (by omega) q (by omega) (by omega)
        have r2 := ax (y := tw c1 c2 a1 a2 p1 p2) (z := tw b1 b2 c1 c2 p1 p2) (u := b2 - p2) (v := a2 - p2) (by omega) q (by omega) (by omega)
        exact absurd ⟨by omega, by omega⟩ dist
      · exact q
  · rintro ⟨e, h1, h2⟩
    rw [e] at hs hx hy
    rw [Int.zero_mul, Int.add_zero] at hx hy
    have r1 := bx hx h1 h2 (by omega)
    have r2 := bx hy h1 h2 (by omega)
    exact ⟨e, by unfold bt; omega, by unfold bt; omega⟩
end
end Go.Sx

