/-
  Contract: wide.Sqrt, and numbers of 64 bits.
-/
import Derived.Test.YtanjomncnbmgkaaYj
namespace Go.Proofs.Ytanjomncnbmgkaa
open Go Go.Proofs Go.Sx

theorem run64 (a b x : Int) : run Γl L0 Try.prog Try.f64 [W a b, .int .u64 x] =
    bif inU x && inU x then
      bif decide (x * x / 18446744073709551616 < IntKind.wrap IntKind.u64 a) then some (.bool true)
      else bif x * x / 18446744073709551616 == IntKind.wrap IntKind.u64 a then some (.bool (decide (x * x % 18446744073709551616 ≤ b)))
      else some (.bool false)
    else none := by kernel_rfl
theorem call64 (a b x : Int) (h1 : inW a b = true) (h2 : 0 ≤ a) (h3 : inU x = true) : CallOk Try.prog 64 [W a b, .int .u64 x] (.bool (decide (x * x ≤ wv a b))) := by
  refine by_run Okl Try.func64 rfl (by kernel_rfl) ?_
  rw [run64, h3]
  rw [inW_iff] at h1
  rw [inU_iff] at h3
  have hw : IntKind.wrap IntKind.u64 a = a := by rw [wrapU]; omega
  rw [hw]
  simp only [Bool.and_self, cond_true]
  have hz := mul_lt x x 18446744073709551616 18446744073709551616 h3.1 h3.2 h3.1 h3.2
  generalize x * x = Z at *
  unfold wv
  by_cases p : Z / 18446744073709551616 < a
  · have : Z ≤ a * 18446744073709551616 + b := by omega
    simp [p, this]
  · by_cases q : Z / 18446744073709551616 = a
    · have e : decide (Z % 18446744073709551616 ≤ b) = decide (Z ≤ a * 18446744073709551616 + b) := by
        apply decide_eq_decide.2; omega
      simp only [q, BEq.rfl, cond_true, e]
      have : ¬ a < a := by omega
      simp [this]
    · have : ¬ Z ≤ a * 18446744073709551616 + b := by omega
      have q' : (Z / 18446744073709551616 == a) = false := by simpa using q
      simp [p, q', this]


def tJ : FuncId → List Value → Option (Bool × Value)
  | 64, [.agg ⟨[.int .i64 a, .int .u64 b]⟩, .int .u64 x] => some (inW a b && decide (0 ≤ a) && inU x, .bool (decide (x * x ≤ wv a b)))
  | _, _ => none
theorem tJ_ok (f : FuncId) (vs : List Value) (r : Value) (h : tJ f vs = some (true, r)) : CallOk Try.prog f vs r := by
  unfold tJ at h
  split at h
  · injection h with h; injection h with h1 h2; subst h2
    simp only [Bool.and_eq_true, decide_eq_true_eq] at h1
    exact call64 _ _ _ h1.1.1 h1.1.2 h1.2
  · cases h
noncomputable def Γm := add tJ Γl
theorem Okm : Γm.Ok Try.prog := add_ok Okl tJ_ok

noncomputable def body33 : Code := loopAt (Try.f33.body.getD .skip) 0
theorem loops33 : loopsOf (Try.f33.body.getD .skip) = [body33] := by kernel_rfl
theorem loops33' : loopsOf body33 = [] := by kernel_rfl
def keep33 : List Bool := maskOf 21 [5, 1, 4]
def kx33 : List Bool := maskOf 21 [4]
def S33 (a b r q : Int) : St := mk keep33 [.ptr 0 0, .v (.int .u64 r), .v (.int .u64 q)] ⟨[[.v (.int .i64 a), .v (.int .u64 b)]], [true], []⟩
def S33x (a b r : Int) : St := mk kx33 [.v (.int .u64 r)] ⟨[[.v (.int .i64 a), .v (.int .u64 b)]], [true], []⟩
def K33 (e : Ex) (st : St) : Option (Ex × St) := some (e, cutG kx33 st)
theorem step33 (a b r q : Int) (n : Nat) : evLoop Γm Try.prog L0 (cutG keep33) body33 (n + 1) (S33 a b r q) K33 =
    bif decide (q > 0) then
      bif inW a b && decide (0 ≤ a) && inU (orU r q) then
        bif decide (orU r q * orU r q ≤ wv a b) then evLoop Γm Try.prog L0 (cutG keep33) body33 n (S33 a b (orU r q) (q.fdiv (2 ^ 1))) K33
        else evLoop Γm Try.prog L0 (cutG keep33) body33 n (S33 a b r (q.fdiv (2 ^ 1))) K33
      else none
    else some (.exit 0, S33x a b r) := by kernel_rfl

/-- The root, bit by bit. -/
def sqr (n : Int) : Nat → Int → Int
  | 0, r => r
  | k + 1, r => sqr n k (bif decide ((r + 2 ^ k) * (r + 2 ^ k) ≤ n) then r + 2 ^ k else r)

theorem orU_add (r : Int) (k : Nat) (h0 : 0 ≤ r) (h1 : r % 2 ^ (k + 1) = 0) (h2 : r + 2 ^ (k + 1) ≤ 18446744073709551616) : orU r (2 ^ k) = r + 2 ^ k ∧ inU (r + 2 ^ k) = true := by
  have hp : (0 : Int) < 2 ^ k := Int.pow_pos (by decide)
  have hs : (2 : Int) ^ (k + 1) = 2 ^ k * 2 := Int.pow_succ 2 k
  have hb : inU (r + 2 ^ k) = true := by rw [inU_iff]; omega
  refine ⟨?_, hb⟩
  rw [inU_iff] at hb
  obtain ⟨m, rfl⟩ := Int.eq_ofNat_of_zero_le h0
  unfold orU
  have e1 : ((2 : Int) ^ k) = ((2 ^ k : Nat) : Int) := by simp
  have e2 : ((2 : Int) ^ (k + 1)) = ((2 ^ (k + 1) : Nat) : Int) := by simp
  rw [e1, BitVec.ofInt_natCast, BitVec.ofInt_natCast, BitVec.toNat_or, BitVec.toNat_ofNat, BitVec.toNat_ofNat]
  rw [e2] at h1 h2
  have hm : m % 2 ^ (k + 1) = 0 := by
    have : ((m % 2 ^ (k + 1) : Nat) : Int) = 0 := by rw [Int.natCast_emod]; exact h1
    exact_mod_cast this
  have hk : 2 ^ k < 2 ^ (k + 1) := Nat.pow_lt_pow_right (by decide) (by omega)
  have l1 : m < 2 ^ 64 := by
    have : (m : Int) < 18446744073709551616 := by omega
    omega
  have l2 : 2 ^ k < 2 ^ 64 := by omega
  rw [Nat.mod_eq_of_lt l1, Nat.mod_eq_of_lt l2]
  have hor : m ||| 2 ^ k = m + 2 ^ k := by
    have hd : m = 2 ^ (k + 1) * (m / 2 ^ (k + 1)) := by
      have := Nat.div_add_mod m (2 ^ (k + 1)); omega
    rw [hd, ← Nat.two_pow_add_eq_or_of_lt hk]
  rw [hor, wrapU]
  rw [e1] at hb
  push_cast at hb ⊢
  omega


theorem sqr_loop {α : Type} (N : Int) (g : Int → Bool) (hg : ∀ x, inU x = true → g x = true) (E : Nat → Int → Int → Option α) (F : Int → Option α)
    (hE : ∀ m r q, E (m + 1) r q = bif decide (q > 0) then (bif g (orU r q) then (bif decide (orU r q * orU r q ≤ N) then E m (orU r q) (q.fdiv (2 ^ 1)) else E m r (q.fdiv (2 ^ 1))) else none) else F r) :
    ∀ (k : Nat) (r : Int), 0 ≤ r → r % 2 ^ (k + 1) = 0 → r + 2 ^ (k + 1) ≤ 18446744073709551616 → E (k + 2) r (2 ^ k) = F (sqr N (k + 1) r) := by
  intro k
  induction k with
  | zero =>
    intro r h0 h1 h2
    obtain ⟨e1, e2⟩ := orU_add r 0 h0 h1 h2
    rw [hE, e1, hg _ e2]
    have h3 : ((2 : Int) ^ 0).fdiv (2 ^ 1) = 0 := by decide
    rw [h3]
    have : ∀ r', E 1 r' 0 = F r' := fun r' => by rw [hE]; rfl
    rw [this, this]
    simp only [sqr, Int.pow_zero, decide_true, cond_true, show ((1 : Int) > 0) from by decide]
    cases decide ((r + 1) * (r + 1) ≤ N) <;> rfl
  | succ k ih =>
    intro r h0 h1 h2
    obtain ⟨e1, e2⟩ := orU_add r (k + 1) h0 h1 h2
    rw [hE, e1, hg _ e2]
    have hp : (0 : Int) < 2 ^ k := Int.pow_pos (by decide)
    have hs : (2 : Int) ^ (k + 1) = 2 ^ k * 2 := Int.pow_succ 2 k
    have hs2 : (2 : Int) ^ (k + 1 + 1) = 2 ^ (k + 1) * 2 := Int.pow_succ 2 (k + 1)
    have h3 : ((2 : Int) ^ (k + 1)).fdiv (2 ^ 1) = 2 ^ k := by
      rw [Int.fdiv_eq_ediv_of_nonneg _ (by decide), hs]
      exact Int.mul_ediv_cancel _ (by decide)
    rw [h3]
    have hgt : (2 : Int) ^ (k + 1) > 0 := by omega
    simp only [hgt, decide_true, cond_true]
    have dv : (2 : Int) ^ (k + 1) ∣ r := Int.dvd_trans ⟨2, hs2⟩ (Int.dvd_of_emod_eq_zero h1)
    rw [ih r h0 (Int.emod_eq_zero_of_dvd dv) (by omega), ih (r + 2 ^ (k + 1)) (by omega) (Int.emod_eq_zero_of_dvd (Int.dvd_add dv (Int.dvd_refl _))) (by omega)]
    show _ = F (sqr N (k + 1) (bif decide ((r + 2 ^ (k + 1)) * (r + 2 ^ (k + 1)) ≤ N) then r + 2 ^ (k + 1) else r))
    cases decide ((r + 2 ^ (k + 1)) * (r + 2 ^ (k + 1)) ≤ N) <;> rfl
theorem loop33 (a b : Int) (h1 : inW a b = true) (h2 : 0 ≤ a) : evLoop Γm Try.prog L0 (cutG keep33) body33 65 (S33 a b 0 9223372036854775808) K33 = some (.exit 0, S33x a b (sqr (wv a b) 64 0)) :=
  sqr_loop (wv a b) (fun x => inW a b && decide (0 ≤ a) && inU x) (fun x hx => by simp [h1, h2, hx]) (fun m r q => evLoop Γm Try.prog L0 (cutG keep33) body33 m (S33 a b r q) K33) (fun r => some (.exit 0, S33x a b r)) (fun m r q => step33 a b r q m) 63 0 (by decide) (by decide) (by decide)
/-- The root's bounds. -/
theorem sqr_spec (n : Int) : ∀ (k : Nat) (r : Int), 0 ≤ r → r * r ≤ n → n < (r + 2 ^ k) * (r + 2 ^ k) → (r ≤ sqr n k r ∧ sqr n k r < r + 2 ^ k) ∧ sqr n k r * sqr n k r ≤ n ∧ n < (sqr n k r + 1) * (sqr n k r + 1)
  | 0, r, h0, h1, h2 => by
    simp only [sqr, Int.pow_zero] at *
    exact ⟨⟨by omega, by omega⟩, h1, h2⟩
  | k + 1, r, h0, h1, h2 => by
    have hp : (0 : Int) < 2 ^ k := Int.pow_pos (by decide)
    have hs : (2 : Int) ^ (k + 1) = 2 ^ k * 2 := Int.pow_succ 2 k
    simp only [sqr]
    by_cases hc : (r + 2 ^ k) * (r + 2 ^ k) ≤ n
    · simp only [hc, decide_true, cond_true]
      have := sqr_spec n k (r + 2 ^ k) (by omega) hc (by rw [show r + 2 ^ k + 2 ^ k = r + 2 ^ (k + 1) by omega]; exact h2)
      exact ⟨⟨by omega, by omega⟩, this.2⟩
    · simp only [hc, decide_false, cond_false]
      have := sqr_spec n k r h0 h1 (by omega)
      exact ⟨⟨by omega, by omega⟩, this.2⟩


def G33 (vals : List SV) (m : Mem) : Option (Bool × Ex × St) :=
  match vals, m with
  | [.ptr 0 0, .v (.int .u64 r), .v (.int .u64 q)], ⟨[[.v (.int .i64 a), .v (.int .u64 b)]], [true], []⟩ =>
    some (inW a b && decide (0 ≤ a) && (r == 0 && q == 9223372036854775808), .exit 0, S33x a b (sqr (wv a b) 64 0))
  | _, _ => none
def Λ33 : LoopOrc := fun _ st => viaK keep33 G33 st
theorem loopOk33 (w0 : World) : LoopOk Λ33 Try.prog w0 body33 := by
  refine loop_okK (Λ := L0) (keep := keep33) (kx := fun _ => kx33) Okm mixed (fun b hb => by rw [loops33'] at hb; cases hb) (G := G33) (fun _ => rfl) ?_
  intro vals m e st' h
  unfold G33 at h
  split at h
  · rename_i r q a b
    injection h with h
    injection h with h1 h
    injection h with h2 h3
    subst h2 h3
    simp only [Bool.and_eq_true, beq_iff_eq, decide_eq_true_eq] at h1
    obtain ⟨⟨g1, g2⟩, rfl, rfl⟩ := h1
    exact ⟨65, loop33 a b g1 g2⟩
  · cases h
theorem run33 (a b : Int) : run Γm Λ33 Try.prog Try.f33 [W a b] =
    bif decide (a < 0) then some (.tuple #[.int .u64 0, .bool false])
    else bif inW a b && decide (0 ≤ a) && ((0 : Int) == 0 && (9223372036854775808 : Int) == 9223372036854775808) then some (.tuple #[.int .u64 (sqr (wv a b) 64 0), .bool true]) else none := by kernel_rfl
def rtW (n : Int) : Int := bif decide (n < 0) then 0 else sqr n 64 0

theorem call33 (a b : Int) (h : inW a b = true) : CallOk Try.prog 33 [W a b] (.tuple #[.int .u64 (rtW (wv a b)), .bool (decide (0 ≤ wv a b))]) := by
  refine callOk_of_runV Okm mixed names (Λ := Λ33) Try.func33 rfl (fun w b hb => ?_) ?_
  · have hb' : b ∈ loopsOf (Try.f33.body.getD .skip) := hb
    rw [loops33, List.mem_singleton] at hb'
    subst hb'; exact loopOk33 w
  · rw [run33]
    have h' := h
    rw [inW_iff] at h'
    by_cases ha : a < 0
    · have e1 : wv a b < 0 := by unfold wv; omega
      have e2 : ¬ 0 ≤ wv a b := by omega
      simp [ha, rtW, e1, e2]
    · have e1 : ¬ wv a b < 0 := by unfold wv; omega
      have e2 : 0 ≤ wv a b := by omega
      have e3 : 0 ≤ a := by omega
      simp [ha, rtW, e1, e2, e3, h]
theorem rt_spec (n : Int) (h0 : 0 ≤ n) (h1 : n < 170141183460469231731687303715884105728) : 0 ≤ rtW n ∧ rtW n < 18446744073709551616 ∧ rtW n * rtW n ≤ n ∧ n < (rtW n + 1) * (rtW n + 1) := by
  have e : rtW n = sqr n 64 0 := by
    have : ¬ n < 0 := by omega
    simp [rtW, this]
  rw [e]
  have := sqr_spec n 64 0 (by decide) (by simpa using h0) (by
    have : ((0 : Int) + 2 ^ 64) * (0 + 2 ^ 64) = 340282366920938463463374607431768211456 := by decide
    rw [this]; omega)
  have e2 : (0 : Int) + 2 ^ 64 = 18446744073709551616 := by decide
  rw [e2] at this
  exact ⟨this.1.1, this.1.2, this.2⟩


theorem rtW_neg {n : Int} (h : n < 0) : rtW n = 0 := by simp [rtW, h]
def tK : FuncId → List Value → Option (Bool × Value)
  | 33, [.agg ⟨[.int .i64 a, .int .u64 b]⟩] => some (inW a b, .tuple #[.int .u64 (rtW (wv a b)), .bool (decide (0 ≤ wv a b))])
  | 65, [.agg ⟨[.int .i64 a, .int .u64 b]⟩, .bool t] => some (inW a b, .tuple #[.int .i64 (bif t then smI (wv a b) else 0), .bool (t && inI (wv a b))])
  | 40, [.int .i64 a, .int .i64 b] => some (inI a && inI b, .tuple #[.int .i64 (smI (a * b)), .bool (inI (a * b))])
  | 36, [.int .i64 a, .int .i64 b] => some (inI a && inI b, .tuple #[.int .i64 (smI (a * b)), .bool (inI (a * b))])
  | _, _ => none
theorem call65 (a b : Int) (t : Bool) (h : inW a b = true) : CallOk Try.prog 65 [W a b, .bool t] (.tuple #[.int .i64 (bif t then smI (wv a b) else 0), .bool (t && inI (wv a b))]) := by
  refine by_run Okm Try.func65 rfl (by kernel_rfl) ?_
  have e : run Γm L0 Try.prog Try.f65 [W a b, .bool t] = bif !t then some (.tuple #[.int .i64 0, .bool false]) else bif inW a b then some (.tuple #[.int .i64 (smI (wv a b)), .bool (inI (wv a b))]) else none := by kernel_rfl
  rw [e, h]
  cases t <;> rfl
theorem call36 (a b : Int) (ha : inI a = true) (hb : inI b = true) : CallOk Try.prog 36 [.int .i64 a, .int .i64 b] (.tuple #[.int .i64 (smI (a * b)), .bool (inI (a * b))]) := by
  refine by_run Okm Try.func36 rfl (by kernel_rfl) ?_
  have e : run Γm L0 Try.prog Try.f36 [.int .i64 a, .int .i64 b] = bif inI a && inI b then bif inW (hiW (a * b)) (loW (a * b)) then some (.tuple #[.int .i64 (smI (wW (a * b))), .bool (inI (wW (a * b)))]) else none else none := by kernel_rfl
  obtain ⟨q1, q2⟩ := wv_Wn (okW_mul ha hb)
  have q1' : wW (a * b) = a * b := q1
  rw [e, ha, hb, q2, q1']
  rfl
theorem call40 (a b : Int) (ha : inI a = true) (hb : inI b = true) : CallOk Try.prog 40 [.int .i64 a, .int .i64 b] (.tuple #[.int .i64 (smI (a * b)), .bool (inI (a * b))]) := by
  refine by_run Okm Try.func40 rfl (by kernel_rfl) ?_
  have e : run Γm L0 Try.prog Try.f40 [.int .i64 a, .int .i64 b] = bif inI a && inI b then bif inW (pHi (a * b)) (pLo (a * b)) then some (.tuple #[.int .i64 (smI (wv (pHi (a * b)) (pLo (a * b)))), .bool (inI (wv (pHi (a * b)) (pLo (a * b))))]) else none else none := by kernel_rfl
  obtain ⟨q1, q2⟩ := wv_Wn (okW_mul ha hb)
  obtain ⟨p1, p2⟩ := p_ok (okW_mul ha hb)
  rw [e, ha, hb, p1, p2, q2, q1]
  rfl
theorem tK_ok (f : FuncId) (vs : List Value) (r : Value) (h : tK f vs = some (true, r)) : CallOk Try.prog f vs r := by
  unfold tK at h
  split at h
  · injection h with h; injection h with h1 h2; subst h2; exact call33 _ _ h1
  · injection h with h; injection h with h1 h2; subst h2; exact call65 _ _ _ h1
  · injection h with h; injection h with h1 h2; subst h2; simp only [Bool.and_eq_true] at h1; exact call40 _ _ h1.1 h1.2
  · injection h with h; injection h with h1 h2; subst h2; simp only [Bool.and_eq_true] at h1; exact call36 _ _ h1.1 h1.2
  · cases h
noncomputable def Γn := add tK Γm
theorem Okn : Γn.Ok Try.prog := add_ok Okm tK_ok
end Go.Proofs.Ytanjomncnbmgkaa

