/-
  The root of a wide number, bit by bit.
-/
import Derived.Test.YtanjomncnbmgkaaWd
import Derived.Test.YtanjomncnbmgkaaSx
namespace Go.Proofs.Ytanjomncnbmgkaa
open Go Go.Proofs Go.Sx

theorem run64 (a b x : Int) : run Γ4 L0 Try.prog Try.f64 [W a b, .int .u64 x] =
    bif inU x && inU x then
     bif decide (x * x / 18446744073709551616 < IntKind.wrap IntKind.u64 a) then
      some (.bool (true))
     else
      bif x * x / 18446744073709551616 == IntKind.wrap IntKind.u64 a then
       some (.bool (decide (x * x % 18446744073709551616 ≤ b)))
      else
       some (.bool (false))
    else
     none := by kernel_rfl
end Go.Proofs.Ytanjomncnbmgkaa

namespace Go.Proofs.Ytanjomncnbmgkaa
open Go Go.Proofs Go.Sx

theorem call64 (a b x : Int) (h1 : inW a b = true) (h2 : 0 ≤ a) (h3 : inU x = true) : CallOk Try.prog 64 [W a b, .int .u64 x] (.bool (decide (x * x ≤ wv a b))) := by
  refine by_run Ok4 Try.func64 rfl (by kernel_rfl) ?_
  rw [run64, h3]
  rw [inW_iff] at h1
  rw [inU_iff] at h3
  have hw : IntKind.wrap IntKind.u64 a = a := by rw [wrapU]; omega
  rw [hw]
  simp only [Bool.and_self, cond_true]
  have hz := mul_lt x x 18446744073709551616 18446744073709551616 h3.1 h3.2 h3.1 h3.2
  generalize x * x = Z at *
  unfold wv
  by_cases p : Z / 18446744073709551616 < a
  · have : Z ≤ a * 18446744073709551616 + b := by omega
    simp [p, this]
  · by_cases q : Z / 18446744073709551616 = a
    · have e : decide (Z % 18446744073709551616 ≤ b) = decide (Z ≤ a * 18446744073709551616 + b) := by
        apply decide_eq_decide.2; omega
      simp only [q, BEq.rfl, cond_true, e]
      have : ¬ a < a := by omega
      simp [this]
    · have : ¬ Z ≤ a * 18446744073709551616 + b := by omega
      have q' : (Z / 18446744073709551616 == a) = false := by simpa using q
      simp [p, q', this]

def t5 : FuncId → List Value → Option (Bool × Value)
  | 64, [.agg ⟨[.int .i64 a, .int .u64 b]⟩, .int .u64 x] => some (inW a b && decide (0 ≤ a) && inU x, .bool (decide (x * x ≤ wv a b)))
  | _, _ => none
noncomputable def Γ5 := add t5 Γ4
theorem Ok5 : Γ5.Ok Try.prog := add_ok Ok4 (fun f vs r h => by
  unfold t5 at h
  split at h
  · injection h with h; injection h with h1 h2; subst h2
    simp only [Bool.and_eq_true, decide_eq_true_eq] at h1
    exact call64 _ _ _ h1.1.1 h1.1.2 h1.2
  · cases h)

noncomputable def body33 : Code := loopAt (Try.f33.body.getD .skip) 0
theorem loops33 : loopsOf (Try.f33.body.getD .skip) = [body33] := by kernel_rfl
theorem loops33' : loopsOf body33 = [] := by kernel_rfl
def keep33 : List Bool := [true, true, true, true, true, true, false, false, false, false, false, false, false, false, false, false, false, false, false, false, false]
def S33 (a b a' b' r q : Int) : St := ⟨Tr.ofList [.v (W a b), .ptr 0 0, .v (.int .u64 0), .v (.bool false), .v (.int .u64 r), .v (.int .u64 q), .poison, .poison, .poison, .poison, .poison, .poison, .poison, .poison, .poison, .poison, .poison, .poison, .poison, .poison, .poison], ⟨[[.v (.int .i64 a'), .v (.int .u64 b')]], [true]⟩⟩
def S33x (a b a' b' r q : Int) : St := ⟨Tr.ofList [.v (W a b), .ptr 0 0, .v (.int .u64 0), .v (.bool false), .v (.int .u64 r), .v (.int .u64 q), .poison, .poison, .v (.int .u64 q), .v (.bool false), .poison, .poison, .poison, .poison, .poison, .poison, .poison, .poison, .poison, .poison, .poison], ⟨[[.v (.int .i64 a'), .v (.int .u64 b')]], [true]⟩⟩
def orU (r q : Int) : Int := IntKind.u64.wrap ((BitVec.ofInt 64 r ||| BitVec.ofInt 64 q).toNat : Int)
theorem step33 (a b a' b' r q : Int) (n : Nat) (k : Ex → St → Option (Ex × St)) : evLoop Γ5 Try.prog L0 (cutS keep33) body33 (n + 1) (S33 a b a' b' r q) k =
    bif decide (q > 0) then
      bif inW a' b' && decide (0 ≤ a') && inU (orU r q) then
        bif decide (orU r q * orU r q ≤ wv a' b') then evLoop Γ5 Try.prog L0 (cutS keep33) body33 n (S33 a b a' b' (orU r q) (q.fdiv (2 ^ 1))) k
        else evLoop Γ5 Try.prog L0 (cutS keep33) body33 n (S33 a b a' b' r (q.fdiv (2 ^ 1))) k
      else none
    else k (.exit 0) (S33x a b a' b' r q) := by kernel_rfl

/-- The root, bit by bit. -/
def sqr (n : Int) : Nat → Int → Int
  | 0, r => r
  | k + 1, r => sqr n k (bif decide ((r + 2 ^ k) * (r + 2 ^ k) ≤ n) then r + 2 ^ k else r)

theorem orU_add (r : Int) (k : Nat) (h0 : 0 ≤ r) (h1 : r % 2 ^ (k + 1) = 0) (h2 : r + 2 ^ (k + 1) ≤ 18446744073709551616) : orU r (2 ^ k) = r + 2 ^ k ∧ inU (r + 2 ^ k) = true := by
  have hp : (0 : Int) < 2 ^ k := Int.pow_pos (by decide)
  have hs : (2 : Int) ^ (k + 1) = 2 ^ k * 2 := Int.pow_succ 2 k
  have hb : inU (r + 2 ^ k) = true := by rw [inU_iff]; omega
  refine ⟨?_, hb⟩
  rw [inU_iff] at hb
  obtain ⟨m, rfl⟩ := Int.eq_ofNat_of_zero_le h0
  unfold orU
  have e1 : ((2 : Int) ^ k) = ((2 ^ k : Nat) : Int) := by simp
  have e2 : ((2 : Int) ^ (k + 1)) = ((2 ^ (k + 1) : Nat) : Int) := by simp
  rw [e1, BitVec.ofInt_natCast, BitVec.ofInt_natCast, BitVec.toNat_or, BitVec.toNat_ofNat, BitVec.toNat_ofNat]
  rw [e2] at h1 h2
  have hm : m % 2 ^ (k + 1) = 0 := by
    have : ((m % 2 ^ (k + 1) : Nat) : Int) = 0 := by rw [Int.natCast_emod]; exact h1
    exact_mod_cast this
  have hk : 2 ^ k < 2 ^ (k + 1) := Nat.pow_lt_pow_right (by decide) (by omega)
  have l1 : m < 2 ^ 64 := by
    have : (m : Int) < 18446744073709551616 := by omega
    omega
  have l2 : 2 ^ k < 2 ^ 64 := by omega
  rw [Nat.mod_eq_of_lt l1, Nat.mod_eq_of_lt l2]
  have hor : m ||| 2 ^ k = m + 2 ^ k := by
    have hd : m = 2 ^ (k + 1) * (m / 2 ^ (k + 1)) := by
      have := Nat.div_add_mod m (2 ^ (k + 1)); omega
    rw [hd, ← Nat.two_pow_add_eq_or_of_lt hk]
  rw [hor, wrapU]
  rw [e1] at hb
  push_cast at hb ⊢
  omega

theorem loop33 (a b a' b' : Int) (g1 : inW a' b' = true) (g2 : 0 ≤ a') (K : Ex → St → Option (Ex × St)) : ∀ (k : Nat) (r : Int), 0 ≤ r → r % 2 ^ (k + 1) = 0 → r + 2 ^ (k + 1) ≤ 18446744073709551616 →
    evLoop Γ5 Try.prog L0 (cutS keep33) body33 (k + 2) (S33 a b a' b' r (2 ^ k)) K = K (.exit 0) (S33x a b a' b' (sqr (wv a' b') (k + 1) r) 0) := by
  intro k
  induction k with
  | zero =>
    intro r h0 h1 h2
    obtain ⟨e1, e2⟩ := orU_add r 0 h0 h1 h2
    rw [step33, e1, g1, e2]
    have h3 : ((2 : Int) ^ 0).fdiv (2 ^ 1) = 0 := by decide
    rw [h3]
    simp only [g2, decide_true, Bool.and_self, cond_true, Int.pow_zero, show ((1 : Int) > 0) from by decide]
    have : ∀ r', evLoop Γ5 Try.prog L0 (cutS keep33) body33 1 (S33 a b a' b' r' 0) K = K (.exit 0) (S33x a b a' b' r' 0) := fun r' => by rw [step33]; rfl
    rw [this, this]
    simp only [sqr, Int.pow_zero]
    cases decide ((r + 1) * (r + 1) ≤ wv a' b') <;> rfl
  | succ k ih =>
    intro r h0 h1 h2
    obtain ⟨e1, e2⟩ := orU_add r (k + 1) h0 h1 h2
    rw [step33, e1, g1, e2]
    have hp : (0 : Int) < 2 ^ k := Int.pow_pos (by decide)
    have hs : (2 : Int) ^ (k + 1) = 2 ^ k * 2 := Int.pow_succ 2 k
    have hs2 : (2 : Int) ^ (k + 1 + 1) = 2 ^ (k + 1) * 2 := Int.pow_succ 2 (k + 1)
    have h3 : ((2 : Int) ^ (k + 1)).fdiv (2 ^ 1) = 2 ^ k := by
      rw [Int.fdiv_eq_ediv_of_nonneg _ (by decide), hs]
      exact Int.mul_ediv_cancel _ (by decide)
    rw [h3]
    have hgt : (2 : Int) ^ (k + 1) > 0 := by omega
    simp only [g2, hgt, decide_true, Bool.and_self, cond_true]
    have dv : (2 : Int) ^ (k + 1) ∣ r := Int.dvd_trans ⟨2, hs2⟩ (Int.dvd_of_emod_eq_zero h1)
    rw [ih r h0 (Int.emod_eq_zero_of_dvd dv) (by omega), ih (r + 2 ^ (k + 1)) (by omega) (Int.emod_eq_zero_of_dvd (Int.dvd_add dv (Int.dvd_refl _))) (by omega)]
    show _ = K (.exit 0) (S33x a b a' b' (sqr (wv a' b') (k + 1) (bif decide ((r + 2 ^ (k + 1)) * (r + 2 ^ (k + 1)) ≤ wv a' b') then r + 2 ^ (k + 1) else r)) 0)
    cases decide ((r + 2 ^ (k + 1)) * (r + 2 ^ (k + 1)) ≤ wv a' b') <;> rfl

/-- The root's bounds. -/
theorem sqr_spec (n : Int) : ∀ (k : Nat) (r : Int), 0 ≤ r → r * r ≤ n → n < (r + 2 ^ k) * (r + 2 ^ k) → (r ≤ sqr n k r ∧ sqr n k r < r + 2 ^ k) ∧ sqr n k r * sqr n k r ≤ n ∧ n < (sqr n k r + 1) * (sqr n k r + 1)
  | 0, r, h0, h1, h2 => by
    simp only [sqr, Int.pow_zero] at *
    exact ⟨⟨by omega, by omega⟩, h1, h2⟩
  | k + 1, r, h0, h1, h2 => by
    have hp : (0 : Int) < 2 ^ k := Int.pow_pos (by decide)
    have hs : (2 : Int) ^ (k + 1) = 2 ^ k * 2 := Int.pow_succ 2 k
    simp only [sqr]
    by_cases hc : (r + 2 ^ k) * (r + 2 ^ k) ≤ n
    · simp only [hc, decide_true, cond_true]
      have := sqr_spec n k (r + 2 ^ k) (by omega) hc (by rw [show r + 2 ^ k + 2 ^ k = r + 2 ^ (k + 1) by omega]; exact h2)
      exact ⟨⟨by omega, by omega⟩, this.2⟩
    · simp only [hc, decide_false, cond_false]
      have := sqr_spec n k r h0 h1 (by omega)
      exact ⟨⟨by omega, by omega⟩, this.2⟩

def F33 (st : St) : Option (Bool × Ex × St) :=
  match cutL st.tmps.get keep33 0, st.mem with
  | [.v (.agg ⟨[.int .i64 a, .int .u64 b]⟩), .ptr 0 0, .v (.int .u64 z), .v (.bool false), .v (.int .u64 r), .v (.int .u64 q), .poison, .poison, .poison, .poison, .poison, .poison, .poison, .poison, .poison, .poison, .poison, .poison, .poison, .poison, .poison], ⟨[[.v (.int .i64 a'), .v (.int .u64 b')]], [true]⟩ =>
    some (inW a' b' && decide (0 ≤ a') && (z == 0 && (r == 0 && q == 9223372036854775808)), .exit 0, S33x a b a' b' (sqr (wv a' b') 64 0) 0)
  | _, _ => none
def Λ33 : LoopOrc := fun _ st => F33 st

theorem loopOk33 (w0 : World) : LoopOk Λ33 Try.prog w0 body33 := by
  refine loop_ok (Λ := L0) (keep := keep33) Ok5 mixed (fun b hb => by rw [loops33'] at hb; cases hb) (F := F33) (fun _ => rfl) ?_
  intro st e st' h
  unfold F33 at h
  split at h
  · rename_i a b z r q a' b' hc hm
    injection h with h
    injection h with h1 h
    injection h with h2 h3
    subst h2 h3
    simp only [Bool.and_eq_true, decide_eq_true_eq, beq_iff_eq] at h1
    obtain ⟨⟨g1, g2⟩, rfl, rfl, rfl⟩ := h1
    refine ⟨65, ?_⟩
    have hs : cutS keep33 st = S33 a b a' b' 0 (2 ^ 63) := by
      unfold cutS
      rw [hc, hm]
      rfl
    rw [hs]
    exact loop33 a b a' b' g1 g2 _ 63 0 (by decide) (by decide) (by decide)
  · cases h

theorem run33 (a b : Int) : run Γ5 Λ33 Try.prog Try.f33 [W a b] =
    bif decide (a < 0) then some (.tuple #[.int .u64 0, .bool false])
    else bif inW a b && decide (0 ≤ a) && ((0 : Int) == 0 && ((0 : Int) == 0 && (9223372036854775808 : Int) == 9223372036854775808)) then some (.tuple #[.int .u64 (sqr (wv a b) 64 0), .bool true]) else none := by kernel_rfl

def rtW (n : Int) : Int := bif decide (n < 0) then 0 else sqr n 64 0
theorem call33 (a b : Int) (h : inW a b = true) : CallOk Try.prog 33 [W a b] (.tuple #[.int .u64 (rtW (wv a b)), .bool (decide (0 ≤ wv a b))]) := by
  refine callOk_of_run Ok5 mixed names (Λ := Λ33) Try.func33 rfl (fun w b hb => ?_) ?_
  · have hb' : b ∈ loopsOf (Try.f33.body.getD .skip) := hb
    rw [loops33] at hb'
    rw [List.mem_singleton] at hb'
    subst hb'
    exact loopOk33 w
  · rw [run33]
    have h' := h
    rw [inW_iff] at h'
    by_cases ha : a < 0
    · have e1 : wv a b < 0 := by unfold wv; omega
      have e2 : ¬ 0 ≤ wv a b := by omega
      simp [ha, rtW, e1, e2]
    · have e1 : ¬ wv a b < 0 := by unfold wv; omega
      have e2 : 0 ≤ wv a b := by omega
      have e3 : 0 ≤ a := by omega
      simp [ha, rtW, e1, e2, e3, h]

theorem rt_spec (n : Int) (h0 : 0 ≤ n) (h1 : n < 170141183460469231731687303715884105728) : 0 ≤ rtW n ∧ rtW n < 18446744073709551616 ∧ rtW n * rtW n ≤ n ∧ n < (rtW n + 1) * (rtW n + 1) := by
  have e : rtW n = sqr n 64 0 := by
    have : ¬ n < 0 := by omega
    simp [rtW, this]
  rw [e]
  have := sqr_spec n 64 0 (by decide) (by simpa using h0) (by
    have : ((0 : Int) + 2 ^ 64) * (0 + 2 ^ 64) = 340282366920938463463374607431768211456 := by decide
    rw [this]; omega)
  have e2 : (0 : Int) + 2 ^ 64 = 18446744073709551616 := by decide
  rw [e2] at this
  exact ⟨this.1.1, this.1.2, this.2⟩

def t6 : FuncId → List Value → Option (Bool × Value)
  | 33, [.agg ⟨[.int .i64 a, .int .u64 b]⟩] => some (inW a b, .tuple #[.int .u64 (rtW (wv a b)), .bool (decide (0 ≤ wv a b))])
  | _, _ => none
noncomputable def Γ6 := add t6 Γ5
theorem Ok6 : Γ6.Ok Try.prog := add_ok Ok5 (fun f vs r h => by
  unfold t6 at h
  split at h
  · injection h with h; injection h with h1 h2; subst h2; exact call33 _ _ h1
  · cases h)
end Go.Proofs.Ytanjomncnbmgkaa

