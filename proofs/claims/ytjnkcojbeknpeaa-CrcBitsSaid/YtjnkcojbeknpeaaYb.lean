/-
  What fill makes of a new table, behind the lock; that sums are linear. No condition.
-/
import Derived.Test.YtjnkcojbeknpeaaYa
namespace Go.Proofs.Ytjnkcojbeknpeaa
open Go Go.Proofs Go.Sx

/-! A table's block. -/
def Blk (d st m : Int) (a b : List Int) : List Value := .int .u32 d :: .int .i32 st :: .int .u32 0 :: .int .i64 m :: (a.map (.int .u16) ++ b.map (.int .u32))
def zero : List Int := List.replicate 256 0
def tab16 : List Int := (List.range 256).map fun i => ((N16 (i * 256) : Nat) : Int)
def tab32 : List Int := (List.range 256).map fun i => ((N32 i : Nat) : Int)
def ldX (ld : FuncId) (k : IntKind) : FuncId → List Arg → Option (Bool × Res × List (List Value)) := fun f args =>
  match loadE ld k f args with
  | some (g, r) => some (g, .v r, ptrCells args)
  | none => none
theorem ldX_ok {ld : FuncId} {k : IntKind} (h : ∀ f args r, loadE ld k f args = some (true, r) → EffOk Try.prog f args (.v r) (ptrCells args)) : ∀ f args r outs, ldX ld k f args = some (true, r, outs) → EffOk Try.prog f args r outs := by
  intro f args r outs hx
  unfold ldX at hx
  split at hx
  · rename_i g r' hr
    injection hx with hx
    injection hx with e1 hx
    injection hx with e2 e3
    subst e1 e2 e3
    exact h f args r' hr
  · cases hx
def Γa : Orc := addX (ldX 32 .i64) (addX (ldX 33 .u32) Γ3)
theorem Oka : Γa.Ok Try.prog := addX_ok (addX_ok Ok3 (ldX_ok (loadE_ok Try.func33 (by kernel_rfl) (by kernel_rfl) (by kernel_rfl) (by kernel_rfl)))) (ldX_ok (loadE_ok Try.func32 (by kernel_rfl) (by kernel_rfl) (by kernel_rfl) (by kernel_rfl)))
/-- Callees carried out. -/
noncomputable def Γx (n d : Nat) : Orc := exec Try.prog Γa.call Γa.eff noEq (fun _ => false) n noOnce d
theorem Okx (n d : Nat) : (Γx n d).Ok Try.prog := exec_ok (once := noOnce) (wr := fun _ => false) mixed names ⟨Oka.call, (fun _ _ _ h => by cases h), Oka.eff, (fun _ _ _ _ _ _ h => by cases h), (fun _ _ _ _ h => by cases h)⟩ n d
/-- fill, behind the lock. -/
theorem run27 : runE (Γx 300 1) (loopX (Γx 300 1) Try.prog 300 1) Try.prog Try.f27 [.ptr (Blk 0 1 0 zero zero) 0] = some (.v (.tuple #[]), [Blk 0 1 1 tab16 tab32]) := by kernel_rfl
theorem fill_ok : EffOk Try.prog 27 [.ptr (Blk 0 1 0 zero zero) 0] (.v (.tuple #[])) [Blk 0 1 1 tab16 tab32] :=
  effOk_of_run (Okx 300 1) mixed names Try.func27 rfl (fun _ b _ => loopX_ok (Okx 300 1) mixed 300 1 b) run27
end Go.Proofs.Ytjnkcojbeknpeaa

namespace Go.Proofs.Ytjnkcojbeknpeaa
open Go Go.Proofs Go.Sx

/-! Sums are linear. -/
theorem n16_eq {a : Nat} (h : a < 65536) : n16 a = (2 * a % 65536) ^^^ (bif a.testBit 15 then 4129 else 0) := by
  have e : Nat.ble 32768 a = a.testBit 15 := by
    rw [Nat.testBit_eq_decide_div_mod_eq, show (2 : Nat) ^ 15 = 32768 from rfl]
    by_cases h1 : 32768 ≤ a
    · rw [show Nat.ble 32768 a = true from by rw [Nat.ble_eq]; exact h1, decide_eq_true (by omega)]
    · rw [show Nat.ble 32768 a = false from by rw [← Bool.not_eq_true, Nat.ble_eq]; exact h1, decide_eq_false (by omega)]
  unfold n16
  rw [e]
  cases a.testBit 15
  · simp
  · rfl
theorem n32_eq (a : Nat) : n32 a = (a / 2) ^^^ (bif a.testBit 0 then 3988292384 else 0) := by
  have e : Nat.beq (a % 2) 1 = a.testBit 0 := by
    rw [Nat.testBit_zero]
    rcases Nat.mod_two_eq_zero_or_one a with h | h <;> rw [h] <;> rfl
  unfold n32
  rw [e]
  cases a.testBit 0
  · simp
  · rfl
theorem cond_xor (p q : Bool) (c : Nat) : (bif (p ^^ q) then c else 0) = (bif p then c else 0) ^^^ (bif q then c else 0) := by
  cases p <;> cases q <;> simp
theorem xor4 (a b c d : Nat) : (a ^^^ b) ^^^ (c ^^^ d) = (a ^^^ c) ^^^ (b ^^^ d) := by
  rw [Nat.xor_assoc, ← Nat.xor_assoc b c d, Nat.xor_comm b c, Nat.xor_assoc c b d, ← Nat.xor_assoc a c]
theorem bit16 (x j : Nat) : (2 * x % 65536).testBit j = (decide (j < 16) && (decide (j ≥ 1) && x.testBit (j - 1))) := by
  rw [show 2 * x % 65536 = (2 ^ 1 * x) % 2 ^ 16 from rfl, Nat.testBit_mod_two_pow, Nat.testBit_two_pow_mul]
theorem n16_xor {a b : Nat} (ha : a < 65536) (hb : b < 65536) : n16 (a ^^^ b) = n16 a ^^^ n16 b := by
  rw [n16_eq ha, n16_eq hb, n16_eq (Nat.xor_lt_two_pow (n := 16) ha hb), xor4, Nat.testBit_xor, cond_xor]
  congr 1
  apply Nat.eq_of_testBit_eq
  intro j
  rw [Nat.testBit_xor, bit16, bit16, bit16, Nat.testBit_xor]
  cases decide (j < 16) <;> cases decide (j ≥ 1) <;> simp
theorem n32_xor (a b : Nat) : n32 (a ^^^ b) = n32 a ^^^ n32 b := by
  rw [n32_eq a, n32_eq b, n32_eq (a ^^^ b), xor4, Nat.testBit_xor, cond_xor]
  congr 1
  apply Nat.eq_of_testBit_eq
  intro j
  rw [Nat.testBit_xor, Nat.testBit_div_two, Nat.testBit_div_two, Nat.testBit_div_two, Nat.testBit_xor]
theorem it16_xor : ∀ (k : Nat) {a b : Nat}, a < 65536 → b < 65536 → it n16 k (a ^^^ b) = it n16 k a ^^^ it n16 k b
  | 0, _, _, _, _ => rfl
  | k + 1, a, b, ha, hb => by
    show it n16 k (n16 (a ^^^ b)) = it n16 k (n16 a) ^^^ it n16 k (n16 b)
    rw [n16_xor ha hb, it16_xor k (n16_lt a) (n16_lt b)]
theorem it32_xor : ∀ (k a b : Nat), it n32 k (a ^^^ b) = it n32 k a ^^^ it n32 k b
  | 0, _, _ => rfl
  | k + 1, a, b => by
    show it n32 k (n32 (a ^^^ b)) = it n32 k (n32 a) ^^^ it n32 k (n32 b)
    rw [n32_xor a b, it32_xor k]
theorem N16_xor {a b : Nat} (ha : a < 65536) (hb : b < 65536) : N16 (a ^^^ b) = N16 a ^^^ N16 b := it16_xor 8 ha hb
theorem N32_xor (a b : Nat) : N32 (a ^^^ b) = N32 a ^^^ N32 b := it32_xor 8 a b

theorem N16_low {l : Nat} (h : l < 256) : N16 l = l * 256 := by
  have : ∀ l, l < 256 → N16 l = l * 256 := of_decide_eq_true (by kernel_rfl)
  exact this l h
theorem it32_high : ∀ (j k : Nat), it n32 j (2 ^ j * k) = k
  | 0, k => by simp [it]
  | j + 1, k => by
    have e : n32 (2 ^ (j + 1) * k) = 2 ^ j * k := by
      have : 2 ^ (j + 1) * k = 2 * (2 ^ j * k) := by rw [Nat.pow_succ, Nat.mul_comm (2 ^ j) 2, Nat.mul_assoc]
      rw [this]
      unfold n32
      rw [show 2 * (2 ^ j * k) % 2 = 0 by omega]
      show 2 * (2 ^ j * k) / 2 = _
      omega
    show it n32 j (n32 (2 ^ (j + 1) * k)) = k
    rw [e, it32_high j k]
theorem N32_high (k : Nat) : N32 (256 * k) = k := it32_high 8 k
theorem split8 (n : Nat) : n = (n / 256 * 256) ^^^ (n % 256) := by
  apply Nat.eq_of_testBit_eq
  intro j
  rw [Nat.testBit_xor, show n / 256 * 256 = 2 ^ 8 * (n / 2 ^ 8) by omega, show n % 256 = n % 2 ^ 8 from rfl, Nat.testBit_two_pow_mul, Nat.testBit_mod_two_pow, Nat.testBit_div_two_pow]
  by_cases h : j < 8
  · simp [h, show ¬ 8 ≤ j by omega]
  · simp [h, show 8 ≤ j by omega, show j - 8 + 8 = j by omega]
theorem mul256_xor (a b : Nat) : (a ^^^ b) * 256 = (a * 256) ^^^ (b * 256) := by
  apply Nat.eq_of_testBit_eq
  intro j
  rw [Nat.testBit_xor, show (a ^^^ b) * 256 = 2 ^ 8 * (a ^^^ b) by omega, show a * 256 = 2 ^ 8 * a by omega, show b * 256 = 2 ^ 8 * b by omega, Nat.testBit_two_pow_mul, Nat.testBit_two_pow_mul, Nat.testBit_two_pow_mul, Nat.testBit_xor]
  cases decide (j ≥ 8) <;> simp
/-- By rows of 16 bits. -/
theorem p16_row {n : Nat} (b : UInt8) (h : n < 65536) : p16 n b = (n * 256 % 65536) ^^^ N16 (((n / 256) ^^^ b.toNat) * 256) := by
  have hb := byte_lt b
  have h1 : ((n / 256) ^^^ b.toNat) < 256 := Nat.xor_lt_two_pow (n := 8) (by show _ < 256; omega) hb
  have e : Nat.xor n (b.toNat * 256) = (((n / 256) ^^^ b.toNat) * 256) ^^^ (n % 256) := by
    show n ^^^ (b.toNat * 256) = _
    rw [mul256_xor]
    conv => lhs; rw [split8 n]
    rw [Nat.xor_assoc, Nat.xor_comm (n % 256), ← Nat.xor_assoc]
  unfold p16
  rw [e, N16_xor (by omega) (by omega), N16_low (show n % 256 < 256 by omega), Nat.xor_comm, show n * 256 % 65536 = n % 256 * 256 by omega]
/-- By rows of 32 bits. -/
theorem p32_row (n : Nat) (b : UInt8) : p32 n b = (n / 256) ^^^ N32 ((n % 256) ^^^ b.toNat) := by
  have e : Nat.xor n b.toNat = (256 * (n / 256)) ^^^ ((n % 256) ^^^ b.toNat) := by
    show n ^^^ b.toNat = _
    conv => lhs; rw [split8 n]
    rw [Nat.xor_assoc, Nat.mul_comm]
  unfold p32
  rw [e, N32_xor, N32_high]
end Go.Proofs.Ytjnkcojbeknpeaa

