/-
  Contracts: math/bits.Len64 and LeadingZeros64.
-/
import Derived.Test.YtanjomncnbmgkaaYf
import Derived.Laws.MathBits
namespace Go.Proofs.Ytanjomncnbmgkaa
open Go Go.Proofs Go.Sx

def tab8 : ByteArray := ⟨#[0, 1, 2, 2, 3, 3, 3, 3, 4, 4, 4, 4, 4, 4, 4, 4, 5, 5, 5, 5, 5, 5, 5, 5, 5, 5, 5, 5, 5, 5, 5, 5, 6, 6, 6, 6, 6, 6, 6, 6, 6, 6, 6, 6, 6, 6, 6, 6, 6, 6, 6, 6, 6, 6, 6, 6, 6, 6, 6, 6, 6, 6, 6, 6, 7, 7, 7, 7, 7, 7, 7, 7, 7, 7, 7, 7, 7, 7, 7, 7, 7, 7, 7, 7, 7, 7, 7, 7, 7, 7, 7, 7, 7, 7, 7, 7, 7, 7, 7, 7, 7, 7, 7, 7, 7, 7, 7, 7, 7, 7, 7, 7, 7, 7, 7, 7, 7, 7, 7, 7, 7, 7, 7, 7, 7, 7, 7, 7, 8, 8, 8, 8, 8, 8, 8, 8, 8, 8, 8, 8, 8, 8, 8, 8, 8, 8, 8, 8, 8, 8, 8, 8, 8, 8, 8, 8, 8, 8, 8, 8, 8, 8, 8, 8, 8, 8, 8, 8, 8, 8, 8, 8, 8, 8, 8, 8, 8, 8, 8, 8, 8, 8, 8, 8, 8, 8, 8, 8, 8, 8, 8, 8, 8, 8, 8, 8, 8, 8, 8, 8, 8, 8, 8, 8, 8, 8, 8, 8, 8, 8, 8, 8, 8, 8, 8, 8, 8, 8, 8, 8, 8, 8, 8, 8, 8, 8, 8, 8, 8, 8, 8, 8, 8, 8, 8, 8, 8, 8, 8, 8, 8, 8, 8, 8, 8, 8, 8, 8, 8, 8, 8, 8, 8, 8, 8, 8]⟩
def sh (x k : Int) : Int := Int.fdiv x (2 ^ min (Int.toNat k) (IntKind.bits IntKind.u64))
def lf71 (b v : Int) : Option Value := bif decide (0 ≤ IntKind.u8.wrap v) && decide (IntKind.u8.wrap v < (tab8.size : Int)) then some (.int .i64 (IntKind.i64.wrap (b + IntKind.i64.wrap (strAt tab8 (IntKind.u8.wrap v))))) else none
theorem run71 (x : Int) : run Γg L0 Try.prog Try.f71 [.int .u64 x] =
    bif decide (x ≥ 4294967296) then
      bif decide (sh x 32 ≥ 65536) then
        bif decide (sh (sh x 32) 16 ≥ 256) then lf71 56 (sh (sh (sh x 32) 16) 8) else lf71 48 (sh (sh x 32) 16)
      else bif decide (sh x 32 ≥ 256) then lf71 40 (sh (sh x 32) 8) else lf71 32 (sh x 32)
    else bif decide (x ≥ 65536) then bif decide (sh x 16 ≥ 256) then lf71 24 (sh (sh x 16) 8) else lf71 16 (sh x 16)
    else bif decide (x ≥ 256) then lf71 8 (sh x 8) else lf71 0 x := by kernel_rfl

theorem tab8_all : ∀ j : Fin 256, strAt tab8 (j.val : Int) = (bitLen j.val : Int) := by decide +kernel
theorem wrap8 (n : Int) : IntKind.u8.wrap n = n % 256 := (wr_eq true .u8 n).symm
set_option maxRecDepth 10000 in
theorem lf71_eq (b : Int) (n : Nat) (hn : n < 256) (h0 : 0 ≤ b) (h1 : b ≤ 56) : lf71 b n = some (.int .i64 (b + bitLen n)) := by
  have e : IntKind.u8.wrap (n : Int) = n := by rw [wrap8]; omega
  have hs : (tab8.size : Int) = 256 := by decide +kernel
  have hl := bitLen_le8 n hn
  unfold lf71
  rw [e, hs, tab8_all ⟨n, hn⟩]
  have g : (decide (0 ≤ (n : Int)) && decide ((n : Int) < 256)) = true := by simp; omega
  rw [g]
  simp only [cond_true]
  refine congrArg (fun z => some (Value.int .i64 z)) ?_
  rw [wrapI, wrapI]
  split <;> split <;> omega
theorem sh_nat (n k : Nat) (hk : k ≤ 64) : sh n k = ((n / 2 ^ k : Nat) : Int) := by
  unfold sh
  have hm : min (k : Int).toNat (IntKind.bits IntKind.u64) = k := by
    show min (k : Int).toNat 64 = k
    omega
  rw [hm, Int.fdiv_eq_ediv_of_nonneg _ (Int.pow_nonneg (by decide))]
  simp
theorem bitLen_sh (n k : Nat) (h : 2 ^ k ≤ n) : (k : Int) + bitLen (n / 2 ^ k) = bitLen n := by
  have : n / 2 ^ k ≠ 0 := by
    have := (Nat.le_div_iff_mul_le (Nat.two_pow_pos k)).2 (by simpa using h : 1 * 2 ^ k ≤ n)
    omega
  rw [bitLen_shift n k this]; omega

theorem len71 (n : Nat) (h : n < 18446744073709551616) : run Γg L0 Try.prog Try.f71 [.int .u64 (n : Int)] = some (.int .i64 (bitLen n : Int)) := by
  rw [run71]
  have s32 : ∀ m : Nat, sh m 32 = ((m / 4294967296 : Nat) : Int) := fun m => sh_nat m 32 (by decide)
  have s16 : ∀ m : Nat, sh m 16 = ((m / 65536 : Nat) : Int) := fun m => sh_nat m 16 (by decide)
  have s8 : ∀ m : Nat, sh m 8 = ((m / 256 : Nat) : Int) := fun m => sh_nat m 8 (by decide)
  have b32 : ∀ m : Nat, 4294967296 ≤ m → (32 : Int) + bitLen (m / 4294967296) = bitLen m := fun m h => bitLen_sh m 32 h
  have b16 : ∀ m : Nat, 65536 ≤ m → (16 : Int) + bitLen (m / 65536) = bitLen m := fun m h => bitLen_sh m 16 h
  have b8 : ∀ m : Nat, 256 ≤ m → (8 : Int) + bitLen (m / 256) = bitLen m := fun m h => bitLen_sh m 8 h
  rw [s32, s16, s16, s8, s8, s8, s8]
  by_cases c1 : n ≥ 4294967296
  · have d1 : decide ((n : Int) ≥ 4294967296) = true := by simp; omega
    rw [d1, cond_true, ← b32 n c1]
    have hm : n / 4294967296 < 4294967296 := by omega
    generalize n / 4294967296 = m at *
    by_cases c2 : m ≥ 65536
    · have d2 : decide ((m : Int) ≥ 65536) = true := by simp; omega
      rw [d2, cond_true, ← b16 m c2]
      have hk : m / 65536 < 65536 := by omega
      generalize m / 65536 = k at *
      by_cases c3 : k ≥ 256
      · have d3 : decide ((k : Int) ≥ 256) = true := by simp; omega
        rw [d3, cond_true, ← b8 k c3, lf71_eq _ _ (by omega) (by decide) (by decide)]
        congr 2; omega
      · have d3 : decide ((k : Int) ≥ 256) = false := by simp; omega
        rw [d3, cond_false, lf71_eq _ _ (by omega) (by decide) (by decide)]
        congr 2; omega
    · have d2 : decide ((m : Int) ≥ 65536) = false := by simp; omega
      rw [d2, cond_false]
      by_cases c3 : m ≥ 256
      · have d3 : decide ((m : Int) ≥ 256) = true := by simp; omega
        rw [d3, cond_true, ← b8 m c3, lf71_eq _ _ (by omega) (by decide) (by decide)]
        congr 2; omega
      · have d3 : decide ((m : Int) ≥ 256) = false := by simp; omega
        rw [d3, cond_false, lf71_eq _ _ (by omega) (by decide) (by decide)]
  · have d1 : decide ((n : Int) ≥ 4294967296) = false := by simp; omega
    rw [d1, cond_false]
    by_cases c2 : n ≥ 65536
    · have d2 : decide ((n : Int) ≥ 65536) = true := by simp; omega
      rw [d2, cond_true, ← b16 n c2]
      have hk : n / 65536 < 65536 := by omega
      generalize n / 65536 = k at *
      by_cases c3 : k ≥ 256
      · have d3 : decide ((k : Int) ≥ 256) = true := by simp; omega
        rw [d3, cond_true, ← b8 k c3, lf71_eq _ _ (by omega) (by decide) (by decide)]
        congr 2; omega
      · have d3 : decide ((k : Int) ≥ 256) = false := by simp; omega
        rw [d3, cond_false, lf71_eq _ _ (by omega) (by decide) (by decide)]
    · have d2 : decide ((n : Int) ≥ 65536) = false := by simp; omega
      rw [d2, cond_false]
      by_cases c3 : n ≥ 256
      · have d3 : decide ((n : Int) ≥ 256) = true := by simp; omega
        rw [d3, cond_true, ← b8 n c3, lf71_eq _ _ (by omega) (by decide) (by decide)]
      · have d3 : decide ((n : Int) ≥ 256) = false := by simp; omega
        rw [d3, cond_false, lf71_eq _ _ (by omega) (by decide) (by decide)]
        congr 2; omega

theorem call71 (x : Int) (h : inU x = true) : CallOk Try.prog 71 [.int .u64 x] (.int .i64 (bitLen x.toNat : Int)) := by
  rw [inU_iff] at h
  refine by_run Okg Try.func71 rfl (by kernel_rfl) ?_
  have := len71 x.toNat (by omega)
  rwa [Int.toNat_of_nonneg h.1] at this
def tE : FuncId → List Value → Option (Bool × Value)
  | 29, [.int .i64 a, .int .i64 b] => some (inI a && inI b, pW (a * b))
  | 71, [.int .u64 x] => some (inU x, .int .i64 (bitLen x.toNat : Int))
  | _, _ => none
theorem tE_ok (f : FuncId) (vs : List Value) (r : Value) (h : tE f vs = some (true, r)) : CallOk Try.prog f vs r := by
  unfold tE at h
  split at h
  · injection h with h; injection h with h1 h2; subst h2; simp only [Bool.and_eq_true] at h1; exact call29 _ _ h1.1 h1.2
  · injection h with h; injection h with h1 h2; subst h2; exact call71 _ h1
  · cases h
noncomputable def Γh := add tE Γg
theorem Okh : Γh.Ok Try.prog := add_ok Okg tE_ok
theorem bitLen_le64 (n : Nat) (h : n < 18446744073709551616) : bitLen n ≤ 64 := by
  unfold bitLen
  split
  · omega
  · rename_i h0
    have := (Nat.log2_lt h0).2 (show n < 2 ^ 64 from h)
    omega
theorem call70 (x : Int) (h : inU x = true) : CallOk Try.prog 70 [.int .u64 x] (.int .i64 (64 - (bitLen x.toNat : Int))) := by
  refine by_run Okh Try.func70 rfl (by kernel_rfl) ?_
  have e : run Γh L0 Try.prog Try.f70 [.int .u64 x] = bif inU x then some (.int .i64 (IntKind.i64.wrap (64 - (bitLen x.toNat : Int)))) else none := by kernel_rfl
  rw [e, h]
  simp only [cond_true]
  rw [inU_iff] at h
  have := bitLen_le64 x.toNat (by omega)
  congr 2
  rw [wrapI]
  split <;> omega
def tF : FuncId → List Value → Option (Bool × Value)
  | 70, [.int .u64 x] => some (inU x, .int .i64 (64 - (bitLen x.toNat : Int)))
  | _, _ => none
theorem tF_ok (f : FuncId) (vs : List Value) (r : Value) (h : tF f vs = some (true, r)) : CallOk Try.prog f vs r := by
  unfold tF at h
  split at h
  · injection h with h; injection h with h1 h2; subst h2; exact call70 _ h1
  · cases h
noncomputable def Γi := add tF Γh
theorem Oki : Γi.Ok Try.prog := add_ok Okh tF_ok
end Go.Proofs.Ytanjomncnbmgkaa

