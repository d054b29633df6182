/-
  The laws WideSmall, WideGroup, WideOrder over numbers.
-/
import Derived.Test.YtanjomncnbmgkaaWc
import Derived.ProofKit
namespace Go.Proofs.Ytanjomncnbmgkaa
open Go Go.Proofs Go.Sx

theorem run9 (a b : Int) : run Γ4 L0 Try.prog Try.f9 [.int .i32 a, .int .i32 b] =
    bif inI (IntKind.wrap IntKind.i64 a) then
     bif inI (IntKind.wrap IntKind.i64 b) then
      bif inW (hiW (IntKind.wrap IntKind.i64 a)) (loW (IntKind.wrap IntKind.i64 a)) &&
      inW (hiW (IntKind.wrap IntKind.i64 b)) (loW (IntKind.wrap IntKind.i64 b)) then
       bif inI (IntKind.wrap IntKind.i64 a) then
        bif inI (IntKind.wrap IntKind.i64 b) then
         bif inW (hiW (IntKind.wrap IntKind.i64 a)) (loW (IntKind.wrap IntKind.i64 a)) &&
      inW (hiW (IntKind.wrap IntKind.i64 b)) (loW (IntKind.wrap IntKind.i64 b)) then
          bif inW
      (hiW
        (wv (hiW (IntKind.wrap IntKind.i64 a)) (loW (IntKind.wrap IntKind.i64 a)) +
          wv (hiW (IntKind.wrap IntKind.i64 b)) (loW (IntKind.wrap IntKind.i64 b))))
      (loW
        (wv (hiW (IntKind.wrap IntKind.i64 a)) (loW (IntKind.wrap IntKind.i64 a)) +
          wv (hiW (IntKind.wrap IntKind.i64 b)) (loW (IntKind.wrap IntKind.i64 b)))) then
           bif inW
      (hiW
        (wv (hiW (IntKind.wrap IntKind.i64 a)) (loW (IntKind.wrap IntKind.i64 a)) -
          wv (hiW (IntKind.wrap IntKind.i64 b)) (loW (IntKind.wrap IntKind.i64 b))))
      (loW
        (wv (hiW (IntKind.wrap IntKind.i64 a)) (loW (IntKind.wrap IntKind.i64 a)) -
          wv (hiW (IntKind.wrap IntKind.i64 b)) (loW (IntKind.wrap IntKind.i64 b)))) then
            bif inI (IntKind.wrap IntKind.i64 a) && inI (IntKind.wrap IntKind.i64 b) then
             bif inW (hiW (IntKind.wrap IntKind.i64 a * IntKind.wrap IntKind.i64 b))
      (loW (IntKind.wrap IntKind.i64 a * IntKind.wrap IntKind.i64 b)) then
              bif inI
      (wv
        (hiW
          (wv (hiW (IntKind.wrap IntKind.i64 a)) (loW (IntKind.wrap IntKind.i64 a)) +
            wv (hiW (IntKind.wrap IntKind.i64 b)) (loW (IntKind.wrap IntKind.i64 b))))
        (loW
          (wv (hiW (IntKind.wrap IntKind.i64 a)) (loW (IntKind.wrap IntKind.i64 a)) +
            wv (hiW (IntKind.wrap IntKind.i64 b)) (loW (IntKind.wrap IntKind.i64 b))))) then
               bif inI
      (wv
        (hiW
          (wv (hiW (IntKind.wrap IntKind.i64 a)) (loW (IntKind.wrap IntKind.i64 a)) -
            wv (hiW (IntKind.wrap IntKind.i64 b)) (loW (IntKind.wrap IntKind.i64 b))))
        (loW
          (wv (hiW (IntKind.wrap IntKind.i64 a)) (loW (IntKind.wrap IntKind.i64 a)) -
            wv (hiW (IntKind.wrap IntKind.i64 b)) (loW (IntKind.wrap IntKind.i64 b))))) then
                bif inI
      (wv (hiW (IntKind.wrap IntKind.i64 a * IntKind.wrap IntKind.i64 b))
        (loW (IntKind.wrap IntKind.i64 a * IntKind.wrap IntKind.i64 b))) then
                 bif smI
        (wv
          (hiW
            (wv (hiW (IntKind.wrap IntKind.i64 a)) (loW (IntKind.wrap IntKind.i64 a)) +
              wv (hiW (IntKind.wrap IntKind.i64 b)) (loW (IntKind.wrap IntKind.i64 b))))
          (loW
            (wv (hiW (IntKind.wrap IntKind.i64 a)) (loW (IntKind.wrap IntKind.i64 a)) +
              wv (hiW (IntKind.wrap IntKind.i64 b)) (loW (IntKind.wrap IntKind.i64 b))))) ==
      IntKind.wrap IntKind.i64 (IntKind.wrap IntKind.i64 a + IntKind.wrap IntKind.i64 b) then
                  bif smI
        (wv
          (hiW
            (wv (hiW (IntKind.wrap IntKind.i64 a)) (loW (IntKind.wrap IntKind.i64 a)) -
              wv (hiW (IntKind.wrap IntKind.i64 b)) (loW (IntKind.wrap IntKind.i64 b))))
          (loW
            (wv (hiW (IntKind.wrap IntKind.i64 a)) (loW (IntKind.wrap IntKind.i64 a)) -
              wv (hiW (IntKind.wrap IntKind.i64 b)) (loW (IntKind.wrap IntKind.i64 b))))) ==
      IntKind.wrap IntKind.i64 (IntKind.wrap IntKind.i64 a - IntKind.wrap IntKind.i64 b) then
                   some (.bool (smI
        (wv (hiW (IntKind.wrap IntKind.i64 a * IntKind.wrap IntKind.i64 b))
          (loW (IntKind.wrap IntKind.i64 a * IntKind.wrap IntKind.i64 b))) ==
      IntKind.wrap IntKind.i64 (IntKind.wrap IntKind.i64 a * IntKind.wrap IntKind.i64 b)))
                  else
                   some (.bool (false))
                 else
                  some (.bool (false))
                else
                 some (.bool (false))
               else
                some (.bool (false))
              else
               some (.bool (false))
             else
              none
            else
             none
           else
            none
          else
           none
         else
          none
        else
         none
       else
        none
      else
       none
     else
      none
    else
     none := by kernel_rfl

theorem run7 (a b c d e f : Int) : run Γ4 L0 Try.prog Try.f7 [W a b, W c d, W e f] =
    bif inW a b && inW c d then
     bif inW c d && inW a b then
      bif !(hiW (wv a b + wv c d) == hiW (wv c d + wv a b) && (loW (wv a b + wv c d) == loW (wv c d + wv a b) && true)) then
       some (.bool (false))
      else
       bif !okW (wv a b + wv c d) == okW (wv c d + wv a b) then
        some (.bool (false))
       else
        bif okW (wv a b + wv c d) then
         bif inW (hiW (wv a b + wv c d)) (loW (wv a b + wv c d)) && inW c d then
          bif !okW (wv (hiW (wv a b + wv c d)) (loW (wv a b + wv c d)) - wv c d) then
           some (.bool (false))
          else
           bif !(hiW (wv (hiW (wv a b + wv c d)) (loW (wv a b + wv c d)) - wv c d) == a &&
        (loW (wv (hiW (wv a b + wv c d)) (loW (wv a b + wv c d)) - wv c d) == b && true)) then
            some (.bool (false))
           else
            bif inW (hiW (wv a b + wv c d)) (loW (wv a b + wv c d)) && inW e f then
             bif inW c d && inW e f then
              bif inW a b && inW (hiW (wv c d + wv e f)) (loW (wv c d + wv e f)) then
               bif okW (wv a b + wv c d) then
                bif okW (wv (hiW (wv a b + wv c d)) (loW (wv a b + wv c d)) + wv e f) then
                 bif okW (wv c d + wv e f) then
                  bif !okW (wv a b + wv (hiW (wv c d + wv e f)) (loW (wv c d + wv e f))) then
                   some (.bool (true))
                  else
                   some (.bool (hiW (wv (hiW (wv a b + wv c d)) (loW (wv a b + wv c d)) + wv e f) ==
        hiW (wv a b + wv (hiW (wv c d + wv e f)) (loW (wv c d + wv e f))) &&
      (loW (wv (hiW (wv a b + wv c d)) (loW (wv a b + wv c d)) + wv e f) ==
          loW (wv a b + wv (hiW (wv c d + wv e f)) (loW (wv c d + wv e f))) &&
        true)))
                 else
                  some (.bool (true))
                else
                 some (.bool (true))
               else
                some (.bool (true))
              else
               none
             else
              none
            else
             none
         else
          none
        else
         bif inW (hiW (wv a b + wv c d)) (loW (wv a b + wv c d)) && inW e f then
          bif inW c d && inW e f then
           bif inW a b && inW (hiW (wv c d + wv e f)) (loW (wv c d + wv e f)) then
            bif okW (wv a b + wv c d) then
             bif okW (wv (hiW (wv a b + wv c d)) (loW (wv a b + wv c d)) + wv e f) then
              bif okW (wv c d + wv e f) then
               bif !okW (wv a b + wv (hiW (wv c d + wv e f)) (loW (wv c d + wv e f))) then
                some (.bool (true))
               else
                some (.bool (hiW (wv (hiW (wv a b + wv c d)) (loW (wv a b + wv c d)) + wv e f) ==
        hiW (wv a b + wv (hiW (wv c d + wv e f)) (loW (wv c d + wv e f))) &&
      (loW (wv (hiW (wv a b + wv c d)) (loW (wv a b + wv c d)) + wv e f) ==
          loW (wv a b + wv (hiW (wv c d + wv e f)) (loW (wv c d + wv e f))) &&
        true)))
              else
               some (.bool (true))
             else
              some (.bool (true))
            else
             some (.bool (true))
           else
            none
          else
           none
         else
          none
     else
      none
    else
     none := by kernel_rfl

theorem run8 (a b c d e f : Int) : run Γ4 L0 Try.prog Try.f8 [W a b, W c d, W e f] =
    bif inW a b && inW c d then
     bif inW c d && inW a b then
      bif cmpI (wv a b) (wv c d) != IntKind.wrap IntKind.i64 (OfNat.ofNat 0 - cmpI (wv c d) (wv a b)) then
       some (.bool (false))
      else
       bif inW a b && inW c d then
        bif !(cmpI (wv a b) (wv c d) == OfNat.ofNat 0) == (a == c && (b == d && true)) then
         some (.bool (false))
        else
         bif inW a b && inW c d then
          bif decide (cmpI (wv a b) (wv c d) < OfNat.ofNat 0) then
           bif inW c d && inW e f then
            bif decide (cmpI (wv c d) (wv e f) < OfNat.ofNat 0) then
             bif inW a b && inW e f then
              bif decide (cmpI (wv a b) (wv e f) ≥ OfNat.ofNat 0) then
               some (.bool (false))
              else
               bif inW a b && inW e f then
                bif inW c d && inW e f then
                 bif !okW (wv a b + wv e f) then
                  some (.bool (true))
                 else
                  bif !okW (wv c d + wv e f) then
                   some (.bool (true))
                  else
                   bif inW (hiW (wv a b + wv e f)) (loW (wv a b + wv e f)) &&
      inW (hiW (wv c d + wv e f)) (loW (wv c d + wv e f)) then
                    bif inW a b && inW c d then
                     some (.bool (cmpI (wv (hiW (wv a b + wv e f)) (loW (wv a b + wv e f)))
        (wv (hiW (wv c d + wv e f)) (loW (wv c d + wv e f))) ==
      cmpI (wv a b) (wv c d)))
                    else
                     none
                   else
                    none
                else
                 none
               else
                none
             else
              none
            else
             bif inW a b && inW e f then
              bif inW c d && inW e f then
               bif !okW (wv a b + wv e f) then
                some (.bool (true))
               else
                bif !okW (wv c d + wv e f) then
                 some (.bool (true))
                else
                 bif inW (hiW (wv a b + wv e f)) (loW (wv a b + wv e f)) &&
      inW (hiW (wv c d + wv e f)) (loW (wv c d + wv e f)) then
                  bif inW a b && inW c d then
                   some (.bool (cmpI (wv (hiW (wv a b + wv e f)) (loW (wv a b + wv e f)))
        (wv (hiW (wv c d + wv e f)) (loW (wv c d + wv e f))) ==
      cmpI (wv a b) (wv c d)))
                  else
                   none
                 else
                  none
              else
               none
             else
              none
           else
            none
          else
           bif inW a b && inW e f then
            bif inW c d && inW e f then
             bif !okW (wv a b + wv e f) then
              some (.bool (true))
             else
              bif !okW (wv c d + wv e f) then
               some (.bool (true))
              else
               bif inW (hiW (wv a b + wv e f)) (loW (wv a b + wv e f)) &&
      inW (hiW (wv c d + wv e f)) (loW (wv c d + wv e f)) then
                bif inW a b && inW c d then
                 some (.bool (cmpI (wv (hiW (wv a b + wv e f)) (loW (wv a b + wv e f)))
        (wv (hiW (wv c d + wv e f)) (loW (wv c d + wv e f))) ==
      cmpI (wv a b) (wv c d)))
                else
                 none
               else
                none
            else
             none
           else
            none
         else
          none
       else
        none
     else
      none
    else
     none := by kernel_rfl
end Go.Proofs.Ytanjomncnbmgkaa

namespace Go.Proofs.Ytanjomncnbmgkaa
open Go Go.Proofs Go.Sx

theorem inW_r (n : Int) : inW (hiW n) (loW n) = true := by
  rw [inW_iff]
  cases h : okW n
  · simp [hiW, loW, h]
  · have h' := h
    simp [okW] at h'
    simp only [hiW, loW, h, cond_true]
    omega

theorem wv_r (n : Int) : wv (hiW n) (loW n) = bif okW n then n else 0 := by
  unfold wv
  cases h : okW n
  · simp [hiW, loW, h]
  · simp only [hiW, loW, h, cond_true]
    omega

theorem norm (a b : Int) (h : inW a b = true) : ∃ A, okW A = true ∧ a = hiW A ∧ b = loW A := by
  rw [inW_iff] at h
  obtain ⟨k1, k2, k3⟩ := okW_of (n := wv a b) (by unfold wv; omega) (by unfold wv; omega)
  exact ⟨wv a b, k1, by rw [k2]; unfold wv; omega, by rw [k3]; unfold wv; omega⟩

theorem eqW (m n : Int) : (hiW m == hiW n && (loW m == loW n && true)) = ((bif okW m then m else 0) == (bif okW n then n else 0)) := by
  have hm := wv_r m
  have hn := wv_r n
  rw [Bool.eq_iff_iff]
  simp only [Bool.and_eq_true, beq_iff_eq, and_true]
  constructor
  · rintro ⟨h1, h2⟩
    rw [← hm, ← hn, h1, h2]
  · intro h
    have i1 := inW_iff.1 (inW_r m)
    have i2 := inW_iff.1 (inW_r n)
    rw [← hm, ← hn] at h
    unfold wv at h
    omega

theorem wideGroup (a b c d e f : Int) (h1 : inW a b = true) (h2 : inW c d = true) (h3 : inW e f = true) : run Γ4 L0 Try.prog Try.f7 [W a b, W c d, W e f] = some (.bool true) := by
  obtain ⟨A, hA, rfl, rfl⟩ := norm a b h1
  obtain ⟨B, hB, rfl, rfl⟩ := norm c d h2
  obtain ⟨C, hC, rfl, rfl⟩ := norm e f h3
  rw [run7]
  have hba : B + A = A + B := Int.add_comm _ _
  simp only [inW_r, wv_r, hA, hB, hC, cond_true, Bool.and_self, eqW, hba, BEq.rfl, Bool.not_true, cond_false]
  have hs : A + B - B = A := by omega
  have hc : A + B + C = A + (B + C) := Int.add_assoc _ _ _
  cases h4 : okW (A + B)
  · simp
  · simp only [cond_true, hs, hA, Bool.not_true, cond_false, BEq.rfl]
    cases h5 : okW (A + B + C)
    · simp
    · cases h6 : okW (B + C)
      · simp
      · simp only [cond_true]
        rw [← hc, h5]
        simp

theorem cmpI_neg (m n : Int) : IntKind.wrap IntKind.i64 (0 - cmpI n m) = cmpI m n := by
  unfold cmpI
  by_cases h1 : n < m
  · have : ¬ m < n := by omega
    simp [h1, this]; decide
  · by_cases h2 : m < n
    · simp [h1, h2]; decide
    · simp [h1, h2]; decide

theorem cmpI_zero (m n : Int) : (cmpI m n == 0) = (m == n) := by
  unfold cmpI
  by_cases h1 : m < n
  · have : ¬ m = n := by omega
    simp [h1, this]
  · by_cases h2 : n < m
    · have : ¬ m = n := by omega
      simp [h1, h2, this]
    · have : m = n := by omega
      simp [this]

theorem cmpI_lt (m n : Int) : decide (cmpI m n < 0) = decide (m < n) := by
  unfold cmpI
  by_cases h1 : m < n
  · simp [h1]
  · by_cases h2 : n < m <;> simp [h1, h2]

theorem cmpI_ge (m n : Int) : decide (cmpI m n ≥ 0) = decide (n ≤ m) := by
  unfold cmpI
  by_cases h1 : m < n
  · simp [h1] <;> omega
  · by_cases h2 : n < m
    · simp [h1, h2]; omega
    · simp [h1, h2]; omega

theorem cmpI_add (m n k : Int) : cmpI (m + k) (n + k) = cmpI m n := by
  unfold cmpI
  simp [Int.add_lt_add_iff_right]

theorem wideOrder (a b c d e f : Int) (h1 : inW a b = true) (h2 : inW c d = true) (h3 : inW e f = true) : run Γ4 L0 Try.prog Try.f8 [W a b, W c d, W e f] = some (.bool true) := by
  obtain ⟨A, hA, rfl, rfl⟩ := norm a b h1
  obtain ⟨B, hB, rfl, rfl⟩ := norm c d h2
  obtain ⟨C, hC, rfl, rfl⟩ := norm e f h3
  rw [run8]
  simp only [inW_r, wv_r, hA, hB, hC, cond_true, Bool.and_self, eqW, cmpI_neg, cmpI_zero, cmpI_lt, cmpI_ge, bne_self_eq_false, cond_false, BEq.rfl, Bool.not_true]
  have fin : (bif !okW (A + C) then some (Value.bool true) else bif !okW (B + C) then some (Value.bool true) else
      some (Value.bool (cmpI (bif okW (A + C) then A + C else 0) (bif okW (B + C) then B + C else 0) == cmpI A B))) = some (Value.bool true) := by
    cases h4 : okW (A + C)
    · rfl
    · cases h5 : okW (B + C)
      · rfl
      · simp [cmpI_add]
  rw [fin]
  by_cases p : A < B
  · by_cases q : B < C
    · have : ¬ C ≤ A := by omega
      simp [p, q, this]
    · simp [p, q]
  · simp [p]

theorem i64_wf {a : Int} (h : (Lit.int .i64 a).wf = true) : inI a = true := by
  have e63 : (2 : Int) ^ 63 = 9223372036854775808 := by decide
  rw [inI_iff]
  simp [Lit.wf, IntKind.min, IntKind.max, IntKind.signed, IntKind.bits, e63] at h
  omega
theorem u64_wf {a : Int} (h : (Lit.int .u64 a).wf = true) : inU a = true := by
  have e64 : (2 : Int) ^ 64 = 18446744073709551616 := by decide
  rw [inU_iff]
  simp [Lit.wf, IntKind.min, IntKind.max, IntKind.signed, IntKind.bits, e64] at h
  omega
theorem i32_wf {a : Int} (h : (Lit.int .i32 a).wf = true) : -2147483648 ≤ a ∧ a < 2147483648 := by
  have e31 : (2 : Int) ^ 31 = 2147483648 := by decide
  simp [Lit.wf, IntKind.min, IntKind.max, IntKind.signed, IntKind.bits, e31] at h
  omega
theorem inW_wf {a b : Int} (h : (Lit.int .i64 a).wf = true) (h' : (Lit.int .u64 b).wf = true) : inW a b = true := by
  unfold inW
  rw [i64_wf h, u64_wf h']; rfl

theorem wideSmall (a b : Int) (h1 : -2147483648 ≤ a ∧ a < 2147483648) (h2 : -2147483648 ≤ b ∧ b < 2147483648) : run Γ4 L0 Try.prog Try.f9 [.int .i32 a, .int .i32 b] = some (.bool true) := by
  have wI : ∀ z : Int, -9223372036854775808 ≤ z → z < 9223372036854775808 → IntKind.wrap IntKind.i64 z = z := by
    intro z k1 k2
    rw [wrapI]; split <;> omega
  have hab : -4611686018427387904 ≤ a * b ∧ a * b ≤ 4611686018427387904 := by
    have m1 : (a.natAbs : Int) * b.natAbs ≤ 2147483648 * 2147483648 := Int.mul_le_mul (by omega) (by omega) (by omega) (by omega)
    rw [← Int.natCast_mul, ← Int.natAbs_mul] at m1
    omega
  have iI : ∀ z : Int, -9223372036854775808 ≤ z → z < 9223372036854775808 → inI z = true := fun z k1 k2 => inI_iff.2 ⟨k1, k2⟩
  have oW : ∀ z : Int, -9223372036854775808 ≤ z → z < 9223372036854775808 → okW z = true := fun z k1 k2 => (okW_of (by omega) (by omega)).1
  rw [run9]
  rw [wI a (by omega) (by omega), wI b (by omega) (by omega)]
  simp only [inW_r, wv_r, iI a (by omega) (by omega), iI b (by omega) (by omega), oW a (by omega) (by omega), oW b (by omega) (by omega), cond_true, Bool.and_self,
    oW (a + b) (by omega) (by omega), oW (a - b) (by omega) (by omega), oW (a * b) (by omega) (by omega), iI (a + b) (by omega) (by omega), iI (a - b) (by omega) (by omega), iI (a * b) (by omega) (by omega),
    wI (a + b) (by omega) (by omega), wI (a - b) (by omega) (by omega), wI (a * b) (by omega) (by omega), smI, BEq.rfl]
end Go.Proofs.Ytanjomncnbmgkaa

