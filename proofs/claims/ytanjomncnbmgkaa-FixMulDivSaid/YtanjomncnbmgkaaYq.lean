/-
  The law FixMulDiv over numbers.
-/
import Derived.Test.YtanjomncnbmgkaaYo
import Derived.Test.YtanjomncnbmgkaaYp
namespace Go.Proofs.Ytanjomncnbmgkaa
open Go Go.Proofs Go.Sx

theorem run11 (a b c m : Int) : run Γr L0 Try.prog Try.f11 [.int .i64 a, .int .i64 b, .int .i64 c, .int .i64 m] =
    bif inI a && (inI b && inI c) then
     bif inI a && (inI b && inI c) then
      bif (bif mdG c m then smI (mdN a b c m) else 0) != bif mdG c m then smI (mdN a b c m) else 0 then
       some (.bool false)
      else
       bif !(mdG c m && inI (mdN a b c m)) == (mdG c m && inI (mdN a b c m)) then
        some (.bool false)
       else
        bif inI a && (inI b && inI c) then
         bif inI a && (inI b && inI c) then
          bif inI a && (inI b && inI c) then
           bif !(mdG c 0 && inI (mdN a b c 0)) then
            some (.bool true)
           else
            bif !(mdG c 2 && inI (mdN a b c 2)) then
             some (.bool true)
            else
             bif !(mdG c 1 && inI (mdN a b c 1)) then
              some (.bool true)
             else
              bif decide ((bif mdG c 0 then smI (mdN a b c 0) else 0) ≤ bif mdG c 2 then smI (mdN a b c 2) else 0) then
               bif decide ((bif mdG c 2 then smI (mdN a b c 2) else 0) ≤ bif mdG c 1 then smI (mdN a b c 1) else 0) then
                bif decide
      (IntKind.wrap IntKind.i64
          ((bif mdG c 1 then smI (mdN a b c 1) else 0) - bif mdG c 0 then smI (mdN a b c 0) else 0) ≤
        1) then
                 bif inI (bif mdG c 0 then smI (mdN a b c 0) else 0) && inI c then
                  bif inI a && inI b then
                   bif inW (hiW ((bif mdG c 0 then smI (mdN a b c 0) else 0) * c))
        (loW ((bif mdG c 0 then smI (mdN a b c 0) else 0) * c)) &&
      inW (hiW (a * b)) (loW (a * b)) then
                    bif decide
      (cmpI
          (wv (hiW ((bif mdG c 0 then smI (mdN a b c 0) else 0) * c))
            (loW ((bif mdG c 0 then smI (mdN a b c 0) else 0) * c)))
          (wv (hiW (a * b)) (loW (a * b))) ≤
        0) then
                     bif inI (bif mdG c 1 then smI (mdN a b c 1) else 0) && inI c then
                      bif inI a && inI b then
                       bif inW (hiW ((bif mdG c 1 then smI (mdN a b c 1) else 0) * c))
        (loW ((bif mdG c 1 then smI (mdN a b c 1) else 0) * c)) &&
      inW (hiW (a * b)) (loW (a * b)) then
                        some (.bool (decide
      (cmpI
          (wv (hiW ((bif mdG c 1 then smI (mdN a b c 1) else 0) * c))
            (loW ((bif mdG c 1 then smI (mdN a b c 1) else 0) * c)))
          (wv (hiW (a * b)) (loW (a * b))) ≥
        0)))
                       else
                        none
                      else
                       none
                     else
                      none
                    else
                     some (.bool false)
                   else
                    none
                  else
                   none
                 else
                  none
                else
                 some (.bool false)
               else
                some (.bool false)
              else
               some (.bool false)
          else
           none
         else
          none
        else
         none
     else
      none
    else
     none := by kernel_rfl
end Go.Proofs.Ytanjomncnbmgkaa

namespace Go.Proofs.Ytanjomncnbmgkaa
open Go Go.Proofs Go.Sx
theorem cmpI_ge (m n : Int) : decide (cmpI m n ≥ 0) = decide (n ≤ m) := by
  unfold cmpI
  by_cases h1 : m < n
  · simp [h1]
  · by_cases h2 : n < m <;> simp [h1, h2] <;> omega
theorem fixMulDiv (a b c m : Int) (ha : inI a = true) (hb : inI b = true) (hc : inI c = true) (_ : inI m = true) : run Γr L0 Try.prog Try.f11 [.int .i64 a, .int .i64 b, .int .i64 c, .int .i64 m] = some (.bool true) := by
  rw [run11, ha, hb, hc]
  simp only [Bool.and_self, cond_true, bne_self_eq_false, cond_false, BEq.rfl, Bool.not_true]
  by_cases h0 : 0 < c
  · obtain ⟨f1, f2, f3, f4, f5⟩ := md_facts ha hb hc h0
    have g0 : mdG c 0 = true := by unfold mdG; simp [h0]
    have g1 : mdG c 1 = true := by unfold mdG; simp [h0]
    have g2 : mdG c 2 = true := by unfold mdG; simp [h0]
    have em := Int.mul_ediv_add_emod (a * b) c
    have e0 : mdN a b c 0 = a * b / c := by unfold mdN ru; simp
    have e1 : mdN a b c 1 = a * b / c + bif decide (a * b % c > 0) then 1 else 0 := by unfold mdN ru; simp
    have e2 : mdN a b c 2 = a * b / c ∨ (mdN a b c 2 = a * b / c + 1 ∧ a * b % c > 0) := by
      have : mdN a b c 2 = a * b / c + bif ru (a * b % c) c 2 (decide (a * b < 0)) then 1 else 0 := rfl
      cases hr : ru (a * b % c) c 2 (decide (a * b < 0))
      · left; rw [this, hr]; simp
      · right
        refine ⟨by rw [this, hr]; rfl, ?_⟩
        unfold ru at hr
        simp only [show ((2 : Int) == 1) = false by decide, show ((2 : Int) == 2) = true by decide, cond_false, cond_true] at hr
        by_cases h2 : 2 * (a * b % c) > c
        · omega
        · have h2' : decide (2 * (a * b % c) > c) = false := by simpa using h2
          rw [h2'] at hr
          by_cases h3 : 2 * (a * b % c) = c
          · omega
          · have h3' : (2 * (a * b % c) == c) = false := by simpa using h3
            rw [h3'] at hr
            cases hr
    rw [g0, g1, g2]
    simp only [Bool.true_and, cond_true]
    cases i0 : inI (mdN a b c 0)
    · rfl
    cases i2 : inI (mdN a b c 2)
    · rfl
    cases i1 : inI (mdN a b c 1)
    · rfl
    have s0 : smI (mdN a b c 0) = mdN a b c 0 := by unfold smI; rw [i0]; rfl
    have s1 : smI (mdN a b c 1) = mdN a b c 1 := by unfold smI; rw [i1]; rfl
    have s2 : smI (mdN a b c 2) = mdN a b c 2 := by unfold smI; rw [i2]; rfl
    rw [s0, s1, s2]
    have k0 := okW_mul i0 hc
    have k1 := okW_mul i1 hc
    have m1 : mdN a b c 1 = a * b / c ∧ a * b % c = 0 ∨ mdN a b c 1 = a * b / c + 1 ∧ a * b % c > 0 := by
      by_cases hr : a * b % c > 0
      · right; rw [e1]; simp [hr]
      · left; rw [e1]; simp [hr]; omega
    have c0 : a * b / c * c = c * (a * b / c) := Int.mul_comm _ _
    have d1 : mdN a b c 0 ≤ mdN a b c 2 := by omega
    have d2 : mdN a b c 2 ≤ mdN a b c 1 := by omega
    have d3 : IntKind.i64.wrap (mdN a b c 1 - mdN a b c 0) ≤ 1 := by
      rw [wrapS (by omega)]; omega
    have d4 : mdN a b c 0 * c ≤ a * b := by rw [e0, c0]; omega
    have d5 : a * b ≤ mdN a b c 1 * c := by
      rcases m1 with ⟨q1, q2⟩ | ⟨q1, q2⟩
      · rw [q1, c0]; omega
      · rw [q1, Int.add_mul, c0]; omega
    simp only [wv_h k0, wv_h k1, wv_h f1, i0, i1, inW_h, cmpI_le, cmpI_ge, d1, d2, d3, d4, d5, decide_true, cond_true, Bool.not_true, cond_false, Bool.and_self]
  · have g : mdG c 0 = false := by unfold mdG; simp [h0]
    rw [g]; rfl
end Go.Proofs.Ytanjomncnbmgkaa

