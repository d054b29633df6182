/-
  The law WideSqrt over numbers.
-/
import Derived.Test.YtanjomncnbmgkaaWe
namespace Go.Proofs.Ytanjomncnbmgkaa
open Go Go.Proofs Go.Sx

theorem run6 (a b : Int) : run Γ6 L0 Try.prog Try.f6 [W a b] =
    bif inW a b then
     bif !decide (0 ≤ wv a b) == decide (a ≥ 0) then
      some (.bool (false))
     else
      bif !decide (0 ≤ wv a b) then
       bif rtW (wv a b) != 0 then
        some (.bool (false))
       else
        bif !decide (0 ≤ wv a b) then
         some (.bool (true))
        else
         bif decide (rtW (wv a b) ≥ 4611686018427387904) then
          some (.bool (true))
         else
          bif inI (IntKind.wrap IntKind.i64 (rtW (wv a b))) && inI (IntKind.wrap IntKind.i64 (rtW (wv a b))) then
           bif inW (hiW (IntKind.wrap IntKind.i64 (rtW (wv a b)) * IntKind.wrap IntKind.i64 (rtW (wv a b))))
        (loW (IntKind.wrap IntKind.i64 (rtW (wv a b)) * IntKind.wrap IntKind.i64 (rtW (wv a b)))) &&
      inW a b then
            bif decide
      (cmpI
          (wv (hiW (IntKind.wrap IntKind.i64 (rtW (wv a b)) * IntKind.wrap IntKind.i64 (rtW (wv a b))))
            (loW (IntKind.wrap IntKind.i64 (rtW (wv a b)) * IntKind.wrap IntKind.i64 (rtW (wv a b)))))
          (wv a b) ≤
        0) then
             bif inI (IntKind.wrap IntKind.i64 (IntKind.wrap IntKind.i64 (rtW (wv a b)) + 1)) &&
      inI (IntKind.wrap IntKind.i64 (IntKind.wrap IntKind.i64 (rtW (wv a b)) + 1)) then
              bif inW
        (hiW
          (IntKind.wrap IntKind.i64 (IntKind.wrap IntKind.i64 (rtW (wv a b)) + 1) *
            IntKind.wrap IntKind.i64 (IntKind.wrap IntKind.i64 (rtW (wv a b)) + 1)))
        (loW
          (IntKind.wrap IntKind.i64 (IntKind.wrap IntKind.i64 (rtW (wv a b)) + 1) *
            IntKind.wrap IntKind.i64 (IntKind.wrap IntKind.i64 (rtW (wv a b)) + 1))) &&
      inW a b then
               some (.bool (decide
      (cmpI
          (wv
            (hiW
              (IntKind.wrap IntKind.i64 (IntKind.wrap IntKind.i64 (rtW (wv a b)) + 1) *
                IntKind.wrap IntKind.i64 (IntKind.wrap IntKind.i64 (rtW (wv a b)) + 1)))
            (loW
              (IntKind.wrap IntKind.i64 (IntKind.wrap IntKind.i64 (rtW (wv a b)) + 1) *
                IntKind.wrap IntKind.i64 (IntKind.wrap IntKind.i64 (rtW (wv a b)) + 1))))
          (wv a b) >
        0)))
              else
               none
             else
              none
            else
             some (.bool (false))
           else
            none
          else
           none
      else
       bif !decide (0 ≤ wv a b) then
        some (.bool (true))
       else
        bif decide (rtW (wv a b) ≥ 4611686018427387904) then
         some (.bool (true))
        else
         bif inI (IntKind.wrap IntKind.i64 (rtW (wv a b))) && inI (IntKind.wrap IntKind.i64 (rtW (wv a b))) then
          bif inW (hiW (IntKind.wrap IntKind.i64 (rtW (wv a b)) * IntKind.wrap IntKind.i64 (rtW (wv a b))))
        (loW (IntKind.wrap IntKind.i64 (rtW (wv a b)) * IntKind.wrap IntKind.i64 (rtW (wv a b)))) &&
      inW a b then
           bif decide
      (cmpI
          (wv (hiW (IntKind.wrap IntKind.i64 (rtW (wv a b)) * IntKind.wrap IntKind.i64 (rtW (wv a b))))
            (loW (IntKind.wrap IntKind.i64 (rtW (wv a b)) * IntKind.wrap IntKind.i64 (rtW (wv a b)))))
          (wv a b) ≤
        0) then
            bif inI (IntKind.wrap IntKind.i64 (IntKind.wrap IntKind.i64 (rtW (wv a b)) + 1)) &&
      inI (IntKind.wrap IntKind.i64 (IntKind.wrap IntKind.i64 (rtW (wv a b)) + 1)) then
             bif inW
        (hiW
          (IntKind.wrap IntKind.i64 (IntKind.wrap IntKind.i64 (rtW (wv a b)) + 1) *
            IntKind.wrap IntKind.i64 (IntKind.wrap IntKind.i64 (rtW (wv a b)) + 1)))
        (loW
          (IntKind.wrap IntKind.i64 (IntKind.wrap IntKind.i64 (rtW (wv a b)) + 1) *
            IntKind.wrap IntKind.i64 (IntKind.wrap IntKind.i64 (rtW (wv a b)) + 1))) &&
      inW a b then
              some (.bool (decide
      (cmpI
          (wv
            (hiW
              (IntKind.wrap IntKind.i64 (IntKind.wrap IntKind.i64 (rtW (wv a b)) + 1) *
                IntKind.wrap IntKind.i64 (IntKind.wrap IntKind.i64 (rtW (wv a b)) + 1)))
            (loW
              (IntKind.wrap IntKind.i64 (IntKind.wrap IntKind.i64 (rtW (wv a b)) + 1) *
                IntKind.wrap IntKind.i64 (IntKind.wrap IntKind.i64 (rtW (wv a b)) + 1))))
          (wv a b) >
        0)))
             else
              none
            else
             none
           else
            some (.bool (false))
          else
           none
         else
          none
    else
     none := by kernel_rfl
end Go.Proofs.Ytanjomncnbmgkaa

namespace Go.Proofs.Ytanjomncnbmgkaa
open Go Go.Proofs Go.Sx

theorem rtW_neg {n : Int} (h : n < 0) : rtW n = 0 := by simp [rtW, h]
theorem cmpI_le (m n : Int) : decide (cmpI m n ≤ 0) = decide (m ≤ n) := by
  unfold cmpI
  by_cases h1 : m < n
  · simp [h1]; omega
  · by_cases h2 : n < m
    · simp [h1, h2]
    · have : m = n := by omega
      simp [this]
theorem cmpI_gt (m n : Int) : decide (cmpI m n > 0) = decide (n < m) := by
  unfold cmpI
  by_cases h1 : m < n
  · simp [h1]; omega
  · by_cases h2 : n < m <;> simp [h1, h2]

theorem wideSqrt (a b : Int) (h1 : inW a b = true) : run Γ6 L0 Try.prog Try.f6 [W a b] = some (.bool true) := by
  have hb := inW_iff.1 h1
  have e1 : decide (0 ≤ wv a b) = decide (a ≥ 0) := by
    apply decide_eq_decide.2; unfold wv; omega
  rw [run6, h1]
  by_cases hn : 0 ≤ wv a b
  · have hlt : wv a b < 170141183460469231731687303715884105728 := by unfold wv; omega
    obtain ⟨r0, r1, r2, r3⟩ := rt_spec (wv a b) hn hlt
    generalize hN : wv a b = N at *
    generalize hR : rtW N = R at *
    simp only [← e1, hn, decide_true, BEq.rfl, Bool.not_true, cond_false, cond_true]
    by_cases hbig : R ≥ 4611686018427387904
    · simp [hbig]
    · have w1 : IntKind.wrap IntKind.i64 R = R := by rw [wrapI]; split <;> omega
      have w2 : IntKind.wrap IntKind.i64 (R + 1) = R + 1 := by rw [wrapI]; split <;> omega
      have i1 : inI R = true := inI_iff.2 (by omega)
      have i2 : inI (R + 1) = true := inI_iff.2 (by omega)
      have b1 := mul_lt R R 4611686018427387904 4611686018427387904 r0 (by omega) r0 (by omega)
      have b2 := mul_lt (R + 1) (R + 1) 4611686018427387905 4611686018427387905 (by omega) (by omega) (by omega) (by omega)
      have o1 : okW (R * R) = true := (okW_of (by omega) (by omega)).1
      have o2 : okW ((R + 1) * (R + 1)) = true := (okW_of (by omega) (by omega)).1
      simp only [hbig, decide_false, cond_false, w1, w2, i1, i2, Bool.and_self, cond_true, inW_r, wv_r, o1, o2, cmpI_le, cmpI_gt, r2, r3, decide_true]
  · have hn' : wv a b < 0 := by omega
    have ha : decide (a ≥ 0) = false := by rw [← e1]; simpa using hn'
    simp only [hn, ha, decide_false, BEq.rfl, Bool.not_true, Bool.not_false, cond_true, cond_false, rtW_neg hn', bne_self_eq_false]
end Go.Proofs.Ytanjomncnbmgkaa

