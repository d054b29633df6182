/-
  The law WideTells over numbers.
-/
import Derived.Test.YtanjomncnbmgkaaYd
namespace Go.Proofs.Ytanjomncnbmgkaa
open Go Go.Proofs Go.Sx

theorem run3 (a b c d : Int) : run Γe L0 Try.prog Try.f3 [W a b, W c d] =
    bif inW a b && inW c d then
     bif inW a b && inW c d then
      bif inW a b then
       bif inW a b then
        bif inW a b && inW c d then
         bif inW a b && inW c d then
          bif inW a b then
           bif inW a b then
            bif hiW (wv a b + wv c d) == hiW (wv a b + wv c d) &&
      (loW (wv a b + wv c d) == loW (wv a b + wv c d) && true) then
             bif okW (wv a b + wv c d) == okW (wv a b + wv c d) then
              bif hiW (wv a b - wv c d) == hiW (wv a b - wv c d) &&
      (loW (wv a b - wv c d) == loW (wv a b - wv c d) && true) then
               bif okW (wv a b - wv c d) == okW (wv a b - wv c d) then
                bif hiW (-wv a b) == hiW (-wv a b) && (loW (-wv a b) == loW (-wv a b) && true) then
                 bif okW (-wv a b) == okW (-wv a b) then
                  bif smI (wv a b) == smI (wv a b) then
                   bif inI (wv a b) == inI (wv a b) then
                    bif inW a b && inW c d then
                     bif inW a b && inW c d then
                      bif cmpI (wv a b) (wv c d) == cmpI (wv a b) (wv c d) then
                       bif inW a b then
                        bif inW a b && inW 0 0 then
                         some (.bool (cmpI (wv a b) 0 == cmpI (wv a b) (wv 0 0)))
                        else
                         none
                       else
                        none
                      else
                       some (.bool (false))
                     else
                      none
                    else
                     none
                   else
                    some (.bool (false))
                  else
                   some (.bool (false))
                 else
                  some (.bool (false))
                else
                 some (.bool (false))
               else
                some (.bool (false))
              else
               some (.bool (false))
             else
              some (.bool (false))
            else
             some (.bool (false))
           else
            none
          else
           none
         else
          none
        else
         none
       else
        none
      else
       none
     else
      none
    else
     none := by kernel_rfl
end Go.Proofs.Ytanjomncnbmgkaa

namespace Go.Proofs.Ytanjomncnbmgkaa
open Go Go.Proofs Go.Sx
theorem wideTells (a b c d : Int) (h1 : inW a b = true) (h2 : inW c d = true) : run Γe L0 Try.prog Try.f3 [W a b, W c d] = some (.bool true) := by
  rw [run3, h1, h2]
  have h0 : inW 0 0 = true := by decide
  have e0 : wv 0 0 = 0 := by decide
  rw [h0, e0]
  simp only [BEq.rfl, Bool.and_self, cond_true]
theorem i64_wf {a : Int} (h : (Lit.int .i64 a).wf = true) : inI a = true := by
  have e63 : (2 : Int) ^ 63 = 9223372036854775808 := by decide
  rw [inI_iff]
  simp [Lit.wf, IntKind.min, IntKind.max, IntKind.signed, IntKind.bits, e63] at h
  omega
theorem u64_wf {a : Int} (h : (Lit.int .u64 a).wf = true) : inU a = true := by
  have e64 : (2 : Int) ^ 64 = 18446744073709551616 := by decide
  rw [inU_iff]
  simp [Lit.wf, IntKind.min, IntKind.max, IntKind.signed, IntKind.bits, e64] at h
  omega
theorem i32_wf {a : Int} (h : (Lit.int .i32 a).wf = true) : -2147483648 ≤ a ∧ a < 2147483648 := by
  have e31 : (2 : Int) ^ 31 = 2147483648 := by decide
  simp [Lit.wf, IntKind.min, IntKind.max, IntKind.signed, IntKind.bits, e31] at h
  omega
theorem inW_wf {a b : Int} (h : (Lit.int .i64 a).wf = true) (h' : (Lit.int .u64 b).wf = true) : inW a b = true := by
  unfold inW
  rw [i64_wf h, u64_wf h']; rfl
end Go.Proofs.Ytanjomncnbmgkaa

