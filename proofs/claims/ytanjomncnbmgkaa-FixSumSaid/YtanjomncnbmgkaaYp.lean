/-
  The laws FixTells, FixSqrt, FixWide over numbers.
-/
import Derived.Test.YtanjomncnbmgkaaYo
namespace Go.Proofs.Ytanjomncnbmgkaa
open Go Go.Proofs Go.Sx

theorem run10 (a b c : Int) : run Γr L0 Try.prog Try.f10 [.int .i64 a, .int .i64 b, .int .i64 c] =
    bif inI a && inI b then
     bif inI a && inI b then
      bif inI a && inI b then
       bif inI a then
        bif inI a && inI b then
         bif inI a && inI b then
          bif inI a && inI b then
           bif inI a then
            bif smI (a + b) == smI (a + b) then
             bif inI (a + b) == inI (a + b) then
              bif smI (a - b) == smI (a - b) then
               bif inI (a - b) == inI (a - b) then
                bif smI (a * b) == smI (a * b) then
                 bif inI (a * b) == inI (a * b) then
                  bif smI (absI a) == smI (absI a) then
                   bif inI (absI a) == inI (absI a) then
                    some (.bool (clI a b c == clI a b c))
                   else
                    some (.bool false)
                  else
                   some (.bool false)
                 else
                  some (.bool false)
                else
                 some (.bool false)
               else
                some (.bool false)
              else
               some (.bool false)
             else
              some (.bool false)
            else
             some (.bool false)
           else
            none
          else
           none
         else
          none
        else
         none
       else
        none
      else
       none
     else
      none
    else
     none := by kernel_rfl

theorem run12 (a : Int) : run Γr L0 Try.prog Try.f12 [.int .i64 a] =
    bif inI a then
     bif !rkO true a == decide (a ≥ 0) then
      some (.bool false)
     else
      bif !rkO true a then
       bif (bif rkO true a then rtW a else 0) != 0 then
        some (.bool false)
       else
        bif !rkO true a then
         some (.bool true)
        else
         bif inI a then
          bif inW (hiW a) (loW a) && decide (wv (hiW a) (loW a) < 21267647932558653966460912964485513216) then
           bif (bif rkO true a then rtW a else 0) == rtW (wv (hiW a) (loW a)) then
            bif inI (bif rkO true a then rtW a else 0) && inI (bif rkO true a then rtW a else 0) then
             bif inI a then
              bif inW (hiW ((bif rkO true a then rtW a else 0) * bif rkO true a then rtW a else 0))
        (loW ((bif rkO true a then rtW a else 0) * bif rkO true a then rtW a else 0)) &&
      inW (hiW a) (loW a) then
               bif decide
      (cmpI
          (wv (hiW ((bif rkO true a then rtW a else 0) * bif rkO true a then rtW a else 0))
            (loW ((bif rkO true a then rtW a else 0) * bif rkO true a then rtW a else 0)))
          (wv (hiW a) (loW a)) ≤
        0) then
                bif inI (IntKind.wrap IntKind.i64 ((bif rkO true a then rtW a else 0) + 1)) &&
      inI (IntKind.wrap IntKind.i64 ((bif rkO true a then rtW a else 0) + 1)) then
                 bif inI a then
                  bif inW
        (hiW
          (IntKind.wrap IntKind.i64 ((bif rkO true a then rtW a else 0) + 1) *
            IntKind.wrap IntKind.i64 ((bif rkO true a then rtW a else 0) + 1)))
        (loW
          (IntKind.wrap IntKind.i64 ((bif rkO true a then rtW a else 0) + 1) *
            IntKind.wrap IntKind.i64 ((bif rkO true a then rtW a else 0) + 1))) &&
      inW (hiW a) (loW a) then
                   some (.bool (decide
      (cmpI
          (wv
            (hiW
              (IntKind.wrap IntKind.i64 ((bif rkO true a then rtW a else 0) + 1) *
                IntKind.wrap IntKind.i64 ((bif rkO true a then rtW a else 0) + 1)))
            (loW
              (IntKind.wrap IntKind.i64 ((bif rkO true a then rtW a else 0) + 1) *
                IntKind.wrap IntKind.i64 ((bif rkO true a then rtW a else 0) + 1))))
          (wv (hiW a) (loW a)) >
        0)))
                  else
                   none
                 else
                  none
                else
                 none
               else
                some (.bool false)
              else
               none
             else
              none
            else
             none
           else
            some (.bool false)
          else
           none
         else
          none
      else
       bif !rkO true a then
        some (.bool true)
       else
        bif inI a then
         bif inW (hiW a) (loW a) && decide (wv (hiW a) (loW a) < 21267647932558653966460912964485513216) then
          bif (bif rkO true a then rtW a else 0) == rtW (wv (hiW a) (loW a)) then
           bif inI (bif rkO true a then rtW a else 0) && inI (bif rkO true a then rtW a else 0) then
            bif inI a then
             bif inW (hiW ((bif rkO true a then rtW a else 0) * bif rkO true a then rtW a else 0))
        (loW ((bif rkO true a then rtW a else 0) * bif rkO true a then rtW a else 0)) &&
      inW (hiW a) (loW a) then
              bif decide
      (cmpI
          (wv (hiW ((bif rkO true a then rtW a else 0) * bif rkO true a then rtW a else 0))
            (loW ((bif rkO true a then rtW a else 0) * bif rkO true a then rtW a else 0)))
          (wv (hiW a) (loW a)) ≤
        0) then
               bif inI (IntKind.wrap IntKind.i64 ((bif rkO true a then rtW a else 0) + 1)) &&
      inI (IntKind.wrap IntKind.i64 ((bif rkO true a then rtW a else 0) + 1)) then
                bif inI a then
                 bif inW
        (hiW
          (IntKind.wrap IntKind.i64 ((bif rkO true a then rtW a else 0) + 1) *
            IntKind.wrap IntKind.i64 ((bif rkO true a then rtW a else 0) + 1)))
        (loW
          (IntKind.wrap IntKind.i64 ((bif rkO true a then rtW a else 0) + 1) *
            IntKind.wrap IntKind.i64 ((bif rkO true a then rtW a else 0) + 1))) &&
      inW (hiW a) (loW a) then
                  some (.bool (decide
      (cmpI
          (wv
            (hiW
              (IntKind.wrap IntKind.i64 ((bif rkO true a then rtW a else 0) + 1) *
                IntKind.wrap IntKind.i64 ((bif rkO true a then rtW a else 0) + 1)))
            (loW
              (IntKind.wrap IntKind.i64 ((bif rkO true a then rtW a else 0) + 1) *
                IntKind.wrap IntKind.i64 ((bif rkO true a then rtW a else 0) + 1))))
          (wv (hiW a) (loW a)) >
        0)))
                 else
                  none
                else
                 none
               else
                none
              else
               some (.bool false)
             else
              none
            else
             none
           else
            none
          else
           some (.bool false)
         else
          none
        else
         none
    else
     none := by kernel_rfl

theorem run13 (a b : Int) : run Γr L0 Try.prog Try.f13 [.int .i64 a, .int .i64 b] =
    bif inI a && inI b then
     bif inI a && inI a then
      bif inI b && inI b then
       bif inW (hiW (a * a)) (loW (a * a)) && inW (hiW (b * b)) (loW (b * b)) then
        bif !rkO (okW (a * a + b * b)) (wW (a * a + b * b)) then
         bif (bif rkO (okW (a * a + b * b)) (wW (a * a + b * b)) then rtW (wW (a * a + b * b)) else 0) != 0 then
          some (.bool false)
         else
          bif !rkO (okW (a * a + b * b)) (wW (a * a + b * b)) then
           bif !okW (wv (hiW (a * a)) (loW (a * a)) + wv (hiW (b * b)) (loW (b * b))) then
            some (.bool true)
           else
            bif inW (hiW (wv (hiW (a * a)) (loW (a * a)) + wv (hiW (b * b)) (loW (b * b))))
        (loW (wv (hiW (a * a)) (loW (a * a)) + wv (hiW (b * b)) (loW (b * b)))) &&
      inW (hiW (4611686018427387904 * 4611686018427387904)) (loW (4611686018427387904 * 4611686018427387904)) then
             some (.bool (decide
      (cmpI
          (wv (hiW (wv (hiW (a * a)) (loW (a * a)) + wv (hiW (b * b)) (loW (b * b))))
            (loW (wv (hiW (a * a)) (loW (a * a)) + wv (hiW (b * b)) (loW (b * b)))))
          (wv (hiW (4611686018427387904 * 4611686018427387904)) (loW (4611686018427387904 * 4611686018427387904))) >
        0)))
            else
             none
          else
           bif decide
      ((bif rkO (okW (a * a + b * b)) (wW (a * a + b * b)) then rtW (wW (a * a + b * b)) else 0) ≥ 4611686018427387904) then
            some (.bool true)
           else
            bif okW (wv (hiW (a * a)) (loW (a * a)) + wv (hiW (b * b)) (loW (b * b))) then
             bif inI (bif rkO (okW (a * a + b * b)) (wW (a * a + b * b)) then rtW (wW (a * a + b * b)) else 0) &&
      inI (bif rkO (okW (a * a + b * b)) (wW (a * a + b * b)) then rtW (wW (a * a + b * b)) else 0) then
              bif inW
        (hiW
          ((bif rkO (okW (a * a + b * b)) (wW (a * a + b * b)) then rtW (wW (a * a + b * b)) else 0) *
            bif rkO (okW (a * a + b * b)) (wW (a * a + b * b)) then rtW (wW (a * a + b * b)) else 0))
        (loW
          ((bif rkO (okW (a * a + b * b)) (wW (a * a + b * b)) then rtW (wW (a * a + b * b)) else 0) *
            bif rkO (okW (a * a + b * b)) (wW (a * a + b * b)) then rtW (wW (a * a + b * b)) else 0)) &&
      inW (hiW (wv (hiW (a * a)) (loW (a * a)) + wv (hiW (b * b)) (loW (b * b))))
        (loW (wv (hiW (a * a)) (loW (a * a)) + wv (hiW (b * b)) (loW (b * b)))) then
               bif decide
      (cmpI
          (wv
            (hiW
              ((bif rkO (okW (a * a + b * b)) (wW (a * a + b * b)) then rtW (wW (a * a + b * b)) else 0) *
                bif rkO (okW (a * a + b * b)) (wW (a * a + b * b)) then rtW (wW (a * a + b * b)) else 0))
            (loW
              ((bif rkO (okW (a * a + b * b)) (wW (a * a + b * b)) then rtW (wW (a * a + b * b)) else 0) *
                bif rkO (okW (a * a + b * b)) (wW (a * a + b * b)) then rtW (wW (a * a + b * b)) else 0)))
          (wv (hiW (wv (hiW (a * a)) (loW (a * a)) + wv (hiW (b * b)) (loW (b * b))))
            (loW (wv (hiW (a * a)) (loW (a * a)) + wv (hiW (b * b)) (loW (b * b))))) ≤
        0) then
                bif inI
        (IntKind.wrap IntKind.i64
          ((bif rkO (okW (a * a + b * b)) (wW (a * a + b * b)) then rtW (wW (a * a + b * b)) else 0) + 1)) &&
      inI
        (IntKind.wrap IntKind.i64
          ((bif rkO (okW (a * a + b * b)) (wW (a * a + b * b)) then rtW (wW (a * a + b * b)) else 0) + 1)) then
                 bif inW
        (hiW
          (IntKind.wrap IntKind.i64
              ((bif rkO (okW (a * a + b * b)) (wW (a * a + b * b)) then rtW (wW (a * a + b * b)) else 0) + 1) *
            IntKind.wrap IntKind.i64
              ((bif rkO (okW (a * a + b * b)) (wW (a * a + b * b)) then rtW (wW (a * a + b * b)) else 0) + 1)))
        (loW
          (IntKind.wrap IntKind.i64
              ((bif rkO (okW (a * a + b * b)) (wW (a * a + b * b)) then rtW (wW (a * a + b * b)) else 0) + 1) *
            IntKind.wrap IntKind.i64
              ((bif rkO (okW (a * a + b * b)) (wW (a * a + b * b)) then rtW (wW (a * a + b * b)) else 0) + 1))) &&
      inW (hiW (wv (hiW (a * a)) (loW (a * a)) + wv (hiW (b * b)) (loW (b * b))))
        (loW (wv (hiW (a * a)) (loW (a * a)) + wv (hiW (b * b)) (loW (b * b)))) then
                  some (.bool (decide
      (cmpI
          (wv
            (hiW
              (IntKind.wrap IntKind.i64
                  ((bif rkO (okW (a * a + b * b)) (wW (a * a + b * b)) then rtW (wW (a * a + b * b)) else 0) + 1) *
                IntKind.wrap IntKind.i64
                  ((bif rkO (okW (a * a + b * b)) (wW (a * a + b * b)) then rtW (wW (a * a + b * b)) else 0) + 1)))
            (loW
              (IntKind.wrap IntKind.i64
                  ((bif rkO (okW (a * a + b * b)) (wW (a * a + b * b)) then rtW (wW (a * a + b * b)) else 0) + 1) *
                IntKind.wrap IntKind.i64
                  ((bif rkO (okW (a * a + b * b)) (wW (a * a + b * b)) then rtW (wW (a * a + b * b)) else 0) + 1))))
          (wv (hiW (wv (hiW (a * a)) (loW (a * a)) + wv (hiW (b * b)) (loW (b * b))))
            (loW (wv (hiW (a * a)) (loW (a * a)) + wv (hiW (b * b)) (loW (b * b))))) >
        0)))
                 else
                  none
                else
                 none
               else
                some (.bool false)
              else
               none
             else
              none
            else
             some (.bool false)
        else
         bif !rkO (okW (a * a + b * b)) (wW (a * a + b * b)) then
          bif !okW (wv (hiW (a * a)) (loW (a * a)) + wv (hiW (b * b)) (loW (b * b))) then
           some (.bool true)
          else
           bif inW (hiW (wv (hiW (a * a)) (loW (a * a)) + wv (hiW (b * b)) (loW (b * b))))
        (loW (wv (hiW (a * a)) (loW (a * a)) + wv (hiW (b * b)) (loW (b * b)))) &&
      inW (hiW (4611686018427387904 * 4611686018427387904)) (loW (4611686018427387904 * 4611686018427387904)) then
            some (.bool (decide
      (cmpI
          (wv (hiW (wv (hiW (a * a)) (loW (a * a)) + wv (hiW (b * b)) (loW (b * b))))
            (loW (wv (hiW (a * a)) (loW (a * a)) + wv (hiW (b * b)) (loW (b * b)))))
          (wv (hiW (4611686018427387904 * 4611686018427387904)) (loW (4611686018427387904 * 4611686018427387904))) >
        0)))
           else
            none
         else
          bif decide
      ((bif rkO (okW (a * a + b * b)) (wW (a * a + b * b)) then rtW (wW (a * a + b * b)) else 0) ≥ 4611686018427387904) then
           some (.bool true)
          else
           bif okW (wv (hiW (a * a)) (loW (a * a)) + wv (hiW (b * b)) (loW (b * b))) then
            bif inI (bif rkO (okW (a * a + b * b)) (wW (a * a + b * b)) then rtW (wW (a * a + b * b)) else 0) &&
      inI (bif rkO (okW (a * a + b * b)) (wW (a * a + b * b)) then rtW (wW (a * a + b * b)) else 0) then
             bif inW
        (hiW
          ((bif rkO (okW (a * a + b * b)) (wW (a * a + b * b)) then rtW (wW (a * a + b * b)) else 0) *
            bif rkO (okW (a * a + b * b)) (wW (a * a + b * b)) then rtW (wW (a * a + b * b)) else 0))
        (loW
          ((bif rkO (okW (a * a + b * b)) (wW (a * a + b * b)) then rtW (wW (a * a + b * b)) else 0) *
            bif rkO (okW (a * a + b * b)) (wW (a * a + b * b)) then rtW (wW (a * a + b * b)) else 0)) &&
      inW (hiW (wv (hiW (a * a)) (loW (a * a)) + wv (hiW (b * b)) (loW (b * b))))
        (loW (wv (hiW (a * a)) (loW (a * a)) + wv (hiW (b * b)) (loW (b * b)))) then
              bif decide
      (cmpI
          (wv
            (hiW
              ((bif rkO (okW (a * a + b * b)) (wW (a * a + b * b)) then rtW (wW (a * a + b * b)) else 0) *
                bif rkO (okW (a * a + b * b)) (wW (a * a + b * b)) then rtW (wW (a * a + b * b)) else 0))
            (loW
              ((bif rkO (okW (a * a + b * b)) (wW (a * a + b * b)) then rtW (wW (a * a + b * b)) else 0) *
                bif rkO (okW (a * a + b * b)) (wW (a * a + b * b)) then rtW (wW (a * a + b * b)) else 0)))
          (wv (hiW (wv (hiW (a * a)) (loW (a * a)) + wv (hiW (b * b)) (loW (b * b))))
            (loW (wv (hiW (a * a)) (loW (a * a)) + wv (hiW (b * b)) (loW (b * b))))) ≤
        0) then
               bif inI
        (IntKind.wrap IntKind.i64
          ((bif rkO (okW (a * a + b * b)) (wW (a * a + b * b)) then rtW (wW (a * a + b * b)) else 0) + 1)) &&
      inI
        (IntKind.wrap IntKind.i64
          ((bif rkO (okW (a * a + b * b)) (wW (a * a + b * b)) then rtW (wW (a * a + b * b)) else 0) + 1)) then
                bif inW
        (hiW
          (IntKind.wrap IntKind.i64
              ((bif rkO (okW (a * a + b * b)) (wW (a * a + b * b)) then rtW (wW (a * a + b * b)) else 0) + 1) *
            IntKind.wrap IntKind.i64
              ((bif rkO (okW (a * a + b * b)) (wW (a * a + b * b)) then rtW (wW (a * a + b * b)) else 0) + 1)))
        (loW
          (IntKind.wrap IntKind.i64
              ((bif rkO (okW (a * a + b * b)) (wW (a * a + b * b)) then rtW (wW (a * a + b * b)) else 0) + 1) *
            IntKind.wrap IntKind.i64
              ((bif rkO (okW (a * a + b * b)) (wW (a * a + b * b)) then rtW (wW (a * a + b * b)) else 0) + 1))) &&
      inW (hiW (wv (hiW (a * a)) (loW (a * a)) + wv (hiW (b * b)) (loW (b * b))))
        (loW (wv (hiW (a * a)) (loW (a * a)) + wv (hiW (b * b)) (loW (b * b)))) then
                 some (.bool (decide
      (cmpI
          (wv
            (hiW
              (IntKind.wrap IntKind.i64
                  ((bif rkO (okW (a * a + b * b)) (wW (a * a + b * b)) then rtW (wW (a * a + b * b)) else 0) + 1) *
                IntKind.wrap IntKind.i64
                  ((bif rkO (okW (a * a + b * b)) (wW (a * a + b * b)) then rtW (wW (a * a + b * b)) else 0) + 1)))
            (loW
              (IntKind.wrap IntKind.i64
                  ((bif rkO (okW (a * a + b * b)) (wW (a * a + b * b)) then rtW (wW (a * a + b * b)) else 0) + 1) *
                IntKind.wrap IntKind.i64
                  ((bif rkO (okW (a * a + b * b)) (wW (a * a + b * b)) then rtW (wW (a * a + b * b)) else 0) + 1))))
          (wv (hiW (wv (hiW (a * a)) (loW (a * a)) + wv (hiW (b * b)) (loW (b * b))))
            (loW (wv (hiW (a * a)) (loW (a * a)) + wv (hiW (b * b)) (loW (b * b))))) >
        0)))
                else
                 none
               else
                none
              else
               some (.bool false)
             else
              none
            else
             none
           else
            some (.bool false)
       else
        none
      else
       none
     else
      none
    else
     none := by kernel_rfl
end Go.Proofs.Ytanjomncnbmgkaa

namespace Go.Proofs.Ytanjomncnbmgkaa
open Go Go.Proofs Go.Sx
theorem wv_h {n : Int} (h : okW n = true) : wv (hiW n) (loW n) = n := (wv_Wn h).1
theorem fixTells (a b c : Int) (ha : inI a = true) (hb : inI b = true) (_ : inI c = true) : run Γr L0 Try.prog Try.f10 [.int .i64 a, .int .i64 b, .int .i64 c] = some (.bool true) := by
  rw [run10, ha, hb]
  simp only [BEq.rfl, Bool.and_self, cond_true]

theorem fixSqrt (a : Int) (ha : inI a = true) : run Γr L0 Try.prog Try.f12 [.int .i64 a] = some (.bool true) := by
  have hk := okW_I ha
  have hI := inI_iff.1 ha
  have hsm : decide (a < 21267647932558653966460912964485513216) = true := by simp; omega
  rw [run12, ha, wv_h hk, inW_h, hsm]
  by_cases h : a ≥ 0
  · obtain ⟨s0, s1, s2, s3⟩ := rt_spec a h (by omega)
    have hs : rtW a ≤ 3037000500 := by
      rcases (by omega : rtW a ≤ 3037000500 ∨ 3037000501 ≤ rtW a) with h1 | h1
      · exact h1
      · have := Int.mul_le_mul h1 h1 (by decide) s0
        omega
    have hr : rkO true a = true := by unfold rkO; simp; omega
    rw [hr]
    generalize rtW a = s at *
    have hsI : inI s = true := inI_iff.2 (by omega)
    have hsI1 : inI (s + 1) = true := inI_iff.2 (by omega)
    simp only [h, decide_true, cond_true, Bool.not_true, cond_false, hsI, Bool.and_self, BEq.rfl, wrapS (n := s + 1) (by omega), hsI1, inW_h, wv_h (okW_mul hsI hsI), wv_h (okW_mul hsI1 hsI1), cmpI_le, cmpI_gt, s2, s3]
  · have hr : rkO true a = false := by unfold rkO; simp; omega
    rw [hr]
    simp only [h, decide_false, cond_true, Bool.not_false, Bool.not_true, BEq.rfl, cond_false, bne_self_eq_false]

theorem fixWide (a b : Int) (ha : inI a = true) (hb : inI b = true) : run Γr L0 Try.prog Try.f13 [.int .i64 a, .int .i64 b] = some (.bool true) := by
  have ka := okW_mul ha ha
  have kb := okW_mul hb hb
  rw [run13, ha, hb, wv_h ka, wv_h kb, inW_h, inW_h, inW_h, show wv (hiW (4611686018427387904 * 4611686018427387904)) (loW (4611686018427387904 * 4611686018427387904)) = 21267647932558653966460912964485513216 by decide, inW_h]
  have ia := inI_iff.1 ha
  have ib := inI_iff.1 hb
  have na : 0 ≤ a * a := by
    rcases (by omega : 0 ≤ a ∨ a ≤ 0) with h | h
    · exact Int.mul_nonneg h h
    · exact Int.mul_nonneg_of_nonpos_of_nonpos h h
  have nb : 0 ≤ b * b := by
    rcases (by omega : 0 ≤ b ∨ b ≤ 0) with h | h
    · exact Int.mul_nonneg h h
    · exact Int.mul_nonneg_of_nonpos_of_nonpos h h
  clear ka kb
  generalize hN : a * a + b * b = N at *
  have n0 : 0 ≤ N := by omega
  clear hN na nb
  cases hk : okW N
  · have hr : rkO false (wW N) = false := rfl
    rw [hr]
    simp only [Bool.and_self, cond_true, cond_false, Bool.not_false, bne_self_eq_false]
  · have h1 : N < 170141183460469231731687303715884105728 := by
      simp only [okW, decide_eq_true_eq] at hk; exact hk.2
    obtain ⟨s0, s1, s2, s3⟩ := rt_spec N n0 h1
    rw [wW_ok hk, wv_h hk]
    generalize hS : rtW N = s at *
    by_cases hs : s ≤ 9223372036854775807
    · have hr : rkO true N = true := by unfold rkO; rw [hS]; simp [n0, hs]
      rw [hr]
      simp only [Bool.and_self, cond_true, cond_false, Bool.not_true, inW_h]
      by_cases hb : s ≥ 4611686018427387904
      · simp only [hb, decide_true, cond_true]
      · have hsI : inI s = true := inI_iff.2 (by omega)
        have hsI1 : inI (s + 1) = true := inI_iff.2 (by omega)
        simp only [hb, decide_false, cond_false, hsI, cond_true, wrapS (n := s + 1) (by omega), hsI1, wv_h (okW_mul hsI hsI), wv_h (okW_mul hsI1 hsI1), cmpI_le, cmpI_gt, s2, s3, decide_true]
    · have hr : rkO true N = false := by unfold rkO; rw [hS]; simp [hs]
      rw [hr]
      have hbig : 21267647932558653966460912964485513216 < N := by
        have := Int.mul_le_mul (show (9223372036854775808 : Int) ≤ s by omega) (show (9223372036854775808 : Int) ≤ s by omega) (by decide) s0
        omega
      simp only [Bool.and_self, cond_true, cond_false, Bool.not_true, Bool.not_false, inW_h, bne_self_eq_false, cmpI_gt, hbig, decide_true]
end Go.Proofs.Ytanjomncnbmgkaa

