/-
  The law FixSum over numbers.
-/
import Derived.Test.YtanjomncnbmgkaaYo
import Derived.Test.YtanjomncnbmgkaaYp
namespace Go.Proofs.Ytanjomncnbmgkaa
open Go Go.Proofs Go.Sx

theorem run14 (A B : List Int) : runA Γr L0 Try.prog Try.f14 [.ints .i64 A, .ints .i64 B] =
    bif decide
      (IntKind.wrap IntKind.i64
          (↑(List.length A) +
            ↑(List.length B)) >
        200) then
     some (.v (.bool true))
    else
     bif decide
      ((List.length ([] : List Int) +
              List.length A) *
            8 ≤
          140737488355328 ∧
        List.length ([] : List Int) +
            List.length A ≤
          9223372036854775807) then
      bif decide
      ((List.length
                (([] : List Int) ++
                        A) +
              List.length B) *
            8 ≤
          140737488355328 ∧
        List.length
              (([] : List Int) ++
                      A) +
            List.length B ≤
          9223372036854775807) then
       bif allI
        ((([] : List Int) ++
                        A) ++
                B) &&
      decide
        (List.length
            ((([] : List Int) ++
                            A) ++
                    B) ≤
          100000) then
        bif allI
        ((([] : List Int) ++
                        A) ++
                B) &&
      decide
        (List.length
            ((([] : List Int) ++
                            A) ++
                    B) ≤
          100000) then
         bif Prod.fst
        (sumS
          ((([] : List Int) ++
                          A) ++
                  B)
          0) !=
      Prod.fst
        (sumS
          ((([] : List Int) ++
                          A) ++
                  B)
          0) then
          some (.v (.bool false))
         else
          bif !Prod.snd
          (sumS
            ((([] : List Int) ++
                            A) ++
                    B)
            0) ==
        Prod.snd
          (sumS
            ((([] : List Int) ++
                            A) ++
                    B)
            0) then
           some (.v (.bool false))
          else
           bif allI A &&
      decide (List.length A ≤ 100000) then
            bif allI B &&
      decide (List.length B ≤ 100000) then
             bif inI (Prod.fst (sumS A 0)) &&
      inI (Prod.fst (sumS B 0)) then
              bif !Prod.snd
        (sumS
          ((([] : List Int) ++
                          A) ++
                  B)
          0) then
               some (.v (.bool true))
              else
               bif !Prod.snd (sumS A 0) then
                some (.v (.bool true))
               else
                bif !Prod.snd (sumS B 0) then
                 some (.v (.bool true))
                else
                 bif !inI
        (Prod.fst (sumS A 0) +
          Prod.fst (sumS B 0)) then
                  some (.v (.bool true))
                 else
                  some (.v (.bool (smI
        (Prod.fst (sumS A 0) +
          Prod.fst (sumS B 0)) ==
      Prod.fst
        (sumS
          ((([] : List Int) ++
                          A) ++
                  B)
          0))))
             else
              none
            else
             none
           else
            none
        else
         none
       else
        none
      else
       none
     else
      none := by kernel_rfl
end Go.Proofs.Ytanjomncnbmgkaa

namespace Go.Proofs.Ytanjomncnbmgkaa
open Go Go.Proofs Go.Sx
theorem sumS_sum : ∀ (L : List Int) (t : Int), (sumS L t).2 = true → (sumS L t).1 = t + L.sum
  | [], t, _ => by simp [sumS]
  | n :: r, t, h => by
    unfold sumS at h ⊢
    cases hs : inI (t + n)
    · rw [hs] at h; cases h
    · rw [hs] at h
      simp only [cond_true] at h ⊢
      rw [sumS_sum r _ h, List.sum_cons]; omega
theorem sumS_in : ∀ (L : List Int) (t : Int), inI t = true → inI (sumS L t).1 = true
  | [], t, h => h
  | n :: r, t, _ => by
    unfold sumS
    cases hs : inI (t + n)
    · show inI 0 = true; decide
    · exact sumS_in r _ hs
theorem fixSum (A B : List Int) (hA : allI A = true) (hB : allI B = true) (h1 : A.length ≤ 281474976710656) (h2 : B.length ≤ 281474976710656) : runA Γr L0 Try.prog Try.f14 [.ints .i64 A, .ints .i64 B] = some (.v (.bool true)) := by
  rw [run14, wrapS (n := (A.length : Int) + B.length) (by omega)]
  have hall : allI (([] ++ A) ++ B) = true := by
    unfold allI at *
    rw [List.nil_append, List.all_append, hA, hB]; rfl
  by_cases hc : (A.length : Int) + B.length > 200
  · simp only [hc, decide_true, cond_true]
  · have g1 : (([] : List Int).length + A.length) * 8 ≤ 140737488355328 ∧ ([] : List Int).length + A.length ≤ 9223372036854775807 := by simp; omega
    have g2 : ((([] : List Int) ++ A).length + B.length) * 8 ≤ 140737488355328 ∧ (([] : List Int) ++ A).length + B.length ≤ 9223372036854775807 := by simp; omega
    have g3 : ((([] : List Int) ++ A) ++ B).length ≤ 100000 := by simp; omega
    have g4 : A.length ≤ 100000 := by omega
    have g5 : B.length ≤ 100000 := by omega
    have i1 := sumS_in A 0 (by decide)
    have i2 := sumS_in B 0 (by decide)
    simp only [hc, g1, g2, g3, g4, g5, hall, hA, hB, i1, i2, decide_true, decide_false, cond_true, cond_false, Bool.and_self, bne_self_eq_false, BEq.rfl, Bool.not_true, and_self]
    cases p : (sumS (([] ++ A) ++ B) 0).2
    · rfl
    cases q : (sumS A 0).2
    · rfl
    cases r : (sumS B 0).2
    · rfl
    cases s : inI ((sumS A 0).1 + (sumS B 0).1)
    · rfl
    have e : smI ((sumS A 0).1 + (sumS B 0).1) = (sumS A 0).1 + (sumS B 0).1 := by unfold smI; rw [s]; rfl
    rw [e, sumS_sum _ _ p, sumS_sum _ _ q, sumS_sum _ _ r]
    simp
end Go.Proofs.Ytanjomncnbmgkaa

