/-
  What is known of this program: Left; three laws of poly over values.
-/
import Derived.Test.YtcjkkfhdnealpaaYg
import Derived.Test.YtcjkkfhdnealpaaTw
namespace Go.Proofs.Ytcjkkfhdnealpaa
open Go Go.Proofs Go.Sx
set_option linter.unusedVariables false
/-- Of neighbouring edges neither has the other one's far end. -/
theorem adj {L : List (List Dat)} (h : IsArea L) {k : Int} (k0 : 0 ≤ k) (k1 : k < (L.length : Int)) : ∃ i, 0 ≤ i ∧ i < (L.length : Int) ∧ nx L i = k ∧ ¬ OnP (pX L (nx L k)) (pY L (nx L k)) (pX L i) (pY L i) (pX L k) (pY L k) ∧ ¬ OnP (pX L i) (pY L i) (pX L k) (pY L k) (pX L (nx L k)) (pY L (nx L k)) := by
  have l1 := h.lo
  have l2 := h.hi
  have nk := nx_lt h k0 k1
  have key : ∀ i, 0 ≤ i → i < (L.length : Int) → onB (pX L (nx L k)) (pY L (nx L k)) (pX L i) (pY L i) (pX L k) (pY L k) = false → onB (pX L i) (pY L i) (pX L k) (pY L k) (pX L (nx L k)) (pY L (nx L k)) = false → ¬ OnP (pX L (nx L k)) (pY L (nx L k)) (pX L i) (pY L i) (pX L k) (pY L k) ∧ ¬ OnP (pX L i) (pY L i) (pX L k) (pY L k) (pX L (nx L k)) (pY L (nx L k)) := by
    intro i i0 i1 e1 e2
    refine ⟨fun q => ?_, fun q => ?_⟩
    · rw [(on_iff (h.pl _ nk.1 nk.2) (h.pl i i0 i1) (h.pl k k0 k1)).2 q] at e1; cases e1
    · rw [(on_iff (h.pl i i0 i1) (h.pl k k0 k1) (h.pl _ nk.1 nk.2)).2 q] at e2; cases e2
  by_cases hk : k = 0
  · have b := h.apt 0 ((L.length : Int) - 1) (by omega) (by omega) (by omega)
    have n1 : nx L ((L.length : Int) - 1) = 0 := by rw [nx_wrap h (by omega) (by omega), if_pos (by omega)]
    unfold badB mwB at b
    rw [wI_id (n := 0 + 1) (by omega), beq_eq_false_iff_ne.2 (show (0 : Int) + 1 ≠ (L.length : Int) - 1 by omega), n1, beq_self_eq_true] at b
    simp only [cond_false, cond_true, Bool.or_eq_false_iff] at b
    subst hk
    exact ⟨(L.length : Int) - 1, by omega, by omega, n1, key _ (by omega) (by omega) b.2.1 b.2.2⟩
  · have b := h.apt (k - 1) k (by omega) (by omega) k1
    have n1 : nx L (k - 1) = k := by rw [nx_wrap h (by omega) (by omega), if_neg (by omega)]; omega
    unfold badB mwB at b
    rw [wI_id (n := k - 1 + 1) (by omega), beq_iff_eq.2 (show k - 1 + 1 = k by omega), n1] at b
    simp only [cond_true, Bool.or_eq_false_iff] at b
    exact ⟨k - 1, by omega, by omega, n1, key _ (by omega) (by omega) b.2.1 b.2.2⟩
theorem not_flatX {L : List (List Dat)} (h : IsArea L) (x : Int) : ¬ ∀ k, 0 ≤ k → k < (L.length : Int) → pX L k = x := by
  intro hx
  have l1 := h.lo
  obtain ⟨hb, _, _, _, ⟨k, k0, k1, k2⟩⟩ := bdB_ok (L := L) (by omega)
  obtain ⟨i, i0, i1, n1, o1, o2⟩ := adj h k0 k1
  have nk := nx_lt h k0 k1
  have e1 := hx k k0 k1
  have e2 := hx i i0 i1
  have e3 := hx _ nk.1 nk.2
  have m1 := (hb i i0 i1).2.2.2
  have m2 := (hb _ nk.1 nk.2).2.2.2
  unfold OnP bt at o1 o2
  rw [e1, e2, e3] at o1 o2
  have z1 : tw x (pY L i) x (pY L k) x (pY L (nx L k)) = 0 := by unfold tw; grind
  have z2 : tw x (pY L k) x (pY L (nx L k)) x (pY L i) = 0 := by unfold tw; grind
  rw [z1] at o1
  rw [z2] at o2
  omega
theorem not_flatY {L : List (List Dat)} (h : IsArea L) (y : Int) : ¬ ∀ k, 0 ≤ k → k < (L.length : Int) → pY L k = y := by
  intro hx
  have l1 := h.lo
  obtain ⟨hb, _, _, ⟨k, k0, k1, k2⟩, _⟩ := bdB_ok (L := L) (by omega)
  obtain ⟨i, i0, i1, n1, o1, o2⟩ := adj h k0 k1
  have nk := nx_lt h k0 k1
  have e1 := hx k k0 k1
  have e2 := hx i i0 i1
  have e3 := hx _ nk.1 nk.2
  have m1 := (hb i i0 i1).2.2.1
  have m2 := (hb _ nk.1 nk.2).2.2.1
  unfold OnP bt at o1 o2
  rw [e1, e2, e3] at o1 o2
  have z1 : tw (pX L i) y (pX L k) y (pX L (nx L k)) y = 0 := by unfold tw; grind
  have z2 : tw (pX L k) y (pX L (nx L k)) y (pX L i) y = 0 := by unfold tw; grind
  rw [z1] at o1
  rw [z2] at o2
  omega
theorem polyDown (L : List (List Dat)) : runG ΓBd ΛPd Try.prog Try.f8 [.row 0] ⟨[], [], [rP L false false]⟩ = some (.v (Bo true), ⟨[], [], [rP L false false]⟩) := by
  refine (runPd L).trans ?_
  by_cases h : (L.length : Int) ≤ 12
  case neg => rw [decide_eq_false h]; rfl
  rw [decide_eq_true h, Nat.ble_eq_true_of_le (show L.length ≤ 1000000 by omega), area_eq]
  cases ha : areaB L
  · rfl
  have hA := isArea ha
  have l1 := hA.lo
  obtain ⟨hb, _⟩ := bdB_ok (L := L) (by omega)
  have h1 : (bdB L).1 < (bdB L).2.2.1 := by
    rcases Int.lt_or_le (bdB L).1 (bdB L).2.2.1 with q | q
    · exact q
    · exact absurd (fun k k0 k1 => by have := hb k k0 k1; omega) (not_flatX hA (bdB L).1)
  have h2 : (bdB L).2.1 < (bdB L).2.2.2 := by
    rcases Int.lt_or_le (bdB L).2.1 (bdB L).2.2.2 with q | q
    · exact q
    · exact absurd (fun k k0 k1 => by have := hb k k0 k1; omega) (not_flatY hA (bdB L).2.1)
  simp only [bdV, ha, cond_true, beq_self_eq_true, Bool.and_self, decide_eq_true h1, decide_eq_true h2, Bool.not_true, cond_false]
theorem loopsOkPd (z : Base) (z1 : z.L.length = 0) (z2 : z.U.length = 1) : ∀ b ∈ loopsOf (Try.f8.body.getD .skip), LoopOk ΛPd Try.prog z b := oneLoop loopsPd (loopOkPd z z1 z2)
theorem polyDownLaw (l0 : List (List Dat)) (w0 : ∀ o ∈ l0, WfL ks2 o) (n0 : l0.length ≤ 281474976710656) : ∃ m', runG ΓBd ΛPd Try.prog Try.f8 (inArgs [.row 24 ks2 l0] 0) (inMem [.row 24 ks2 l0]) = some (.v (.bool true), m') := ⟨_, polyDown l0⟩
end Go.Proofs.Ytcjkkfhdnealpaa

namespace Go.Proofs.Ytcjkkfhdnealpaa
open Go Go.Proofs Go.Sx
set_option linter.unusedVariables false
/-! norm -/
/-! cast -/
/-- A number of 128 bits with much room above and below it. -/
def smW (a b : Int) : Bool := inW a b && decide (-1267650600228229401496703205376 ≤ wv a b ∧ wv a b ≤ 1267650600228229401496703205376)
set_option maxRecDepth 20000 in
theorem runWSub (a b c d : Int) : runG ΓBd L0 Try.prog Try.f69 [.v (Wd a b), .v (Wd c d)] M0 = 
    (bif decide ((0 : Int) ≤ b ∧ (0 : Int) ≤ d ∧ d < (18446744073709551616 : Int) ∧ (0 : Int) ≤ (0 : Int) ∧ (0 : Int) ≤ (1 : Int)) then (bif decide ((0 : Int) ≤ IntKind.u64.wrap a ∧ (0 : Int) ≤ IntKind.u64.wrap c ∧ IntKind.u64.wrap c < (18446744073709551616 : Int) ∧ (0 : Int) ≤ subC3 b d (0 : Int) ∧ subC3 b d (0 : Int) ≤ (1 : Int)) then (bif !decide (a < (0 : Int)) == decide (c < (0 : Int)) then (bif !decide (wI (subS3 (IntKind.u64.wrap a) (IntKind.u64.wrap c) (subC3 b d (0 : Int))) < (0 : Int)) == decide (a < (0 : Int)) then some (.v (.tuple #[(.agg #[(I 0), (.int .u64 0)]), (Bo false)]), M0) else some (.v (.tuple #[(.agg #[(I (wI (subS3 (IntKind.u64.wrap a) (IntKind.u64.wrap c) (subC3 b d (0 : Int))))), (.int .u64 (subS3 b d (0 : Int)))]), (Bo true)]), M0)) else some (.v (.tuple #[(.agg #[(I (wI (subS3 (IntKind.u64.wrap a) (IntKind.u64.wrap c) (subC3 b d (0 : Int))))), (.int .u64 (subS3 b d (0 : Int)))]), (Bo true)]), M0)) else none) else none) := by kernel_rfl
set_option maxRecDepth 20000 in
theorem runWSign (a b : Int) : runG ΓBd L0 Try.prog Try.f70 [.v (Wd a b)] M0 = 
    (bif inW a b && true then some (.v (I (cmpI (wv a b) (0 : Int))), M0) else none) := by kernel_rfl
set_option maxRecDepth 20000 in
theorem runRAdd (a b c d : Int) : runG ΓBd L0 Try.prog Try.f71 [.v (Wd a b), .v (Wd c d)] M0 = 
    (bif inU b && inU d then (bif decide (a < (0 : Int)) == decide (c < (0 : Int)) then (bif !decide (pHi (wv a b + wv c d) < (0 : Int)) == decide (a < (0 : Int)) then some (.v (.tuple #[(.agg #[(I 0), (.int .u64 0)]), (Bo false)]), M0) else some (.v (.tuple #[(.agg #[(I (pHi (wv a b + wv c d))), (.int .u64 (pLo (wv a b + wv c d)))]), (Bo true)]), M0)) else some (.v (.tuple #[(.agg #[(I (pHi (wv a b + wv c d))), (.int .u64 (pLo (wv a b + wv c d)))]), (Bo true)]), M0)) else none) := by kernel_rfl
set_option maxRecDepth 20000 in
theorem runRSub (a b c d : Int) : runG ΓBd L0 Try.prog Try.f73 [.v (Wd a b), .v (Wd c d)] M0 = 
    (bif inU d then (bif inU b && inU (pLo (-wv c d)) then (bif !decide (a < (0 : Int)) == decide (c < (0 : Int)) then (bif !decide (pHi (wv a b + wv (pHi (-wv c d)) (pLo (-wv c d))) < (0 : Int)) == decide (a < (0 : Int)) then some (.v (.tuple #[(.agg #[(I 0), (.int .u64 0)]), (Bo false)]), M0) else some (.v (.tuple #[(.agg #[(I (pHi (wv a b + wv (pHi (-wv c d)) (pLo (-wv c d))))), (.int .u64 (pLo (wv a b + wv (pHi (-wv c d)) (pLo (-wv c d)))))]), (Bo true)]), M0)) else some (.v (.tuple #[(.agg #[(I (pHi (wv a b + wv (pHi (-wv c d)) (pLo (-wv c d))))), (.int .u64 (pLo (wv a b + wv (pHi (-wv c d)) (pLo (-wv c d)))))]), (Bo true)]), M0)) else none) else none) := by kernel_rfl
theorem smW_iff {a b : Int} : smW a b = true ↔ inW a b = true ∧ -1267650600228229401496703205376 ≤ wv a b ∧ wv a b ≤ 1267650600228229401496703205376 := by
  unfold smW
  rw [Bool.and_eq_true, decide_eq_true_eq]
theorem wI_mod {m : Int} (h1 : -9223372036854775808 ≤ m) (h2 : m < 9223372036854775808) : wI (m % 18446744073709551616) = m := by
  have e : wI (m % 18446744073709551616) = wr true .i64 (m % 18446744073709551616) := (wr_eq true .i64 _).symm
  rw [e]
  simp only [wr]
  split
  · rename_i h
    have := of_decide_eq_true h
    omega
  · rename_i h
    have := of_decide_eq_false h
    omega
theorem ok_small {n : Int} (h1 : -2535301200456458802993406410752 ≤ n) (h2 : n ≤ 2535301200456458802993406410752) : okW n = true ∧ hiW n = n / 18446744073709551616 ∧ loW n = n % 18446744073709551616 := okW_of (by omega) (by omega)
def gWSub (vs : List Value) : Option (Bool × Value) :=
  match vs with
  | [.agg ⟨[.int .i64 a, .int .u64 b]⟩, .agg ⟨[.int .i64 c, .int .u64 d]⟩] => some (smW a b && smW c d, .tuple #[Wd (hiW (wv a b - wv c d)) (loW (wv a b - wv c d)), Bo true])
  | _ => none
theorem gWSub_ok : ∀ vs r, gWSub vs = some (true, r) → ∀ m, CallOk Try.prog 69 (vs.map .v) m (.v r) m := by
  intro vs r h
  unfold gWSub at h
  split at h
  · rename_i a b c d
    obtain ⟨h1, rfl⟩ := some_t h
    refine runV (vs := [Wd a b, Wd c d]) (Λ := L0) (m' := M0) OkBd Try.func69 rfl (fun z _ _ => l0Ok' _ z) ?_
    refine (runWSub a b c d).trans ?_
    rw [Bool.and_eq_true, smW_iff, smW_iff, inW_iff, inW_iff] at h1
    obtain ⟨⟨⟨⟨a1, a2⟩, b1, b2⟩, x1, x2⟩, ⟨⟨c1, c2⟩, d1, d2⟩, y1, y2⟩ := h1
    unfold wv at x1 x2 y1 y2 ⊢
    obtain ⟨e1, e2, e3⟩ := ok_small (n := a * 18446744073709551616 + b - (c * 18446744073709551616 + d)) (by omega) (by omega)
    have u1 : IntKind.u64.wrap a = a % 18446744073709551616 := wrU a
    have u2 : IntKind.u64.wrap c = c % 18446744073709551616 := wrU c
    have br : subC3 b d 0 = 0 ∧ d ≤ b ∨ subC3 b d 0 = 1 ∧ b < d := by
      unfold subC3
      by_cases q : b < d + 0
      · rw [decide_eq_true q]; right; exact ⟨rfl, by omega⟩
      · rw [decide_eq_false q]; left; exact ⟨rfl, by omega⟩
    have hi : wI (subS3 (IntKind.u64.wrap a) (IntKind.u64.wrap c) (subC3 b d 0)) = a - c - subC3 b d 0 := by
      unfold subS3
      rw [u1, u2, show (a % 18446744073709551616 - c % 18446744073709551616 - subC3 b d 0) % 18446744073709551616 = (a - c - subC3 b d 0) % 18446744073709551616 by omega]
      exact wI_mod (by omega) (by omega)
    have lo : subS3 b d 0 = (b - d) % 18446744073709551616 := by unfold subS3; rw [Int.sub_zero]
    have f1 : a - c - subC3 b d 0 = hiW (a * 18446744073709551616 + b - (c * 18446744073709551616 + d)) := by rw [e2]; omega
    have f2 : (b - d) % 18446744073709551616 = loW (a * 18446744073709551616 + b - (c * 18446744073709551616 + d)) := by rw [e3]; omega
    rw [decide_eq_true (show (0 : Int) ≤ b ∧ (0 : Int) ≤ d ∧ d < 18446744073709551616 ∧ (0 : Int) ≤ 0 ∧ (0 : Int) ≤ 1 by omega), decide_eq_true (show (0 : Int) ≤ IntKind.u64.wrap a ∧ (0 : Int) ≤ IntKind.u64.wrap c ∧ IntKind.u64.wrap c < 18446744073709551616 ∧ (0 : Int) ≤ subC3 b d 0 ∧ subC3 b d 0 ≤ 1 by omega), hi, lo, f1, f2]
    simp only [cond_true]
    by_cases s1 : a < 0 <;> by_cases s2 : c < 0
    · rw [decide_eq_true s1, decide_eq_true s2]; rfl
    · rw [decide_eq_true s1, decide_eq_false s2, decide_eq_true (show hiW (a * 18446744073709551616 + b - (c * 18446744073709551616 + d)) < 0 by omega)]; rfl
    · rw [decide_eq_false s1, decide_eq_true s2, decide_eq_false (show ¬ hiW (a * 18446744073709551616 + b - (c * 18446744073709551616 + d)) < 0 by omega)]; rfl
    · rw [decide_eq_false s1, decide_eq_false s2]; rfl
  · cases h
noncomputable def ΓLf1 : Orc := addVal 69 gWSub ΓBd
theorem OkLf1 : ΓLf1.Ok Try.prog := addVal_ok OkBd gWSub_ok
def gWSign (vs : List Value) : Option (Bool × Value) :=
  match vs with
  | [.agg ⟨[.int .i64 a, .int .u64 b]⟩] => some (inW a b, I (cmpI (wv a b) 0))
  | _ => none
theorem gWSign_ok : ∀ vs r, gWSign vs = some (true, r) → ∀ m, CallOk Try.prog 70 (vs.map .v) m (.v r) m := by
  intro vs r h
  unfold gWSign at h
  split at h
  · rename_i a b
    obtain ⟨h1, rfl⟩ := some_t h
    refine runV (vs := [Wd a b]) (Λ := L0) (m' := M0) OkBd Try.func70 rfl (fun z _ _ => l0Ok' _ z) ?_
    exact (runWSign a b).trans (by rw [h1]; rfl)
  · cases h
noncomputable def ΓLf2 : Orc := addVal 70 gWSign ΓLf1
theorem OkLf2 : ΓLf2.Ok Try.prog := addVal_ok OkLf1 gWSign_ok
def gRAdd (vs : List Value) : Option (Bool × Value) :=
  match vs with
  | [.agg ⟨[.int .i64 a, .int .u64 b]⟩, .agg ⟨[.int .i64 c, .int .u64 d]⟩] => some (smW a b && smW c d, .tuple #[Wd (hiW (wv a b + wv c d)) (loW (wv a b + wv c d)), Bo true])
  | _ => none
theorem gRAdd_ok : ∀ vs r, gRAdd vs = some (true, r) → ∀ m, CallOk Try.prog 71 (vs.map .v) m (.v r) m := by
  intro vs r h
  unfold gRAdd at h
  split at h
  · rename_i a b c d
    obtain ⟨h1, rfl⟩ := some_t h
    refine runV (vs := [Wd a b, Wd c d]) (Λ := L0) (m' := M0) OkBd Try.func71 rfl (fun z _ _ => l0Ok' _ z) ?_
    refine (runRAdd a b c d).trans ?_
    rw [Bool.and_eq_true, smW_iff, smW_iff, inW_iff, inW_iff] at h1
    obtain ⟨⟨⟨⟨a1, a2⟩, b1, b2⟩, x1, x2⟩, ⟨⟨c1, c2⟩, d1, d2⟩, y1, y2⟩ := h1
    obtain ⟨e1, e2, e3⟩ := ok_small (n := wv a b + wv c d) (by omega) (by omega)
    obtain ⟨p1, p2⟩ := p_ok e1
    rw [p1, p2, inU_iff.2 ⟨b1, b2⟩, inU_iff.2 ⟨d1, d2⟩]
    simp only [Bool.and_self, cond_true]
    have w1 : wv a b = a * 18446744073709551616 + b := rfl
    have w2 : wv c d = c * 18446744073709551616 + d := rfl
    by_cases s1 : a < 0 <;> by_cases s2 : c < 0
    · rw [decide_eq_true s1, decide_eq_true s2, decide_eq_true (show hiW (wv a b + wv c d) < 0 by omega)]; rfl
    · rw [decide_eq_true s1, decide_eq_false s2]; rfl
    · rw [decide_eq_false s1, decide_eq_true s2]; rfl
    · rw [decide_eq_false s1, decide_eq_false s2, decide_eq_false (show ¬ hiW (wv a b + wv c d) < 0 by omega)]; rfl
  · cases h
noncomputable def ΓLf3 : Orc := addVal 71 gRAdd ΓLf2
theorem OkLf3 : ΓLf3.Ok Try.prog := addVal_ok OkLf2 gRAdd_ok
theorem gRSub_ok : ∀ vs r, gWSub vs = some (true, r) → ∀ m, CallOk Try.prog 73 (vs.map .v) m (.v r) m := by
  intro vs r h
  unfold gWSub at h
  split at h
  · rename_i a b c d
    obtain ⟨h1, rfl⟩ := some_t h
    refine runV (vs := [Wd a b, Wd c d]) (Λ := L0) (m' := M0) OkBd Try.func73 rfl (fun z _ _ => l0Ok' _ z) ?_
    refine (runRSub a b c d).trans ?_
    rw [Bool.and_eq_true, smW_iff, smW_iff, inW_iff, inW_iff] at h1
    obtain ⟨⟨⟨⟨a1, a2⟩, b1, b2⟩, x1, x2⟩, ⟨⟨c1, c2⟩, d1, d2⟩, y1, y2⟩ := h1
    obtain ⟨q1, q2, q3⟩ := ok_small (n := -wv c d) (by omega) (by omega)
    obtain ⟨r1, r2⟩ := p_ok q1
    obtain ⟨v1, v2⟩ := wv_Wn q1
    rw [inW_iff] at v2
    rw [r1, r2, v1, ← Int.sub_eq_add_neg]
    obtain ⟨e1, e2, e3⟩ := ok_small (n := wv a b - wv c d) (by omega) (by omega)
    obtain ⟨p1, p2⟩ := p_ok e1
    rw [p1, p2, inU_iff.2 ⟨b1, b2⟩, inU_iff.2 ⟨d1, d2⟩, inU_iff.2 v2.2]
    simp only [Bool.and_self, cond_true]
    have w1 : wv a b = a * 18446744073709551616 + b := rfl
    have w2 : wv c d = c * 18446744073709551616 + d := rfl
    by_cases s1 : a < 0 <;> by_cases s2 : c < 0
    · rw [decide_eq_true s1, decide_eq_true s2]; rfl
    · rw [decide_eq_true s1, decide_eq_false s2, decide_eq_true (show hiW (wv a b - wv c d) < 0 by omega)]; rfl
    · rw [decide_eq_false s1, decide_eq_true s2, decide_eq_false (show ¬ hiW (wv a b - wv c d) < 0 by omega)]; rfl
    · rw [decide_eq_false s1, decide_eq_false s2]; rfl
  · cases h
noncomputable def ΓLf0 : Orc := addVal 73 gWSub ΓLf3
theorem OkLf0 : ΓLf0.Ok Try.prog := addVal_ok OkLf3 gRSub_ok
end Go.Proofs.Ytcjkkfhdnealpaa

namespace Go.Proofs.Ytcjkkfhdnealpaa
open Go Go.Proofs Go.Sx
set_option linter.unusedVariables false
/-! norm -/
/-! cast -/

/-! rep ((L.getD ((wI (k + (1 : Int))).tmod (L.length : Int)).toNat []).headD (Dat.n (0 : Int))).toI => (pX L (nx L k)) -/
/-! rep ((L.getD ((wI (k + (1 : Int))).tmod (L.length : Int)).toNat []).tail.headD (Dat.n (0 : Int))).toI => (pY L (nx L k)) -/
/-! rep (wI (k + (1 : Int))).tmod (L.length : Int) => nx L k -/
/-! rep (((L.getD k.toNat []).headD (Dat.n (0 : Int))).toI) => (pX L k) -/
/-! rep (((L.getD k.toNat []).tail.headD (Dat.n (0 : Int))).toI) => (pY L k) -/
/-! rep ((L.getD k.toNat []).headD (Dat.n (0 : Int))).toI => (pX L k) -/
/-! rep ((L.getD k.toNat []).tail.headD (Dat.n (0 : Int))).toI => (pY L k) -/

noncomputable def bdLf : Code := loopAt (Try.f25.body.getD .skip) 0
def kLf : List Bool := maskOf 49 [0,3,4]
def xLf (e : Ex) : List Bool := match e with
  | .exit _ => maskOf 49 [3]
  | .ret => maskOf 49 [2]
  | .normal => maskOf 49 [0,3,4]
def KLf (e : Ex) (st : St) : Option (Ex × St) := some (e, cutC 0 1 (xLf e) st)
set_option maxRecDepth 20000 in
theorem stepLf (L : List (List Dat)) (own : Bool) (mark : Bool) (a : Int) (b : Int) (k : Int) (n : Nat) : evLoop ΓLf0 Try.prog L0 (cutC 0 1 kLf) bdLf (n + 1) (mk kLf [.row 0, .ptr 0 0, .v (I k)] ⟨[[.v (I a), .v (UU b)]], [true], [rP L own mark]⟩) KLf =
    (bif decide (k < (L.length : Int)) then (bif atG L k then (bif decide ((0 : Int) ≤ k) && decide (k < (L.length : Int)) then (bif inI (pX L k) && inI (pY L (nx L k)) then (bif smW a b && smW (pHi ((pX L k) * pY L (nx L k))) (pLo ((pX L k) * pY L (nx L k))) then (same ((bif decide ((0 : Int) ≤ k) && decide (k < (L.length : Int)) then (bif inI (pY L k) && inI (pX L (nx L k)) then (bif smW (hiW (wv a b + wv (pHi ((pX L k) * pY L (nx L k))) (pLo ((pX L k) * pY L (nx L k))))) (loW (wv a b + wv (pHi ((pX L k) * pY L (nx L k))) (pLo ((pX L k) * pY L (nx L k))))) && smW (pHi ((pY L k) * pX L (nx L k))) (pLo ((pY L k) * pX L (nx L k))) then (same (evLoop ΓLf0 Try.prog L0 (cutC 0 1 kLf) bdLf n (mk kLf [.row 0, .ptr 0 0, .v (I (wI (k + (1 : Int))))] ⟨[[.v (I (hiW (wv (hiW (wv a b + wv (pHi ((pX L k) * pY L (nx L k))) (pLo ((pX L k) * pY L (nx L k))))) (loW (wv a b + wv (pHi ((pX L k) * pY L (nx L k))) (pLo ((pX L k) * pY L (nx L k))))) - wv (pHi ((pY L k) * pX L (nx L k))) (pLo ((pY L k) * pX L (nx L k)))))), .v (.int .u64 (loW (wv (hiW (wv a b + wv (pHi ((pX L k) * pY L (nx L k))) (pLo ((pX L k) * pY L (nx L k))))) (loW (wv a b + wv (pHi ((pX L k) * pY L (nx L k))) (pLo ((pX L k) * pY L (nx L k))))) - wv (pHi ((pY L k) * pX L (nx L k))) (pLo ((pY L k) * pX L (nx L k))))))]], [true], [.live ⟨24, [.num .i64, .num .i64], L, own, mark⟩]⟩) KLf) (evLoop ΓLf0 Try.prog L0 (cutC 0 1 kLf) bdLf n (mk kLf [.row 0, .ptr 0 0, .v (I (wI (k + (1 : Int))))] ⟨[[.v (I (hiW (wv (hiW (wv a b + wv (pHi ((pX L k) * pY L (nx L k))) (pLo ((pX L k) * pY L (nx L k))))) (loW (wv a b + wv (pHi ((pX L k) * pY L (nx L k))) (pLo ((pX L k) * pY L (nx L k))))) - wv (pHi ((pY L k) * pX L (nx L k))) (pLo ((pY L k) * pX L (nx L k)))))), .v (.int .u64 (loW (wv (hiW (wv a b + wv (pHi ((pX L k) * pY L (nx L k))) (pLo ((pX L k) * pY L (nx L k))))) (loW (wv a b + wv (pHi ((pX L k) * pY L (nx L k))) (pLo ((pX L k) * pY L (nx L k))))) - wv (pHi ((pY L k) * pX L (nx L k))) (pLo ((pY L k) * pX L (nx L k))))))]], [true], [.live ⟨24, [.num .i64, .num .i64], L, own, mark⟩]⟩) KLf)) else none) else none) else none)) ((bif decide ((0 : Int) ≤ k) && decide (k < (L.length : Int)) then (bif inI (pY L k) && inI (pX L (nx L k)) then (bif smW (hiW (wv a b + wv (pHi ((pX L k) * pY L (nx L k))) (pLo ((pX L k) * pY L (nx L k))))) (loW (wv a b + wv (pHi ((pX L k) * pY L (nx L k))) (pLo ((pX L k) * pY L (nx L k))))) && smW (pHi ((pY L k) * pX L (nx L k))) (pLo ((pY L k) * pX L (nx L k))) then (same (evLoop ΓLf0 Try.prog L0 (cutC 0 1 kLf) bdLf n (mk kLf [.row 0, .ptr 0 0, .v (I (wI (k + (1 : Int))))] ⟨[[.v (I (hiW (wv (hiW (wv a b + wv (pHi ((pX L k) * pY L (nx L k))) (pLo ((pX L k) * pY L (nx L k))))) (loW (wv a b + wv (pHi ((pX L k) * pY L (nx L k))) (pLo ((pX L k) * pY L (nx L k))))) - wv (pHi ((pY L k) * pX L (nx L k))) (pLo ((pY L k) * pX L (nx L k)))))), .v (.int .u64 (loW (wv (hiW (wv a b + wv (pHi ((pX L k) * pY L (nx L k))) (pLo ((pX L k) * pY L (nx L k))))) (loW (wv a b + wv (pHi ((pX L k) * pY L (nx L k))) (pLo ((pX L k) * pY L (nx L k))))) - wv (pHi ((pY L k) * pX L (nx L k))) (pLo ((pY L k) * pX L (nx L k))))))]], [true], [.live ⟨24, [.num .i64, .num .i64], L, own, mark⟩]⟩) KLf) (evLoop ΓLf0 Try.prog L0 (cutC 0 1 kLf) bdLf n (mk kLf [.row 0, .ptr 0 0, .v (I (wI (k + (1 : Int))))] ⟨[[.v (I (hiW (wv (hiW (wv a b + wv (pHi ((pX L k) * pY L (nx L k))) (pLo ((pX L k) * pY L (nx L k))))) (loW (wv a b + wv (pHi ((pX L k) * pY L (nx L k))) (pLo ((pX L k) * pY L (nx L k))))) - wv (pHi ((pY L k) * pX L (nx L k))) (pLo ((pY L k) * pX L (nx L k)))))), .v (.int .u64 (loW (wv (hiW (wv a b + wv (pHi ((pX L k) * pY L (nx L k))) (pLo ((pX L k) * pY L (nx L k))))) (loW (wv a b + wv (pHi ((pX L k) * pY L (nx L k))) (pLo ((pX L k) * pY L (nx L k))))) - wv (pHi ((pY L k) * pX L (nx L k))) (pLo ((pY L k) * pX L (nx L k))))))]], [true], [.live ⟨24, [.num .i64, .num .i64], L, own, mark⟩]⟩) KLf)) else none) else none) else none))) else none) else none) else none) else none) else some ((.exit 0), mk (xLf (.exit 0)) [.ptr 0 0] ⟨[[.v (I a), .v (.int .u64 b)]], [true], [.live ⟨24, [.num .i64, .num .i64], L, own, mark⟩]⟩)) := by kernel_rfl
noncomputable def ELf (n : Nat) (L : List (List Dat)) (own : Bool) (mark : Bool) (a : Int) (b : Int) (k : Int) : Option (Ex × St) :=
  evLoop ΓLf0 Try.prog L0 (cutC 0 1 kLf) bdLf n (mk kLf [.row 0, .ptr 0 0, .v (I k)] ⟨[[.v (I a), .v (UU b)]], [true], [rP L own mark]⟩) KLf
noncomputable def bdLg : Code := loopAt (Try.f24.body.getD .skip) 0
def kLg : List Bool := maskOf 46 [0,3,12,13]
def xLg (e : Ex) : List Bool := match e with
  | .exit _ => maskOf 46 [3]
  | .ret => maskOf 46 [2]
  | .normal => maskOf 46 [0,3,12,13]
def KLg (e : Ex) (st : St) : Option (Ex × St) := some (e, cutC 0 1 (xLg e) st)
set_option maxRecDepth 20000 in
theorem stepLg (L : List (List Dat)) (own : Bool) (mark : Bool) (a : Int) (b : Int) (nn : Int) (k : Int) (n : Nat) : evLoop ΓLf0 Try.prog L0 (cutC 0 1 kLg) bdLg (n + 1) (mk kLg [.row 0, .ptr 0 0, .v (I nn), .v (I k)] ⟨[[.v (I a), .v (UU b)]], [true], [rP L own mark]⟩) KLg =
    (bif decide (k < nn) then (bif atG L k then (bif inI (pX L k) && inI (pY L (nx L k)) then (bif inW a b && inW (hiW (pX L k * pY L (nx L k))) (loW (pX L k * pY L (nx L k))) then (same ((bif inI (pY L k) && inI (pX L (nx L k)) then (bif smW (hiW (wv a b + wv (hiW (pX L k * pY L (nx L k))) (loW (pX L k * pY L (nx L k))))) (loW (wv a b + wv (hiW (pX L k * pY L (nx L k))) (loW (pX L k * pY L (nx L k))))) && smW (hiW (pY L k * pX L (nx L k))) (loW (pY L k * pX L (nx L k))) then (same (evLoop ΓLf0 Try.prog L0 (cutC 0 1 kLg) bdLg n (mk kLg [.row 0, .ptr 0 0, .v (I nn), .v (I (wI (k + (1 : Int))))] ⟨[[.v (I (hiW (wv (hiW (wv a b + wv (hiW (pX L k * pY L (nx L k))) (loW (pX L k * pY L (nx L k))))) (loW (wv a b + wv (hiW (pX L k * pY L (nx L k))) (loW (pX L k * pY L (nx L k))))) - wv (hiW (pY L k * pX L (nx L k))) (loW (pY L k * pX L (nx L k)))))), .v (.int .u64 (loW (wv (hiW (wv a b + wv (hiW (pX L k * pY L (nx L k))) (loW (pX L k * pY L (nx L k))))) (loW (wv a b + wv (hiW (pX L k * pY L (nx L k))) (loW (pX L k * pY L (nx L k))))) - wv (hiW (pY L k * pX L (nx L k))) (loW (pY L k * pX L (nx L k))))))]], [true], [.live ⟨24, [.num .i64, .num .i64], L, own, mark⟩]⟩) KLg) (evLoop ΓLf0 Try.prog L0 (cutC 0 1 kLg) bdLg n (mk kLg [.row 0, .ptr 0 0, .v (I nn), .v (I (wI (k + (1 : Int))))] ⟨[[.v (I (hiW (wv (hiW (wv a b + wv (hiW (pX L k * pY L (nx L k))) (loW (pX L k * pY L (nx L k))))) (loW (wv a b + wv (hiW (pX L k * pY L (nx L k))) (loW (pX L k * pY L (nx L k))))) - wv (hiW (pY L k * pX L (nx L k))) (loW (pY L k * pX L (nx L k)))))), .v (.int .u64 (loW (wv (hiW (wv a b + wv (hiW (pX L k * pY L (nx L k))) (loW (pX L k * pY L (nx L k))))) (loW (wv a b + wv (hiW (pX L k * pY L (nx L k))) (loW (pX L k * pY L (nx L k))))) - wv (hiW (pY L k * pX L (nx L k))) (loW (pY L k * pX L (nx L k))))))]], [true], [.live ⟨24, [.num .i64, .num .i64], L, own, mark⟩]⟩) KLg)) else none) else none)) ((bif inI (pY L k) && inI (pX L (nx L k)) then (bif smW (hiW (wv a b + wv (hiW (pX L k * pY L (nx L k))) (loW (pX L k * pY L (nx L k))))) (loW (wv a b + wv (hiW (pX L k * pY L (nx L k))) (loW (pX L k * pY L (nx L k))))) && smW (hiW (pY L k * pX L (nx L k))) (loW (pY L k * pX L (nx L k))) then (same (evLoop ΓLf0 Try.prog L0 (cutC 0 1 kLg) bdLg n (mk kLg [.row 0, .ptr 0 0, .v (I nn), .v (I (wI (k + (1 : Int))))] ⟨[[.v (I (hiW (wv (hiW (wv a b + wv (hiW (pX L k * pY L (nx L k))) (loW (pX L k * pY L (nx L k))))) (loW (wv a b + wv (hiW (pX L k * pY L (nx L k))) (loW (pX L k * pY L (nx L k))))) - wv (hiW (pY L k * pX L (nx L k))) (loW (pY L k * pX L (nx L k)))))), .v (.int .u64 (loW (wv (hiW (wv a b + wv (hiW (pX L k * pY L (nx L k))) (loW (pX L k * pY L (nx L k))))) (loW (wv a b + wv (hiW (pX L k * pY L (nx L k))) (loW (pX L k * pY L (nx L k))))) - wv (hiW (pY L k * pX L (nx L k))) (loW (pY L k * pX L (nx L k))))))]], [true], [.live ⟨24, [.num .i64, .num .i64], L, own, mark⟩]⟩) KLg) (evLoop ΓLf0 Try.prog L0 (cutC 0 1 kLg) bdLg n (mk kLg [.row 0, .ptr 0 0, .v (I nn), .v (I (wI (k + (1 : Int))))] ⟨[[.v (I (hiW (wv (hiW (wv a b + wv (hiW (pX L k * pY L (nx L k))) (loW (pX L k * pY L (nx L k))))) (loW (wv a b + wv (hiW (pX L k * pY L (nx L k))) (loW (pX L k * pY L (nx L k))))) - wv (hiW (pY L k * pX L (nx L k))) (loW (pY L k * pX L (nx L k)))))), .v (.int .u64 (loW (wv (hiW (wv a b + wv (hiW (pX L k * pY L (nx L k))) (loW (pX L k * pY L (nx L k))))) (loW (wv a b + wv (hiW (pX L k * pY L (nx L k))) (loW (pX L k * pY L (nx L k))))) - wv (hiW (pY L k * pX L (nx L k))) (loW (pY L k * pX L (nx L k))))))]], [true], [.live ⟨24, [.num .i64, .num .i64], L, own, mark⟩]⟩) KLg)) else none) else none))) else none) else none) else none) else some ((.exit 0), mk (xLg (.exit 0)) [.ptr 0 0] ⟨[[.v (I a), .v (.int .u64 b)]], [true], [.live ⟨24, [.num .i64, .num .i64], L, own, mark⟩]⟩)) := by kernel_rfl
noncomputable def ELg (n : Nat) (L : List (List Dat)) (own : Bool) (mark : Bool) (a : Int) (b : Int) (nn : Int) (k : Int) : Option (Ex × St) :=
  evLoop ΓLf0 Try.prog L0 (cutC 0 1 kLg) bdLg n (mk kLg [.row 0, .ptr 0 0, .v (I nn), .v (I k)] ⟨[[.v (I a), .v (UU b)]], [true], [rP L own mark]⟩) KLg
theorem prod_bd {u v : Int} (h1 : -1073741824 ≤ u) (h2 : u ≤ 1073741824) (h3 : -1073741824 ≤ v) (h4 : v ≤ 1073741824) : -1152921504606846976 ≤ u * v ∧ u * v ≤ 1152921504606846976 := by
  have a1 := mul_nn (show 0 ≤ 1073741824 - u by omega) (show 0 ≤ 1073741824 + v by omega)
  have a2 := mul_nn (show 0 ≤ 1073741824 + u by omega) (show 0 ≤ 1073741824 - v by omega)
  have a3 := mul_nn (show 0 ≤ 1073741824 - u by omega) (show 0 ≤ 1073741824 - v by omega)
  have a4 := mul_nn (show 0 ≤ 1073741824 + u by omega) (show 0 ≤ 1073741824 + v by omega)
  have e1 : (1073741824 - u) * (1073741824 + v) = 1152921504606846976 + 1073741824 * v - 1073741824 * u - u * v := by grind
  have e2 : (1073741824 + u) * (1073741824 - v) = 1152921504606846976 - 1073741824 * v + 1073741824 * u - u * v := by grind
  have e3 : (1073741824 - u) * (1073741824 - v) = 1152921504606846976 - 1073741824 * v - 1073741824 * u + u * v := by grind
  have e4 : (1073741824 + u) * (1073741824 + v) = 1152921504606846976 + 1073741824 * v + 1073741824 * u + u * v := by grind
  omega
theorem sm_of {n : Int} (h1 : -1267650600228229401496703205376 ≤ n) (h2 : n ≤ 1267650600228229401496703205376) : okW n = true ∧ wv (hiW n) (loW n) = n ∧ smW (hiW n) (loW n) = true ∧ inW (hiW n) (loW n) = true := by
  obtain ⟨e1, _, _⟩ := ok_small (n := n) (by omega) (by omega)
  obtain ⟨v1, v2⟩ := wv_Wn e1
  exact ⟨e1, v1, smW_iff.2 ⟨v2, by omega, by omega⟩, v2⟩
def arS (L : List (List Dat)) (k s : Int) : Int := s + pX L k * pY L (nx L k) - pY L k * pX L (nx L k)
/-- Twice the area. -/
def area2 (L : List (List Dat)) : Int := foF (arS L) L.length 0 0
def arI (k s : Int) : Prop := -(k * 4611686018427387904) ≤ s ∧ s ≤ k * 4611686018427387904
theorem ar_bd {L : List (List Dat)} (h : IsArea L) {k : Int} (k0 : 0 ≤ k) (k1 : k < (L.length : Int)) : (-1152921504606846976 ≤ pX L k * pY L (nx L k) ∧ pX L k * pY L (nx L k) ≤ 1152921504606846976) ∧ (-1152921504606846976 ≤ pY L k * pX L (nx L k) ∧ pY L k * pX L (nx L k) ≤ 1152921504606846976) := by
  have n := nx_lt h k0 k1
  have a := h.near k k0 k1
  have b := h.near _ n.1 n.2
  exact ⟨prod_bd (by omega) (by omega) (by omega) (by omega), prod_bd (by omega) (by omega) (by omega) (by omega)⟩
theorem ar_step {L : List (List Dat)} (h : IsArea L) {k s : Int} (k0 : 0 ≤ k) (k1 : k < (L.length : Int)) (hi : arI k s) : arI (k + 1) (arS L k s) := by
  obtain ⟨b1, b2⟩ := ar_bd h k0 k1
  unfold arI arS at *
  omega
theorem in_near {n : Int} (h1 : -1073741824 ≤ n) (h2 : n ≤ 1073741824) : inI n = true := inI_iff.2 (by omega)
theorem loopLf (L : List (List Dat)) (own mark : Bool) (ha : areaB L = true) : ELf (L.length + 1) L own mark 0 0 0 = some (.exit 0, mk (xLf (.exit 0)) [.ptr 0 0] ⟨[[.v (I (hiW (area2 L))), .v (UU (loW (area2 L)))]], [true], [rP L own mark]⟩) := by
  have h := isArea ha
  have l1 := h.lo
  have l2 := h.hi
  refine foldAll (arS L) arI (L.length : Int) (fun n k s => ELf n L own mark (hiW s) (loW s) k) (fun s => some (.exit 0, mk (xLf (.exit 0)) [.ptr 0 0] ⟨[[.v (I (hiW s)), .v (UU (loW s))]], [true], [rP L own mark]⟩)) (fun n k s hk _ => ?_) (fun k s hk hi => ar_step h hk.1 hk.2 hi) (fun n k s hk hi => ?_) L.length 0 0 (by omega) (by omega) (by unfold arI; omega)
  · refine (stepLf L own mark (hiW s) (loW s) k n).trans ?_
    rw [decide_eq_false hk]
    rfl
  · refine (stepLf L own mark (hiW s) (loW s) k n).trans ?_
    have n1 := nx_lt h hk.1 hk.2
    have na := h.near k hk.1 hk.2
    have nb := h.near _ n1.1 n1.2
    obtain ⟨b1, b2⟩ := ar_bd h hk.1 hk.2
    unfold arI at hi
    have at1 : atG L k = true := atG_iff.2 (by omega)
    obtain ⟨s1, s2, s3, s4⟩ := sm_of (n := s) (by omega) (by omega)
    obtain ⟨x1, x2, x3, x4⟩ := sm_of (n := pX L k * pY L (nx L k)) (by omega) (by omega)
    obtain ⟨y1, y2, y3, y4⟩ := sm_of (n := pY L k * pX L (nx L k)) (by omega) (by omega)
    obtain ⟨t1, t2, t3, t4⟩ := sm_of (n := s + pX L k * pY L (nx L k)) (by omega) (by omega)
    have i1 := in_near (n := pX L k) (by omega) (by omega)
    have i2 := in_near (n := pY L k) (by omega) (by omega)
    have i3 := in_near (n := pX L (nx L k)) (by omega) (by omega)
    have i4 := in_near (n := pY L (nx L k)) (by omega) (by omega)
    obtain ⟨p1, p2⟩ := p_ok x1
    obtain ⟨p3, p4⟩ := p_ok y1
    rw [p1, p2, p3, p4]
    simp only [same_self, decide_eq_true hk.2, at1, i1, i2, i3, i4, decide_eq_true hk.1, s3, x3, y3, s2, x2, y2, t2, t3, Bool.and_self, cond_true, wI_id (n := k + 1) (show -9223372036854775808 ≤ k + 1 ∧ k + 1 < 9223372036854775808 by omega)]
    rfl
theorem loopLg (L : List (List Dat)) (own mark : Bool) (ha : areaB L = true) : ELg (L.length + 1) L own mark 0 0 (L.length : Int) 0 = some (.exit 0, mk (xLg (.exit 0)) [.ptr 0 0] ⟨[[.v (I (hiW (area2 L))), .v (UU (loW (area2 L)))]], [true], [rP L own mark]⟩) := by
  have h := isArea ha
  have l1 := h.lo
  have l2 := h.hi
  refine foldAll (arS L) arI (L.length : Int) (fun n k s => ELg n L own mark (hiW s) (loW s) (L.length : Int) k) (fun s => some (.exit 0, mk (xLg (.exit 0)) [.ptr 0 0] ⟨[[.v (I (hiW s)), .v (UU (loW s))]], [true], [rP L own mark]⟩)) (fun n k s hk _ => ?_) (fun k s hk hi => ar_step h hk.1 hk.2 hi) (fun n k s hk hi => ?_) L.length 0 0 (by omega) (by omega) (by unfold arI; omega)
  · refine (stepLg L own mark (hiW s) (loW s) (L.length : Int) k n).trans ?_
    rw [decide_eq_false hk]
    rfl
  · refine (stepLg L own mark (hiW s) (loW s) (L.length : Int) k n).trans ?_
    have n1 := nx_lt h hk.1 hk.2
    have na := h.near k hk.1 hk.2
    have nb := h.near _ n1.1 n1.2
    obtain ⟨b1, b2⟩ := ar_bd h hk.1 hk.2
    unfold arI at hi
    have at1 : atG L k = true := atG_iff.2 (by omega)
    obtain ⟨s1, s2, s3, s4⟩ := sm_of (n := s) (by omega) (by omega)
    obtain ⟨x1, x2, x3, x4⟩ := sm_of (n := pX L k * pY L (nx L k)) (by omega) (by omega)
    obtain ⟨y1, y2, y3, y4⟩ := sm_of (n := pY L k * pX L (nx L k)) (by omega) (by omega)
    obtain ⟨t1, t2, t3, t4⟩ := sm_of (n := s + pX L k * pY L (nx L k)) (by omega) (by omega)
    have i1 := in_near (n := pX L k) (by omega) (by omega)
    have i2 := in_near (n := pY L k) (by omega) (by omega)
    have i3 := in_near (n := pX L (nx L k)) (by omega) (by omega)
    have i4 := in_near (n := pY L (nx L k)) (by omega) (by omega)
    simp only [same_self, decide_eq_true hk.2, at1, i1, i2, i3, i4, s4, x4, y3, s2, x2, y2, t2, t3, Bool.and_self, cond_true, wI_id (n := k + 1) (show -9223372036854775808 ≤ k + 1 ∧ k + 1 < 9223372036854775808 by omega)]
    rfl
def leftB (L : List (List Dat)) : Bool := areaB L && decide (0 < area2 L)
theorem ar2_in {L : List (List Dat)} (ha : areaB L = true) : inW (hiW (area2 L)) (loW (area2 L)) = true ∧ wv (hiW (area2 L)) (loW (area2 L)) = area2 L := by
  have h := isArea ha
  have := foF_inv (f := arS L) (N := (L.length : Int)) (I := arI) (fun k s hk hi => ar_step h hk.1 hk.2 hi) L.length 0 0 (by omega) (by omega) (by unfold arI; omega)
  have l2 := h.hi
  rw [show (0 : Int) + (L.length : Int) = (L.length : Int) by omega] at this
  have t1 := this.1
  have t2 := this.2
  obtain ⟨_, e2, _, e4⟩ := sm_of (n := area2 L) (by unfold area2; omega) (by unfold area2; omega)
  exact ⟨e4, e2⟩
def GLf (vals : List SV) (m : Mem) : Option (Bool × LT) :=
  match vals, m with
  | [.row 0, .ptr 0 0, .v (.int .i64 k)], ⟨[[.v (.int .i64 a), .v (.int .u64 b)]], [true], [.live ⟨24, [.num .i64, .num .i64], L, own, mark⟩]⟩ => some (k == 0 && (a == 0 && (b == 0 && areaB L)), .leaf (.exit 0) (mk (xLf (.exit 0)) [.ptr 0 0] ⟨[[.v (I (hiW (area2 L))), .v (UU (loW (area2 L)))]], [true], [rP L own mark]⟩))
  | _, _ => none
noncomputable def ΛLf : LoopOrc := fun _ st => viaT 0 1 kLf GLf st
theorem loopOkLf (z : Base) (z1 : z.L.length = 0) (z2 : z.U.length = 1) : LoopOk ΛLf Try.prog z bdLf := by
  refine loop_okT (Λ := L0) (kx := xLf) OkLf0 mixed z1 z2 (fun b hb st t h => by cases h) (G := GLf) (fun _ => rfl) ?_
  intro vals m t h
  unfold GLf at h
  split at h
  · rename_i k a b L own mark
    obtain ⟨h1, rfl⟩ := some_t h
    simp only [Bool.and_eq_true, beq_iff_eq] at h1
    obtain ⟨rfl, rfl, rfl, ha⟩ := h1
    exact ⟨_, loopLf L own mark ha⟩
  · cases h
theorem loopsLf : loopsOf (Try.f25.body.getD .skip) = [bdLf] := by kernel_rfl
set_option maxRecDepth 20000 in
theorem runRlf (L : List (List Dat)) (own : Bool) (mark : Bool) : runG ΓLf0 ΛLf Try.prog Try.f25 [.row 0] ⟨[], [], [rP L own mark]⟩ = 
    (bif L.length.ble (1000000) then (bif !areaR L then some (.v (Bo false), ⟨[], [], [.live ⟨24, [.num .i64, .num .i64], L, own, mark⟩]⟩) else (bif true && (true && (true && areaB L)) then (bif inW (hiW (area2 L)) (loW (area2 L)) && true then some (.v (Bo (decide (cmpI (wv (hiW (area2 L)) (loW (area2 L))) (0 : Int) > (0 : Int)))), ⟨[], [], [.live ⟨24, [.num .i64, .num .i64], L, own, mark⟩]⟩) else none) else none)) else none) := by kernel_rfl
def gRlf (xs : List SV) (m : Mem) : Option (Bool × Value) :=
  match xs, m with
  | [.row 0], ⟨[], [], [.live ⟨24, [.num .i64, .num .i64], L, own, mark⟩]⟩ => some (Nat.ble L.length 1000000, Bo (leftB L))
  | _, _ => none
theorem gRlf_ok : ∀ xs m r, gRlf xs m = some (true, r) → CallOk Try.prog 25 xs m (.v r) m := by
  intro xs m r h
  unfold gRlf at h
  split at h
  · rename_i L own mark
    obtain ⟨h1, rfl⟩ := some_t h
    refine runOk (Λ := ΛLf) OkLf0 Try.func25 rfl (fun z z1 z2 => oneLoop loopsLf (loopOkLf z z1 z2)) ?_
    refine (runRlf L own mark).trans ?_
    rw [h1]
    unfold leftB
    cases ha : areaB L
    · simp only [area_eq, ha, Bool.not_false, cond_true, Bool.false_and]
    · obtain ⟨e1, e2⟩ := ar2_in ha
      simp only [area_eq, ha, e1, e2, Bool.not_true, cond_false, cond_true, Bool.and_self, Bool.true_and]
      by_cases q : 0 < area2 L
      · rw [decide_eq_true q, decide_eq_true (cmpI_pos.2 q)]
      · rw [decide_eq_false q, decide_eq_false (fun x => q (cmpI_pos.1 x))]
  · cases h
noncomputable def ΓLf4 : Orc := addRd 25 gRlf ΓLf0
theorem OkLf4 : ΓLf4.Ok Try.prog := addRd_ok OkLf0 gRlf_ok
def GLg (vals : List SV) (m : Mem) : Option (Bool × LT) :=
  match vals, m with
  | [.row 0, .ptr 0 0, .v (.int .i64 nn), .v (.int .i64 k)], ⟨[[.v (.int .i64 a), .v (.int .u64 b)]], [true], [.live ⟨24, [.num .i64, .num .i64], L, own, mark⟩]⟩ => some (nn == (L.length : Int) && (k == 0 && (a == 0 && (b == 0 && areaB L))), .leaf (.exit 0) (mk (xLg (.exit 0)) [.ptr 0 0] ⟨[[.v (I (hiW (area2 L))), .v (UU (loW (area2 L)))]], [true], [rP L own mark]⟩))
  | _, _ => none
noncomputable def ΛLg : LoopOrc := fun _ st => viaT 0 1 kLg GLg st
theorem loopOkLg (z : Base) (z1 : z.L.length = 0) (z2 : z.U.length = 1) : LoopOk ΛLg Try.prog z bdLg := by
  refine loop_okT (Λ := L0) (kx := xLg) OkLf0 mixed z1 z2 (fun b hb st t h => by cases h) (G := GLg) (fun _ => rfl) ?_
  intro vals m t h
  unfold GLg at h
  split at h
  · rename_i nn k a b L own mark
    obtain ⟨h1, rfl⟩ := some_t h
    simp only [Bool.and_eq_true, beq_iff_eq] at h1
    obtain ⟨rfl, rfl, rfl, rfl, ha⟩ := h1
    exact ⟨_, loopLg L own mark ha⟩
  · cases h
theorem loopsLg : loopsOf (Try.f24.body.getD .skip) = [bdLg] := by kernel_rfl
set_option maxRecDepth 20000 in
theorem runPlf (L : List (List Dat)) (own : Bool) (mark : Bool) : runG ΓLf4 ΛLg Try.prog Try.f24 [.row 0] ⟨[], [], [rP L own mark]⟩ = 
    (bif L.length.ble (1000000) then (bif !areaB L then some (.v (Bo false), ⟨[], [], [.live ⟨24, [.num .i64, .num .i64], L, own, mark⟩]⟩) else (bif (L.length : Int) == (L.length : Int) && (true && (true && (true && areaB L))) then (bif inW (hiW (area2 L)) (loW (area2 L)) then some (.v (Bo (decide (cmpI (wv (hiW (area2 L)) (loW (area2 L))) (0 : Int) > (0 : Int)))), ⟨[], [], [.live ⟨24, [.num .i64, .num .i64], L, own, mark⟩]⟩) else none) else none)) else none) := by kernel_rfl
def gPlf (xs : List SV) (m : Mem) : Option (Bool × Value) :=
  match xs, m with
  | [.row 0], ⟨[], [], [.live ⟨24, [.num .i64, .num .i64], L, own, mark⟩]⟩ => some (Nat.ble L.length 1000000, Bo (leftB L))
  | _, _ => none
theorem gPlf_ok : ∀ xs m r, gPlf xs m = some (true, r) → CallOk Try.prog 24 xs m (.v r) m := by
  intro xs m r h
  unfold gPlf at h
  split at h
  · rename_i L own mark
    obtain ⟨h1, rfl⟩ := some_t h
    refine runOk (Λ := ΛLg) OkLf4 Try.func24 rfl (fun z z1 z2 => oneLoop loopsLg (loopOkLg z z1 z2)) ?_
    refine (runPlf L own mark).trans ?_
    rw [h1]
    unfold leftB
    cases ha : areaB L
    · simp only [Bool.not_false, cond_true, Bool.false_and]
    · obtain ⟨e1, e2⟩ := ar2_in ha
      simp only [e1, e2, Bool.not_true, cond_false, cond_true, beq_self_eq_true, Bool.and_self, Bool.true_and]
      by_cases q : 0 < area2 L
      · rw [decide_eq_true q, decide_eq_true (cmpI_pos.2 q)]
      · rw [decide_eq_false q, decide_eq_false (fun x => q (cmpI_pos.1 x))]
  · cases h
noncomputable def ΓLf : Orc := addRd 24 gPlf ΓLf4
theorem OkLf : ΓLf.Ok Try.prog := addRd_ok OkLf4 gPlf_ok
end Go.Proofs.Ytcjkkfhdnealpaa

namespace Go.Proofs.Ytcjkkfhdnealpaa
open Go Go.Proofs Go.Sx
set_option linter.unusedVariables false
/-! norm -/
/-! cast -/
/-! repp (if wI ((0 : Int) - a2) > if a2 > if wI ((0 : Int) - a1) > a1 then wI ((0 : Int) - a1) else a1 then a2 else if wI ((0 : Int) - a1) > a1 then wI ((0 : Int) - a1) else a1 then wI ((0 : Int) - a2) else if a2 > if wI ((0 : Int) - a1) > a1 then wI ((0 : Int) - a1) else a1 then a2 else if wI ((0 : Int) - a1) > a1 then wI ((0 : Int) - a1) else a1) ==> (mxA a1 a2) -/
/-! repp (if a2 < a1 then a2 else a1) ==> (mnA a1 a2) -/
/-! repp (if wI ((0 : Int) - b2) > if b2 > if wI ((0 : Int) - b1) > b1 then wI ((0 : Int) - b1) else b1 then b2 else if wI ((0 : Int) - b1) > b1 then wI ((0 : Int) - b1) else b1 then wI ((0 : Int) - b2) else if b2 > if wI ((0 : Int) - b1) > b1 then wI ((0 : Int) - b1) else b1 then b2 else if wI ((0 : Int) - b1) > b1 then wI ((0 : Int) - b1) else b1) ==> (mxA b1 b2) -/
/-! repp (if b2 < b1 then b2 else b1) ==> (mnA b1 b2) -/
/-! repp (if wI ((0 : Int) - c2) > if c2 > if wI ((0 : Int) - c1) > c1 then wI ((0 : Int) - c1) else c1 then c2 else if wI ((0 : Int) - c1) > c1 then wI ((0 : Int) - c1) else c1 then wI ((0 : Int) - c2) else if c2 > if wI ((0 : Int) - c1) > c1 then wI ((0 : Int) - c1) else c1 then c2 else if wI ((0 : Int) - c1) > c1 then wI ((0 : Int) - c1) else c1) ==> (mxA c1 c2) -/
/-! repp (if c2 < c1 then c2 else c1) ==> (mnA c1 c2) -/
/-! repp (if wI (turnI c1 c2 a1 a2 p1 p2 * turnI a1 a2 b1 b2 c1 c2) < if wI (turnI b1 b2 c1 c2 p1 p2 * turnI a1 a2 b1 b2 c1 c2) < wI (turnI a1 a2 b1 b2 p1 p2 * turnI a1 a2 b1 b2 c1 c2) then wI (turnI b1 b2 c1 c2 p1 p2 * turnI a1 a2 b1 b2 c1 c2) else wI (turnI a1 a2 b1 b2 p1 p2 * turnI a1 a2 b1 b2 c1 c2) then wI (turnI c1 c2 a1 a2 p1 p2 * turnI a1 a2 b1 b2 c1 c2) else if wI (turnI b1 b2 c1 c2 p1 p2 * turnI a1 a2 b1 b2 c1 c2) < wI (turnI a1 a2 b1 b2 p1 p2 * turnI a1 a2 b1 b2 c1 c2) then wI (turnI b1 b2 c1 c2 p1 p2 * turnI a1 a2 b1 b2 c1 c2) else wI (turnI a1 a2 b1 b2 p1 p2 * turnI a1 a2 b1 b2 c1 c2)) ==> (mnT  a1 a2 b1 b2 c1 c2 p1 p2) -/
/-! repp [[Dat.n a1, Dat.n a2], [Dat.n b1, Dat.n b2], [Dat.n c1, Dat.n c2]] ==> (l3 a1 a2 b1 b2 c1 c2) -/
def mxA (x y : Int) : Int := (if wI ((0 : Int) - y) > if y > if wI ((0 : Int) - x) > x then wI ((0 : Int) - x) else x then y else if wI ((0 : Int) - x) > x then wI ((0 : Int) - x) else x then wI ((0 : Int) - y) else if y > if wI ((0 : Int) - x) > x then wI ((0 : Int) - x) else x then y else if wI ((0 : Int) - x) > x then wI ((0 : Int) - x) else x)
def mnA (x y : Int) : Int := (if y < x then y else x)
def mnT (a1 a2 b1 b2 c1 c2 p1 p2 : Int) : Int := (if wI (turnI c1 c2 a1 a2 p1 p2 * turnI a1 a2 b1 b2 c1 c2) < if wI (turnI b1 b2 c1 c2 p1 p2 * turnI a1 a2 b1 b2 c1 c2) < wI (turnI a1 a2 b1 b2 p1 p2 * turnI a1 a2 b1 b2 c1 c2) then wI (turnI b1 b2 c1 c2 p1 p2 * turnI a1 a2 b1 b2 c1 c2) else wI (turnI a1 a2 b1 b2 p1 p2 * turnI a1 a2 b1 b2 c1 c2) then wI (turnI c1 c2 a1 a2 p1 p2 * turnI a1 a2 b1 b2 c1 c2) else if wI (turnI b1 b2 c1 c2 p1 p2 * turnI a1 a2 b1 b2 c1 c2) < wI (turnI a1 a2 b1 b2 p1 p2 * turnI a1 a2 b1 b2 c1 c2) then wI (turnI b1 b2 c1 c2 p1 p2 * turnI a1 a2 b1 b2 c1 c2) else wI (turnI a1 a2 b1 b2 p1 p2 * turnI a1 a2 b1 b2 c1 c2))
def l3 (a1 a2 b1 b2 c1 c2 : Int) : List (List Dat) := [[.n a1, .n a2], [.n b1, .n b2], [.n c1, .n c2]]
set_option maxRecDepth 20000 in
theorem runPTri (a1 a2 b1 b2 c1 c2 p1 p2 : Int) : runG ΓLf L0 Try.prog Try.f7 [.v (.agg #[I a1, I a2]), .v (.agg #[I b1, I b2]), .v (.agg #[I c1, I c2]), .v (.agg #[I p1, I p2])] M0 = 
    (bif !plR p1 p2 then some (.v (Bo true), M0) else (bif decide ((mxA a1 a2) ≤ (1073741824 : Int)) then (bif decide ((mnA a1 a2) ≥ (-1073741824 : Int)) then (bif decide ((mxA b1 b2) ≤ (1073741824 : Int)) then (bif decide ((mnA b1 b2) ≥ (-1073741824 : Int)) then (bif decide ((mxA c1 c2) ≤ (1073741824 : Int)) then (bif decide ((mnA c1 c2) ≥ (-1073741824 : Int)) then (bif !areaB (l3 a1 a2 b1 b2 c1 c2) == (turnI a1 a2 b1 b2 c1 c2 != (0 : Int)) then some (.v (Bo false), M0) else (bif !decide ((mnA c1 c2) ≥ (-1073741824 : Int)) then some (.v (Bo (sideI (l3 a1 a2 b1 b2 c1 c2) p1 p2 == (-1 : Int))), M0) else (bif turnI a1 a2 b1 b2 c1 c2 == (0 : Int) then some (.v (Bo (sideI (l3 a1 a2 b1 b2 c1 c2) p1 p2 == (-1 : Int))), M0) else (bif decide ((mnT  a1 a2 b1 b2 c1 c2 p1 p2) > (0 : Int)) then (bif sideI (l3 a1 a2 b1 b2 c1 c2) p1 p2 == (1 : Int) then some (.v (Bo (leftB (l3 a1 a2 b1 b2 c1 c2) == decide (turnI a1 a2 b1 b2 c1 c2 > (0 : Int)))), M0) else some (.v (Bo false), M0)) else (bif (mnT  a1 a2 b1 b2 c1 c2 p1 p2) == (0 : Int) then (bif sideI (l3 a1 a2 b1 b2 c1 c2) p1 p2 == (0 : Int) then some (.v (Bo (leftB (l3 a1 a2 b1 b2 c1 c2) == decide (turnI a1 a2 b1 b2 c1 c2 > (0 : Int)))), M0) else some (.v (Bo false), M0)) else (bif sideI (l3 a1 a2 b1 b2 c1 c2) p1 p2 == (-1 : Int) then some (.v (Bo (leftB (l3 a1 a2 b1 b2 c1 c2) == decide (turnI a1 a2 b1 b2 c1 c2 > (0 : Int)))), M0) else some (.v (Bo false), M0))))))) else (bif !areaB (l3 a1 a2 b1 b2 c1 c2) == false then some (.v (Bo false), M0) else (bif !decide ((mnA c1 c2) ≥ (-1073741824 : Int)) then some (.v (Bo (sideI (l3 a1 a2 b1 b2 c1 c2) p1 p2 == (-1 : Int))), M0) else (bif turnI a1 a2 b1 b2 c1 c2 == (0 : Int) then some (.v (Bo (sideI (l3 a1 a2 b1 b2 c1 c2) p1 p2 == (-1 : Int))), M0) else (bif decide ((mnT  a1 a2 b1 b2 c1 c2 p1 p2) > (0 : Int)) then (bif sideI (l3 a1 a2 b1 b2 c1 c2) p1 p2 == (1 : Int) then some (.v (Bo (leftB (l3 a1 a2 b1 b2 c1 c2) == decide (turnI a1 a2 b1 b2 c1 c2 > (0 : Int)))), M0) else some (.v (Bo false), M0)) else (bif (mnT  a1 a2 b1 b2 c1 c2 p1 p2) == (0 : Int) then (bif sideI (l3 a1 a2 b1 b2 c1 c2) p1 p2 == (0 : Int) then some (.v (Bo (leftB (l3 a1 a2 b1 b2 c1 c2) == decide (turnI a1 a2 b1 b2 c1 c2 > (0 : Int)))), M0) else some (.v (Bo false), M0)) else (bif sideI (l3 a1 a2 b1 b2 c1 c2) p1 p2 == (-1 : Int) then some (.v (Bo (leftB (l3 a1 a2 b1 b2 c1 c2) == decide (turnI a1 a2 b1 b2 c1 c2 > (0 : Int)))), M0) else some (.v (Bo false), M0)))))))) else (bif !areaB (l3 a1 a2 b1 b2 c1 c2) == false then some (.v (Bo false), M0) else some (.v (Bo (sideI (l3 a1 a2 b1 b2 c1 c2) p1 p2 == (-1 : Int))), M0))) else (bif !areaB (l3 a1 a2 b1 b2 c1 c2) == false then some (.v (Bo false), M0) else some (.v (Bo (sideI (l3 a1 a2 b1 b2 c1 c2) p1 p2 == (-1 : Int))), M0))) else (bif !areaB (l3 a1 a2 b1 b2 c1 c2) == false then some (.v (Bo false), M0) else some (.v (Bo (sideI (l3 a1 a2 b1 b2 c1 c2) p1 p2 == (-1 : Int))), M0))) else (bif !areaB (l3 a1 a2 b1 b2 c1 c2) == false then some (.v (Bo false), M0) else some (.v (Bo (sideI (l3 a1 a2 b1 b2 c1 c2) p1 p2 == (-1 : Int))), M0))) else (bif !areaB (l3 a1 a2 b1 b2 c1 c2) == false then some (.v (Bo false), M0) else some (.v (Bo (sideI (l3 a1 a2 b1 b2 c1 c2) p1 p2 == (-1 : Int))), M0)))) := by kernel_rfl
end Go.Proofs.Ytcjkkfhdnealpaa

namespace Go.Proofs.Ytcjkkfhdnealpaa
open Go Go.Proofs Go.Sx
set_option linter.unusedVariables false
def nrP (x y : Int) : Prop := -1073741824 ≤ x ∧ x ≤ 1073741824 ∧ -1073741824 ≤ y ∧ y ≤ 1073741824
theorem near_iff {x y : Int} (hx : inI x = true) (hy : inI y = true) : (mxA x y ≤ 1073741824 ∧ mnA x y ≥ -1073741824) ↔ nrP x y := by
  have h1 := inI_iff.1 hx
  have h2 := inI_iff.1 hy
  unfold nrP mnA
  by_cases c1 : x = -9223372036854775808
  · constructor
    · rintro ⟨_, h⟩; split at h <;> omega
    · intro h; omega
  by_cases c2 : y = -9223372036854775808
  · constructor
    · rintro ⟨_, h⟩; split at h <;> omega
    · intro h; omega
  unfold mxA
  rw [wI_id (n := 0 - x) (by omega), wI_id (n := 0 - y) (by omega)]
  constructor
  · rintro ⟨h3, h4⟩
    split at h4 <;> (split at h3 <;> (try split at h3) <;> (try split at h3) <;> (try split at h3) <;> omega)
  · intro h
    refine ⟨?_, ?_⟩
    · split <;> (try split) <;> (try split) <;> (try split) <;> omega
    · split <;> omega
section
variable {a1 a2 b1 b2 c1 c2 p1 p2 : Int}
theorem l3_len : ((l3 a1 a2 b1 b2 c1 c2).length : Int) = 3 := rfl
theorem l3_0 : pX (l3 a1 a2 b1 b2 c1 c2) 0 = a1 ∧ pY (l3 a1 a2 b1 b2 c1 c2) 0 = a2 := ⟨rfl, rfl⟩
theorem l3_1 : pX (l3 a1 a2 b1 b2 c1 c2) 1 = b1 ∧ pY (l3 a1 a2 b1 b2 c1 c2) 1 = b2 := ⟨rfl, rfl⟩
theorem l3_2 : pX (l3 a1 a2 b1 b2 c1 c2) 2 = c1 ∧ pY (l3 a1 a2 b1 b2 c1 c2) 2 = c2 := ⟨rfl, rfl⟩
theorem l3_n : nx (l3 a1 a2 b1 b2 c1 c2) 0 = 1 ∧ nx (l3 a1 a2 b1 b2 c1 c2) 1 = 2 ∧ nx (l3 a1 a2 b1 b2 c1 c2) 2 = 0 := by
  have at0 : ∀ i, 0 ≤ i → i < 3 → atG (l3 a1 a2 b1 b2 c1 c2) i = true := fun i h0 h1 => atG_iff.2 ⟨h0, by rw [l3_len]; exact h1, by show (3 : Nat) ≤ 1000000; omega⟩
  rw [nx_val (at0 0 (by omega) (by omega)), nx_val (at0 1 (by omega) (by omega)), nx_val (at0 2 (by omega) (by omega)), l3_len]
  exact ⟨rfl, rfl, rfl⟩
theorem k3 {k : Int} (h0 : 0 ≤ k) (h1 : k < 3) : k = 0 ∨ k = 1 ∨ k = 2 := by omega
theorem tri_area (ha : nrP a1 a2) (hb : nrP b1 b2) (hc : nrP c1 c2) : areaB (l3 a1 a2 b1 b2 c1 c2) = (turnI a1 a2 b1 b2 c1 c2 != 0) := by
  have qa : plR a1 a2 = true := plR_iff.2 (by unfold nrP at ha; omega)
  have qb : plR b1 b2 = true := plR_iff.2 (by unfold nrP at hb; omega)
  have qc : plR c1 c2 = true := plR_iff.2 (by unfold nrP at hc; omega)
  have ht := (turn_tw qa qb qc).2.2
  obtain ⟨n0, n1, n2⟩ := l3_n (a1 := a1) (a2 := a2) (b1 := b1) (b2 := b2) (c1 := c1) (c2 := c2)
  rw [Bool.eq_iff_iff, bne_iff_ne, ne_eq, ht]
  constructor
  · intro h e
    have hA := isArea h
    have g01 := hA.apt 0 1 (by omega) (by omega) (by rw [l3_len]; omega)
    have g02 := hA.apt 0 2 (by omega) (by omega) (by rw [l3_len]; omega)
    unfold badB mwB at g01 g02
    rw [wI_id (n := 0 + 1) (by omega), n0, n1] at g01
    rw [wI_id (n := 0 + 1) (by omega), n0, n2] at g02
    simp only [l3_0, l3_1, l3_2, Bool.or_eq_false_iff] at g01 g02
    have g1 : (onB c1 c2 a1 a2 b1 b2 || onB a1 a2 b1 b2 c1 c2) = false := g01.2
    have g2 : (onB b1 b2 c1 c2 a1 a2 || onB c1 c2 a1 a2 b1 b2) = false := g02.2
    rw [Bool.or_eq_false_iff] at g1 g2
    have k1 := g1.1
    have k2 := g1.2
    have k3 := g2.1
    rcases line_on e with o | o | o
    · rw [(on_iff qc qa qb).2 o] at k1; cases k1
    · rw [(on_iff qa qb qc).2 o] at k2; cases k2
    · rw [(on_iff qb qc qa).2 o] at k3; cases k3
  · intro h
    have no : ∀ {x1 x2 y1 y2 z1 z2 : Int}, plR x1 x2 = true → plR y1 y2 = true → plR z1 z2 = true → tw y1 y2 z1 z2 x1 x2 ≠ 0 → onB x1 x2 y1 y2 z1 z2 = false := by
      intro x1 x2 y1 y2 z1 z2 hx hy hz hn
      cases ho : onB x1 x2 y1 y2 z1 z2
      · rfl
      · exact absurd ((on_iff hx hy hz).1 ho).1 hn
    have e1 : tw b1 b2 c1 c2 a1 a2 = tw a1 a2 b1 b2 c1 c2 := by unfold tw; grind
    have e2 : tw c1 c2 a1 a2 b1 b2 = tw a1 a2 b1 b2 c1 c2 := by unfold tw; grind
    have ab : ¬ (a1 = b1 ∧ a2 = b2) := fun ⟨q1, q2⟩ => h (by unfold tw; rw [q1, q2]; grind)
    have bc : ¬ (b1 = c1 ∧ b2 = c2) := fun ⟨q1, q2⟩ => h (by unfold tw; rw [q1, q2]; grind)
    have ac : ¬ (a1 = c1 ∧ a2 = c2) := fun ⟨q1, q2⟩ => h (by unfold tw; rw [q1, q2]; grind)
    have ne : ∀ {x1 x2 y1 y2 : Int}, ¬ (x1 = y1 ∧ x2 = y2) → (x1 == y1 && (x2 == y2 && true)) = false := by
      intro x1 x2 y1 y2 hn
      by_cases q1 : x1 = y1
      · rw [beq_eq_false_iff_ne.2 (fun q2 => hn ⟨q1, q2⟩)]; simp
      · rw [beq_eq_false_iff_ne.2 q1]; rfl
    have hap : Apt (l3 a1 a2 b1 b2 c1 c2) := by
      intro i j h0 h1 h2
      rw [l3_len] at h2
      have cs : (i = 0 ∧ j = 1) ∨ (i = 0 ∧ j = 2) ∨ (i = 1 ∧ j = 2) := by omega
      rcases cs with ⟨rfl, rfl⟩ | ⟨rfl, rfl⟩ | ⟨rfl, rfl⟩
      · unfold badB mwB
        rw [wI_id (n := 0 + 1) (by omega), n0, n1]
        show ((a1 == b1 && (a2 == b2 && true)) || (onB c1 c2 a1 a2 b1 b2 || onB a1 a2 b1 b2 c1 c2)) = false
        rw [ne ab, no qc qa qb h, no qa qb qc (by rw [e1]; exact h)]
        rfl
      · unfold badB mwB
        rw [wI_id (n := 0 + 1) (by omega), n0, n2]
        show ((a1 == c1 && (a2 == c2 && true)) || (onB b1 b2 c1 c2 a1 a2 || onB c1 c2 a1 a2 b1 b2)) = false
        rw [ne ac, no qb qc qa (by rw [e2]; exact h), no qc qa qb h]
        rfl
      · unfold badB mwB
        rw [wI_id (n := 1 + 1) (by omega), n1, n2]
        show ((b1 == c1 && (b2 == c2 && true)) || (onB a1 a2 b1 b2 c1 c2 || onB b1 b2 c1 c2 a1 a2)) = false
        rw [ne bc, no qa qb qc (by rw [e1]; exact h), no qb qc qa (by rw [e2]; exact h)]
        rfl
    have hp : anyN (pNpl (l3 a1 a2 b1 b2 c1 c2)) (l3 a1 a2 b1 b2 c1 c2).length 0 = false := anyN_none.2 fun i h0 h1 => by
      have h1 : i < 3 := by have : (l3 a1 a2 b1 b2 c1 c2).length = 3 := rfl; omega
      unfold pNpl
      rcases k3 h0 h1 with rfl | rfl | rfl
      · show (!plR a1 a2) = false; rw [qa]; rfl
      · show (!plR b1 b2) = false; rw [qb]; rfl
      · show (!plR c1 c2) = false; rw [qc]; rfl
    have hf : anyN (pFar (l3 a1 a2 b1 b2 c1 c2)) (l3 a1 a2 b1 b2 c1 c2).length 0 = false := anyN_none.2 fun i h0 h1 => by
      have h1 : i < 3 := by have : (l3 a1 a2 b1 b2 c1 c2).length = 3 := rfl; omega
      unfold pFar
      unfold nrP at ha hb hc
      rcases k3 h0 h1 with rfl | rfl | rfl
      · show (fovI a1 || fovI a2) = false; rw [fov_iff.2 (by omega), fov_iff.2 (by omega)]; rfl
      · show (fovI b1 || fovI b2) = false; rw [fov_iff.2 (by omega), fov_iff.2 (by omega)]; rfl
      · show (fovI c1 || fovI c2) = false; rw [fov_iff.2 (by omega), fov_iff.2 (by omega)]; rfl
    unfold areaB simB
    rw [anyF_eq, anyF_eq, hp, hf, (apB_iff _).2 hap]
    rfl
theorem tri_ar2 : area2 (l3 a1 a2 b1 b2 c1 c2) = tw a1 a2 b1 b2 c1 c2 := by
  obtain ⟨n0, n1, n2⟩ := l3_n (a1 := a1) (a2 := a2) (b1 := b1) (b2 := b2) (c1 := c1) (c2 := c2)
  show arS (l3 a1 a2 b1 b2 c1 c2) 2 (arS (l3 a1 a2 b1 b2 c1 c2) 1 (arS (l3 a1 a2 b1 b2 c1 c2) 0 0)) = _
  unfold arS
  rw [n0, n1, n2]
  simp only [l3_0, l3_1, l3_2]
  unfold tw
  grind
/-- A place's side of a triangle. -/
theorem tri_side (hA : areaB (l3 a1 a2 b1 b2 c1 c2) = true) (hp : plR p1 p2 = true) {s : Int} (hs : s = 1 ∨ s = -1) (hT : 0 < s * tw a1 a2 b1 b2 c1 c2) :
    (0 < s * tw a1 a2 b1 b2 p1 p2 ∧ 0 < s * tw b1 b2 c1 c2 p1 p2 ∧ 0 < s * tw c1 c2 a1 a2 p1 p2 → sideI (l3 a1 a2 b1 b2 c1 c2) p1 p2 = 1) ∧
    (0 ≤ s * tw a1 a2 b1 b2 p1 p2 ∧ 0 ≤ s * tw b1 b2 c1 c2 p1 p2 ∧ 0 ≤ s * tw c1 c2 a1 a2 p1 p2 ∧ ¬ (0 < s * tw a1 a2 b1 b2 p1 p2 ∧ 0 < s * tw b1 b2 c1 c2 p1 p2 ∧ 0 < s * tw c1 c2 a1 a2 p1 p2) → sideI (l3 a1 a2 b1 b2 c1 c2) p1 p2 = 0) ∧
    (¬ (0 ≤ s * tw a1 a2 b1 b2 p1 p2 ∧ 0 ≤ s * tw b1 b2 c1 c2 p1 p2 ∧ 0 ≤ s * tw c1 c2 a1 a2 p1 p2) → sideI (l3 a1 a2 b1 b2 c1 c2) p1 p2 = -1) := by
  have h := isArea hA
  obtain ⟨n0, n1, n2⟩ := l3_n (a1 := a1) (a2 := a2) (b1 := b1) (b2 := b2) (c1 := c1) (c2 := c2)
  have qa : plR a1 a2 = true := h.pl 0 (by omega) (by rw [l3_len]; omega)
  have qb : plR b1 b2 = true := h.pl 1 (by omega) (by rw [l3_len]; omega)
  have qc : plR c1 c2 = true := h.pl 2 (by omega) (by rw [l3_len]; omega)
  have r1 : tw b1 b2 c1 c2 a1 a2 = tw a1 a2 b1 b2 c1 c2 := by unfold tw; grind
  have r2 : tw c1 c2 a1 a2 b1 b2 = tw a1 a2 b1 b2 c1 c2 := by unfold tw; grind
  -- where it is on an edge
  have key : (OnP p1 p2 a1 a2 b1 b2 ↔ tw a1 a2 b1 b2 p1 p2 = 0 ∧ 0 ≤ s * tw b1 b2 c1 c2 p1 p2 ∧ 0 ≤ s * tw c1 c2 a1 a2 p1 p2) ∧ (OnP p1 p2 b1 b2 c1 c2 ↔ tw b1 b2 c1 c2 p1 p2 = 0 ∧ 0 ≤ s * tw c1 c2 a1 a2 p1 p2 ∧ 0 ≤ s * tw a1 a2 b1 b2 p1 p2) ∧ (OnP p1 p2 c1 c2 a1 a2 ↔ tw c1 c2 a1 a2 p1 p2 = 0 ∧ 0 ≤ s * tw a1 a2 b1 b2 p1 p2 ∧ 0 ≤ s * tw b1 b2 c1 c2 p1 p2) ∧
      (¬ OnP p1 p2 a1 a2 b1 b2 → ¬ OnP p1 p2 b1 b2 c1 c2 → ¬ OnP p1 p2 c1 c2 a1 a2 → (crB p1 p2 a1 a2 b1 b2 ^^ (crB p1 p2 b1 b2 c1 c2 ^^ crB p1 p2 c1 c2 a1 a2)) = decide (0 < s * tw a1 a2 b1 b2 p1 p2 ∧ 0 < s * tw b1 b2 c1 c2 p1 p2 ∧ 0 < s * tw c1 c2 a1 a2 p1 p2)) := by
    rcases hs with rfl | rfl
    · simp only [Int.one_mul] at hT ⊢
      exact ⟨tri_hit hT, tri_hit (by rw [r1]; exact hT), tri_hit (by rw [r2]; exact hT), fun m1 m2 m3 => tri_pos hT m1 m2 m3⟩
    · -- round the other way
      have e0 : tw a1 a2 c1 c2 b1 b2 = - tw a1 a2 b1 b2 c1 c2 := by unfold tw; grind
      have e1 : tw c1 c2 b1 b2 a1 a2 = - tw a1 a2 b1 b2 c1 c2 := by unfold tw; grind
      have e2 : tw b1 b2 a1 a2 c1 c2 = - tw a1 a2 b1 b2 c1 c2 := by unfold tw; grind
      have f1 : tw b1 b2 a1 a2 p1 p2 = - tw a1 a2 b1 b2 p1 p2 := tw_back
      have f2 : tw c1 c2 b1 b2 p1 p2 = - tw b1 b2 c1 c2 p1 p2 := tw_back
      have f3 : tw a1 a2 c1 c2 p1 p2 = - tw c1 c2 a1 a2 p1 p2 := tw_back
      have h1 := tri_hit (a1 := b1) (a2 := b2) (b1 := a1) (b2 := a2) (c1 := c1) (c2 := c2) (p1 := p1) (p2 := p2) (by rw [e2]; omega)
      have h2 := tri_hit (a1 := c1) (a2 := c2) (b1 := b1) (b2 := b2) (c1 := a1) (c2 := a2) (p1 := p1) (p2 := p2) (by rw [e1]; omega)
      have h3 := tri_hit (a1 := a1) (a2 := a2) (b1 := c1) (b2 := c2) (c1 := b1) (c2 := b2) (p1 := p1) (p2 := p2) (by rw [e0]; omega)
      rw [OnP.back, f1, f2, f3] at h1 h2 h3
      refine ⟨h1.trans (by omega), h2.trans (by omega), h3.trans (by omega), fun m1 m2 m3 => ?_⟩
      have := tri_pos (a1 := b1) (a2 := b2) (b1 := a1) (b2 := a2) (c1 := c1) (c2 := c2) (p1 := p1) (p2 := p2) (by rw [e2]; omega) (by rw [OnP.back]; exact m1) (by rw [OnP.back]; exact m3) (by rw [OnP.back]; exact m2)
      rw [crB_back, f1, f2, f3, crB_back (a1 := c1) (a2 := c2) (b1 := a1) (b2 := a2), crB_back (a1 := b1) (a2 := b2) (b1 := c1) (b2 := c2)] at this
      rw [Bool.xor_comm (crB p1 p2 b1 b2 c1 c2), this]
      exact decide_eq_decide.2 (by omega)
  obtain ⟨k1, k2, k3', k4⟩ := key
  have g0 : hitB p1 p2 (l3 a1 a2 b1 b2 c1 c2) 0 = true ↔ OnP p1 p2 a1 a2 b1 b2 := by unfold hitB; rw [n0]; exact on_iff hp qa qb
  have g1 : hitB p1 p2 (l3 a1 a2 b1 b2 c1 c2) 1 = true ↔ OnP p1 p2 b1 b2 c1 c2 := by unfold hitB; rw [n1]; exact on_iff hp qb qc
  have g2 : hitB p1 p2 (l3 a1 a2 b1 b2 c1 c2) 2 = true ↔ OnP p1 p2 c1 c2 a1 a2 := by unfold hitB; rw [n2]; exact on_iff hp qc qa
  have z : ∀ x : Int, s * x = 0 ↔ x = 0 := fun x => by rcases hs with rfl | rfl <;> omega
  have z1 := z (tw a1 a2 b1 b2 p1 p2)
  have z2 := z (tw b1 b2 c1 c2 p1 p2)
  have z3 := z (tw c1 c2 a1 a2 p1 p2)
  have hit0 : ∀ k, 0 ≤ k → k < 3 → hitB p1 p2 (l3 a1 a2 b1 b2 c1 c2) k = true → sideI (l3 a1 a2 b1 b2 c1 c2) p1 p2 = 0 := fun k h0 h1 hh => side_hit hA hp h0 (by rw [l3_len]; exact h1) hh
  have odd : ¬ OnP p1 p2 a1 a2 b1 b2 → ¬ OnP p1 p2 b1 b2 c1 c2 → ¬ OnP p1 p2 c1 c2 a1 a2 → sideI (l3 a1 a2 b1 b2 c1 c2) p1 p2 = bif decide (0 < s * tw a1 a2 b1 b2 p1 p2 ∧ 0 < s * tw b1 b2 c1 c2 p1 p2 ∧ 0 < s * tw c1 c2 a1 a2 p1 p2) then 1 else -1 := fun m1 m2 m3 => by
    rw [side_odd hA hp fun k h0 h1 => ?_]
    · have : oddB p1 p2 (l3 a1 a2 b1 b2 c1 c2) = (((false ^^ rgB p1 p2 (l3 a1 a2 b1 b2 c1 c2) 0) ^^ rgB p1 p2 (l3 a1 a2 b1 b2 c1 c2) 1) ^^ rgB p1 p2 (l3 a1 a2 b1 b2 c1 c2) 2) := rfl
      rw [this]
      unfold rgB
      rw [n0, n1, n2, Bool.false_xor]
      have e0 : rgO p1 p2 (pX (l3 a1 a2 b1 b2 c1 c2) 0) (pY (l3 a1 a2 b1 b2 c1 c2) 0) (pX (l3 a1 a2 b1 b2 c1 c2) 1) (pY (l3 a1 a2 b1 b2 c1 c2) 1) = crB p1 p2 a1 a2 b1 b2 := rg_cr hp qa qb
      have e1 : rgO p1 p2 (pX (l3 a1 a2 b1 b2 c1 c2) 1) (pY (l3 a1 a2 b1 b2 c1 c2) 1) (pX (l3 a1 a2 b1 b2 c1 c2) 2) (pY (l3 a1 a2 b1 b2 c1 c2) 2) = crB p1 p2 b1 b2 c1 c2 := rg_cr hp qb qc
      have e2 : rgO p1 p2 (pX (l3 a1 a2 b1 b2 c1 c2) 2) (pY (l3 a1 a2 b1 b2 c1 c2) 2) (pX (l3 a1 a2 b1 b2 c1 c2) 0) (pY (l3 a1 a2 b1 b2 c1 c2) 0) = crB p1 p2 c1 c2 a1 a2 := rg_cr hp qc qa
      rw [e0, e1, e2, Bool.xor_assoc, k4 m1 m2 m3]
    · rw [l3_len] at h1
      cases hh : hitB p1 p2 (l3 a1 a2 b1 b2 c1 c2) k
      · rfl
      · rcases k3 h0 h1 with rfl | rfl | rfl
        · exact absurd (g0.1 hh) m1
        · exact absurd (g1.1 hh) m2
        · exact absurd (g2.1 hh) m3
  refine ⟨fun hh => ?_, fun hh => ?_, fun hh => ?_⟩
  · rw [odd (by rw [k1]; omega) (by rw [k2]; omega) (by rw [k3']; omega), decide_eq_true hh]; rfl
  · by_cases q1 : tw a1 a2 b1 b2 p1 p2 = 0
    · exact hit0 0 (by omega) (by omega) (g0.2 (k1.2 ⟨q1, hh.2.1, hh.2.2.1⟩))
    by_cases q2 : tw b1 b2 c1 c2 p1 p2 = 0
    · exact hit0 1 (by omega) (by omega) (g1.2 (k2.2 ⟨q2, hh.2.2.1, hh.1⟩))
    by_cases q3 : tw c1 c2 a1 a2 p1 p2 = 0
    · exact hit0 2 (by omega) (by omega) (g2.2 (k3'.2 ⟨q3, hh.1, hh.2.1⟩))
    omega
  · rw [odd (by rw [k1]; omega) (by rw [k2]; omega) (by rw [k3']; omega), decide_eq_false (by omega)]; rfl
theorem mnT_iff (t x y z : Int) (ht : t = 1 ∨ t = -1) (hx : -1 ≤ x ∧ x ≤ 1) (hy : -1 ≤ y ∧ y ≤ 1) (hz : -1 ≤ z ∧ z ≤ 1) (m : Int) (hm : m = (if wI (z * t) < if wI (y * t) < wI (x * t) then wI (y * t) else wI (x * t) then wI (z * t) else if wI (y * t) < wI (x * t) then wI (y * t) else wI (x * t))) :
    (m > 0 ↔ 0 < t * x ∧ 0 < t * y ∧ 0 < t * z) ∧ (m ≥ 0 ↔ 0 ≤ t * x ∧ 0 ≤ t * y ∧ 0 ≤ t * z) := by
  rcases ht with rfl | rfl
  · rw [Int.mul_one, Int.mul_one, Int.mul_one, wI_id (n := x) (by omega), wI_id (n := y) (by omega), wI_id (n := z) (by omega)] at hm
    simp only [Int.one_mul]
    split at hm <;> split at hm <;> omega
  · rw [show x * -1 = -x by omega, show y * -1 = -y by omega, show z * -1 = -z by omega, wI_id (n := -x) (by omega), wI_id (n := -y) (by omega), wI_id (n := -z) (by omega)] at hm
    split at hm <;> split at hm <;> omega
theorem polyTriangle (i1 : inI a1 = true) (i2 : inI a2 = true) (i3 : inI b1 = true) (i4 : inI b2 = true) (i5 : inI c1 = true) (i6 : inI c2 = true) : runG ΓLf L0 Try.prog Try.f7 [.v (.agg #[I a1, I a2]), .v (.agg #[I b1, I b2]), .v (.agg #[I c1, I c2]), .v (.agg #[I p1, I p2])] M0 = some (.v (Bo true), M0) := by
  refine (runPTri a1 a2 b1 b2 c1 c2 p1 p2).trans ?_
  cases hp : plR p1 p2
  · rfl
  have na := near_iff i1 i2
  have nb := near_iff i3 i4
  have nc := near_iff i5 i6
  -- where one is too far away, it is no area
  have far : ¬ (nrP a1 a2 ∧ nrP b1 b2 ∧ nrP c1 c2) → areaB (l3 a1 a2 b1 b2 c1 c2) = false := fun hn => by
    cases hA : areaB (l3 a1 a2 b1 b2 c1 c2)
    · rfl
    · have h := isArea hA
      exact absurd ⟨h.near 0 (by omega) (by rw [l3_len]; omega), h.near 1 (by omega) (by rw [l3_len]; omega), h.near 2 (by omega) (by rw [l3_len]; omega)⟩ hn
  have out : areaB (l3 a1 a2 b1 b2 c1 c2) = false → sideI (l3 a1 a2 b1 b2 c1 c2) p1 p2 = -1 := fun hA => by unfold sideI; rw [hA]; rfl
  by_cases d1 : mxA a1 a2 ≤ 1073741824
  case neg => rw [decide_eq_false d1, far (fun h => d1 (na.2 h.1).1), out (far (fun h => d1 (na.2 h.1).1))]; rfl
  by_cases d2 : mnA a1 a2 ≥ -1073741824
  case neg => rw [decide_eq_true d1, decide_eq_false d2, far (fun h => d2 (na.2 h.1).2), out (far (fun h => d2 (na.2 h.1).2))]; rfl
  by_cases d3 : mxA b1 b2 ≤ 1073741824
  case neg => rw [decide_eq_true d1, decide_eq_true d2, decide_eq_false d3, far (fun h => d3 (nb.2 h.2.1).1), out (far (fun h => d3 (nb.2 h.2.1).1))]; rfl
  by_cases d4 : mnA b1 b2 ≥ -1073741824
  case neg => rw [decide_eq_true d1, decide_eq_true d2, decide_eq_true d3, decide_eq_false d4, far (fun h => d4 (nb.2 h.2.1).2), out (far (fun h => d4 (nb.2 h.2.1).2))]; rfl
  by_cases d5 : mxA c1 c2 ≤ 1073741824
  case neg => rw [decide_eq_true d1, decide_eq_true d2, decide_eq_true d3, decide_eq_true d4, decide_eq_false d5, far (fun h => d5 (nc.2 h.2.2).1), out (far (fun h => d5 (nc.2 h.2.2).1))]; rfl
  by_cases d6 : mnA c1 c2 ≥ -1073741824
  case neg => rw [decide_eq_true d1, decide_eq_true d2, decide_eq_true d3, decide_eq_true d4, decide_eq_true d5, decide_eq_false d6, far (fun h => d6 (nc.2 h.2.2).2), out (far (fun h => d6 (nc.2 h.2.2).2))]; rfl
  have wa := na.1 ⟨d1, d2⟩
  have wb := nb.1 ⟨d3, d4⟩
  have wc := nc.1 ⟨d5, d6⟩
  have hAr := tri_area wa wb wc
  have qa : plR a1 a2 = true := plR_iff.2 (by unfold nrP at wa; omega)
  have qb : plR b1 b2 = true := plR_iff.2 (by unfold nrP at wb; omega)
  have qc : plR c1 c2 = true := plR_iff.2 (by unfold nrP at wc; omega)
  rw [decide_eq_true d1, decide_eq_true d2, decide_eq_true d3, decide_eq_true d4, decide_eq_true d5, decide_eq_true d6, hAr, beq_self_eq_true]
  simp only [cond_true, cond_false, Bool.not_true]
  by_cases ht0 : turnI a1 a2 b1 b2 c1 c2 = 0
  · have : areaB (l3 a1 a2 b1 b2 c1 c2) = false := by rw [hAr, ht0]; rfl
    rw [beq_iff_eq.2 ht0, out this]
    rfl
  have hA : areaB (l3 a1 a2 b1 b2 c1 c2) = true := by rw [hAr]; exact bne_iff_ne.2 ht0
  have hb := turnI_bd a1 a2 b1 b2 c1 c2
  have hs : turnI a1 a2 b1 b2 c1 c2 = 1 ∨ turnI a1 a2 b1 b2 c1 c2 = -1 := by omega
  have tt := turn_tw qa qb qc
  have hT : 0 < turnI a1 a2 b1 b2 c1 c2 * tw a1 a2 b1 b2 c1 c2 := by
    rcases hs with e | e <;> rw [e] at tt ⊢ <;> omega
  obtain ⟨s1, s2, s3⟩ := tri_side hA hp hs hT
  have ml : leftB (l3 a1 a2 b1 b2 c1 c2) = decide (turnI a1 a2 b1 b2 c1 c2 > 0) := by
    unfold leftB
    rw [hA, tri_ar2, Bool.true_and]
    exact decide_eq_decide.2 (by omega)
  have mm := mnT_iff (turnI a1 a2 b1 b2 c1 c2) (turnI a1 a2 b1 b2 p1 p2) (turnI b1 b2 c1 c2 p1 p2) (turnI c1 c2 a1 a2 p1 p2) hs (turnI_bd _ _ _ _ _ _) (turnI_bd _ _ _ _ _ _) (turnI_bd _ _ _ _ _ _) (mnT a1 a2 b1 b2 c1 c2 p1 p2) rfl
  have x1 := turn_tw qa qb hp
  have x2 := turn_tw qb qc hp
  have x3 := turn_tw qc qa hp
  have sg : ∀ {t u v : Int}, t = 1 ∨ t = -1 → (0 < u ↔ 0 < v) ∧ (u < 0 ↔ v < 0) ∧ (u = 0 ↔ v = 0) → (0 < t * u ↔ 0 < t * v) ∧ (0 ≤ t * u ↔ 0 ≤ t * v) := by
    intro t u v h1 h2
    rcases h1 with rfl | rfl <;> omega
  have y1 := sg hs x1
  have y2 := sg hs x2
  have y3 := sg hs x3
  rw [ml, beq_eq_false_iff_ne.2 ht0, beq_self_eq_true]
  simp only [cond_false]
  rw [y1.1, y2.1, y3.1, y1.2, y2.2, y3.2] at mm
  by_cases c1' : mnT a1 a2 b1 b2 c1 c2 p1 p2 > 0
  · rw [decide_eq_true c1', s1 (mm.1.1 c1')]; rfl
  by_cases c2' : mnT a1 a2 b1 b2 c1 c2 p1 p2 = 0
  · have g1 := mm.2.1 (by omega)
    have g2 := mt mm.1.2 c1'
    rw [decide_eq_false c1', beq_iff_eq.2 c2', s2 ⟨g1.1, g1.2.1, g1.2.2, g2⟩]; rfl
  · rw [decide_eq_false c1', beq_eq_false_iff_ne.2 c2', s3 (mt mm.2.2 (by omega))]; rfl
end
theorem polyTriangleLaw (l0 l1 l2 l3 : List Dat) (w0 : WfL ks2 l0) (w1 : WfL ks2 l1) (w2 : WfL ks2 l2) (w3 : WfL ks2 l3) : ∃ m', runG ΓLf L0 Try.prog Try.f7 (inArgs [.v (.agg (mkEl ks2 l0).toArray), .v (.agg (mkEl ks2 l1).toArray), .v (.agg (mkEl ks2 l2).toArray), .v (.agg (mkEl ks2 l3).toArray)] 0) (inMem [.v (.agg (mkEl ks2 l0).toArray), .v (.agg (mkEl ks2 l1).toArray), .v (.agg (mkEl ks2 l2).toArray), .v (.agg (mkEl ks2 l3).toArray)]) = some (.v (.bool true), m') := by
  obtain ⟨x0, y0, rfl, u0, v0⟩ := pt_is w0
  obtain ⟨x1, y1, rfl, u1, v1⟩ := pt_is w1
  obtain ⟨x2, y2, rfl, u2, v2⟩ := pt_is w2
  obtain ⟨x3, y3, rfl, u3, v3⟩ := pt_is w3
  exact ⟨_, polyTriangle (i64_in u0) (i64_in v0) (i64_in u1) (i64_in v1) (i64_in u2) (i64_in v2)⟩
theorem loopsOkTri (z : Base) (z1 : z.L.length = 0) (z2 : z.U.length = 0) : ∀ b ∈ loopsOf (Try.f7.body.getD .skip), LoopOk L0 Try.prog z b := l0Ok' _ z
end Go.Proofs.Ytcjkkfhdnealpaa

