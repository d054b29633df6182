/-
  Contract: the document's division, bit by bit; the law WideDiv over numbers.
-/
import Derived.Test.YtanjomncnbmgkaaYi
namespace Go.Proofs.Ytanjomncnbmgkaa
open Go Go.Proofs Go.Sx
def keep32 : List Bool := maskOf 67 [11, 10, 8, 1, 9, 2, 4]
def kx32 : List Bool := maskOf 67 [9, 2, 10, 1, 4]
noncomputable def body32 : Code := loopAt (Try.f32.body.getD .skip) 0
theorem loops32 : loopsOf (Try.f32.body.getD .skip) = [body32] := by kernel_rfl
theorem loops32a : loopsOf body32 = [] := by kernel_rfl
def M32 (a b c d e f : Int) (R : List RowS) : Mem := ⟨[[.v (.int .i64 a), .v (.int .u64 b)], [.v (.int .i64 c), .v (.int .u64 d)], [.v (.int .i64 e), .v (.int .u64 f)]], [true, true, true], R⟩
def S32 (a b c d e f D r i : Int) (X Q : List Int) : St := mk keep32 [.v (.int .i64 D), .ptr 0 0, .ptr 1 0, .row 0, .row 1, .v (.int .u64 r), .v (.int .i64 i)] (M32 a b c d e f [.live ⟨3, .i64, X, true⟩, .live ⟨3, .i64, Q, true⟩])
def S32x (a b c d e f D r : Int) (Q : List Int) : St := mk kx32 [.v (.int .i64 D), .ptr 0 0, .ptr 1 0, .row 0, .v (.int .u64 r)] (M32 a b c d e f [.live ⟨3, .i64, Q, true⟩])
def K32 (e : Ex) (st : St) : Option (Ex × St) := some (e, cutG kx32 st)
def r2 (r i : Int) (X : List Int) : Int := wU (wU (2 * r) + wU (X.getD i.toNat 0))
theorem step32 (a b c d e f D r i : Int) (X Q : List Int) (m : Nat) : evLoop Γk Try.prog L0 (cutG keep32) body32 (m + 1) (S32 a b c d e f D r i X Q) K32 =
    bif decide (i ≥ 0) then
      bif decide (0 ≤ i) && decide (i < (X.length : Int)) then
        bif decide (r2 r i X ≥ wU D) then
          bif decide (0 ≤ i) && decide (i < (Q.length : Int)) then
            evLoop Γk Try.prog L0 (cutG keep32) body32 m (S32 a b c d e f D (wU (r2 r i X - wU D)) (IntKind.i64.wrap (i - 1)) X (Q.set i.toNat 1)) K32
          else none
        else evLoop Γk Try.prog L0 (cutG keep32) body32 m (S32 a b c d e f D (r2 r i X) (IntKind.i64.wrap (i - 1)) X Q) K32
      else none
    else some (.exit 0, S32x a b c d e f D r Q) := by kernel_rfl

/-- The quotient's digits from the j-th one on. -/
def qd (q : Int) (j : Nat) : List Int := (List.range 128).map fun t => if j ≤ t then bitI q t else 0
theorem qd_zero (q : Int) : qd q 0 = bl q 128 := by simp [qd, bl]
theorem qd_all (q : Int) : qd q 128 = List.replicate 128 0 := by
  unfold qd
  apply List.ext_getElem
  · rw [List.length_map, List.length_range, List.length_replicate]
  · intro i h1 h2
    rw [List.length_map, List.length_range] at h1
    have : ¬ 128 ≤ i := by omega
    rw [List.getElem_map, List.getElem_range, List.getElem_replicate, if_neg this]
theorem qd_length (q : Int) (j : Nat) : (qd q j).length = 128 := by simp [qd]
theorem qd_set (q : Int) (j : Nat) (h : bitI q j = 1) : (qd q (j + 1)).set j 1 = qd q j := by
  unfold qd
  apply List.ext_getElem
  · simp
  · intro i h1 h2
    simp at h1
    rw [List.getElem_set]
    simp only [List.getElem_map, List.getElem_range]
    by_cases hi : j = i
    · subst hi; simp [h]
    · have : (j + 1 ≤ i) = (j ≤ i) := by apply propext; omega
      simp only [hi, if_false, this]
theorem qd_stay (q : Int) (j : Nat) (h : bitI q j = 0) : qd q (j + 1) = qd q j := by
  unfold qd
  apply List.map_congr_left
  intro i _
  by_cases hi : j = i
  · subst hi; simp [h]
  · have : (j + 1 ≤ i) = (j ≤ i) := by apply propext; omega
    simp only [this]

/-- Long division's step. -/
theorem dstep (x D : Int) (j : Nat) (hx : 0 ≤ x) (hD : 0 < D) : 
    (2 * (x / 2 ^ (j + 1) % D) + bitI x j ≥ D → bitI (x / D) j = 1 ∧ 2 * (x / 2 ^ (j + 1) % D) + bitI x j - D = x / 2 ^ j % D) ∧
    (¬ 2 * (x / 2 ^ (j + 1) % D) + bitI x j ≥ D → bitI (x / D) j = 0 ∧ 2 * (x / 2 ^ (j + 1) % D) + bitI x j = x / 2 ^ j % D) ∧ 0 ≤ bitI x j ∧ bitI x j ≤ 1 ∧ 0 ≤ x / 2 ^ (j + 1) % D ∧ x / 2 ^ (j + 1) % D < D := by
  have hp : (0 : Int) < 2 ^ j := Int.pow_pos (by decide)
  have e1 : x / 2 ^ (j + 1) = x / 2 ^ j / 2 := by rw [Int.pow_succ, Int.ediv_ediv_of_nonneg (by omega)]
  have e2 : x / D / 2 ^ j = x / 2 ^ j / D := by rw [Int.ediv_ediv_of_nonneg (by omega), Int.ediv_ediv_of_nonneg (by omega), Int.mul_comm]
  unfold bitI
  rw [e1, e2]
  have hn : 0 ≤ x / 2 ^ j := Int.ediv_nonneg hx (by omega)
  generalize x / 2 ^ j = p at *
  have h1 := Int.mul_ediv_add_emod (p / 2) D
  have h2 := Int.emod_nonneg (p / 2) (by omega : D ≠ 0)
  have h3 := Int.emod_lt_of_pos (p / 2) hD
  have hb : p = 2 * (p / 2) + p % 2 := by omega
  have k : ∀ y, D * y * 2 = D * (2 * y) := fun y => by rw [Int.mul_assoc, Int.mul_comm y 2]
  refine ⟨fun hc => ?_, fun hc => ?_, by omega, by omega, h2, h3⟩
  · have := @divmod_of D (2 * (p / 2 / D) + 1) (2 * (p / 2 % D) + p % 2 - D) (by omega) (by omega)
    have e3 : D * (2 * (p / 2 / D) + 1) + (2 * (p / 2 % D) + p % 2 - D) = p := by
      rw [Int.mul_add, ← k]; omega
    rw [e3] at this
    omega
  · have := @divmod_of D (2 * (p / 2 / D)) (2 * (p / 2 % D) + p % 2) (by omega) (by omega)
    have e3 : D * (2 * (p / 2 / D)) + (2 * (p / 2 % D) + p % 2) = p := by
      rw [← k]; omega
    rw [e3] at this
    omega

theorem wrapd (j : Nat) (h : j < 1000) : IntKind.i64.wrap ((j : Int) - 1) = (j : Int) - 1 := by
  rw [wrapI]; split <;> omega

theorem long {α : Type} (x D : Int) (hx : 0 ≤ x) (hD : 0 < D) (hD' : D < 9223372036854775808) (E : Nat → Int → Int → List Int → Option α) (F : Int → List Int → Option α)
    (hE : ∀ m r i Q, E (m + 1) r i Q =
      bif decide (i ≥ 0) then
        bif decide (0 ≤ i) && decide (i < ((bl x 128).length : Int)) then
          bif decide (r2 r i (bl x 128) ≥ wU D) then
            bif decide (0 ≤ i) && decide (i < (Q.length : Int)) then E m (wU (r2 r i (bl x 128) - wU D)) (IntKind.i64.wrap (i - 1)) (Q.set i.toNat 1) else none
          else E m (r2 r i (bl x 128)) (IntKind.i64.wrap (i - 1)) Q
        else none
      else F r Q) : ∀ j : Nat, j ≤ 128 → E (j + 1) (x / 2 ^ j % D) ((j : Int) - 1) (qd (x / D) j) = F (x % D) (bl (x / D) 128) := by
  intro j
  have hwD : wU D = D := by unfold wU; rw [wrapU]; omega
  induction j with
  | zero =>
    intro _
    rw [hE, qd_zero]
    simp
  | succ j ih =>
    intro hj
    obtain ⟨s1, s2, b0, b1, r0, r1⟩ := dstep x D j hx hD
    have hi : (((j + 1 : Nat) : Int) - 1) = (j : Int) := by omega
    rw [hE, hi]
    have g1 : decide ((j : Int) ≥ 0) = true := by simp
    have g2 : decide ((j : Int) < ((bl x 128).length : Int)) = true := by simp [bl_length]; omega
    have g3 : decide ((j : Int) < ((qd (x / D) (j + 1)).length : Int)) = true := by simp [qd_length]; omega
    have er : r2 (x / 2 ^ (j + 1) % D) j (bl x 128) = 2 * (x / 2 ^ (j + 1) % D) + bitI x j := by
      unfold r2 wU
      rw [Int.toNat_natCast, bl_getD _ _ _ (by omega), wrapU, wrapU, wrapU]
      omega
    rw [g1, g2, g3, er, hwD, wrapd j (by omega), Int.toNat_natCast]
    simp only [cond_true, Bool.and_self]
    by_cases hc : 2 * (x / 2 ^ (j + 1) % D) + bitI x j ≥ D
    · obtain ⟨t1, t2⟩ := s1 hc
      have ew : wU (2 * (x / 2 ^ (j + 1) % D) + bitI x j - D) = 2 * (x / 2 ^ (j + 1) % D) + bitI x j - D := by unfold wU; rw [wrapU]; omega
      simp only [hc, decide_true, cond_true]
      rw [ew, t2, qd_set _ _ t1]
      exact ih (by omega)
    · obtain ⟨t1, t2⟩ := s2 hc
      simp only [hc, decide_false, cond_false]
      rw [t2, qd_stay _ _ t1]
      exact ih (by omega)

theorem loop32 (a b c d e f D x : Int) (hx : 0 ≤ x) (hx' : x < 340282366920938463463374607431768211456) (hD : 0 < D) (hD' : D < 9223372036854775808) :
    evLoop Γk Try.prog L0 (cutG keep32) body32 129 (S32 a b c d e f D 0 127 (bl x 128) (List.replicate 128 0)) K32 = some (.exit 0, S32x a b c d e f D (x % D) (bl (x / D) 128)) := by
  have h := long x D hx hD hD' (fun m r i Q => evLoop Γk Try.prog L0 (cutG keep32) body32 m (S32 a b c d e f D r i (bl x 128) Q) K32) (fun r Q => some (.exit 0, S32x a b c d e f D r Q)) (fun m r i Q => step32 a b c d e f D r i (bl x 128) Q m) 128 (Nat.le_refl _)
  have e0 : x / 2 ^ 128 % D = 0 := by
    rw [Int.ediv_eq_zero_of_lt hx (by simpa using hx')]; simp
  rw [e0, qd_all] at h
  exact h

def G32 (vals : List SV) (m : Mem) : Option (Bool × Ex × St) :=
  match vals, m with
  | [.v (.int .i64 D), .ptr 0 0, .ptr 1 0, .row 0, .row 1, .v (.int .u64 r), .v (.int .i64 i)], ⟨[[.v (.int .i64 a), .v (.int .u64 b)], [.v (.int .i64 c), .v (.int .u64 d)], [.v (.int .i64 e), .v (.int .u64 f)]], [true, true, true], [.live ⟨3, .i64, X, true⟩, .live ⟨3, .i64, Q, true⟩]⟩ =>
    some (decide (X = bl (wu e f) 128) && (decide (Q = List.replicate 128 0) && (r == 0 && (i == 127 && (inU f && (decide (0 < D) && inI D))))), .exit 0, S32x a b c d e f D (wu e f % D) (bl (wu e f / D) 128))
  | _, _ => none
def Λ32 : LoopOrc := fun _ st => viaK keep32 G32 st
theorem loopOk32 (w0 : World) : LoopOk Λ32 Try.prog w0 body32 := by
  refine loop_okK (Λ := L0) (keep := keep32) (kx := fun _ => kx32) Okk mixed (fun b hb => by rw [loops32a] at hb; cases hb) (G := G32) (fun _ => rfl) ?_
  intro vals m e st' h
  unfold G32 at h
  split at h
  · rename_i D r i a b c d e f X Q
    injection h with h
    injection h with h1 h
    injection h with h2 h3
    subst h2 h3
    simp only [Bool.and_eq_true, beq_iff_eq, decide_eq_true_eq] at h1
    obtain ⟨rfl, rfl, rfl, rfl, g1, g2, g3⟩ := h1
    rw [inU_iff] at g1
    rw [inI_iff] at g3
    have hw : 0 ≤ wu e f ∧ wu e f < 340282366920938463463374607431768211456 := by unfold wu; rw [wrapU]; omega
    exact ⟨129, loop32 a b c d e f D (wu e f) hw.1 hw.2 g2 g3.2⟩
  · cases h
end Go.Proofs.Ytanjomncnbmgkaa

namespace Go.Proofs.Ytanjomncnbmgkaa
open Go Go.Proofs Go.Sx
def test32 (e f D : Int) : Bool := decide (bl (wu e f) 128 = bl (wu e f) 128) && (decide (List.replicate (Int.toNat 128) (0 : Int) = List.replicate 128 0) && ((0 : Int) == 0 && ((127 : Int) == 127 && (inU f && (decide (0 < D) && inI D)))))
def q32 (e f D : Int) : List Int := bl (wu e f / D) 128
def hiQ (Q : List Int) : Int := IntKind.i64.wrap (hiL Q 64)
def loQ (Q : List Int) : Int := loL Q 64
def fW (Q : List Int) : Int := -wv (hiQ Q) (loQ Q)
def out32 (a D r : Int) (Q : List Int) : Option Value :=
  bif decide (Q.length = 128) then
    bif decide (a < 0) then
      bif inU (loQ Q) then
        bif decide (r > 0) then
          bif inU (pLo (fW Q)) && inU (loW (-1)) then
            some (.tuple #[pW (wv (pHi (fW Q)) (pLo (fW Q)) + wv (hiW (-1)) (loW (-1))), .int .i64 (IntKind.i64.wrap (wU (wU D - r))), .bool true])
          else none
        else some (.tuple #[pW (fW Q), .int .i64 (IntKind.i64.wrap r), .bool true])
      else none
    else some (.tuple #[W (hiQ Q) (loQ Q), .int .i64 (IntKind.i64.wrap r), .bool true])
  else none
theorem run32 (a b D : Int) : run Γk Λ32 Try.prog Try.f32 [W a b, .int .i64 D] =
    bif decide (D ≤ 0) then some (.tuple #[W 0 0, .int .i64 0, .bool false])
    else bif decide (a < 0) then
      bif inU b then
        bif inU (pLo (-wv a b)) then
          bif test32 (pHi (-wv a b)) (pLo (-wv a b)) D then out32 a D (wu (pHi (-wv a b)) (pLo (-wv a b)) % D) (q32 (pHi (-wv a b)) (pLo (-wv a b)) D) else none
        else none
      else none
    else
      bif inU b then
        bif test32 a b D then out32 a D (wu a b % D) (q32 a b D) else none
      else none := by kernel_rfl

theorem test32_eq {e f D : Int} (h1 : inU f = true) (h2 : 0 < D) (h3 : inI D = true) : test32 e f D = true := by
  unfold test32
  rw [h1, h3]
  have : decide (List.replicate (Int.toNat 128) (0 : Int) = List.replicate 128 0) = true := by decide
  rw [this]
  simp [h2]
theorem q32_p (e f D : Int) : hiQ (q32 e f D) = pHi (wu e f / D) ∧ loQ (q32 e f D) = pLo (wu e f / D) ∧ (q32 e f D).length = 128 := by
  unfold q32 hiQ loQ
  refine ⟨?_, ?_, bl_length _ _⟩
  · rw [hi_bl]; unfold pHi; rw [wrapI, wrapI]; rw [Int.emod_emod_of_dvd _ (by decide)]
  · rw [lo_bl]; rfl
theorem call32 (a b D : Int) (hW : inW a b = true) (hDI : inI D = true) : CallOk Try.prog 32 [W a b, .int .i64 D] (.tuple #[pW (dvQ (wv a b) D), .int .i64 (dvR (wv a b) D), .bool (decide (0 < D))]) := by
  refine callOk_of_runV Okk mixed names (Λ := Λ32) Try.func32 rfl (fun w b hb => ?_) ?_
  · have hb' : b ∈ loopsOf (Try.f32.body.getD .skip) := hb
    rw [loops32, List.mem_singleton] at hb'
    subst hb'; exact loopOk32 w
  · rw [run32]
    have hW' := inW_iff.1 hW
    by_cases hd : D ≤ 0
    · have h0 : ¬ 0 < D := by omega
      unfold dvQ dvR
      simp only [hd, h0, decide_true, decide_false, cond_true, cond_false]
      rfl
    · have h0 : 0 < D := by omega
      have hD' := inI_iff.1 hDI
      have hb : inU b = true := by rw [inU_iff]; omega
      unfold dvQ dvR
      simp only [hd, h0, decide_true, decide_false, cond_true, cond_false]
      by_cases ha : a < 0
      · have hn : wv a b < 0 ∧ -170141183460469231731687303715884105728 ≤ wv a b := by unfold wv; omega
        have hx : wu (pHi (-wv a b)) (pLo (-wv a b)) = -wv a b := by
          generalize wv a b = n at *
          unfold wu pHi pLo
          rw [wrapU, wrapI]; split <;> omega
        obtain ⟨e1, e2, e3⟩ := q32_p (pHi (-wv a b)) (pLo (-wv a b)) D
        have ef : fW (q32 (pHi (-wv a b)) (pLo (-wv a b)) D) = -wv (pHi (wu (pHi (-wv a b)) (pLo (-wv a b)) / D)) (pLo (wu (pHi (-wv a b)) (pLo (-wv a b)) / D)) := by
          unfold fW; rw [e1, e2]
        rw [hb, inU_pLo, test32_eq (inU_pLo _) h0 hDI]
        unfold out32
        rw [ef, e3, e2, hx, inU_pLo, inU_pLo, show inU (loW (-1)) = true by decide, show wv (hiW (-1)) (loW (-1)) = -1 by decide]
        simp only [ha, decide_true, cond_true, Bool.and_self]
        generalize wv a b = n at *
        have m1 := Int.mul_ediv_add_emod (-n) D
        have m2 := Int.emod_nonneg (-n) (by omega : D ≠ 0)
        have m3 := Int.emod_lt_of_pos (-n) h0
        have w1 := wv_p (-n / D)
        have w2 := wv_p (-wv (pHi (-n / D)) (pLo (-n / D)))
        by_cases hr : -n % D > 0
        · simp only [hr, decide_true, cond_true]
          obtain ⟨f1, f2⟩ := @divmod_of D (-(-n / D) - 1) (D - -n % D) (by omega) (by omega)
          have en : D * (-(-n / D) - 1) + (D - -n % D) = n := by rw [Int.mul_sub, Int.mul_neg, Int.mul_one]; omega
          rw [en] at f1 f2
          rw [f1, f2]
          have g1 : pW (wv (pHi (-wv (pHi (-n / D)) (pLo (-n / D)))) (pLo (-wv (pHi (-n / D)) (pLo (-n / D)))) + -1) = pW (-(-n / D) - 1) := by
            apply pW_eq; omega
          have g2 : IntKind.i64.wrap (wU (wU D - -n % D)) = D - -n % D := by
            unfold wU; rw [wrapU, wrapU, wrapI]; split <;> omega
          rw [g1, g2]
        · simp only [hr, decide_false, cond_false]
          have hr0 : -n % D = 0 := by omega
          obtain ⟨f1, f2⟩ := @divmod_of D (-(-n / D)) 0 (by omega) (by omega)
          have en : D * (-(-n / D)) + 0 = n := by rw [Int.mul_neg]; omega
          rw [en] at f1 f2
          rw [f1, f2, hr0]
          have g1 : pW (-wv (pHi (-n / D)) (pLo (-n / D))) = pW (-(-n / D)) := by
            apply pW_eq; omega
          rw [g1, show IntKind.i64.wrap 0 = 0 by decide]
      · have hx : wu a b = wv a b := by unfold wu wv; rw [wrapU]; omega
        obtain ⟨e1, e2, e3⟩ := q32_p a b D
        rw [hb, test32_eq hb h0 hDI]
        unfold out32
        rw [e1, e2, e3, hx]
        simp only [ha, decide_true, decide_false, cond_true, cond_false]
        generalize wv a b = n at *
        have m2 := Int.emod_nonneg n (by omega : D ≠ 0)
        have m3 := Int.emod_lt_of_pos n h0
        have g2 : IntKind.i64.wrap (n % D) = n % D := by
          rw [wrapI]; split <;> omega
        rw [g2]; rfl
def tI : FuncId → List Value → Option (Bool × Value)
  | 32, [.agg ⟨[.int .i64 a, .int .u64 b]⟩, .int .i64 d] => some (inW a b && inI d, .tuple #[pW (dvQ (wv a b) d), .int .i64 (dvR (wv a b) d), .bool (decide (0 < d))])
  | _, _ => none
theorem tI_ok (f : FuncId) (vs : List Value) (r : Value) (h : tI f vs = some (true, r)) : CallOk Try.prog f vs r := by
  unfold tI at h
  split at h
  · injection h with h; injection h with h1 h2; subst h2
    simp only [Bool.and_eq_true] at h1
    exact call32 _ _ _ h1.1 h1.2
  · cases h
noncomputable def Γl := add tI Γk
theorem Okl : Γl.Ok Try.prog := add_ok Okk tI_ok
end Go.Proofs.Ytanjomncnbmgkaa

namespace Go.Proofs.Ytanjomncnbmgkaa
open Go Go.Proofs Go.Sx
def wW (n : Int) : Int := wv (hiW n) (loW n)
theorem run5 (a b d : Int) : run Γl L0 Try.prog Try.f5 [W a b, .int .i64 d] =
    bif inW a b && inI d then
     bif inW a b && inI d then
      bif !(hiW (dvQ (wv a b) d) == pHi (dvQ (wv a b) d) && (loW (dvQ (wv a b) d) == pLo (dvQ (wv a b) d) && true)) then some (.bool false)
      else bif dvR (wv a b) d != dvR (wv a b) d then some (.bool false)
      else bif !decide (0 < d) == decide (0 < d) then some (.bool false)
      else bif inW (hiW (dvQ (wv a b) d)) (loW (dvQ (wv a b) d)) then
       bif !decide (0 < d) then some (.bool (decide (0 < d) == decide (d > 0)))
       else bif !inI (wW (dvQ (wv a b) d)) then some (.bool (decide (0 < d) == decide (d > 0)))
       else bif inI (smI (wW (dvQ (wv a b) d))) && inI d then
        bif inI (dvR (wv a b) d) then
         bif inW (hiW (smI (wW (dvQ (wv a b) d)) * d)) (loW (smI (wW (dvQ (wv a b) d)) * d)) && inW (hiW (dvR (wv a b) d)) (loW (dvR (wv a b) d)) then
          bif decide (dvR (wv a b) d ≥ 0) then
           bif decide (dvR (wv a b) d < d) then
            bif okW (wW (smI (wW (dvQ (wv a b) d)) * d) + wW (dvR (wv a b) d)) then
             some (.bool (hiW (wW (smI (wW (dvQ (wv a b) d)) * d) + wW (dvR (wv a b) d)) == a && (loW (wW (smI (wW (dvQ (wv a b) d)) * d) + wW (dvR (wv a b) d)) == b && true)))
            else some (.bool false)
           else some (.bool false)
          else some (.bool false)
         else none
        else none
       else none
      else none
     else none
    else none := by kernel_rfl

theorem W_self {a b : Int} (h : inW a b = true) : okW (wv a b) = true ∧ hiW (wv a b) = a ∧ loW (wv a b) = b := by
  have h' := inW_iff.1 h
  obtain ⟨k1, k2, k3⟩ := okW_of (n := wv a b) (by unfold wv; omega) (by unfold wv; omega)
  refine ⟨k1, ?_, ?_⟩
  · rw [k2]; unfold wv; omega
  · rw [k3]; unfold wv; omega
theorem wideDiv (a b d : Int) (hW : inW a b = true) (hd : inI d = true) : run Γl L0 Try.prog Try.f5 [W a b, .int .i64 d] = some (.bool true) := by
  rw [run5, hW, hd]
  by_cases h0 : 0 < d
  · obtain ⟨k1, k2, k3, k4, k5⟩ := div30 a b d hW h0 hd
    have eq : dvQ (wv a b) d = wv a b / d := by unfold dvQ; simp [h0]
    have er : dvR (wv a b) d = wv a b % d := by unfold dvR; simp [h0]
    obtain ⟨p1, p2⟩ := p_ok k1
    obtain ⟨q1, q2⟩ := wv_Wn k1
    obtain ⟨w1, w2, w3⟩ := W_self hW
    have r0 := Int.emod_nonneg (wv a b) (by omega : d ≠ 0)
    have r1 := Int.emod_lt_of_pos (wv a b) h0
    have hd' := inI_iff.1 hd
    have hr : inI (wv a b % d) = true := by rw [inI_iff]; omega
    have em : wv a b / d * d + wv a b % d = wv a b := by rw [Int.mul_comm]; exact Int.mul_ediv_add_emod _ _
    obtain ⟨q3, q4⟩ := wv_Wn (okW_I hr)
    rw [eq, er, p1, p2, q2]
    have e1 : wW (wv a b / d) = wv a b / d := q1
    have e2 : wW (wv a b % d) = wv a b % d := q3
    rw [e1, e2]
    have g0 : decide (wv a b % d ≥ 0) = true := by simpa using r0
    have g1 : decide (wv a b % d < d) = true := by simpa using r1
    simp only [h0, decide_true, BEq.rfl, Bool.and_self, cond_true, Bool.not_true, cond_false, bne_self_eq_false, g0, g1]
    cases hI : inI (wv a b / d)
    · rfl
    · have sm : smI (wv a b / d) = wv a b / d := by unfold smI; rw [hI]; rfl
      have hk := okW_mul hI hd
      obtain ⟨q5, q6⟩ := wv_Wn hk
      have e3 : wW (wv a b / d * d) = wv a b / d * d := q5
      rw [sm, hI, hr, q6, q4, e3, em, w1, w2, w3]
      simp
  · have eq : dvQ (wv a b) d = 0 := by unfold dvQ; simp [h0]
    have er : dvR (wv a b) d = 0 := by unfold dvR; simp [h0]
    rw [eq, er, show hiW 0 = 0 by decide, show loW 0 = 0 by decide, show pHi 0 = 0 by decide, show pLo 0 = 0 by decide, show inW 0 0 = true by decide]

    simp [h0]
end Go.Proofs.Ytanjomncnbmgkaa

