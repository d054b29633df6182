/-
  Contract: math/bits.Div64.
-/
import Derived.Test.YtanjomncnbmgkaaYg
namespace Go.Proofs.Ytanjomncnbmgkaa
open Go Go.Proofs Go.Sx

/-- The quotient's digit. -/
def kq (n1 n0 u32 u1 : Int) : Int := (u32 * 4294967296 + u1) / (n1 * 4294967296 + n0)
def KI (n1 n0 u32 u1 q r : Int) : Prop := 2147483648 ≤ n1 ∧ n1 < 4294967296 ∧ 0 ≤ n0 ∧ n0 < 4294967296 ∧ 0 ≤ u1 ∧ u1 < 4294967296 ∧ q * n1 + r = u32 ∧ 0 ≤ r ∧ r < 4294967296 ∧ q ≤ 4294967297 ∧ kq n1 n0 u32 u1 ≤ q ∧ 0 ≤ kq n1 n0 u32 u1 ∧ kq n1 n0 u32 u1 < 4294967296
def kT (n1 n0 u32 u1 q r : Int) : Bool := decide (2147483648 ≤ n1 ∧ n1 < 4294967296 ∧ 0 ≤ n0 ∧ n0 < 4294967296 ∧ 0 ≤ u1 ∧ u1 < 4294967296 ∧ 0 ≤ u32 ∧ u32 < n1 * 4294967296 + n0 ∧ q = u32 / n1 ∧ r = u32 % n1)

theorem kq_le {n1 n0 u32 u1 q : Int} (hy : 0 < n1 * 4294967296 + n0) : q ≤ kq n1 n0 u32 u1 ↔ q * (n1 * 4294967296 + n0) ≤ u32 * 4294967296 + u1 := Int.le_ediv_iff_mul_le hy

theorem kT_KI {n1 n0 u32 u1 q r : Int} (h : kT n1 n0 u32 u1 q r = true) : KI n1 n0 u32 u1 q r := by
  simp only [kT, decide_eq_true_eq] at h
  obtain ⟨h1, h2, h3, h4, h5, h6, h7, h8, rfl, rfl⟩ := h
  have hd := Int.mul_ediv_add_emod u32 n1
  have r0 := Int.emod_nonneg u32 (by omega : n1 ≠ 0)
  have r1 := Int.emod_lt_of_pos u32 (by omega : 0 < n1)
  have hy : 0 < n1 * 4294967296 + n0 := by omega
  have hq0 : 0 ≤ u32 / n1 := Int.ediv_nonneg h7 (by omega)
  have hq : u32 / n1 ≤ 4294967297 := by
    have : u32 / n1 < 4294967298 := Int.ediv_lt_of_lt_mul (by omega) (by omega)
    omega
  refine ⟨h1, h2, h3, h4, h5, h6, ?_, r0, by omega, hq, ?_, Int.ediv_nonneg (by omega) (by omega), Int.ediv_lt_of_lt_mul hy (by omega)⟩
  · rw [Int.mul_comm]; exact hd
  · have : kq n1 n0 u32 u1 < u32 / n1 + 1 := by
      refine Int.ediv_lt_of_lt_mul hy ?_
      rw [Int.add_mul, Int.one_mul, Int.mul_add, Int.mul_comm (u32 / n1) (n1 * 4294967296), Int.mul_right_comm]
      have hz : 0 ≤ u32 / n1 * n0 := Int.mul_nonneg hq0 h3
      omega
    omega

theorem kStep {n1 n0 u32 u1 q r : Int} (h : KI n1 n0 u32 u1 q r) :
    IntKind.u64.wrap (r + n1) = r + n1 ∧
    (q < 4294967296 → IntKind.u64.wrap (q * n0) = q * n0 ∧ IntKind.u64.wrap (IntKind.u64.wrap (4294967296 * r) + u1) = 4294967296 * r + u1) ∧
    ((q ≥ 4294967296 ∨ q * n0 > 4294967296 * r + u1) → IntKind.u64.wrap (q - 1) = q - 1 ∧ (r + n1 ≥ 4294967296 → q - 1 = kq n1 n0 u32 u1) ∧ (r + n1 < 4294967296 → KI n1 n0 u32 u1 (q - 1) (r + n1))) ∧
    (q < 4294967296 → q * n0 ≤ 4294967296 * r + u1 → q = kq n1 n0 u32 u1) := by
  obtain ⟨h1, h2, h3, h4, h5, h6, h7, h8, h9, h10, h11, h12, h13⟩ := h
  have hy : 0 < n1 * 4294967296 + n0 := by omega
  have e1 : q * (n1 * 4294967296 + n0) = q * n1 * 4294967296 + q * n0 := by rw [Int.mul_add, Int.mul_assoc]
  have hq0 : 0 ≤ q := by omega
  have hle := @kq_le n1 n0 u32 u1 q hy
  have hle' := @kq_le n1 n0 u32 u1 (q - 1) hy
  have e2 : (q - 1) * (n1 * 4294967296 + n0) = q * n1 * 4294967296 + q * n0 - (n1 * 4294967296 + n0) := by rw [Int.sub_mul, e1, Int.one_mul]
  have e3 : (q - 1) * n1 = q * n1 - n1 := by rw [Int.sub_mul, Int.one_mul]
  have e4 : (q - 1) * n0 = q * n0 - n0 := by rw [Int.sub_mul, Int.one_mul]
  have b1 : 0 ≤ q * n0 := Int.mul_nonneg hq0 h3
  have b2 : q < 4294967296 → q * n0 ≤ 4294967295 * 4294967295 := fun hq => Int.mul_le_mul (by omega) (by omega) h3 (by omega)
  have b3 : (q - 1) * n0 ≤ 4294967296 * 4294967295 := by
    rcases Int.le_total 0 (q - 1) with hh | hh
    · exact Int.mul_le_mul (by omega) (by omega) h3 (by omega)
    · have : q - 1 = 0 ∨ q = 0 := by omega
      rcases this with hh | hh
      · rw [hh]; simp
      · subst hh; omega
  have gt : (q ≥ 4294967296 ∨ q * n0 > 4294967296 * r + u1) → kq n1 n0 u32 u1 < q := by
    rintro (hc | hc)
    · omega
    · have : ¬ q ≤ kq n1 n0 u32 u1 := by rw [hle, e1]; omega
      omega
  rw [e1] at hle
  rw [e2] at hle'
  generalize hA : q * n1 = A at *
  generalize hB : q * n0 = B at *
  refine ⟨by rw [wrapU]; omega, fun hq => ?_, fun hc => ?_, fun hq hc => ?_⟩
  · have := b2 hq
    rw [wrapU, wrapU, wrapU]; omega
  · have hg := gt hc
    refine ⟨by rw [wrapU]; omega, fun hr => ?_, fun hr => ?_⟩
    · have : q - 1 ≤ kq n1 n0 u32 u1 := hle'.2 (by omega)
      omega
    · exact ⟨h1, h2, h3, h4, h5, h6, by rw [e3]; omega, by omega, hr, by omega, by omega, h12, h13⟩
  · have : q ≤ kq n1 n0 u32 u1 := hle.2 (by omega)
    omega

def keep61 : List Bool := maskOf 135 [15, 10, 16, 13, 9, 11, 2, 14, 8]
def kx61 : List Bool := maskOf 135 [11, 13, 15, 2, 9, 10, 14, 8]
def keep61b : List Bool := maskOf 135 [18, 10, 16, 14, 9, 15, 17, 2, 8]
def kx61b : List Bool := maskOf 135 [15, 18, 17, 14, 2, 8]
noncomputable def body61 : Code := loopAt (Try.f61.body.getD .skip) 0
noncomputable def body61' : Code := loopAt (Try.f61.body.getD .skip) 1
theorem loops61 : loopsOf (Try.f61.body.getD .skip) = [body61, body61'] := by kernel_rfl
theorem loops61a : loopsOf body61 = [] := by kernel_rfl
theorem loops61b : loopsOf body61' = [] := by kernel_rfl
theorem tag61 : tagOf body61 = 17 := by kernel_rfl
theorem tag61b : tagOf body61' = 24 := by kernel_rfl
def M0' : Mem := ⟨[], [], []⟩
def S61 (y s n1 n0 u32 u1 u0 q r : Int) : St := mk keep61 [.v (.int .u64 y), .v (.int .u64 s), .v (.int .u64 n1), .v (.int .u64 n0), .v (.int .u64 u32), .v (.int .u64 u1), .v (.int .u64 u0), .v (.int .u64 q), .v (.int .u64 r)] M0'
def S61x (y s n1 n0 u32 u1 u0 q : Int) : St := mk kx61 [.v (.int .u64 y), .v (.int .u64 s), .v (.int .u64 n1), .v (.int .u64 n0), .v (.int .u64 u32), .v (.int .u64 u1), .v (.int .u64 u0), .v (.int .u64 q)] M0'
def S61b (y s n1 n0 u0 q1 r u21 q : Int) : St := mk keep61b [.v (.int .u64 y), .v (.int .u64 s), .v (.int .u64 n1), .v (.int .u64 n0), .v (.int .u64 u0), .v (.int .u64 q1), .v (.int .u64 r), .v (.int .u64 u21), .v (.int .u64 q)] M0'
def S61y (y s u0 q1 u21 q : Int) : St := mk kx61b [.v (.int .u64 y), .v (.int .u64 s), .v (.int .u64 u0), .v (.int .u64 q1), .v (.int .u64 u21), .v (.int .u64 q)] M0'
def K61 (e : Ex) (st : St) : Option (Ex × St) := some (e, cutG kx61 st)
def K61b (e : Ex) (st : St) : Option (Ex × St) := some (e, cutG kx61b st)


end Go.Proofs.Ytanjomncnbmgkaa

namespace Go.Proofs.Ytanjomncnbmgkaa
open Go Go.Proofs Go.Sx

theorem step61 (y s n1 n0 u32 u1 u0 q r : Int) (m : Nat) : evLoop Γi Try.prog L0 (cutG keep61) body61 (m + 1) (S61 y s n1 n0 u32 u1 u0 q r) K61 =
    bif decide (q ≥ 4294967296) then
      bif decide (IntKind.u64.wrap (r + n1) ≥ 4294967296) then some (.exit 0, S61x y s n1 n0 u32 u1 u0 (IntKind.u64.wrap (q - 1)))
      else evLoop Γi Try.prog L0 (cutG keep61) body61 m (S61 y s n1 n0 u32 u1 u0 (IntKind.u64.wrap (q - 1)) (IntKind.u64.wrap (r + n1))) K61
    else
      bif decide (IntKind.u64.wrap (q * n0) > IntKind.u64.wrap (IntKind.u64.wrap (4294967296 * r) + u1)) then
        bif decide (IntKind.u64.wrap (r + n1) ≥ 4294967296) then some (.exit 0, S61x y s n1 n0 u32 u1 u0 (IntKind.u64.wrap (q - 1)))
        else evLoop Γi Try.prog L0 (cutG keep61) body61 m (S61 y s n1 n0 u32 u1 u0 (IntKind.u64.wrap (q - 1)) (IntKind.u64.wrap (r + n1))) K61
      else some (.exit 0, S61x y s n1 n0 u32 u1 u0 q) := by kernel_rfl
theorem step61b (y s n1 n0 u0 q1 r u21 q : Int) (m : Nat) : evLoop Γi Try.prog L0 (cutG keep61b) body61' (m + 1) (S61b y s n1 n0 u0 q1 r u21 q) K61b =
    bif decide (q ≥ 4294967296) then
      bif decide (IntKind.u64.wrap (r + n1) ≥ 4294967296) then some (.exit 2, S61y y s u0 q1 u21 (IntKind.u64.wrap (q - 1)))
      else evLoop Γi Try.prog L0 (cutG keep61b) body61' m (S61b y s n1 n0 u0 q1 (IntKind.u64.wrap (r + n1)) u21 (IntKind.u64.wrap (q - 1))) K61b
    else
      bif decide (IntKind.u64.wrap (q * n0) > IntKind.u64.wrap (IntKind.u64.wrap (4294967296 * r) + u0)) then
        bif decide (IntKind.u64.wrap (r + n1) ≥ 4294967296) then some (.exit 2, S61y y s u0 q1 u21 (IntKind.u64.wrap (q - 1)))
        else evLoop Γi Try.prog L0 (cutG keep61b) body61' m (S61b y s n1 n0 u0 q1 (IntKind.u64.wrap (r + n1)) u21 (IntKind.u64.wrap (q - 1))) K61b
      else some (.exit 2, S61y y s u0 q1 u21 q) := by kernel_rfl


end Go.Proofs.Ytanjomncnbmgkaa

namespace Go.Proofs.Ytanjomncnbmgkaa
open Go Go.Proofs Go.Sx

theorem knuth {α : Type} {n1 n0 u32 u1 : Int} (E : Nat → Int → Int → α) (F : Int → α)
    (hE : ∀ m q r, E (m + 1) q r =
      bif decide (q ≥ 4294967296) then
        bif decide (IntKind.u64.wrap (r + n1) ≥ 4294967296) then F (IntKind.u64.wrap (q - 1)) else E m (IntKind.u64.wrap (q - 1)) (IntKind.u64.wrap (r + n1))
      else
        bif decide (IntKind.u64.wrap (q * n0) > IntKind.u64.wrap (IntKind.u64.wrap (4294967296 * r) + u1)) then
          bif decide (IntKind.u64.wrap (r + n1) ≥ 4294967296) then F (IntKind.u64.wrap (q - 1)) else E m (IntKind.u64.wrap (q - 1)) (IntKind.u64.wrap (r + n1))
        else F q) : ∀ (m : Nat) (q r : Int), KI n1 n0 u32 u1 q r → 4294967296 ≤ r + (m + 1) * 2147483648 → E (m + 1) q r = F (kq n1 n0 u32 u1) := by
  have main : ∀ (m : Nat) (q r : Int), KI n1 n0 u32 u1 q r → (r + n1 < 4294967296 → KI n1 n0 u32 u1 (q - 1) (r + n1) → E m (q - 1) (r + n1) = F (kq n1 n0 u32 u1)) → E (m + 1) q r = F (kq n1 n0 u32 u1) := by
    intro m q r h hn
    obtain ⟨k1, k2, k3, k4⟩ := kStep h
    rw [hE, k1]
    have go : (q ≥ 4294967296 ∨ q * n0 > 4294967296 * r + u1) → (bif decide (r + n1 ≥ 4294967296) then F (IntKind.u64.wrap (q - 1)) else E m (IntKind.u64.wrap (q - 1)) (r + n1)) = F (kq n1 n0 u32 u1) := by
      intro hc
      obtain ⟨j1, j2, j3⟩ := k3 hc
      rw [j1]
      by_cases hb : r + n1 ≥ 4294967296
      · simp only [hb, decide_true, cond_true, j2 hb]
      · simp only [hb, decide_false, cond_false]
        exact hn (by omega) (j3 (by omega))
    by_cases hq : q ≥ 4294967296
    · simp only [hq, decide_true, cond_true]
      exact go (.inl hq)
    · obtain ⟨i1, i2⟩ := k2 (by omega)
      rw [i1, i2]
      by_cases hc : q * n0 > 4294967296 * r + u1
      · simp only [hq, hc, decide_true, decide_false, cond_true, cond_false]
        exact go (.inr hc)
      · simp only [hq, hc, decide_false, cond_false]
        rw [← k4 (by omega) (by omega)]
  intro m
  induction m with
  | zero =>
    intro q r h hr
    exact main 0 q r h (fun hlt _ => by have := h.1; omega)
  | succ m ih =>
    intro q r h hr
    exact main (m + 1) q r h (fun _ hk => ih _ _ hk (by have := h.1; omega))

theorem loop61 (y s n1 n0 u32 u1 u0 : Int) (q r : Int) (h : KI n1 n0 u32 u1 q r) :
    evLoop Γi Try.prog L0 (cutG keep61) body61 2 (S61 y s n1 n0 u32 u1 u0 q r) K61 = some (.exit 0, S61x y s n1 n0 u32 u1 u0 (kq n1 n0 u32 u1)) :=
  knuth (fun m q r => evLoop Γi Try.prog L0 (cutG keep61) body61 m (S61 y s n1 n0 u32 u1 u0 q r) K61) (fun q => some (.exit 0, S61x y s n1 n0 u32 u1 u0 q)) (fun m q r => step61 y s n1 n0 u32 u1 u0 q r m) 1 q r h (by have := h.2.2.2.2.2.2.2.1; omega)
theorem loop61b (y s n1 n0 u0 q1 u21 : Int) (q r : Int) (h : KI n1 n0 u21 u0 q r) :
    evLoop Γi Try.prog L0 (cutG keep61b) body61' 2 (S61b y s n1 n0 u0 q1 r u21 q) K61b = some (.exit 2, S61y y s u0 q1 u21 (kq n1 n0 u21 u0)) :=
  knuth (fun m q r => evLoop Γi Try.prog L0 (cutG keep61b) body61' m (S61b y s n1 n0 u0 q1 r u21 q) K61b) (fun q => some (.exit 2, S61y y s u0 q1 u21 q)) (fun m q r => step61b y s n1 n0 u0 q1 r u21 q m) 1 q r h (by have := h.2.2.2.2.2.2.2.1; omega)
end Go.Proofs.Ytanjomncnbmgkaa

namespace Go.Proofs.Ytanjomncnbmgkaa
open Go Go.Proofs Go.Sx

def G61 (vals : List SV) (m : Mem) : Option (Bool × Ex × St) :=
  match vals, m with
  | [.v (.int .u64 y), .v (.int .u64 s), .v (.int .u64 n1), .v (.int .u64 n0), .v (.int .u64 u32), .v (.int .u64 u1), .v (.int .u64 u0), .v (.int .u64 q), .v (.int .u64 r)], ⟨[], [], []⟩ =>
    some (kT n1 n0 u32 u1 q r, .exit 0, S61x y s n1 n0 u32 u1 u0 (kq n1 n0 u32 u1))
  | _, _ => none
def G61b (vals : List SV) (m : Mem) : Option (Bool × Ex × St) :=
  match vals, m with
  | [.v (.int .u64 y), .v (.int .u64 s), .v (.int .u64 n1), .v (.int .u64 n0), .v (.int .u64 u0), .v (.int .u64 q1), .v (.int .u64 r), .v (.int .u64 u21), .v (.int .u64 q)], ⟨[], [], []⟩ =>
    some (kT n1 n0 u21 u0 q r, .exit 2, S61y y s u0 q1 u21 (kq n1 n0 u21 u0))
  | _, _ => none
def Λ61 : LoopOrc := fun body st => match tagOf body with
  | 17 => viaK keep61 G61 st
  | 24 => viaK keep61b G61b st
  | _ => none
theorem loopOk61 (w0 : World) : LoopOk Λ61 Try.prog w0 body61 := by
  refine loop_okK (Λ := L0) (keep := keep61) (kx := fun _ => kx61) Oki mixed (fun b hb => by rw [loops61a] at hb; cases hb) (G := G61) (fun st => by unfold Λ61; rw [tag61]; rfl) ?_
  intro vals m e st' h
  unfold G61 at h
  split at h
  · rename_i y s n1 n0 u32 u1 u0 q r
    injection h with h
    injection h with h1 h
    injection h with h2 h3
    subst h2 h3
    have hk := kT_KI h1
    exact ⟨2, loop61 y s n1 n0 u32 u1 u0 q r hk⟩
  · cases h
theorem loopOk61b (w0 : World) : LoopOk Λ61 Try.prog w0 body61' := by
  refine loop_okK (Λ := L0) (keep := keep61b) (kx := fun _ => kx61b) Oki mixed (fun b hb => by rw [loops61b] at hb; cases hb) (G := G61b) (fun st => by unfold Λ61; rw [tag61b]; rfl) ?_
  intro vals m e st' h
  unfold G61b at h
  split at h
  · rename_i y s n1 n0 u0 q1 r u21 q
    injection h with h
    injection h with h1 h
    injection h with h2 h3
    subst h2 h3
    have hk := kT_KI h1
    exact ⟨2, loop61b y s n1 n0 u0 q1 u21 q r hk⟩
  · cases h
end Go.Proofs.Ytanjomncnbmgkaa

namespace Go.Proofs.Ytanjomncnbmgkaa
open Go Go.Proofs Go.Sx

def wU (n : Int) : Int := IntKind.u64.wrap n
def shl (x k : Int) : Int := IntKind.u64.wrap (x * 2 ^ min (Int.toNat k) (IntKind.bits IntKind.u64))
def msk (x : Int) : Int := IntKind.u64.wrap (BitVec.toNat (BitVec.ofInt (IntKind.bits IntKind.u64) x &&& BitVec.ofInt (IntKind.bits IntKind.u64) 4294967295) : Int)
def orU (r q : Int) : Int := IntKind.u64.wrap ((BitVec.ofInt 64 r ||| BitVec.ofInt 64 q).toNat : Int)
def dS (y : Int) : Int := wU (64 - (bitLen y.toNat : Int))
def dY (y : Int) : Int := shl y (dS y)
def dN1 (y : Int) : Int := sh (dY y) 32
def dN0 (y : Int) : Int := msk (dY y)
def dU32 (a b y : Int) : Int := orU (shl a (dS y)) (sh b (wU (64 - dS y)))
def dU10 (b y : Int) : Int := shl b (dS y)
def dU1 (b y : Int) : Int := sh (dU10 b y) 32
def dU0 (b y : Int) : Int := msk (dU10 b y)
def dQ (u n1 : Int) : Int := wU (u.tdiv n1)
def dR (u n1 : Int) : Int := wU (u - wU (dQ u n1 * n1))
def dRest (u u1 q y : Int) : Int := wU (wU (wU (u * 4294967296) + u1) - wU (q * y))
def dQ1 (a b y : Int) : Int := kq (dN1 y) (dN0 y) (dU32 a b y) (dU1 b y)
def dU21 (a b y : Int) : Int := dRest (dU32 a b y) (dU1 b y) (dQ1 a b y) (dY y)
def dQ0 (a b y : Int) : Int := kq (dN1 y) (dN0 y) (dU21 a b y) (dU0 b y)
def two (q r : Int) : Value := .tuple #[.int .u64 q, .int .u64 r]
theorem run61 (a b y : Int) : run Γi Λ61 Try.prog Try.f61 [.int .u64 a, .int .u64 b, .int .u64 y] =
    bif y == 0 then none else
    bif decide (y ≤ a) then none else
    bif a == 0 then
      bif y == 0 then none else bif y == 0 then none else some (two (wU (b.tdiv y)) (b.tmod y))
    else
    bif inU y then
    bif decide (dS y < 0) then none else
    bif decide (dS y < 0) then none else
    bif decide (wU (64 - dS y) < 0) then none else
    bif decide (dS y < 0) then none else
    bif dN1 y == 0 then none else
    bif kT (dN1 y) (dN0 y) (dU32 a b y) (dU1 b y) (dQ (dU32 a b y) (dN1 y)) (dR (dU32 a b y) (dN1 y)) then
    bif dN1 y == 0 then none else
    bif kT (dN1 y) (dN0 y) (dU21 a b y) (dU0 b y) (dQ (dU21 a b y) (dN1 y)) (dR (dU21 a b y) (dN1 y)) then
    bif decide (dS y < 0) then none else
    some (two (wU (wU (dQ1 a b y * 4294967296) + dQ0 a b y)) (sh (dRest (dU21 a b y) (dU0 b y) (dQ0 a b y) (dY y)) (dS y)))
    else none
    else none
    else none := by kernel_rfl
end Go.Proofs.Ytanjomncnbmgkaa

namespace Go.Proofs.Ytanjomncnbmgkaa
open Go Go.Proofs Go.Sx

theorem msk_eq (x : Int) (h0 : 0 ≤ x) (h1 : x < 18446744073709551616) : msk x = x % 4294967296 := by
  obtain ⟨n, rfl⟩ := Int.eq_ofNat_of_zero_le h0
  unfold msk
  show IntKind.u64.wrap ((BitVec.ofInt 64 (n : Int) &&& BitVec.ofInt 64 4294967295).toNat : Int) = _
  have e : (BitVec.ofInt 64 4294967295) = BitVec.ofNat 64 (2 ^ 32 - 1) := by decide
  rw [e, BitVec.toNat_and, BitVec.ofInt_natCast, BitVec.toNat_ofNat, BitVec.toNat_ofNat]
  rw [Nat.mod_eq_of_lt (a := 2 ^ 32 - 1) (by decide), Nat.and_two_pow_sub_one_eq_mod, wrapU]
  omega
theorem orU_disj (k m b : Nat) (hb : b < 2 ^ k) (h : m * 2 ^ k + b < 18446744073709551616) : orU ((m * 2 ^ k : Nat) : Int) (b : Int) = ((m * 2 ^ k + b : Nat) : Int) := by
  unfold orU
  rw [BitVec.ofInt_natCast, BitVec.ofInt_natCast, BitVec.toNat_or, BitVec.toNat_ofNat, BitVec.toNat_ofNat]
  rw [Nat.mod_eq_of_lt (by omega), Nat.mod_eq_of_lt (by omega), Nat.mul_comm, ← Nat.two_pow_add_eq_or_of_lt hb, wrapU, Nat.mul_comm]
  omega
theorem shl_nat (n k : Nat) (hk : k ≤ 64) : shl n k = ((n * 2 ^ k % 18446744073709551616 : Nat) : Int) := by
  unfold shl
  have hm : min (k : Int).toNat (IntKind.bits IntKind.u64) = k := by
    show min (k : Int).toNat 64 = k
    omega
  rw [hm, wrapU, Int.natCast_emod, Int.natCast_mul, Int.natCast_pow]
  rfl

/-- Division of 128 bits by 64, with the divisor shifted so that its highest bit is set. -/
theorem div61 (a b y k : Nat) (ha : a < y) (hb : b < 18446744073709551616) (hy : y * 2 ^ k < 18446744073709551616) (hy' : 9223372036854775808 ≤ y * 2 ^ k) (hk : k < 64) (ds : dS y = k) :
    kT (dN1 y) (dN0 y) (dU32 a b y) (dU1 b y) (dQ (dU32 a b y) (dN1 y)) (dR (dU32 a b y) (dN1 y)) = true ∧
    kT (dN1 y) (dN0 y) (dU21 a b y) (dU0 b y) (dQ (dU21 a b y) (dN1 y)) (dR (dU21 a b y) (dN1 y)) = true ∧
    wU (wU (dQ1 a b y * 4294967296) + dQ0 a b y) = (a * 18446744073709551616 + b : Int) / y ∧
    sh (dRest (dU21 a b y) (dU0 b y) (dQ0 a b y) (dY y)) (dS y) = (a * 18446744073709551616 + b : Int) % y := by
  have hP : 0 < 2 ^ k := Nat.two_pow_pos k
  have hQ : 0 < 2 ^ (64 - k) := Nat.two_pow_pos _
  have hPQ : 2 ^ k * 2 ^ (64 - k) = 18446744073709551616 := by rw [← Nat.pow_add, show k + (64 - k) = 64 by omega]
  have eY : dY y = ((y * 2 ^ k : Nat) : Int) := by
    unfold dY
    rw [ds, shl_nat _ _ (by omega), Nat.mod_eq_of_lt hy]
  have eN1 : dN1 y = (y * 2 ^ k : Nat) / 4294967296 := by
    unfold dN1
    have h32 := sh_nat (y * 2 ^ k) 32 (by decide)
    rw [eY, show ((32 : Int)) = ((32 : Nat) : Int) from rfl, h32]
    simp
  have eN0 : dN0 y = (y * 2 ^ k : Nat) % 4294967296 := by
    unfold dN0
    rw [eY, msk_eq _ (by omega) (by omega)]
  have hay : a * 2 ^ k + 2 ^ k ≤ y * 2 ^ k := by
    have := Nat.mul_le_mul_right (2 ^ k) (show a + 1 ≤ y from ha)
    rwa [Nat.add_mul, Nat.one_mul] at this
  have hbq : b / 2 ^ (64 - k) < 2 ^ k := by
    rw [Nat.div_lt_iff_lt_mul hQ, hPQ]; exact hb
  have eU : dU32 a b y = ((a * 2 ^ k + b / 2 ^ (64 - k) : Nat) : Int) := by
    unfold dU32
    have e64 : wU (64 - dS y) = ((64 - k : Nat) : Int) := by
      unfold wU; rw [ds, wrapU]; omega
    rw [e64, ds, shl_nat _ _ (by omega), sh_nat _ _ (by omega), Nat.mod_eq_of_lt (by omega), orU_disj _ _ _ hbq (by omega)]
  have eT : dU10 b y = ((b * 2 ^ k % 18446744073709551616 : Nat) : Int) := by
    unfold dU10
    rw [ds, shl_nat _ _ (by omega)]
  have hN : (a * 18446744073709551616 + b) * 2 ^ k = (a * 2 ^ k + b / 2 ^ (64 - k)) * 18446744073709551616 + b * 2 ^ k % 18446744073709551616 := by
    have h1 : b * 2 ^ k / 18446744073709551616 = b / 2 ^ (64 - k) := by
      rw [← hPQ, Nat.mul_comm (2 ^ k), Nat.mul_div_mul_right _ _ hP]
    have h2 := Nat.div_add_mod (b * 2 ^ k) 18446744073709551616
    rw [h1] at h2
    rw [Nat.add_mul, Nat.add_mul, Nat.mul_right_comm]
    omega
  have eU1 : dU1 b y = (b * 2 ^ k % 18446744073709551616 : Nat) / 4294967296 := by
    unfold dU1
    have h32 := sh_nat (b * 2 ^ k % 18446744073709551616) 32 (by decide)
    rw [eT, show ((32 : Int)) = ((32 : Nat) : Int) from rfl, h32]
    simp
  have eU0 : dU0 b y = (b * 2 ^ k % 18446744073709551616 : Nat) % 4294967296 := by
    unfold dU0
    rw [eT, msk_eq _ (by omega) (by omega)]
  have hUY : a * 2 ^ k + b / 2 ^ (64 - k) < y * 2 ^ k := by omega
  -- the answer, in terms of what was shifted
  have fin1 : ((a * 18446744073709551616 + b : Int) / y) = (((a * 2 ^ k + b / 2 ^ (64 - k) : Nat) : Int) * 18446744073709551616 + (b * 2 ^ k % 18446744073709551616 : Nat)) / (y * 2 ^ k : Nat) := by
    have : (((a * 2 ^ k + b / 2 ^ (64 - k) : Nat) : Int) * 18446744073709551616 + (b * 2 ^ k % 18446744073709551616 : Nat)) = ((a * 18446744073709551616 + b) * 2 ^ k : Nat) := by rw [hN, Int.natCast_add, Int.natCast_mul]; rfl
    rw [this]
    have : ((((a * 18446744073709551616 + b) * 2 ^ k : Nat) : Int) / ((y * 2 ^ k : Nat) : Int)) = (((a * 18446744073709551616 + b) * 2 ^ k / (y * 2 ^ k) : Nat) : Int) := by rw [Int.natCast_ediv]
    rw [this, Nat.mul_div_mul_right _ _ hP, Int.natCast_ediv, Int.natCast_add, Int.natCast_mul]
    rfl
  have fin2 : (((a * 2 ^ k + b / 2 ^ (64 - k) : Nat) : Int) * 18446744073709551616 + (b * 2 ^ k % 18446744073709551616 : Nat)) % (y * 2 ^ k : Nat) = (((a * 18446744073709551616 + b) % y * 2 ^ k : Nat) : Int) := by
    have : (((a * 2 ^ k + b / 2 ^ (64 - k) : Nat) : Int) * 18446744073709551616 + (b * 2 ^ k % 18446744073709551616 : Nat)) = ((a * 18446744073709551616 + b) * 2 ^ k : Nat) := by rw [hN, Int.natCast_add, Int.natCast_mul]; rfl
    rw [this, ← Nat.mul_mod_mul_right, Int.natCast_emod]
  have eM : ((a * 18446744073709551616 + b : Int) % y) = (((a * 18446744073709551616 + b) % y : Nat) : Int) := by rw [Int.natCast_emod, Int.natCast_add, Int.natCast_mul]; rfl
  have hs : ∀ m : Nat, sh (((m * 2 ^ k : Nat)) : Int) (k : Int) = m := fun m => by
    rw [sh_nat _ _ (by omega), Nat.mul_div_cancel _ hP]
  clear hN hPQ hbq hay
  unfold dQ0 dU21 dQ1
  rw [ds, eM, fin1]
  rw [← Int.toNat_of_nonneg (show (0 : Int) ≤ _ from Int.emod_nonneg (((a * 2 ^ k + b / 2 ^ (64 - k) : Nat) : Int) * 18446744073709551616 + (b * 2 ^ k % 18446744073709551616 : Nat)) (by omega : ((y * 2 ^ k : Nat) : Int) ≠ 0))] at fin2
  have fin3 := hs ((a * 18446744073709551616 + b) % y)
  rw [← fin2] at fin3
  rw [← fin3]
  clear fin1 fin2 fin3 eM hs
  have e9 := Int.toNat_of_nonneg (show (0 : Int) ≤ _ from Int.emod_nonneg (((a * 2 ^ k + b / 2 ^ (64 - k) : Nat) : Int) * 18446744073709551616 + (b * 2 ^ k % 18446744073709551616 : Nat)) (by omega : ((y * 2 ^ k : Nat) : Int) ≠ 0))
  rw [e9]
  clear e9
  rw [eN1, eN0, eU, eU1, eU0, eY]
  have hU0 : 0 ≤ ((a * 2 ^ k + b / 2 ^ (64 - k) : Nat) : Int) := Int.natCast_nonneg _
  generalize hu : ((a * 2 ^ k + b / 2 ^ (64 - k) : Nat) : Int) = U at *
  generalize hv : (b * 2 ^ k % 18446744073709551616 : Nat) = V at *
  have hV : (V : Int) < 18446744073709551616 := by rw [← hv]; omega
  have hV0 : 0 ≤ (V : Int) := by omega
  have hUY' : U < (y * 2 ^ k : Nat) := by omega
  have hY1 : ((y * 2 ^ k : Nat) : Int) < 18446744073709551616 := by omega
  have hY2 : (9223372036854775808 : Int) ≤ ((y * 2 ^ k : Nat) : Int) := by omega
  generalize ((y * 2 ^ k : Nat) : Int) = Y at *
  generalize (V : Int) = T at *
  clear hu hv eY eN1 eN0 eU eT eU1 eU0 hUY hy hy' ds
  have hY : Y / 4294967296 * 4294967296 + Y % 4294967296 = Y := by omega
  have hT : T / 4294967296 * 4294967296 + T % 4294967296 = T := by omega
  unfold kq
  rw [hY]
  have q0 : 0 ≤ (U * 4294967296 + T / 4294967296) / Y := Int.ediv_nonneg (by omega) (by omega)
  have q1 : (U * 4294967296 + T / 4294967296) / Y < 4294967296 := Int.ediv_lt_of_lt_mul (by omega) (by omega)
  have q2 := Int.mul_ediv_add_emod (U * 4294967296 + T / 4294967296) Y
  have q3 := Int.emod_nonneg (U * 4294967296 + T / 4294967296) (by omega : Y ≠ 0)
  have q4 := Int.emod_lt_of_pos (U * 4294967296 + T / 4294967296) (by omega : 0 < Y)
  have dq : ∀ u : Int, 0 ≤ u → u < Y → kT (Y / 4294967296) (Y % 4294967296) u (T / 4294967296) (dQ u (Y / 4294967296)) (dR u (Y / 4294967296)) = true ∧ kT (Y / 4294967296) (Y % 4294967296) u (T % 4294967296) (dQ u (Y / 4294967296)) (dR u (Y / 4294967296)) = true := by
    intro u h0 h1
    have d0 : 0 ≤ u / (Y / 4294967296) := Int.ediv_nonneg h0 (by omega)
    have d1 : u / (Y / 4294967296) ≤ u := Int.ediv_le_self _ h0
    have d2 := Int.mul_ediv_add_emod u (Y / 4294967296)
    have d3 := Int.emod_nonneg u (by omega : Y / 4294967296 ≠ 0)
    have d4 := Int.emod_lt_of_pos u (by omega : 0 < Y / 4294967296)
    have eq : dQ u (Y / 4294967296) = u / (Y / 4294967296) := by
      unfold dQ wU
      rw [Int.tdiv_eq_ediv_of_nonneg h0, wrapU]
      omega
    have er : dR u (Y / 4294967296) = u % (Y / 4294967296) := by
      unfold dR
      rw [eq]
      unfold wU
      rw [Int.mul_comm]
      rw [wrapU, wrapU]
      omega
    unfold kT
    rw [eq, er]
    simp only [decide_eq_true_eq, and_true]
    omega
  have rest : ∀ u v q : Int, 0 ≤ u → u < 18446744073709551616 → 0 ≤ v → v < 4294967296 → 0 ≤ (u * 4294967296 + v) - q * Y → (u * 4294967296 + v) - q * Y < 18446744073709551616 → dRest u v q Y = (u * 4294967296 + v) - q * Y := by
    intro u v q h0 h1 h2 h3 h4 h5
    unfold dRest wU
    rw [wrapU, wrapU, wrapU, wrapU]
    omega
  rw [rest U (T / 4294967296) _ hU0 (by omega) (by omega) (by omega) (by rw [Int.mul_comm _ Y]; omega) (by rw [Int.mul_comm _ Y]; omega)]
  have e21 : U * 4294967296 + T / 4294967296 - (U * 4294967296 + T / 4294967296) / Y * Y = (U * 4294967296 + T / 4294967296) % Y := by rw [Int.mul_comm _ Y]; omega
  rw [e21]
  generalize (U * 4294967296 + T / 4294967296) / Y = Q1 at *
  generalize hR : (U * 4294967296 + T / 4294967296) % Y = R1 at *
  have p0 : 0 ≤ (R1 * 4294967296 + T % 4294967296) / Y := Int.ediv_nonneg (by omega) (by omega)
  have p1 : (R1 * 4294967296 + T % 4294967296) / Y < 4294967296 := Int.ediv_lt_of_lt_mul (by omega) (by omega)
  have p2 := Int.mul_ediv_add_emod (R1 * 4294967296 + T % 4294967296) Y
  have p3 := Int.emod_nonneg (R1 * 4294967296 + T % 4294967296) (by omega : Y ≠ 0)
  have p4 := Int.emod_lt_of_pos (R1 * 4294967296 + T % 4294967296) (by omega : 0 < Y)
  have eall : U * 18446744073709551616 + T = Y * (Q1 * 4294967296) + (R1 * 4294967296 + T % 4294967296) := by
    have : Y * (Q1 * 4294967296) = (Y * Q1) * 4294967296 := by rw [Int.mul_assoc]
    rw [this]; omega
  refine ⟨(dq U hU0 hUY').1, (dq R1 q3 q4).2, ?_, ?_⟩
  · rw [eall, Int.mul_add_ediv_left _ _ (by omega : Y ≠ 0)]
    unfold wU
    rw [wrapU, wrapU]
    omega
  · rw [rest R1 (T % 4294967296) _ q3 (by omega) (by omega) (by omega) (by rw [Int.mul_comm _ Y]; omega) (by rw [Int.mul_comm _ Y]; omega)]
    rw [eall, Int.mul_add_emod_self_left]
    congr 1
    rw [Int.mul_comm _ Y]; omega

theorem call61 (a b y : Int) (h0 : inU b = true) (h1 : 0 ≤ a) (h2 : a < y) (h3 : inU y = true) : CallOk Try.prog 61 [.int .u64 a, .int .u64 b, .int .u64 y] (two ((a * 18446744073709551616 + b) / y) ((a * 18446744073709551616 + b) % y)) := by
  refine callOk_of_runV Oki mixed names (Λ := Λ61) Try.func61 rfl (fun w b hb => ?_) ?_
  · have hb' : b ∈ loopsOf (Try.f61.body.getD .skip) := hb
    rw [loops61] at hb'
    rcases List.mem_cons.1 hb' with hb' | hb'
    · subst hb'; exact loopOk61 w
    · rw [List.mem_singleton] at hb'
      subst hb'; exact loopOk61b w
  · rw [run61]
    have h3' := inU_iff.1 h3
    have h0' := inU_iff.1 h0
    obtain ⟨n, rfl⟩ := Int.eq_ofNat_of_zero_le h1
    obtain ⟨m, rfl⟩ := Int.eq_ofNat_of_zero_le h0'.1
    obtain ⟨y, rfl⟩ := Int.eq_ofNat_of_zero_le h3'.1
    have c1 : ((y : Int) == 0) = false := by simp; omega
    have c2 : decide ((y : Int) ≤ n) = false := by simp; omega
    rw [c1, c2, h3]
    simp only [cond_false, cond_true]
    by_cases hn : n = 0
    · subst hn
      simp only [Int.natCast_zero, BEq.rfl, cond_true, Int.zero_mul, Int.zero_add]
      have d0 : 0 ≤ (m : Int) / y := Int.ediv_nonneg (by omega) (by omega)
      have d1 : (m : Int) / y ≤ m := Int.ediv_le_self _ (by omega)
      unfold wU
      rw [Int.tdiv_eq_ediv_of_nonneg (by omega), Int.tmod_eq_emod_of_nonneg (by omega), wrapU, Int.emod_eq_of_lt d0 (by omega)]
    · have c3 : ((n : Int) == 0) = false := by simp; omega
      rw [c3]
      simp only [cond_false]
      have bs := bitLen_spec y
      have bl := bitLen_le64 y (by omega)
      have hy0 : y ≠ 0 := by omega
      have b0 : bitLen y ≠ 0 := by unfold bitLen; simp [hy0]
      have ds : dS (y : Int) = ((64 - bitLen y : Nat) : Int) := by
        unfold dS wU
        rw [Int.toNat_natCast, wrapU]; omega
      have hk : 64 - bitLen y < 64 := by omega
      have u1 : y * 2 ^ (64 - bitLen y) < 18446744073709551616 := by
        have := Nat.mul_lt_mul_of_pos_right bs.1 (Nat.two_pow_pos (64 - bitLen y))
        rwa [← Nat.pow_add, show bitLen y + (64 - bitLen y) = 64 by omega] at this
      have u2 : 9223372036854775808 ≤ y * 2 ^ (64 - bitLen y) := by
        have := Nat.mul_le_mul_right (2 ^ (64 - bitLen y)) (bs.2 hy0)
        rwa [← Nat.pow_add, show bitLen y - 1 + (64 - bitLen y) = 63 by omega] at this
      obtain ⟨t1, t2, t3, t4⟩ := div61 n m y (64 - bitLen y) (by omega) (by omega) u1 u2 hk ds
      rw [t1, t2, t3, t4]
      have z1 : decide (dS (y : Int) < 0) = false := by rw [ds]; simp
      have z2 : decide (wU (64 - dS (y : Int)) < 0) = false := by unfold wU; rw [ds, wrapU]; simp; omega
      have z3 : (dN1 (y : Int) == 0) = false := by
        simp only [kT, decide_eq_true_eq] at t1
        simp; omega
      rw [z1, z2, z3]
      simp only [cond_false, cond_true]
end Go.Proofs.Ytanjomncnbmgkaa

