/-
  What a verdict says, with more or less slack, and near the truth: two laws of verdict over values.
-/
import Derived.Test.YtmfeioinhpdebaaYa
import Derived.Test.YtmfeioinhpdebaaYc
import Derived.Test.YtmfeioinhpdebaaYg
import Derived.Test.YtmfeioinhpdebaaYd
namespace Go.Proofs.Ytmfeioinhpdebaa
open Go Go.Proofs Go.Sx
set_option linter.unusedVariables false
/-! norm -/
/-! cast -/
/-! Impacts: the box. -/
noncomputable def bdIm : Code := loopAt (Try.f63.body.getD .skip) 0
theorem loopsIm : loopsOf (Try.f63.body.getD .skip) = [bdIm] := by kernel_rfl
def kIm : List Bool := maskOf 64 [2, 3, 6, 11, 42, 43]
def xIm (e : Ex) : List Bool := match e with
  | .exit _ => maskOf 64 [6, 11]
  | .ret => maskOf 64 [6]
  | .normal => maskOf 64 [2, 3, 6, 11, 42, 43]
def KIm (e : Ex) (st : St) : Option (Ex × St) := some (e, cutC 0 0 (xIm e) st)
def MIm (p q x y z vx vy vz a b c d : Int) : Mem := ⟨[[.v (I p), .v (I q), .v (I x), .v (I y), .v (I z), .v (I vx), .v (I vy), .v (I vz)], [.v (I 0), .v (I 0), .v (I 0), .v (I 0)], [.v (I a), .v (I b), .v (I c), .v (I d)]], [true, true, true], []⟩
set_option maxRecDepth 20000 in
theorem stepIm0 (p q x y z vx vy vz a b c d e lo hi : Int) (n : Nat) : evLoop ΓBx Try.prog L0 (cutC 0 0 kIm) bdIm (n + 1) (mk kIm [.v (I e), .ptr 0 0, .ptr 1 0, .ptr 2 0, .v (.agg #[I lo, I hi]), .v (I 0)] (MIm p q x y z vx vy vz a b c d)) KIm =
    (bif rcG x y vx vy (wI ((0 : Int) - e)) lo then (bif ofG (x + (vx + wI ((0 : Int) - e)) * lo) (y + (vy + wI ((0 : Int) - e)) * lo) e then (bif boR a b c d && boR (x + (vx + wI ((0 : Int) - e)) * lo - e) (y + (vy + wI ((0 : Int) - e)) * lo - e) (x + (vx + wI ((0 : Int) - e)) * lo + e) (y + (vy + wI ((0 : Int) - e)) * lo + e) then (bif rcG x y vx vy e lo then (bif ofG (x + (vx + e) * lo) (y + (vy + e) * lo) e then (bif boR (mn a (x + (vx + wI ((0 : Int) - e)) * lo - e)) (mn b (y + (vy + wI ((0 : Int) - e)) * lo - e)) (mx c (x + (vx + wI ((0 : Int) - e)) * lo + e)) (mx d (y + (vy + wI ((0 : Int) - e)) * lo + e)) && boR (x + (vx + e) * lo - e) (y + (vy + e) * lo - e) (x + (vx + e) * lo + e) (y + (vy + e) * lo + e) then evLoop ΓBx Try.prog L0 (cutC 0 0 kIm) bdIm n (mk kIm [.v (I e), .ptr 0 0, .ptr 1 0, .ptr 2 0, .v (.agg #[(I lo), (I hi)]), .v (I 1)] ⟨[[.v (I p), .v (I q), .v (I x), .v (I y), .v (I z), .v (I vx), .v (I vy), .v (I vz)], [.v (I 0), .v (I 0), .v (I 0), .v (I 0)], [.v (I (mn (mn a (x + (vx + wI ((0 : Int) - e)) * lo - e)) (x + (vx + e) * lo - e))), .v (I (mn (mn b (y + (vy + wI ((0 : Int) - e)) * lo - e)) (y + (vy + e) * lo - e))), .v (I (mx (mx c (x + (vx + wI ((0 : Int) - e)) * lo + e)) (x + (vx + e) * lo + e))), .v (I (mx (mx d (y + (vy + wI ((0 : Int) - e)) * lo + e)) (y + (vy + e) * lo + e)))]], [true, true, true], []⟩) KIm else none) else none) else none) else none) else none) else none) := by kernel_rfl
set_option maxRecDepth 20000 in
theorem stepIm1 (p q x y z vx vy vz a b c d e lo hi : Int) (n : Nat) : evLoop ΓBx Try.prog L0 (cutC 0 0 kIm) bdIm (n + 1) (mk kIm [.v (I e), .ptr 0 0, .ptr 1 0, .ptr 2 0, .v (.agg #[I lo, I hi]), .v (I 1)] (MIm p q x y z vx vy vz a b c d)) KIm =
    (bif rcG x y vx vy (wI ((0 : Int) - e)) hi then (bif ofG (x + (vx + wI ((0 : Int) - e)) * hi) (y + (vy + wI ((0 : Int) - e)) * hi) e then (bif boR a b c d && boR (x + (vx + wI ((0 : Int) - e)) * hi - e) (y + (vy + wI ((0 : Int) - e)) * hi - e) (x + (vx + wI ((0 : Int) - e)) * hi + e) (y + (vy + wI ((0 : Int) - e)) * hi + e) then (bif rcG x y vx vy e hi then (bif ofG (x + (vx + e) * hi) (y + (vy + e) * hi) e then (bif boR (mn a (x + (vx + wI ((0 : Int) - e)) * hi - e)) (mn b (y + (vy + wI ((0 : Int) - e)) * hi - e)) (mx c (x + (vx + wI ((0 : Int) - e)) * hi + e)) (mx d (y + (vy + wI ((0 : Int) - e)) * hi + e)) && boR (x + (vx + e) * hi - e) (y + (vy + e) * hi - e) (x + (vx + e) * hi + e) (y + (vy + e) * hi + e) then evLoop ΓBx Try.prog L0 (cutC 0 0 kIm) bdIm n (mk kIm [.v (I e), .ptr 0 0, .ptr 1 0, .ptr 2 0, .v (.agg #[(I lo), (I hi)]), .v (I 2)] ⟨[[.v (I p), .v (I q), .v (I x), .v (I y), .v (I z), .v (I vx), .v (I vy), .v (I vz)], [.v (I 0), .v (I 0), .v (I 0), .v (I 0)], [.v (I (mn (mn a (x + (vx + wI ((0 : Int) - e)) * hi - e)) (x + (vx + e) * hi - e))), .v (I (mn (mn b (y + (vy + wI ((0 : Int) - e)) * hi - e)) (y + (vy + e) * hi - e))), .v (I (mx (mx c (x + (vx + wI ((0 : Int) - e)) * hi + e)) (x + (vx + e) * hi + e))), .v (I (mx (mx d (y + (vy + wI ((0 : Int) - e)) * hi + e)) (y + (vy + e) * hi + e)))]], [true, true, true], []⟩) KIm else none) else none) else none) else none) else none) else none) := by kernel_rfl
set_option maxRecDepth 20000 in
theorem stepIm2 (p q x y z vx vy vz a b c d e lo hi : Int) (n : Nat) : evLoop ΓBx Try.prog L0 (cutC 0 0 kIm) bdIm (n + 1) (mk kIm [.v (I e), .ptr 0 0, .ptr 1 0, .ptr 2 0, .v (.agg #[I lo, I hi]), .v (I 2)] (MIm p q x y z vx vy vz a b c d)) KIm =
    some ((.exit 0), mk (xIm (.exit 0)) [.ptr 0 0, .ptr 1 0] ⟨[[.v (I 0), .v (I 0), .v (I 0), .v (I 0)], [.v (I a), .v (I b), .v (I c), .v (I d)]], [true, true], []⟩) := by kernel_rfl
theorem inP {x v f t : Int} (h1 : -2147483648 ≤ x ∧ x ≤ 2147483648) (h2 : -131072 ≤ v ∧ v ≤ 131072) (h3 : -2048 ≤ f ∧ f ≤ 2048) (h4 : 0 ≤ t ∧ t ≤ 2097154) : -300000000000 ≤ x + (v + f) * t ∧ x + (v + f) * t ≤ 300000000000 := by
  have p := mulB (a := v + f) (b := t) (A := 133120) (B := 2097154) (by omega) (by omega) (by omega) (by omega)
  omega
/-- A box that is near enough. -/
def Bd (a b c d : Int) : Prop := a ≤ c ∧ b ≤ d ∧ (-310000000000 ≤ a ∧ c ≤ 310000000000) ∧ -310000000000 ≤ b ∧ d ≤ 310000000000
def bdB (a b c d : Int) : Bool := decide (a ≤ c ∧ b ≤ d ∧ (-310000000000 ≤ a ∧ c ≤ 310000000000) ∧ -310000000000 ≤ b ∧ d ≤ 310000000000)
theorem bdB_iff {a b c d : Int} : bdB a b c d = true ↔ Bd a b c d := decide_eq_true_iff
theorem Bd.bo {a b c d : Int} (h : Bd a b c d) : boR a b c d = true := by
  obtain ⟨h1, h2, h3, h4⟩ := h
  exact boR_iff.2 ⟨plR_iff.2 (by omega), plR_iff.2 (by omega), h1, h2⟩
theorem Bd.of {x y e : Int} (he : 0 ≤ e ∧ e ≤ 2048) (hx : -300000000000 ≤ x ∧ x ≤ 300000000000) (hy : -300000000000 ≤ y ∧ y ≤ 300000000000) : Bd (x - e) (y - e) (x + e) (y + e) := ⟨by omega, by omega, by omega, by omega⟩
theorem Bd.join {a b c d a' b' c' d' : Int} (h : Bd a b c d) (h' : Bd a' b' c' d') : Bd (mn a a') (mn b b') (mx c c') (mx d d') := by
  obtain ⟨h1, h2, h3, h4⟩ := h
  obtain ⟨k1, k2, k3, k4⟩ := h'
  have m1 := mn_le a a'
  have m2 := mn_le b b'
  have m3 := le_mx c c'
  have m4 := le_mx d d'
  exact ⟨by omega, by omega, by omega, by omega⟩
theorem ofG_of {x y e : Int} (he : 0 ≤ e ∧ e ≤ 2048) (hx : -300000000000 ≤ x ∧ x ≤ 300000000000) (hy : -300000000000 ≤ y ∧ y ≤ 300000000000) : ofG x y e = true := ofG_iff.2 ⟨by omega, by omega, by omega⟩
theorem rcG_of {x y vx vy f t : Int} (h : nvR x y vx vy = true) (h3 : -2048 ≤ f ∧ f ≤ 2048) (h4 : 0 ≤ t ∧ t ≤ 2097154) : rcG x y vx vy f t = true := by
  have := nvR_iff.1 h
  exact rcG_iff.2 ⟨by omega, by omega, by omega, by omega, by omega, by omega⟩
def jL (a x v e t : Int) : Int := mn (mn a (x + (v + -e) * t - e)) (x + (v + e) * t - e)
def jH (a x v e t : Int) : Int := mx (mx a (x + (v + -e) * t + e)) (x + (v + e) * t + e)
theorem jBd {a b c d x y vx vy e t : Int} (h : Bd a b c d) (hn : nvR x y vx vy = true) (he : 0 ≤ e ∧ e ≤ 2048) (ht : 0 ≤ t ∧ t ≤ 2097154) : Bd (jL a x vx e t) (jL b y vy e t) (jH c x vx e t) (jH d y vy e t) := by
  have n := nvR_iff.1 hn
  refine (h.join (Bd.of he (inP n.1 n.2.2.1 (f := -e) ?_ ht) (inP n.2.1 n.2.2.2 (f := -e) ?_ ht))).join (Bd.of he (inP n.1 n.2.2.1 (f := e) ?_ ht) (inP n.2.1 n.2.2.2 (f := e) ?_ ht)) <;> omega
theorem rndIm0 (p q x y z vx vy vz a b c d e lo hi : Int) (n : Nat) (h : Bd a b c d) (hn : nvR x y vx vy = true) (he : 0 ≤ e ∧ e ≤ 2048) (ht : 0 ≤ lo ∧ lo ≤ 2097154) :
    evLoop ΓBx Try.prog L0 (cutC 0 0 kIm) bdIm (n + 1) (mk kIm [.v (I e), .ptr 0 0, .ptr 1 0, .ptr 2 0, .v (.agg #[I lo, I hi]), .v (I 0)] (MIm p q x y z vx vy vz a b c d)) KIm =
    evLoop ΓBx Try.prog L0 (cutC 0 0 kIm) bdIm n (mk kIm [.v (I e), .ptr 0 0, .ptr 1 0, .ptr 2 0, .v (.agg #[I lo, I hi]), .v (I 1)] (MIm p q x y z vx vy vz (jL a x vx e lo) (jL b y vy e lo) (jH c x vx e lo) (jH d y vy e lo))) KIm := by
  refine (stepIm0 p q x y z vx vy vz a b c d e lo hi n).trans ?_
  have nn := nvR_iff.1 hn
  have q1 := inP nn.1 nn.2.2.1 (f := -e) (t := lo) (by omega) ht
  have q2 := inP nn.2.1 nn.2.2.2 (f := -e) (t := lo) (by omega) ht
  have q3 := inP nn.1 nn.2.2.1 (f := e) (t := lo) (by omega) ht
  have q4 := inP nn.2.1 nn.2.2.2 (f := e) (t := lo) (by omega) ht
  have b1 := Bd.of he q1 q2
  have b2 := Bd.of he q3 q4
  rw [show wI (0 - e) = -e by rw [wI_id (by omega)]; omega, rcG_of hn (by omega) ht, rcG_of hn (by omega) ht, ofG_of he q1 q2, ofG_of he q3 q4, h.bo, b1.bo, (h.join b1).bo, b2.bo]
  rfl
theorem rndIm1 (p q x y z vx vy vz a b c d e lo hi : Int) (n : Nat) (h : Bd a b c d) (hn : nvR x y vx vy = true) (he : 0 ≤ e ∧ e ≤ 2048) (ht : 0 ≤ hi ∧ hi ≤ 2097154) :
    evLoop ΓBx Try.prog L0 (cutC 0 0 kIm) bdIm (n + 1) (mk kIm [.v (I e), .ptr 0 0, .ptr 1 0, .ptr 2 0, .v (.agg #[I lo, I hi]), .v (I 1)] (MIm p q x y z vx vy vz a b c d)) KIm =
    evLoop ΓBx Try.prog L0 (cutC 0 0 kIm) bdIm n (mk kIm [.v (I e), .ptr 0 0, .ptr 1 0, .ptr 2 0, .v (.agg #[I lo, I hi]), .v (I 2)] (MIm p q x y z vx vy vz (jL a x vx e hi) (jL b y vy e hi) (jH c x vx e hi) (jH d y vy e hi))) KIm := by
  refine (stepIm1 p q x y z vx vy vz a b c d e lo hi n).trans ?_
  have nn := nvR_iff.1 hn
  have q1 := inP nn.1 nn.2.2.1 (f := -e) (t := hi) (by omega) ht
  have q2 := inP nn.2.1 nn.2.2.2 (f := -e) (t := hi) (by omega) ht
  have q3 := inP nn.1 nn.2.2.1 (f := e) (t := hi) (by omega) ht
  have q4 := inP nn.2.1 nn.2.2.2 (f := e) (t := hi) (by omega) ht
  have b1 := Bd.of he q1 q2
  have b2 := Bd.of he q3 q4
  rw [show wI (0 - e) = -e by rw [wI_id (by omega)]; omega, rcG_of hn (by omega) ht, rcG_of hn (by omega) ht, ofG_of he q1 q2, ofG_of he q3 q4, h.bo, b1.bo, (h.join b1).bo, b2.bo]
  rfl
def XIm (a b c d : Int) : St := mk (xIm (.exit 0)) [.ptr 0 0, .ptr 1 0] ⟨[[.v (I 0), .v (I 0), .v (I 0), .v (I 0)], [.v (I a), .v (I b), .v (I c), .v (I d)]], [true, true], []⟩
def GIm (vals : List SV) (m : Mem) : Option (Bool × Ex × St) :=
  match vals, m with
  | [.v (.int .i64 e), .ptr 0 0, .ptr 1 0, .ptr 2 0, .v (.agg ⟨[.int .i64 lo, .int .i64 hi]⟩), .v (.int .i64 0)], ⟨[[.v (.int .i64 p), .v (.int .i64 q), .v (.int .i64 x), .v (.int .i64 y), .v (.int .i64 z), .v (.int .i64 vx), .v (.int .i64 vy), .v (.int .i64 vz)], [.v (.int .i64 0), .v (.int .i64 0), .v (.int .i64 0), .v (.int .i64 0)], [.v (.int .i64 a), .v (.int .i64 b), .v (.int .i64 c), .v (.int .i64 d)]], [true, true, true], []⟩ =>
    some (bdB a b c d && (nvR x y vx vy && (decide (0 ≤ e ∧ e ≤ 2048) && (decide (0 ≤ lo ∧ lo ≤ 2097154) && decide (0 ≤ hi ∧ hi ≤ 2097154)))), .exit 0, XIm (jL (jL a x vx e lo) x vx e hi) (jL (jL b y vy e lo) y vy e hi) (jH (jH c x vx e lo) x vx e hi) (jH (jH d y vy e lo) y vy e hi))
  | _, _ => none
noncomputable def ΛIm : LoopOrc := fun _ st => viaC 0 0 kIm GIm st
theorem loopOkIm (z : Base) (z1 : z.L.length = 0) (z2 : z.U.length = 0) : LoopOk ΛIm Try.prog z bdIm := by
  refine loop_okC (Λ := L0) (kx := xIm) OkBx mixed z1 z2 (fun b hb st t h => by cases h) (G := GIm) (fun _ => rfl) ?_
  intro vals m e st' h
  unfold GIm at h
  split at h
  · rename_i e lo hi p q x y z vx vy vz a b c d
    obtain ⟨h1, rfl, rfl⟩ := some_t2 h
    simp only [Bool.and_eq_true, decide_eq_true_eq] at h1
    obtain ⟨hb, hn, he, hlo, hhi⟩ := h1
    have hB := bdB_iff.1 hb
    exact ⟨3, ((rndIm0 p q x y z vx vy vz a b c d e lo hi 2 hB hn he hlo).trans (rndIm1 p q x y z vx vy vz _ _ _ _ e lo hi 1 (jBd hB hn he hlo) hn he hhi)).trans (stepIm2 p q x y z vx vy vz _ _ _ _ e lo hi 0)⟩
  · cases h
set_option maxRecDepth 20000 in
theorem runIBox (p q x y z vx vy vz g e : Int) : runG ΓBx ΛIm Try.prog Try.f63 [.v (.agg #[I p, I q, I x, I y, I z, I vx, I vy, I vz]), .v (I g), .v (I e)] M0 = 
    (bif !(frR z vz g && decide ((0 : Int) ≤ e ∧ e ≤ (2048 : Int))) then some (.v (.tuple #[(.agg #[(I 0), (I 0), (I 0), (I 0)]), (Bo false)]), M0) else (bif !nvR x y vx vy then some (.v (.tuple #[(.agg #[(I 0), (I 0), (I 0), (I 0)]), (Bo false)]), M0) else (bif rcG x y vx vy (0 : Int) (bif frR z vz g && decide ((0 : Int) ≤ e ∧ e ≤ (2048 : Int)) then tmF (z - e) (vz - e) g else (0 : Int)) then (bif ofG (x + (vx + (0 : Int)) * bif frR z vz g && decide ((0 : Int) ≤ e ∧ e ≤ (2048 : Int)) then tmF (z - e) (vz - e) g else (0 : Int)) (y + (vy + (0 : Int)) * bif frR z vz g && decide ((0 : Int) ≤ e ∧ e ≤ (2048 : Int)) then tmF (z - e) (vz - e) g else (0 : Int)) e then (bif bdB ((x + (vx + (0 : Int)) * bif frR z vz g && decide ((0 : Int) ≤ e ∧ e ≤ (2048 : Int)) then tmF (z - e) (vz - e) g else (0 : Int)) - e) ((y + (vy + (0 : Int)) * bif frR z vz g && decide ((0 : Int) ≤ e ∧ e ≤ (2048 : Int)) then tmF (z - e) (vz - e) g else (0 : Int)) - e) ((x + (vx + (0 : Int)) * bif frR z vz g && decide ((0 : Int) ≤ e ∧ e ≤ (2048 : Int)) then tmF (z - e) (vz - e) g else (0 : Int)) + e) ((y + (vy + (0 : Int)) * bif frR z vz g && decide ((0 : Int) ≤ e ∧ e ≤ (2048 : Int)) then tmF (z - e) (vz - e) g else (0 : Int)) + e) && (nvR x y vx vy && (decide ((0 : Int) ≤ e ∧ e ≤ (2048 : Int)) && (decide (((0 : Int) ≤ bif frR z vz g && decide ((0 : Int) ≤ e ∧ e ≤ (2048 : Int)) then tmF (z - e) (vz - e) g else (0 : Int)) ∧ (bif frR z vz g && decide ((0 : Int) ≤ e ∧ e ≤ (2048 : Int)) then tmF (z - e) (vz - e) g else (0 : Int)) ≤ (2097154 : Int)) && decide (((0 : Int) ≤ bif frR z vz g && decide ((0 : Int) ≤ e ∧ e ≤ (2048 : Int)) then tmF (z + e) (vz + e) g + (2 : Int) else (0 : Int)) ∧ (bif frR z vz g && decide ((0 : Int) ≤ e ∧ e ≤ (2048 : Int)) then tmF (z + e) (vz + e) g + (2 : Int) else (0 : Int)) ≤ (2097154 : Int))))) then some (.v (.tuple #[(.agg #[(I (jL (jL ((x + (vx + (0 : Int)) * bif frR z vz g && decide ((0 : Int) ≤ e ∧ e ≤ (2048 : Int)) then tmF (z - e) (vz - e) g else (0 : Int)) - e) x vx e (bif frR z vz g && decide ((0 : Int) ≤ e ∧ e ≤ (2048 : Int)) then tmF (z - e) (vz - e) g else (0 : Int))) x vx e (bif frR z vz g && decide ((0 : Int) ≤ e ∧ e ≤ (2048 : Int)) then tmF (z + e) (vz + e) g + (2 : Int) else (0 : Int)))), (I (jL (jL ((y + (vy + (0 : Int)) * bif frR z vz g && decide ((0 : Int) ≤ e ∧ e ≤ (2048 : Int)) then tmF (z - e) (vz - e) g else (0 : Int)) - e) y vy e (bif frR z vz g && decide ((0 : Int) ≤ e ∧ e ≤ (2048 : Int)) then tmF (z - e) (vz - e) g else (0 : Int))) y vy e (bif frR z vz g && decide ((0 : Int) ≤ e ∧ e ≤ (2048 : Int)) then tmF (z + e) (vz + e) g + (2 : Int) else (0 : Int)))), (I (jH (jH ((x + (vx + (0 : Int)) * bif frR z vz g && decide ((0 : Int) ≤ e ∧ e ≤ (2048 : Int)) then tmF (z - e) (vz - e) g else (0 : Int)) + e) x vx e (bif frR z vz g && decide ((0 : Int) ≤ e ∧ e ≤ (2048 : Int)) then tmF (z - e) (vz - e) g else (0 : Int))) x vx e (bif frR z vz g && decide ((0 : Int) ≤ e ∧ e ≤ (2048 : Int)) then tmF (z + e) (vz + e) g + (2 : Int) else (0 : Int)))), (I (jH (jH ((y + (vy + (0 : Int)) * bif frR z vz g && decide ((0 : Int) ≤ e ∧ e ≤ (2048 : Int)) then tmF (z - e) (vz - e) g else (0 : Int)) + e) y vy e (bif frR z vz g && decide ((0 : Int) ≤ e ∧ e ≤ (2048 : Int)) then tmF (z - e) (vz - e) g else (0 : Int))) y vy e (bif frR z vz g && decide ((0 : Int) ≤ e ∧ e ≤ (2048 : Int)) then tmF (z + e) (vz + e) g + (2 : Int) else (0 : Int))))]), (Bo true)]), M0) else none) else none) else none))) := by kernel_rfl
end Go.Proofs.Ytmfeioinhpdebaa

namespace Go.Proofs.Ytmfeioinhpdebaa
open Go Go.Proofs Go.Sx
set_option linter.unusedVariables false
/-! norm -/
/-! cast -/
def hX (x : Int) : Int := x.tmod 1073741824
def hZ (z : Int) : Int := wI ((BitVec.ofInt 64 z &&& BitVec.ofInt 64 1073741823).toNat : Int)
def hV (v : Int) : Int := v.tmod 65536
def oI (x d e : Int) : Int := wI (x + d.tmod (e + 1))
set_option maxRecDepth 20000 in
theorem runLHeld (p : Int) (q : Int) (x : Int) (y : Int) (z : Int) (vx : Int) (vy : Int) (vz : Int) : runG ΓBx L0 Try.prog Try.f29 [.v (.agg #[I p, I q, I x, I y, I z, I vx, I vy, I vz])] M0 = 
    some (.v (.agg #[(I p), (I q), (I (x.tmod (1073741824 : Int))), (I (y.tmod (1073741824 : Int))), (I (wI ((BitVec.ofInt (64 : Nat) z &&& BitVec.ofInt (64 : Nat) (1073741823 : Int)).toNat : Int))), (I (vx.tmod (65536 : Int))), (I (vy.tmod (65536 : Int))), (I (vz.tmod (65536 : Int)))]), M0) := by kernel_rfl
def gLHeld (vs : List Value) : Option (Bool × Value) :=
  match vs with
  | [.agg ⟨[.int .i64 p, .int .i64 q, .int .i64 x, .int .i64 y, .int .i64 z, .int .i64 vx, .int .i64 vy, .int .i64 vz]⟩] => some (true, .agg #[I p, I q, I (hX x), I (hX y), I (hZ z), I (hV vx), I (hV vy), I (hV vz)])
  | _ => none
theorem gLHeld_ok : ∀ vs r, gLHeld vs = some (true, r) → ∀ m, CallOk Try.prog 29 (vs.map .v) m (.v r) m := by
  intro vs r h
  unfold gLHeld at h
  split at h
  · rename_i p q x y z vx vy vz
    obtain ⟨h1, rfl⟩ := some_t h
    refine runV (vs := [.agg #[I p, I q, I x, I y, I z, I vx, I vy, I vz]]) (Λ := L0) (m' := M0) OkBx Try.func29 rfl (fun z _ _ => l0Ok' _ z) ?_
    exact (runLHeld p q x y z vx vy vz).trans (rfl)
  · cases h
noncomputable def ΓO1 : Orc := addVal 29 gLHeld ΓBx
theorem OkO1 : ΓO1.Ok Try.prog := addVal_ok OkBx gLHeld_ok
set_option maxRecDepth 20000 in
theorem runLOff (p : Int) (q : Int) (x : Int) (y : Int) (z : Int) (vx : Int) (vy : Int) (vz : Int) (d0 : Int) (d1 : Int) (d2 : Int) (d3 : Int) (d4 : Int) (d5 : Int) (e : Int) : runG ΓO1 L0 Try.prog Try.f30 [.v (.agg #[I p, I q, I x, I y, I z, I vx, I vy, I vz]), .v (.agg #[I d0, I d1, I d2, I d3, I d4, I d5]), .v (I e)] M0 = 
    (bif wI (e + (1 : Int)) == (0 : Int) then none else (same ((bif wI (e + (1 : Int)) == (0 : Int) then none else (same ((bif wI (e + (1 : Int)) == (0 : Int) then none else (bif wI (e + (1 : Int)) == (0 : Int) then none else (same ((bif wI (e + (1 : Int)) == (0 : Int) then none else (same ((bif wI (e + (1 : Int)) == (0 : Int) then none else some (.v (.agg #[(I p), (I q), (I (wI (x + d0.tmod (wI (e + (1 : Int)))))), (I (wI (y + d1.tmod (wI (e + (1 : Int)))))), (I (wI (z + d2.tmod (wI (e + (1 : Int)))))), (I (wI (vx + d3.tmod (wI (e + (1 : Int)))))), (I (wI (vy + d4.tmod (wI (e + (1 : Int)))))), (I (wI (vz + d5.tmod (wI (e + (1 : Int))))))]), M0))) ((same ((bif wI (e + (1 : Int)) == (0 : Int) then none else some (.v (.agg #[(I p), (I q), (I (wI (x + d0.tmod (wI (e + (1 : Int)))))), (I (wI (y + d1.tmod (wI (e + (1 : Int)))))), (I (wI (z + d2.tmod (wI (e + (1 : Int)))))), (I (wI (vx + d3.tmod (wI (e + (1 : Int)))))), (I (wI (vy + d4.tmod (wI (e + (1 : Int)))))), (I (wI (vz + d5.tmod (wI (e + (1 : Int))))))]), M0))) ((bif wI (e + (1 : Int)) == (0 : Int) then none else some (.v (.agg #[(I p), (I q), (I (wI (x + d0.tmod (wI (e + (1 : Int)))))), (I (wI (y + d1.tmod (wI (e + (1 : Int)))))), (I (wI (z + d2.tmod (wI (e + (1 : Int)))))), (I (wI (vx + d3.tmod (wI (e + (1 : Int)))))), (I (wI (vy + d4.tmod (wI (e + (1 : Int)))))), (I (wI (vz + d5.tmod (wI (e + (1 : Int))))))]), M0)))))))) ((same ((bif wI (e + (1 : Int)) == (0 : Int) then none else (same ((bif wI (e + (1 : Int)) == (0 : Int) then none else some (.v (.agg #[(I p), (I q), (I (wI (x + d0.tmod (wI (e + (1 : Int)))))), (I (wI (y + d1.tmod (wI (e + (1 : Int)))))), (I (wI (z + d2.tmod (wI (e + (1 : Int)))))), (I (wI (vx + d3.tmod (wI (e + (1 : Int)))))), (I (wI (vy + d4.tmod (wI (e + (1 : Int)))))), (I (wI (vz + d5.tmod (wI (e + (1 : Int))))))]), M0))) ((bif wI (e + (1 : Int)) == (0 : Int) then none else some (.v (.agg #[(I p), (I q), (I (wI (x + d0.tmod (wI (e + (1 : Int)))))), (I (wI (y + d1.tmod (wI (e + (1 : Int)))))), (I (wI (z + d2.tmod (wI (e + (1 : Int)))))), (I (wI (vx + d3.tmod (wI (e + (1 : Int)))))), (I (wI (vy + d4.tmod (wI (e + (1 : Int)))))), (I (wI (vz + d5.tmod (wI (e + (1 : Int))))))]), M0)))))) ((bif wI (e + (1 : Int)) == (0 : Int) then none else (same ((bif wI (e + (1 : Int)) == (0 : Int) then none else some (.v (.agg #[(I p), (I q), (I (wI (x + d0.tmod (wI (e + (1 : Int)))))), (I (wI (y + d1.tmod (wI (e + (1 : Int)))))), (I (wI (z + d2.tmod (wI (e + (1 : Int)))))), (I (wI (vx + d3.tmod (wI (e + (1 : Int)))))), (I (wI (vy + d4.tmod (wI (e + (1 : Int)))))), (I (wI (vz + d5.tmod (wI (e + (1 : Int))))))]), M0))) ((bif wI (e + (1 : Int)) == (0 : Int) then none else some (.v (.agg #[(I p), (I q), (I (wI (x + d0.tmod (wI (e + (1 : Int)))))), (I (wI (y + d1.tmod (wI (e + (1 : Int)))))), (I (wI (z + d2.tmod (wI (e + (1 : Int)))))), (I (wI (vx + d3.tmod (wI (e + (1 : Int)))))), (I (wI (vy + d4.tmod (wI (e + (1 : Int)))))), (I (wI (vz + d5.tmod (wI (e + (1 : Int))))))]), M0)))))))))))) ((same ((bif wI (e + (1 : Int)) == (0 : Int) then none else (bif wI (e + (1 : Int)) == (0 : Int) then none else (same ((bif wI (e + (1 : Int)) == (0 : Int) then none else (same ((bif wI (e + (1 : Int)) == (0 : Int) then none else some (.v (.agg #[(I p), (I q), (I (wI (x + d0.tmod (wI (e + (1 : Int)))))), (I (wI (y + d1.tmod (wI (e + (1 : Int)))))), (I (wI (z + d2.tmod (wI (e + (1 : Int)))))), (I (wI (vx + d3.tmod (wI (e + (1 : Int)))))), (I (wI (vy + d4.tmod (wI (e + (1 : Int)))))), (I (wI (vz + d5.tmod (wI (e + (1 : Int))))))]), M0))) ((same ((bif wI (e + (1 : Int)) == (0 : Int) then none else some (.v (.agg #[(I p), (I q), (I (wI (x + d0.tmod (wI (e + (1 : Int)))))), (I (wI (y + d1.tmod (wI (e + (1 : Int)))))), (I (wI (z + d2.tmod (wI (e + (1 : Int)))))), (I (wI (vx + d3.tmod (wI (e + (1 : Int)))))), (I (wI (vy + d4.tmod (wI (e + (1 : Int)))))), (I (wI (vz + d5.tmod (wI (e + (1 : Int))))))]), M0))) ((bif wI (e + (1 : Int)) == (0 : Int) then none else some (.v (.agg #[(I p), (I q), (I (wI (x + d0.tmod (wI (e + (1 : Int)))))), (I (wI (y + d1.tmod (wI (e + (1 : Int)))))), (I (wI (z + d2.tmod (wI (e + (1 : Int)))))), (I (wI (vx + d3.tmod (wI (e + (1 : Int)))))), (I (wI (vy + d4.tmod (wI (e + (1 : Int)))))), (I (wI (vz + d5.tmod (wI (e + (1 : Int))))))]), M0)))))))) ((same ((bif wI (e + (1 : Int)) == (0 : Int) then none else (same ((bif wI (e + (1 : Int)) == (0 : Int) then none else some (.v (.agg #[(I p), (I q), (I (wI (x + d0.tmod (wI (e + (1 : Int)))))), (I (wI (y + d1.tmod (wI (e + (1 : Int)))))), (I (wI (z + d2.tmod (wI (e + (1 : Int)))))), (I (wI (vx + d3.tmod (wI (e + (1 : Int)))))), (I (wI (vy + d4.tmod (wI (e + (1 : Int)))))), (I (wI (vz + d5.tmod (wI (e + (1 : Int))))))]), M0))) ((bif wI (e + (1 : Int)) == (0 : Int) then none else some (.v (.agg #[(I p), (I q), (I (wI (x + d0.tmod (wI (e + (1 : Int)))))), (I (wI (y + d1.tmod (wI (e + (1 : Int)))))), (I (wI (z + d2.tmod (wI (e + (1 : Int)))))), (I (wI (vx + d3.tmod (wI (e + (1 : Int)))))), (I (wI (vy + d4.tmod (wI (e + (1 : Int)))))), (I (wI (vz + d5.tmod (wI (e + (1 : Int))))))]), M0)))))) ((bif wI (e + (1 : Int)) == (0 : Int) then none else (same ((bif wI (e + (1 : Int)) == (0 : Int) then none else some (.v (.agg #[(I p), (I q), (I (wI (x + d0.tmod (wI (e + (1 : Int)))))), (I (wI (y + d1.tmod (wI (e + (1 : Int)))))), (I (wI (z + d2.tmod (wI (e + (1 : Int)))))), (I (wI (vx + d3.tmod (wI (e + (1 : Int)))))), (I (wI (vy + d4.tmod (wI (e + (1 : Int)))))), (I (wI (vz + d5.tmod (wI (e + (1 : Int))))))]), M0))) ((bif wI (e + (1 : Int)) == (0 : Int) then none else some (.v (.agg #[(I p), (I q), (I (wI (x + d0.tmod (wI (e + (1 : Int)))))), (I (wI (y + d1.tmod (wI (e + (1 : Int)))))), (I (wI (z + d2.tmod (wI (e + (1 : Int)))))), (I (wI (vx + d3.tmod (wI (e + (1 : Int)))))), (I (wI (vy + d4.tmod (wI (e + (1 : Int)))))), (I (wI (vz + d5.tmod (wI (e + (1 : Int))))))]), M0)))))))))))) ((bif wI (e + (1 : Int)) == (0 : Int) then none else (bif wI (e + (1 : Int)) == (0 : Int) then none else (same ((bif wI (e + (1 : Int)) == (0 : Int) then none else (same ((bif wI (e + (1 : Int)) == (0 : Int) then none else some (.v (.agg #[(I p), (I q), (I (wI (x + d0.tmod (wI (e + (1 : Int)))))), (I (wI (y + d1.tmod (wI (e + (1 : Int)))))), (I (wI (z + d2.tmod (wI (e + (1 : Int)))))), (I (wI (vx + d3.tmod (wI (e + (1 : Int)))))), (I (wI (vy + d4.tmod (wI (e + (1 : Int)))))), (I (wI (vz + d5.tmod (wI (e + (1 : Int))))))]), M0))) ((same ((bif wI (e + (1 : Int)) == (0 : Int) then none else some (.v (.agg #[(I p), (I q), (I (wI (x + d0.tmod (wI (e + (1 : Int)))))), (I (wI (y + d1.tmod (wI (e + (1 : Int)))))), (I (wI (z + d2.tmod (wI (e + (1 : Int)))))), (I (wI (vx + d3.tmod (wI (e + (1 : Int)))))), (I (wI (vy + d4.tmod (wI (e + (1 : Int)))))), (I (wI (vz + d5.tmod (wI (e + (1 : Int))))))]), M0))) ((bif wI (e + (1 : Int)) == (0 : Int) then none else some (.v (.agg #[(I p), (I q), (I (wI (x + d0.tmod (wI (e + (1 : Int)))))), (I (wI (y + d1.tmod (wI (e + (1 : Int)))))), (I (wI (z + d2.tmod (wI (e + (1 : Int)))))), (I (wI (vx + d3.tmod (wI (e + (1 : Int)))))), (I (wI (vy + d4.tmod (wI (e + (1 : Int)))))), (I (wI (vz + d5.tmod (wI (e + (1 : Int))))))]), M0)))))))) ((same ((bif wI (e + (1 : Int)) == (0 : Int) then none else (same ((bif wI (e + (1 : Int)) == (0 : Int) then none else some (.v (.agg #[(I p), (I q), (I (wI (x + d0.tmod (wI (e + (1 : Int)))))), (I (wI (y + d1.tmod (wI (e + (1 : Int)))))), (I (wI (z + d2.tmod (wI (e + (1 : Int)))))), (I (wI (vx + d3.tmod (wI (e + (1 : Int)))))), (I (wI (vy + d4.tmod (wI (e + (1 : Int)))))), (I (wI (vz + d5.tmod (wI (e + (1 : Int))))))]), M0))) ((bif wI (e + (1 : Int)) == (0 : Int) then none else some (.v (.agg #[(I p), (I q), (I (wI (x + d0.tmod (wI (e + (1 : Int)))))), (I (wI (y + d1.tmod (wI (e + (1 : Int)))))), (I (wI (z + d2.tmod (wI (e + (1 : Int)))))), (I (wI (vx + d3.tmod (wI (e + (1 : Int)))))), (I (wI (vy + d4.tmod (wI (e + (1 : Int)))))), (I (wI (vz + d5.tmod (wI (e + (1 : Int))))))]), M0)))))) ((bif wI (e + (1 : Int)) == (0 : Int) then none else (same ((bif wI (e + (1 : Int)) == (0 : Int) then none else some (.v (.agg #[(I p), (I q), (I (wI (x + d0.tmod (wI (e + (1 : Int)))))), (I (wI (y + d1.tmod (wI (e + (1 : Int)))))), (I (wI (z + d2.tmod (wI (e + (1 : Int)))))), (I (wI (vx + d3.tmod (wI (e + (1 : Int)))))), (I (wI (vy + d4.tmod (wI (e + (1 : Int)))))), (I (wI (vz + d5.tmod (wI (e + (1 : Int))))))]), M0))) ((bif wI (e + (1 : Int)) == (0 : Int) then none else some (.v (.agg #[(I p), (I q), (I (wI (x + d0.tmod (wI (e + (1 : Int)))))), (I (wI (y + d1.tmod (wI (e + (1 : Int)))))), (I (wI (z + d2.tmod (wI (e + (1 : Int)))))), (I (wI (vx + d3.tmod (wI (e + (1 : Int)))))), (I (wI (vy + d4.tmod (wI (e + (1 : Int)))))), (I (wI (vz + d5.tmod (wI (e + (1 : Int))))))]), M0))))))))))))))))) ((same ((bif wI (e + (1 : Int)) == (0 : Int) then none else (same ((bif wI (e + (1 : Int)) == (0 : Int) then none else (bif wI (e + (1 : Int)) == (0 : Int) then none else (same ((bif wI (e + (1 : Int)) == (0 : Int) then none else (same ((bif wI (e + (1 : Int)) == (0 : Int) then none else some (.v (.agg #[(I p), (I q), (I (wI (x + d0.tmod (wI (e + (1 : Int)))))), (I (wI (y + d1.tmod (wI (e + (1 : Int)))))), (I (wI (z + d2.tmod (wI (e + (1 : Int)))))), (I (wI (vx + d3.tmod (wI (e + (1 : Int)))))), (I (wI (vy + d4.tmod (wI (e + (1 : Int)))))), (I (wI (vz + d5.tmod (wI (e + (1 : Int))))))]), M0))) ((same ((bif wI (e + (1 : Int)) == (0 : Int) then none else some (.v (.agg #[(I p), (I q), (I (wI (x + d0.tmod (wI (e + (1 : Int)))))), (I (wI (y + d1.tmod (wI (e + (1 : Int)))))), (I (wI (z + d2.tmod (wI (e + (1 : Int)))))), (I (wI (vx + d3.tmod (wI (e + (1 : Int)))))), (I (wI (vy + d4.tmod (wI (e + (1 : Int)))))), (I (wI (vz + d5.tmod (wI (e + (1 : Int))))))]), M0))) ((bif wI (e + (1 : Int)) == (0 : Int) then none else some (.v (.agg #[(I p), (I q), (I (wI (x + d0.tmod (wI (e + (1 : Int)))))), (I (wI (y + d1.tmod (wI (e + (1 : Int)))))), (I (wI (z + d2.tmod (wI (e + (1 : Int)))))), (I (wI (vx + d3.tmod (wI (e + (1 : Int)))))), (I (wI (vy + d4.tmod (wI (e + (1 : Int)))))), (I (wI (vz + d5.tmod (wI (e + (1 : Int))))))]), M0)))))))) ((same ((bif wI (e + (1 : Int)) == (0 : Int) then none else (same ((bif wI (e + (1 : Int)) == (0 : Int) then none else some (.v (.agg #[(I p), (I q), (I (wI (x + d0.tmod (wI (e + (1 : Int)))))), (I (wI (y + d1.tmod (wI (e + (1 : Int)))))), (I (wI (z + d2.tmod (wI (e + (1 : Int)))))), (I (wI (vx + d3.tmod (wI (e + (1 : Int)))))), (I (wI (vy + d4.tmod (wI (e + (1 : Int)))))), (I (wI (vz + d5.tmod (wI (e + (1 : Int))))))]), M0))) ((bif wI (e + (1 : Int)) == (0 : Int) then none else some (.v (.agg #[(I p), (I q), (I (wI (x + d0.tmod (wI (e + (1 : Int)))))), (I (wI (y + d1.tmod (wI (e + (1 : Int)))))), (I (wI (z + d2.tmod (wI (e + (1 : Int)))))), (I (wI (vx + d3.tmod (wI (e + (1 : Int)))))), (I (wI (vy + d4.tmod (wI (e + (1 : Int)))))), (I (wI (vz + d5.tmod (wI (e + (1 : Int))))))]), M0)))))) ((bif wI (e + (1 : Int)) == (0 : Int) then none else (same ((bif wI (e + (1 : Int)) == (0 : Int) then none else some (.v (.agg #[(I p), (I q), (I (wI (x + d0.tmod (wI (e + (1 : Int)))))), (I (wI (y + d1.tmod (wI (e + (1 : Int)))))), (I (wI (z + d2.tmod (wI (e + (1 : Int)))))), (I (wI (vx + d3.tmod (wI (e + (1 : Int)))))), (I (wI (vy + d4.tmod (wI (e + (1 : Int)))))), (I (wI (vz + d5.tmod (wI (e + (1 : Int))))))]), M0))) ((bif wI (e + (1 : Int)) == (0 : Int) then none else some (.v (.agg #[(I p), (I q), (I (wI (x + d0.tmod (wI (e + (1 : Int)))))), (I (wI (y + d1.tmod (wI (e + (1 : Int)))))), (I (wI (z + d2.tmod (wI (e + (1 : Int)))))), (I (wI (vx + d3.tmod (wI (e + (1 : Int)))))), (I (wI (vy + d4.tmod (wI (e + (1 : Int)))))), (I (wI (vz + d5.tmod (wI (e + (1 : Int))))))]), M0)))))))))))) ((bif wI (e + (1 : Int)) == (0 : Int) then none else (bif wI (e + (1 : Int)) == (0 : Int) then none else (same ((bif wI (e + (1 : Int)) == (0 : Int) then none else (same ((bif wI (e + (1 : Int)) == (0 : Int) then none else some (.v (.agg #[(I p), (I q), (I (wI (x + d0.tmod (wI (e + (1 : Int)))))), (I (wI (y + d1.tmod (wI (e + (1 : Int)))))), (I (wI (z + d2.tmod (wI (e + (1 : Int)))))), (I (wI (vx + d3.tmod (wI (e + (1 : Int)))))), (I (wI (vy + d4.tmod (wI (e + (1 : Int)))))), (I (wI (vz + d5.tmod (wI (e + (1 : Int))))))]), M0))) ((same ((bif wI (e + (1 : Int)) == (0 : Int) then none else some (.v (.agg #[(I p), (I q), (I (wI (x + d0.tmod (wI (e + (1 : Int)))))), (I (wI (y + d1.tmod (wI (e + (1 : Int)))))), (I (wI (z + d2.tmod (wI (e + (1 : Int)))))), (I (wI (vx + d3.tmod (wI (e + (1 : Int)))))), (I (wI (vy + d4.tmod (wI (e + (1 : Int)))))), (I (wI (vz + d5.tmod (wI (e + (1 : Int))))))]), M0))) ((bif wI (e + (1 : Int)) == (0 : Int) then none else some (.v (.agg #[(I p), (I q), (I (wI (x + d0.tmod (wI (e + (1 : Int)))))), (I (wI (y + d1.tmod (wI (e + (1 : Int)))))), (I (wI (z + d2.tmod (wI (e + (1 : Int)))))), (I (wI (vx + d3.tmod (wI (e + (1 : Int)))))), (I (wI (vy + d4.tmod (wI (e + (1 : Int)))))), (I (wI (vz + d5.tmod (wI (e + (1 : Int))))))]), M0)))))))) ((same ((bif wI (e + (1 : Int)) == (0 : Int) then none else (same ((bif wI (e + (1 : Int)) == (0 : Int) then none else some (.v (.agg #[(I p), (I q), (I (wI (x + d0.tmod (wI (e + (1 : Int)))))), (I (wI (y + d1.tmod (wI (e + (1 : Int)))))), (I (wI (z + d2.tmod (wI (e + (1 : Int)))))), (I (wI (vx + d3.tmod (wI (e + (1 : Int)))))), (I (wI (vy + d4.tmod (wI (e + (1 : Int)))))), (I (wI (vz + d5.tmod (wI (e + (1 : Int))))))]), M0))) ((bif wI (e + (1 : Int)) == (0 : Int) then none else some (.v (.agg #[(I p), (I q), (I (wI (x + d0.tmod (wI (e + (1 : Int)))))), (I (wI (y + d1.tmod (wI (e + (1 : Int)))))), (I (wI (z + d2.tmod (wI (e + (1 : Int)))))), (I (wI (vx + d3.tmod (wI (e + (1 : Int)))))), (I (wI (vy + d4.tmod (wI (e + (1 : Int)))))), (I (wI (vz + d5.tmod (wI (e + (1 : Int))))))]), M0)))))) ((bif wI (e + (1 : Int)) == (0 : Int) then none else (same ((bif wI (e + (1 : Int)) == (0 : Int) then none else some (.v (.agg #[(I p), (I q), (I (wI (x + d0.tmod (wI (e + (1 : Int)))))), (I (wI (y + d1.tmod (wI (e + (1 : Int)))))), (I (wI (z + d2.tmod (wI (e + (1 : Int)))))), (I (wI (vx + d3.tmod (wI (e + (1 : Int)))))), (I (wI (vy + d4.tmod (wI (e + (1 : Int)))))), (I (wI (vz + d5.tmod (wI (e + (1 : Int))))))]), M0))) ((bif wI (e + (1 : Int)) == (0 : Int) then none else some (.v (.agg #[(I p), (I q), (I (wI (x + d0.tmod (wI (e + (1 : Int)))))), (I (wI (y + d1.tmod (wI (e + (1 : Int)))))), (I (wI (z + d2.tmod (wI (e + (1 : Int)))))), (I (wI (vx + d3.tmod (wI (e + (1 : Int)))))), (I (wI (vy + d4.tmod (wI (e + (1 : Int)))))), (I (wI (vz + d5.tmod (wI (e + (1 : Int))))))]), M0))))))))))))))) ((bif wI (e + (1 : Int)) == (0 : Int) then none else (same ((bif wI (e + (1 : Int)) == (0 : Int) then none else (bif wI (e + (1 : Int)) == (0 : Int) then none else (same ((bif wI (e + (1 : Int)) == (0 : Int) then none else (same ((bif wI (e + (1 : Int)) == (0 : Int) then none else some (.v (.agg #[(I p), (I q), (I (wI (x + d0.tmod (wI (e + (1 : Int)))))), (I (wI (y + d1.tmod (wI (e + (1 : Int)))))), (I (wI (z + d2.tmod (wI (e + (1 : Int)))))), (I (wI (vx + d3.tmod (wI (e + (1 : Int)))))), (I (wI (vy + d4.tmod (wI (e + (1 : Int)))))), (I (wI (vz + d5.tmod (wI (e + (1 : Int))))))]), M0))) ((same ((bif wI (e + (1 : Int)) == (0 : Int) then none else some (.v (.agg #[(I p), (I q), (I (wI (x + d0.tmod (wI (e + (1 : Int)))))), (I (wI (y + d1.tmod (wI (e + (1 : Int)))))), (I (wI (z + d2.tmod (wI (e + (1 : Int)))))), (I (wI (vx + d3.tmod (wI (e + (1 : Int)))))), (I (wI (vy + d4.tmod (wI (e + (1 : Int)))))), (I (wI (vz + d5.tmod (wI (e + (1 : Int))))))]), M0))) ((bif wI (e + (1 : Int)) == (0 : Int) then none else some (.v (.agg #[(I p), (I q), (I (wI (x + d0.tmod (wI (e + (1 : Int)))))), (I (wI (y + d1.tmod (wI (e + (1 : Int)))))), (I (wI (z + d2.tmod (wI (e + (1 : Int)))))), (I (wI (vx + d3.tmod (wI (e + (1 : Int)))))), (I (wI (vy + d4.tmod (wI (e + (1 : Int)))))), (I (wI (vz + d5.tmod (wI (e + (1 : Int))))))]), M0)))))))) ((same ((bif wI (e + (1 : Int)) == (0 : Int) then none else (same ((bif wI (e + (1 : Int)) == (0 : Int) then none else some (.v (.agg #[(I p), (I q), (I (wI (x + d0.tmod (wI (e + (1 : Int)))))), (I (wI (y + d1.tmod (wI (e + (1 : Int)))))), (I (wI (z + d2.tmod (wI (e + (1 : Int)))))), (I (wI (vx + d3.tmod (wI (e + (1 : Int)))))), (I (wI (vy + d4.tmod (wI (e + (1 : Int)))))), (I (wI (vz + d5.tmod (wI (e + (1 : Int))))))]), M0))) ((bif wI (e + (1 : Int)) == (0 : Int) then none else some (.v (.agg #[(I p), (I q), (I (wI (x + d0.tmod (wI (e + (1 : Int)))))), (I (wI (y + d1.tmod (wI (e + (1 : Int)))))), (I (wI (z + d2.tmod (wI (e + (1 : Int)))))), (I (wI (vx + d3.tmod (wI (e + (1 : Int)))))), (I (wI (vy + d4.tmod (wI (e + (1 : Int)))))), (I (wI (vz + d5.tmod (wI (e + (1 : Int))))))]), M0)))))) ((bif wI (e + (1 : Int)) == (0 : Int) then none else (same ((bif wI (e + (1 : Int)) == (0 : Int) then none else some (.v (.agg #[(I p), (I q), (I (wI (x + d0.tmod (wI (e + (1 : Int)))))), (I (wI (y + d1.tmod (wI (e + (1 : Int)))))), (I (wI (z + d2.tmod (wI (e + (1 : Int)))))), (I (wI (vx + d3.tmod (wI (e + (1 : Int)))))), (I (wI (vy + d4.tmod (wI (e + (1 : Int)))))), (I (wI (vz + d5.tmod (wI (e + (1 : Int))))))]), M0))) ((bif wI (e + (1 : Int)) == (0 : Int) then none else some (.v (.agg #[(I p), (I q), (I (wI (x + d0.tmod (wI (e + (1 : Int)))))), (I (wI (y + d1.tmod (wI (e + (1 : Int)))))), (I (wI (z + d2.tmod (wI (e + (1 : Int)))))), (I (wI (vx + d3.tmod (wI (e + (1 : Int)))))), (I (wI (vy + d4.tmod (wI (e + (1 : Int)))))), (I (wI (vz + d5.tmod (wI (e + (1 : Int))))))]), M0)))))))))))) ((bif wI (e + (1 : Int)) == (0 : Int) then none else (bif wI (e + (1 : Int)) == (0 : Int) then none else (same ((bif wI (e + (1 : Int)) == (0 : Int) then none else (same ((bif wI (e + (1 : Int)) == (0 : Int) then none else some (.v (.agg #[(I p), (I q), (I (wI (x + d0.tmod (wI (e + (1 : Int)))))), (I (wI (y + d1.tmod (wI (e + (1 : Int)))))), (I (wI (z + d2.tmod (wI (e + (1 : Int)))))), (I (wI (vx + d3.tmod (wI (e + (1 : Int)))))), (I (wI (vy + d4.tmod (wI (e + (1 : Int)))))), (I (wI (vz + d5.tmod (wI (e + (1 : Int))))))]), M0))) ((same ((bif wI (e + (1 : Int)) == (0 : Int) then none else some (.v (.agg #[(I p), (I q), (I (wI (x + d0.tmod (wI (e + (1 : Int)))))), (I (wI (y + d1.tmod (wI (e + (1 : Int)))))), (I (wI (z + d2.tmod (wI (e + (1 : Int)))))), (I (wI (vx + d3.tmod (wI (e + (1 : Int)))))), (I (wI (vy + d4.tmod (wI (e + (1 : Int)))))), (I (wI (vz + d5.tmod (wI (e + (1 : Int))))))]), M0))) ((bif wI (e + (1 : Int)) == (0 : Int) then none else some (.v (.agg #[(I p), (I q), (I (wI (x + d0.tmod (wI (e + (1 : Int)))))), (I (wI (y + d1.tmod (wI (e + (1 : Int)))))), (I (wI (z + d2.tmod (wI (e + (1 : Int)))))), (I (wI (vx + d3.tmod (wI (e + (1 : Int)))))), (I (wI (vy + d4.tmod (wI (e + (1 : Int)))))), (I (wI (vz + d5.tmod (wI (e + (1 : Int))))))]), M0)))))))) ((same ((bif wI (e + (1 : Int)) == (0 : Int) then none else (same ((bif wI (e + (1 : Int)) == (0 : Int) then none else some (.v (.agg #[(I p), (I q), (I (wI (x + d0.tmod (wI (e + (1 : Int)))))), (I (wI (y + d1.tmod (wI (e + (1 : Int)))))), (I (wI (z + d2.tmod (wI (e + (1 : Int)))))), (I (wI (vx + d3.tmod (wI (e + (1 : Int)))))), (I (wI (vy + d4.tmod (wI (e + (1 : Int)))))), (I (wI (vz + d5.tmod (wI (e + (1 : Int))))))]), M0))) ((bif wI (e + (1 : Int)) == (0 : Int) then none else some (.v (.agg #[(I p), (I q), (I (wI (x + d0.tmod (wI (e + (1 : Int)))))), (I (wI (y + d1.tmod (wI (e + (1 : Int)))))), (I (wI (z + d2.tmod (wI (e + (1 : Int)))))), (I (wI (vx + d3.tmod (wI (e + (1 : Int)))))), (I (wI (vy + d4.tmod (wI (e + (1 : Int)))))), (I (wI (vz + d5.tmod (wI (e + (1 : Int))))))]), M0)))))) ((bif wI (e + (1 : Int)) == (0 : Int) then none else (same ((bif wI (e + (1 : Int)) == (0 : Int) then none else some (.v (.agg #[(I p), (I q), (I (wI (x + d0.tmod (wI (e + (1 : Int)))))), (I (wI (y + d1.tmod (wI (e + (1 : Int)))))), (I (wI (z + d2.tmod (wI (e + (1 : Int)))))), (I (wI (vx + d3.tmod (wI (e + (1 : Int)))))), (I (wI (vy + d4.tmod (wI (e + (1 : Int)))))), (I (wI (vz + d5.tmod (wI (e + (1 : Int))))))]), M0))) ((bif wI (e + (1 : Int)) == (0 : Int) then none else some (.v (.agg #[(I p), (I q), (I (wI (x + d0.tmod (wI (e + (1 : Int)))))), (I (wI (y + d1.tmod (wI (e + (1 : Int)))))), (I (wI (z + d2.tmod (wI (e + (1 : Int)))))), (I (wI (vx + d3.tmod (wI (e + (1 : Int)))))), (I (wI (vy + d4.tmod (wI (e + (1 : Int)))))), (I (wI (vz + d5.tmod (wI (e + (1 : Int))))))]), M0))))))))))))))))))) := by kernel_rfl
def gLOff (vs : List Value) : Option (Bool × Value) :=
  match vs with
  | [.agg ⟨[.int .i64 p, .int .i64 q, .int .i64 x, .int .i64 y, .int .i64 z, .int .i64 vx, .int .i64 vy, .int .i64 vz]⟩, .agg ⟨[.int .i64 d0, .int .i64 d1, .int .i64 d2, .int .i64 d3, .int .i64 d4, .int .i64 d5]⟩, .int .i64 e] => some (decide (0 ≤ e ∧ e ≤ 4096), .agg #[I p, I q, I (oI x d0 e), I (oI y d1 e), I (oI z d2 e), I (oI vx d3 e), I (oI vy d4 e), I (oI vz d5 e)])
  | _ => none
theorem gLOff_ok : ∀ vs r, gLOff vs = some (true, r) → ∀ m, CallOk Try.prog 30 (vs.map .v) m (.v r) m := by
  intro vs r h
  unfold gLOff at h
  split at h
  · rename_i p q x y z vx vy vz d0 d1 d2 d3 d4 d5 e
    obtain ⟨h1, rfl⟩ := some_t h
    refine runV (vs := [.agg #[I p, I q, I x, I y, I z, I vx, I vy, I vz], .agg #[I d0, I d1, I d2, I d3, I d4, I d5], I e]) (Λ := L0) (m' := M0) OkO1 Try.func30 rfl (fun z _ _ => l0Ok' _ z) ?_
    exact (runLOff p q x y z vx vy vz d0 d1 d2 d3 d4 d5 e).trans (by
      have he : 0 ≤ e ∧ e ≤ 4096 := of_decide_eq_true h1
      rw [wI_id (n := e + 1) (by omega), beq_eq_false_iff_ne.2 (show e + 1 ≠ 0 by omega)]
      simp only [same_self, cond_false]
      rfl)
  · cases h
noncomputable def ΓO2 : Orc := addVal 30 gLOff ΓO1
theorem OkO2 : ΓO2.Ok Try.prog := addVal_ok OkO1 gLOff_ok
noncomputable def ΓOf : Orc := ΓO2
theorem OkOf : ΓOf.Ok Try.prog := OkO2
end Go.Proofs.Ytmfeioinhpdebaa

namespace Go.Proofs.Ytmfeioinhpdebaa
open Go Go.Proofs Go.Sx
set_option linter.unusedVariables false
/-! norm -/
/-! cast -/
def loT (z vz g e : Int) : Int := tmF (z - e) (vz - e) g
def hiT (z vz g e : Int) : Int := tmF (z + e) (vz + e) g + 2
def imR (x y z vx vy vz g e : Int) : Bool := (frR z vz g && decide (0 ≤ e ∧ e ≤ 2048)) && nvR x y vx vy
def boL (x v e a b : Int) : Int := x - e + mn4 v e a b
def boH (x v e a b : Int) : Int := x + e + mx4 v e a b
theorem imR_iff {x y z vx vy vz g e : Int} : imR x y z vx vy vz g e = true ↔ (frR z vz g = true ∧ 0 ≤ e ∧ e ≤ 2048) ∧ nvR x y vx vy = true := by
  unfold imR
  simp only [Bool.and_eq_true, decide_eq_true_eq]
theorem times {z vz g e : Int} (h : frR z vz g = true) (he : 0 ≤ e ∧ e ≤ 2048) : (0 ≤ loT z vz g e ∧ loT z vz g e ≤ 2097154) ∧ (0 ≤ hiT z vz g e ∧ hiT z vz g e ≤ 2097154) ∧ loT z vz g e + 2 ≤ hiT z vz g e := by
  have k1 : frX (z - e) (vz - e) g = true := by rw [Int.sub_eq_add_neg, Int.sub_eq_add_neg]; exact frX_e h (by omega) (by omega) (by omega) (by omega)
  have k2 : frX (z + e) (vz + e) g = true := frX_e h (by omega) (by omega) (by omega) (by omega)
  have a1 := tm_nonneg k1
  have a2 := tm_le k1
  have a3 := tm_nonneg k2
  have a4 := tm_le k2
  have a5 := tm_mono k1 k2 (by omega) (by omega)
  unfold loT hiT
  omega
theorem jj (x v : Int) {e a b : Int} (he : 0 ≤ e) (hab : a ≤ b) : jL (jL (x + (v + 0) * a - e) x v e a) x v e b = boL x v e a b ∧ jH (jH (x + (v + 0) * a + e) x v e a) x v e b = boH x v e a b := by
  have := jn_eq x v he hab
  unfold jL jH boL boH
  rw [Int.add_zero]
  exact this
theorem imR_0 {x y z vx vy vz g e : Int} (h : imR x y z vx vy vz g e = true) : imR x y z vx vy vz g 0 = true := by
  have := imR_iff.1 h
  exact imR_iff.2 ⟨⟨this.1.1, by omega⟩, this.2⟩
theorem boP {x v e a b : Int} (h1 : -2147483648 ≤ x ∧ x ≤ 2147483648) (h2 : -131072 ≤ v ∧ v ≤ 131072) (he : 0 ≤ e ∧ e ≤ 2048) (h3 : 0 ≤ a ∧ a ≤ 2097154) (h4 : 0 ≤ b ∧ b ≤ 2097154) : -320000000000 ≤ boL x v e a b ∧ boH x v e a b ≤ 320000000000 := by
  have p1 := inP h1 h2 (f := -e) (t := a) (by omega) h3
  have p2 := inP h1 h2 (f := -e) (t := b) (by omega) h4
  have p3 := inP h1 h2 (f := e) (t := a) (by omega) h3
  have p4 := inP h1 h2 (f := e) (t := b) (by omega) h4
  rw [show v + -e = v - e by omega] at p1 p2
  have m1 := mn4_is v e a b
  have m2 := mx4_is v e a b
  unfold boL boH
  omega
theorem boIn {x v e a b w t k : Int} (h1 : v - e ≤ w) (h2 : w ≤ v + e) (h3 : a ≤ t) (h4 : t ≤ b) (h5 : x - e ≤ k) (h6 : k ≤ x + e) : boL x v e a b ≤ k + w * t ∧ k + w * t ≤ boH x v e a b := by
  have := bil h1 h2 h3 h4
  unfold boL boH
  omega
def iLX (x y z vx vy vz g e : Int) : Int := bif imR x y z vx vy vz g e then boL x vx e (loT z vz g e) (hiT z vz g e) else 0
def iLY (x y z vx vy vz g e : Int) : Int := bif imR x y z vx vy vz g e then boL y vy e (loT z vz g e) (hiT z vz g e) else 0
def iHX (x y z vx vy vz g e : Int) : Int := bif imR x y z vx vy vz g e then boH x vx e (loT z vz g e) (hiT z vz g e) else 0
def iHY (x y z vx vy vz g e : Int) : Int := bif imR x y z vx vy vz g e then boH y vy e (loT z vz g e) (hiT z vz g e) else 0
def aX (x y z vx vy vz g : Int) : Int := bif imR x y z vx vy vz g 0 then x + vx * tmF z vz g else 0
def aY (x y z vx vy vz g : Int) : Int := bif imR x y z vx vy vz g 0 then y + vy * tmF z vz g else 0
def slk (lx hx px ly hy py : Int) : Int := mx (mx (mx (px - lx) (hx - px)) (py - ly)) (hy - py)
def sK (x y z vx vy vz g e : Int) : Int := bif imR x y z vx vy vz g e then slk (boL x vx e (loT z vz g e) (hiT z vz g e)) (boH x vx e (loT z vz g e) (hiT z vz g e)) (x + vx * tmF z vz g) (boL y vy e (loT z vz g e) (hiT z vz g e)) (boH y vy e (loT z vz g e) (hiT z vz g e)) (y + vy * tmF z vz g) else 0
def wyI (x vx t : Int) : Int := x + vx * t

set_option maxRecDepth 20000 in
def gIBox (vs : List Value) : Option (Bool × Value) :=
  match vs with
  | [.agg ⟨[.int .i64 p, .int .i64 q, .int .i64 x, .int .i64 y, .int .i64 z, .int .i64 vx, .int .i64 vy, .int .i64 vz]⟩, .int .i64 g, .int .i64 e] => some (true, .tuple #[.agg #[I (iLX x y z vx vy vz g e), I (iLY x y z vx vy vz g e), I (iHX x y z vx vy vz g e), I (iHY x y z vx vy vz g e)], Bo (imR x y z vx vy vz g e)])
  | _ => none
theorem gIBox_ok : ∀ vs r, gIBox vs = some (true, r) → ∀ m, CallOk Try.prog 63 (vs.map .v) m (.v r) m := by
  intro vs r h
  unfold gIBox at h
  split at h
  · rename_i p q x y z vx vy vz g e
    obtain ⟨_, rfl⟩ := some_t h
    refine runV (vs := [.agg #[I p, I q, I x, I y, I z, I vx, I vy, I vz], I g, I e]) (Λ := ΛIm) (m' := M0) OkBx Try.func63 rfl (fun z z1 z2 => oneLoop (c := Try.f63.body.getD .skip) loopsIm (loopOkIm z z1 z2)) ?_
    refine (runIBox p q x y z vx vy vz g e).trans ?_
    unfold iLX iLY iHX iHY imR
    cases h1 : frR z vz g && decide (0 ≤ e ∧ e ≤ 2048)
    · rfl
    · cases h2 : nvR x y vx vy
      · rfl
      · have h1' := h1
        simp only [Bool.and_eq_true, decide_eq_true_eq] at h1'
        obtain ⟨t1, t2, t3⟩ := times h1'.1 h1'.2
        have nn := nvR_iff.1 h2
        have q1 := inP nn.1 nn.2.2.1 (f := 0) (t := loT z vz g e) (by omega) t1
        have q2 := inP nn.2.1 nn.2.2.2 (f := 0) (t := loT z vz g e) (by omega) t1
        obtain ⟨j1, j2⟩ := jj x vx h1'.2.1 (a := loT z vz g e) (b := hiT z vz g e) (by omega)
        obtain ⟨j3, j4⟩ := jj y vy h1'.2.1 (a := loT z vz g e) (b := hiT z vz g e) (by omega)
        simp only [Bool.not_true, cond_true, cond_false, Bool.and_self]
        rw [show tmF (z - e) (vz - e) g = loT z vz g e from rfl, show tmF (z + e) (vz + e) g + 2 = hiT z vz g e from rfl, rcG_of h2 (by omega) t1, ofG_of h1'.2 q1 q2, bdB_iff.2 (Bd.of h1'.2 q1 q2), decide_eq_true h1'.2, decide_eq_true t1, decide_eq_true t2, j1, j2, j3, j4]
        rfl
  · cases h
noncomputable def ΓI0 : Orc := addVal 63 gIBox ΓOf
theorem OkI0 : ΓI0.Ok Try.prog := addVal_ok OkOf gIBox_ok
noncomputable def ΓI1 : Orc := ΓI0
theorem OkI1 : ΓI1.Ok Try.prog := OkI0
noncomputable def ΓI2 : Orc := ΓI1
theorem OkI2 : ΓI2.Ok Try.prog := OkI1
noncomputable def ΓI3 : Orc := ΓI2
theorem OkI3 : ΓI3.Ok Try.prog := OkI2
noncomputable def ΓIm : Orc := ΓI3
theorem OkIm : ΓIm.Ok Try.prog := OkI3
end Go.Proofs.Ytmfeioinhpdebaa

namespace Go.Proofs.Ytmfeioinhpdebaa
open Go Go.Proofs Go.Sx
set_option linter.unusedVariables false
theorem hX_in (x : Int) : -1073741824 < hX x ∧ hX x < 1073741824 := tmB x 1073741824 (by decide)
theorem hZ_in (z : Int) : 0 ≤ hZ z ∧ hZ z ≤ 1073741823 := andB z 1073741823 (by decide) (by decide)
theorem hV_in (v : Int) : -65536 < hV v ∧ hV v < 65536 := tmB v 65536 (by decide)
theorem oI_in {x d e : Int} (hx : -2147483648 ≤ x ∧ x ≤ 2147483648) (he : 0 ≤ e ∧ e ≤ 4096) : x - e ≤ oI x d e ∧ oI x d e ≤ x + e := by
  have := tmB d (e + 1) (by omega)
  unfold oI
  rw [wI_id (by omega)]
  omega
theorem box_ok {X Y VX VY E lo hi : Int} (hn : nvR X Y VX VY = true) (he : 0 ≤ E ∧ E ≤ 2048) (h3 : 0 ≤ lo ∧ lo ≤ 2097154) (h4 : 0 ≤ hi ∧ hi ≤ 2097154) (hl : lo ≤ hi) :
    boR (boL X VX E lo hi) (boL Y VY E lo hi) (boH X VX E lo hi) (boH Y VY E lo hi) = true := by
  have n := nvR_iff.1 hn
  have b1 := boP n.1 n.2.2.1 he h3 h4
  have b2 := boP n.2.1 n.2.2.2 he h3 h4
  have c1 := boIn (x := X) (v := VX) (e := E) (a := lo) (b := hi) (w := VX) (t := lo) (k := X) (by omega) (by omega) (by omega) (by omega) (by omega) (by omega)
  have c2 := boIn (x := Y) (v := VY) (e := E) (a := lo) (b := hi) (w := VY) (t := lo) (k := Y) (by omega) (by omega) (by omega) (by omega) (by omega) (by omega)
  exact boR_iff.2 ⟨plR_iff.2 (by omega), plR_iff.2 (by omega), by omega, by omega⟩
theorem iOn {x y z vx vy vz g e : Int} (h : imR x y z vx vy vz g e = true) : iLX x y z vx vy vz g e = boL x vx e (loT z vz g e) (hiT z vz g e) ∧ iLY x y z vx vy vz g e = boL y vy e (loT z vz g e) (hiT z vz g e) ∧ iHX x y z vx vy vz g e = boH x vx e (loT z vz g e) (hiT z vz g e) ∧ iHY x y z vx vy vz g e = boH y vy e (loT z vz g e) (hiT z vz g e) := by
  unfold iLX iLY iHX iHY
  rw [h]
  exact ⟨rfl, rfl, rfl, rfl⟩
theorem imR_of {x y z vx vy vz g e : Int} (h1 : -2147483648 ≤ x ∧ x ≤ 2147483648) (h2 : -2147483648 ≤ y ∧ y ≤ 2147483648) (h3 : -2147483648 ≤ z ∧ z ≤ 2147483648) (h4 : -131072 ≤ vx ∧ vx ≤ 131072) (h5 : -131072 ≤ vy ∧ vy ≤ 131072) (h6 : -131072 ≤ vz ∧ vz ≤ 131072) (h7 : 1 ≤ g ∧ g ≤ 100) (h8 : 0 ≤ e ∧ e ≤ 2048) : imR x y z vx vy vz g e = true :=
  imR_iff.2 ⟨⟨frR_iff.2 (by omega), h8⟩, nvR_iff.2 ⟨h1, h2, h4, h5⟩⟩
theorem bo_in {x v e a b x' v' e' a' b' : Int} (he : 0 ≤ e) (h1 : x' - e' ≤ x - e) (h2 : x + e ≤ x' + e') (h3 : v' - e' ≤ v - e) (h4 : v + e ≤ v' + e') (h5 : a' ≤ a) (h6 : a ≤ b) (h7 : b ≤ b') : boL x' v' e' a' b' ≤ boL x v e a b ∧ boH x v e a b ≤ boH x' v' e' a' b' := by
  have := mn4_in he h3 h4 h5 h6 h7
  unfold boL boH
  omega
theorem times_in {z w g e z' w' e' : Int} (h : frR z w g = true) (he : 0 ≤ e ∧ e ≤ 2048) (h' : frR z' w' g = true) (he' : 0 ≤ e' ∧ e' ≤ 2048) (h1 : z' - e' ≤ z - e) (h2 : z + e ≤ z' + e') (h3 : w' - e' ≤ w - e) (h4 : w + e ≤ w' + e') : loT z' w' g e' ≤ loT z w g e ∧ hiT z w g e ≤ hiT z' w' g e' := by
  have k1 : frX (z - e) (w - e) g = true := by rw [Int.sub_eq_add_neg, Int.sub_eq_add_neg]; exact frX_e h (by omega) (by omega) (by omega) (by omega)
  have k2 : frX (z + e) (w + e) g = true := frX_e h (by omega) (by omega) (by omega) (by omega)
  have k3 : frX (z' - e') (w' - e') g = true := by rw [Int.sub_eq_add_neg, Int.sub_eq_add_neg]; exact frX_e h' (by omega) (by omega) (by omega) (by omega)
  have k4 : frX (z' + e') (w' + e') g = true := frX_e h' (by omega) (by omega) (by omega) (by omega)
  have m1 := tm_mono k3 k1 h1 h3
  have m2 := tm_mono k2 k4 h2 h4
  unfold loT hiT
  omega
theorem im_in {x y z u v w g e x' y' z' u' v' w' e' : Int} (h : imR x y z u v w g e = true) (h' : imR x' y' z' u' v' w' g e' = true) (hx : x' - e' ≤ x - e ∧ x + e ≤ x' + e') (hy : y' - e' ≤ y - e ∧ y + e ≤ y' + e') (hz : z' - e' ≤ z - e ∧ z + e ≤ z' + e') (hu : u' - e' ≤ u - e ∧ u + e ≤ u' + e') (hv : v' - e' ≤ v - e ∧ v + e ≤ v' + e') (hw : w' - e' ≤ w - e ∧ w + e ≤ w' + e') :
    (boL x' u' e' (loT z' w' g e') (hiT z' w' g e') ≤ boL x u e (loT z w g e) (hiT z w g e) ∧ boH x u e (loT z w g e) (hiT z w g e) ≤ boH x' u' e' (loT z' w' g e') (hiT z' w' g e')) ∧ boL y' v' e' (loT z' w' g e') (hiT z' w' g e') ≤ boL y v e (loT z w g e) (hiT z w g e) ∧ boH y v e (loT z w g e) (hiT z w g e) ≤ boH y' v' e' (loT z' w' g e') (hiT z' w' g e') := by
  obtain ⟨⟨hf, he⟩, hn⟩ := imR_iff.1 h
  obtain ⟨⟨hf', he'⟩, hn'⟩ := imR_iff.1 h'
  obtain ⟨t1, t2, t3⟩ := times hf he
  obtain ⟨s1, s2⟩ := times_in hf he hf' he' hz.1 hz.2 hw.1 hw.2
  exact ⟨bo_in he.1 hx.1 hx.2 hu.1 hu.2 s1 (by omega) s2, bo_in he.1 hy.1 hy.2 hv.1 hv.2 s1 (by omega) s2⟩
theorem im_box {x y z u v w g e : Int} (h : imR x y z u v w g e = true) : boR (boL x u e (loT z w g e) (hiT z w g e)) (boL y v e (loT z w g e) (hiT z w g e)) (boH x u e (loT z w g e) (hiT z w g e)) (boH y v e (loT z w g e) (hiT z w g e)) = true := by
  obtain ⟨⟨hf, he⟩, hn⟩ := imR_iff.1 h
  obtain ⟨t1, t2, t3⟩ := times hf he
  exact box_ok hn he t1 t2 (by omega)
theorem rl_in {L : List (List Dat)} {a b c d m1 m2 n1 n2 : Int} (ha : areaB L = true) (hb : boR a b c d = true) (hs : boR m1 m2 n1 n2 = true) (hm : ∀ k, 0 ≤ k → k < (L.length : Int) → rlBx a b c d L k = false) (h1 : a ≤ m1) (h2 : b ≤ m2) (h3 : n1 ≤ c) (h4 : n2 ≤ d) : ∀ k, 0 ≤ k → k < (L.length : Int) → rlBx m1 m2 n1 n2 L k = false := by
  intro k k0 k1
  have h := isArea ha
  have n := nx_lt h k0 k1
  obtain ⟨b1, b2, b3, b4⟩ := boR_le hs
  have p0 := h.pl k k0 k1
  have p1 := h.pl _ n.1 n.2
  have e := hm k k0 k1
  have w : ∀ {u1 u2 v1 v2 : Int}, a ≤ u1 ∧ u1 ≤ c ∧ b ≤ u2 ∧ u2 ≤ d → a ≤ v1 ∧ v1 ≤ c ∧ b ≤ v2 ∧ v2 ≤ d → meetB (pX L k) (pY L k) (pX L (nx L k)) (pY L (nx L k)) u1 u2 v1 v2 = false := fun hu hv => by
    rw [meet_swap]
    exact box_ways ha hb hm hu hv k k0 k1
  unfold rlBx mtB at e ⊢
  rw [hb, p0, p1] at e
  rw [hs, p0, p1]
  simp only [Bool.true_and, Bool.or_eq_false_iff] at e ⊢
  refine ⟨?_, ?_⟩
  · cases hh : hasB m1 m2 n1 n2 (pX L k) (pY L k)
    · rfl
    · have i := (has_iff hs p0).1 hh
      have := (has_iff hb p0).2 ⟨by omega, by omega, by omega, by omega⟩
      rw [this] at e
      cases e.1
  · unfold msB
    rw [w (u1 := m1) (u2 := m2) (v1 := n1) (v2 := m2) (by omega) (by omega), w (u1 := n1) (u2 := m2) (v1 := n1) (v2 := n2) (by omega) (by omega), w (u1 := n1) (u2 := n2) (v1 := m1) (v2 := n2) (by omega) (by omega), w (u1 := m1) (u2 := n2) (v1 := m1) (v2 := m2) (by omega) (by omega)]
    rfl
theorem rel_free {L : List (List Dat)} {a b c d : Int} (ha : areaB L = true) (hb : boR a b c d = true) (hm : ∀ k, 0 ≤ k → k < (L.length : Int) → rlBx a b c d L k = false) : relBx a b c d L = sideI L a b := by
  unfold relBx
  rw [hb, ha, anyN_none.2 fun i h1 h2 => hm i h1 (by omega)]
  rfl
theorem side_in {L : List (List Dat)} {a b c d u1 u2 : Int} (ha : areaB L = true) (hb : boR a b c d = true) (hm : ∀ k, 0 ≤ k → k < (L.length : Int) → rlBx a b c d L k = false) (hu : a ≤ u1 ∧ u1 ≤ c ∧ b ≤ u2 ∧ u2 ≤ d) : sideI L u1 u2 = sideI L a b := by
  obtain ⟨b1, b2, b3, b4⟩ := boR_le hb
  have pu : plR u1 u2 = true := by rw [plR_iff] at b1 b2 ⊢; omega
  exact (ways ha b1 pu (box_ways ha hb hm ⟨Int.le_refl a, b3, Int.le_refl b, b4⟩ hu)).1.symm
end Go.Proofs.Ytmfeioinhpdebaa

namespace Go.Proofs.Ytmfeioinhpdebaa
open Go Go.Proofs Go.Sx
set_option linter.unusedVariables false
/-! norm -/
/-! cast -/
noncomputable def Γe0 : Orc := addVal 30 gLOff (addVal 29 gLHeld (addVal 63 gIBox ΓA19))
theorem Oke0 : Γe0.Ok Try.prog := addVal_ok (addVal_ok (addVal_ok OkA19 gIBox_ok) gLHeld_ok) gLOff_ok
/-! rep (wI ((BitVec.ofInt (64 : Nat) e &&& BitVec.ofInt (64 : Nat) (1023 : Int)).toNat : Int)) => (eM e) -/
/-! rep wI ((BitVec.ofInt (64 : Nat) e &&& BitVec.ofInt (64 : Nat) (1023 : Int)).toNat : Int) => eM e -/
/-! rep wI ((BitVec.ofInt (64 : Nat) k &&& BitVec.ofInt (64 : Nat) (1023 : Int)).toNat : Int) => eM k -/
def eM (e : Int) : Int := wI ((BitVec.ofInt 64 e &&& BitVec.ofInt 64 1023).toNat : Int)
theorem eM_in (e : Int) : 0 ≤ eM e ∧ eM e ≤ 1023 := andB e 1023 (by decide) (by decide)
def abI (v : Int) : Int := bif decide (v < 0) then -v else v
theorem abI_is (v : Int) : (0 ≤ v ∧ abI v = v) ∨ (v < 0 ∧ abI v = -v) := by
  unfold abI
  by_cases h : v < 0
  · rw [decide_eq_true h]; exact .inr ⟨h, rfl⟩
  · rw [decide_eq_false h]; exact .inl ⟨by omega, rfl⟩
def mdB (a : Int) : Bool := decide (-2199023255552 ≤ a ∧ a ≤ 2199023255552)
def m2 (a b : Int) : Int := if abI b > abI a then abI b else abI a
def m3 (a b c : Int) : Int := if abI c > m2 a b then abI c else m2 a b
theorem m3_is (a b c : Int) : abI a ≤ m3 a b c ∧ abI b ≤ m3 a b c ∧ abI c ≤ m3 a b c ∧ (m3 a b c = abI a ∨ m3 a b c = abI b ∨ m3 a b c = abI c) := by
  unfold m3 m2
  split <;> split at * <;> (try split at *) <;> omega
def spI (f m e : Int) : Int := bif decide (f > m + e) then -1 else bif decide (f ≤ m - e) then 1 else 0

set_option maxRecDepth 20000 in
theorem runVsz (v : Int) : runG Γe0 L0 Try.prog Try.f79 [.v (I v)] M0 = 
    (bif decide (v < (0 : Int)) then some (.v (.int .u64 (IntKind.u64.wrap ((0 : Int) - IntKind.u64.wrap v))), M0) else some (.v (.int .u64 (IntKind.u64.wrap v)), M0)) := by kernel_rfl
def gVsz (vs : List Value) : Option (Bool × Value) :=
  match vs with
  | [.int .i64 v] => some (mdB v, .int .u64 (abI v))
  | _ => none
theorem gVsz_ok : ∀ vs r, gVsz vs = some (true, r) → ∀ m, CallOk Try.prog 79 (vs.map .v) m (.v r) m := by
  intro vs r h
  unfold gVsz at h
  split at h
  · rename_i v
    obtain ⟨h1, rfl⟩ := some_t h
    refine runV (vs := [I v]) (Λ := L0) (m' := M0) Oke0 Try.func79 rfl (fun z _ _ => l0Ok' _ z) ?_
    exact (runVsz v).trans (by
      have h : -2199023255552 ≤ v ∧ v ≤ 2199023255552 := of_decide_eq_true h1
      unfold abI
      by_cases hv : v < 0
      · rw [decide_eq_true hv, wrU, wrU, show ((0 : Int) - v % 18446744073709551616) % 18446744073709551616 = -v by omega]
        rfl
      · rw [decide_eq_false hv, wrU_id (n := v) (by omega)]
        rfl)
  · cases h
noncomputable def Γe1 : Orc := addVal 79 gVsz Γe0
theorem Oke1 : Γe1.Ok Try.prog := addVal_ok Oke0 gVsz_ok
set_option maxRecDepth 20000 in
theorem runVas (n : Int) (a : Int) (b : Int) : runG Γe1 L0 Try.prog Try.f80 [.v (.int .u64 n), .v (I a), .v (I b)] M0 = 
    (bif inI a && inI b then (bif decide (smI (a + b) < (0 : Int)) then some (.v (Bo true), M0) else (bif !inI (a + b) then (bif decide (a < (0 : Int)) then some (.v (Bo true), M0) else some (.v (Bo (decide (n > IntKind.u64.wrap (IntKind.u64.wrap a + IntKind.u64.wrap b)))), M0)) else some (.v (Bo (decide (n > IntKind.u64.wrap (IntKind.u64.wrap a + IntKind.u64.wrap b)))), M0))) else none) := by kernel_rfl
def gVas (vs : List Value) : Option (Bool × Value) :=
  match vs with
  | [.int .u64 n, .int .i64 a, .int .i64 b] => some (decide (0 ≤ n ∧ n ≤ 4398046511104) && (decide (0 ≤ a ∧ a ≤ 2199023255552) && decide (0 ≤ b ∧ b ≤ 2199023255552)), Bo (decide (n > a + b)))
  | _ => none
theorem gVas_ok : ∀ vs r, gVas vs = some (true, r) → ∀ m, CallOk Try.prog 80 (vs.map .v) m (.v r) m := by
  intro vs r h
  unfold gVas at h
  split at h
  · rename_i n a b
    obtain ⟨h1, rfl⟩ := some_t h
    refine runV (vs := [.int .u64 n, I a, I b]) (Λ := L0) (m' := M0) Oke1 Try.func80 rfl (fun z _ _ => l0Ok' _ z) ?_
    exact (runVas n a b).trans (by
      simp only [Bool.and_eq_true, decide_eq_true_eq] at h1
      obtain ⟨h1, h2, h3⟩ := h1
      have i := inI_iff.2 (show -9223372036854775808 ≤ a + b ∧ a + b < 9223372036854775808 by omega)
      rw [inI_iff.2 (show -9223372036854775808 ≤ a ∧ a < 9223372036854775808 by omega), inI_iff.2 (show -9223372036854775808 ≤ b ∧ b < 9223372036854775808 by omega), i, show smI (a + b) = a + b by unfold smI; rw [i]; rfl, decide_eq_false (show ¬ a + b < 0 by omega), wrU_id (n := a) (by omega), wrU_id (n := b) (by omega), wrU_id (n := a + b) (by omega)]
      rfl)
  · cases h
noncomputable def Γe2 : Orc := addVal 80 gVas Γe1
theorem Oke2 : Γe2.Ok Try.prog := addVal_ok Oke1 gVas_ok
set_option maxRecDepth 20000 in
theorem runVud (n : Int) (a : Int) (b : Int) : runG Γe2 L0 Try.prog Try.f81 [.v (.int .u64 n), .v (I a), .v (I b)] M0 = 
    (bif decide (a ≥ b) then some (.v (Bo (decide (n ≤ IntKind.u64.wrap (IntKind.u64.wrap a - IntKind.u64.wrap b)))), M0) else some (.v (Bo false), M0)) := by kernel_rfl
def gVud (vs : List Value) : Option (Bool × Value) :=
  match vs with
  | [.int .u64 n, .int .i64 a, .int .i64 b] => some (decide (0 ≤ n ∧ n ≤ 4398046511104) && (decide (0 ≤ a ∧ a ≤ 2199023255552) && decide (0 ≤ b ∧ b ≤ 2199023255552)), Bo (decide (n ≤ a - b)))
  | _ => none
theorem gVud_ok : ∀ vs r, gVud vs = some (true, r) → ∀ m, CallOk Try.prog 81 (vs.map .v) m (.v r) m := by
  intro vs r h
  unfold gVud at h
  split at h
  · rename_i n a b
    obtain ⟨h1, rfl⟩ := some_t h
    refine runV (vs := [.int .u64 n, I a, I b]) (Λ := L0) (m' := M0) Oke2 Try.func81 rfl (fun z _ _ => l0Ok' _ z) ?_
    exact (runVud n a b).trans (by
      simp only [Bool.and_eq_true, decide_eq_true_eq] at h1
      obtain ⟨h1, h2, h3⟩ := h1
      by_cases h : a ≥ b
      · rw [decide_eq_true h, wrU_id (n := a) (by omega), wrU_id (n := b) (by omega), wrU_id (n := a - b) (by omega)]
        rfl
      · rw [decide_eq_false h, decide_eq_false (show ¬ n ≤ a - b by omega)]
        rfl)
  · cases h
noncomputable def Γe3 : Orc := addVal 81 gVud Γe2
theorem Oke3 : Γe3.Ok Try.prog := addVal_ok Oke2 gVud_ok
set_option maxRecDepth 20000 in
theorem runVsp (p : Int) (q : Int) (x : Int) (y : Int) (z : Int) (vx : Int) (vy : Int) (vz : Int) (mo : Int) (e : Int) : runG Γe3 L0 Try.prog Try.f61 [.v (.agg #[I p, I q, I x, I y, I z, I vx, I vy, I vz]), .v (I mo), .v (I e)] M0 = 
    (bif mdB vx then (bif mdB vy then (bif mdB vz then (bif decide (((0 : Int) ≤ if abI vz > if abI vy > abI vx then abI vy else abI vx then abI vz else if abI vy > abI vx then abI vy else abI vx) ∧ (if abI vz > if abI vy > abI vx then abI vy else abI vx then abI vz else if abI vy > abI vx then abI vy else abI vx) ≤ (4398046511104 : Int)) && (decide ((0 : Int) ≤ mo ∧ mo ≤ (2199023255552 : Int)) && decide ((0 : Int) ≤ e ∧ e ≤ (2199023255552 : Int))) then (bif decide ((if abI vz > if abI vy > abI vx then abI vy else abI vx then abI vz else if abI vy > abI vx then abI vy else abI vx) > mo + e) then some (.v (I (-1)), M0) else (bif decide (((0 : Int) ≤ if abI vz > if abI vy > abI vx then abI vy else abI vx then abI vz else if abI vy > abI vx then abI vy else abI vx) ∧ (if abI vz > if abI vy > abI vx then abI vy else abI vx then abI vz else if abI vy > abI vx then abI vy else abI vx) ≤ (4398046511104 : Int)) && (decide ((0 : Int) ≤ mo ∧ mo ≤ (2199023255552 : Int)) && decide ((0 : Int) ≤ e ∧ e ≤ (2199023255552 : Int))) then (bif decide ((if abI vz > if abI vy > abI vx then abI vy else abI vx then abI vz else if abI vy > abI vx then abI vy else abI vx) ≤ mo - e) then some (.v (I 1), M0) else some (.v (I 0), M0)) else none)) else none) else none) else none) else none) := by kernel_rfl
def gVsp (vs : List Value) : Option (Bool × Value) :=
  match vs with
  | [.agg ⟨[.int .i64 p, .int .i64 q, .int .i64 x, .int .i64 y, .int .i64 z, .int .i64 vx, .int .i64 vy, .int .i64 vz]⟩, .int .i64 mo, .int .i64 e] => some (mdB vx && (mdB vy && (mdB vz && (decide (0 ≤ mo ∧ mo ≤ 2199023255552) && decide (0 ≤ e ∧ e ≤ 2199023255552)))), I (spI (m3 vx vy vz) mo e))
  | _ => none
theorem gVsp_ok : ∀ vs r, gVsp vs = some (true, r) → ∀ m, CallOk Try.prog 61 (vs.map .v) m (.v r) m := by
  intro vs r h
  unfold gVsp at h
  split at h
  · rename_i p q x y z vx vy vz mo e
    obtain ⟨h1, rfl⟩ := some_t h
    refine runV (vs := [.agg #[I p, I q, I x, I y, I z, I vx, I vy, I vz], I mo, I e]) (Λ := L0) (m' := M0) Oke3 Try.func61 rfl (fun z _ _ => l0Ok' _ z) ?_
    exact (runVsp p q x y z vx vy vz mo e).trans (by
      simp only [Bool.and_eq_true] at h1
      obtain ⟨h1, h2, h3, h4, h5⟩ := h1
      rw [h1, h2, h3]
      have b1 : -2199023255552 ≤ vx ∧ vx ≤ 2199023255552 := of_decide_eq_true h1
      have b2 : -2199023255552 ≤ vy ∧ vy ≤ 2199023255552 := of_decide_eq_true h2
      have b3 : -2199023255552 ≤ vz ∧ vz ≤ 2199023255552 := of_decide_eq_true h3
      have a1 := abI_is vx
      have a2 := abI_is vy
      have a3 := abI_is vz
      have a4 := m3_is vx vy vz
      show (bif decide (0 ≤ m3 vx vy vz ∧ m3 vx vy vz ≤ 4398046511104) && _ then (bif decide (m3 vx vy vz > mo + e) then _ else (bif decide (0 ≤ m3 vx vy vz ∧ m3 vx vy vz ≤ 4398046511104) && _ then (bif decide (m3 vx vy vz ≤ mo - e) then _ else _) else none)) else none) = _
      rw [decide_eq_true (show 0 ≤ m3 vx vy vz ∧ m3 vx vy vz ≤ 4398046511104 by omega), h4, h5]
      unfold spI
      cases decide (m3 vx vy vz > mo + e) <;> cases decide (m3 vx vy vz ≤ mo - e) <;> rfl)
  · cases h
noncomputable def Γe4 : Orc := addVal 61 gVsp Γe3
theorem Oke4 : Γe4.Ok Try.prog := addVal_ok Oke3 gVsp_ok
def boxI (x y z vx vy vz g e : Int) (L : List (List Dat)) : Int := relBx (iLX x y z vx vy vz g e) (iLY x y z vx vy vz g e) (iHX x y z vx vy vz g e) (iHY x y z vx vy vz g e) L
def wsI (r s : Int) : Int := if r < s then r else s
def ofI (x y z vx vy vz g mo e : Int) (L : List (List Dat)) : Int := bif !imR x y z vx vy vz g e then 4 else (bif wsI (boxI x y z vx vy vz g e L) (spI (m3 vx vy vz) mo e) == -1 then 3 else bif wsI (boxI x y z vx vy vz g e L) (spI (m3 vx vy vz) mo e) == 1 then 1 else 2)
set_option maxRecDepth 20000 in
theorem runVof (p : Int) (q : Int) (x : Int) (y : Int) (z : Int) (vx : Int) (vy : Int) (vz : Int) (g : Int) (v : Int) (m : Int) (u : Int) (e : Int) (L : List (List Dat)) (own : Bool) (mark : Bool) : runG Γe4 L0 Try.prog Try.f31 [.v (.agg #[I p, I q, I x, I y, I z, I vx, I vy, I vz]), .ag [.row 0, .v (I g), .v (I v), .v (I m), .v (I u)], .v (I e)] ⟨[], [], [rP L own mark]⟩ = 
    (bif !imR x y z vx vy vz g e then some (.v (I 4), ⟨[], [], [.live ⟨39, [.num .i64, .num .i64], L, own, mark⟩]⟩) else (bif mdB vx && (mdB vy && (mdB vz && (decide ((0 : Int) ≤ v ∧ v ≤ (2199023255552 : Int)) && decide ((0 : Int) ≤ e ∧ e ≤ (2199023255552 : Int))))) then (bif L.length.ble (1000000) then (bif (if relBx (iLX x y z vx vy vz g e) (iLY x y z vx vy vz g e) (iHX x y z vx vy vz g e) (iHY x y z vx vy vz g e) L < spI (m3 vx vy vz) v e then relBx (iLX x y z vx vy vz g e) (iLY x y z vx vy vz g e) (iHX x y z vx vy vz g e) (iHY x y z vx vy vz g e) L else spI (m3 vx vy vz) v e) == (-1 : Int) then some (.v (I 3), ⟨[], [], [.live ⟨39, [.num .i64, .num .i64], L, own, mark⟩]⟩) else (bif (if relBx (iLX x y z vx vy vz g e) (iLY x y z vx vy vz g e) (iHX x y z vx vy vz g e) (iHY x y z vx vy vz g e) L < spI (m3 vx vy vz) v e then relBx (iLX x y z vx vy vz g e) (iLY x y z vx vy vz g e) (iHX x y z vx vy vz g e) (iHY x y z vx vy vz g e) L else spI (m3 vx vy vz) v e) == (1 : Int) then some (.v (I 1), ⟨[], [], [.live ⟨39, [.num .i64, .num .i64], L, own, mark⟩]⟩) else some (.v (I 2), ⟨[], [], [.live ⟨39, [.num .i64, .num .i64], L, own, mark⟩]⟩))) else none) else none)) := by kernel_rfl
def gVof (xs : List SV) (m : Mem) : Option (Bool × Value) :=
  match xs, m with
  | [.v (.agg ⟨[.int .i64 p, .int .i64 q, .int .i64 x, .int .i64 y, .int .i64 z, .int .i64 vx, .int .i64 vy, .int .i64 vz]⟩), .ag [.row 0, .v (.int .i64 g), .v (.int .i64 v), .v (.int .i64 m), .v (.int .i64 u)], .v (.int .i64 e)], ⟨[], [], [.live ⟨39, [.num .i64, .num .i64], L, own, mark⟩]⟩ => some (Nat.ble L.length 1000000 && decide (0 ≤ v ∧ v ≤ 2199023255552), I (ofI x y z vx vy vz g v e L))
  | _, _ => none
theorem gVof_ok : ∀ xs m r, gVof xs m = some (true, r) → CallOk Try.prog 31 xs m (.v r) m := by
  intro xs m r h
  unfold gVof at h
  split at h
  · rename_i p q x y z vx vy vz g v m u e L own mark
    obtain ⟨h1, rfl⟩ := some_t h
    refine runOk (Λ := L0) Oke4 Try.func31 rfl (fun z _ _ => l0Ok' _ z) ?_
    refine (runVof p q x y z vx vy vz g v m u e L own mark).trans ?_
    rw [Bool.and_eq_true] at h1
    obtain ⟨h1, h2⟩ := h1
    rw [h1]
    unfold ofI
    cases hi : imR x y z vx vy vz g e
    · rfl
    have h3 := imR_iff.1 hi
    have h4 := nvR_iff.1 h3.2
    have h5 := frR_iff.1 h3.1.1
    have b1 : mdB vx = true := decide_eq_true (by omega)
    have b2 : mdB vy = true := decide_eq_true (by omega)
    have b3 : mdB vz = true := decide_eq_true (by omega)
    rw [b1, b2, b3, h2, decide_eq_true (show 0 ≤ e ∧ e ≤ 2199023255552 by omega)]
    show (bif wsI (boxI x y z vx vy vz g e L) (spI (m3 vx vy vz) v e) == -1 then _ else (bif wsI (boxI x y z vx vy vz g e L) (spI (m3 vx vy vz) v e) == 1 then _ else _)) = _
    simp only [Bool.not_true, cond_false]
    cases wsI (boxI x y z vx vy vz g e L) (spI (m3 vx vy vz) v e) == -1 <;> cases wsI (boxI x y z vx vy vz g e L) (spI (m3 vx vy vz) v e) == 1 <;> rfl
  · cases h
noncomputable def Γe5 : Orc := addRd 31 gVof Γe4
theorem Oke5 : Γe5.Ok Try.prog := addRd_ok Oke4 gVof_ok
set_option maxRecDepth 20000 in
theorem runRma (p : Int) (q : Int) (x : Int) (y : Int) (z : Int) (vx : Int) (vy : Int) (vz : Int) (g : Int) (e : Int) : runG Γe5 L0 Try.prog Try.f35 [.v (.agg #[I p, I q, I x, I y, I z, I vx, I vy, I vz]), .v (I g), .v (I e)] M0 = 
    (bif decide (x < wI ((0 : Int) - (2147483648 : Int))) then some (.v (Bo false), M0) else (bif decide (x > (2147483648 : Int)) then some (.v (Bo false), M0) else (bif decide (y < wI ((0 : Int) - (2147483648 : Int))) then some (.v (Bo false), M0) else (bif decide (y > (2147483648 : Int)) then some (.v (Bo false), M0) else (bif decide (vx < (-131072 : Int)) then some (.v (Bo false), M0) else (bif decide (vx > (131072 : Int)) then some (.v (Bo false), M0) else (bif decide (vy < (-131072 : Int)) then some (.v (Bo false), M0) else (bif decide (vy > (131072 : Int)) then some (.v (Bo false), M0) else (bif decide (e < (0 : Int)) then some (.v (Bo false), M0) else (bif decide (e > (2048 : Int)) then some (.v (Bo false), M0) else some (.v (Bo (frR z vz g)), M0))))))))))) := by kernel_rfl
def gRma (vs : List Value) : Option (Bool × Value) :=
  match vs with
  | [.agg ⟨[.int .i64 p, .int .i64 q, .int .i64 x, .int .i64 y, .int .i64 z, .int .i64 vx, .int .i64 vy, .int .i64 vz]⟩, .int .i64 g, .int .i64 e] => some (true, Bo (imR x y z vx vy vz g e))
  | _ => none
theorem gRma_ok : ∀ vs r, gRma vs = some (true, r) → ∀ m, CallOk Try.prog 35 (vs.map .v) m (.v r) m := by
  intro vs r h
  unfold gRma at h
  split at h
  · rename_i p q x y z vx vy vz g e
    obtain ⟨h1, rfl⟩ := some_t h
    refine runV (vs := [.agg #[I p, I q, I x, I y, I z, I vx, I vy, I vz], I g, I e]) (Λ := L0) (m' := M0) Oke5 Try.func35 rfl (fun z _ _ => l0Ok' _ z) ?_
    exact (runRma p q x y z vx vy vz g e).trans (by
      rw [show wI ((0 : Int) - 2147483648) = -2147483648 from wI_id (by omega)]
      have c : ∀ (p : Prop) [Decidable p] (X Y : Option (SV × Mem)), (bif decide p then X else Y) = if p then X else Y := fun p _ X Y => by by_cases h : p <;> simp [h]
      simp only [c]
      cases hi : imR x y z vx vy vz g e
      · have hn : ¬ ((frR z vz g = true ∧ 0 ≤ e ∧ e ≤ 2048) ∧ nvR x y vx vy = true) := fun h => by rw [imR_iff.2 h] at hi; cases hi
        rw [nvR_iff] at hn
        repeat' split
        all_goals first | rfl | skip
        cases hf : frR z vz g
        · rfl
        · exact absurd ⟨⟨hf, by omega⟩, by omega⟩ hn
      · have h := imR_iff.1 hi
        have n := nvR_iff.1 h.2
        rw [if_neg (by omega), if_neg (by omega), if_neg (by omega), if_neg (by omega), if_neg (by omega), if_neg (by omega), if_neg (by omega), if_neg (by omega), if_neg (by omega), if_neg (by omega), h.1.1])
  · cases h
noncomputable def Γe6 : Orc := addVal 35 gRma Γe5
theorem Oke6 : Γe6.Ok Try.prog := addVal_ok Oke5 gRma_ok
set_option maxRecDepth 20000 in
theorem treeTruth (p : Int) (q : Int) (x : Int) (y : Int) (z : Int) (vx : Int) (vy : Int) (vz : Int) (g : Int) (v : Int) (m : Int) (u : Int) (e : Int) (d0 : Int) (d1 : Int) (d2 : Int) (d3 : Int) (d4 : Int) (d5 : Int) (L : List (List Dat)) : runG Γe6 L0 Try.prog Try.f8 [.v (.agg #[I p, I q, I x, I y, I z, I vx, I vy, I vz]), .ag [.row 0, .v (I g), .v (I v), .v (I m), .v (I u)], .v (I e), .v (.agg #[I d0, I d1, I d2, I d3, I d4, I d5])] ⟨[], [], [rP L false false]⟩ = 
    (bif decide ((L.length : Int) > (12 : Int)) then some (.v (Bo true), ⟨[], [], [.live ⟨39, [.num .i64, .num .i64], L, false, false⟩]⟩) else (bif L.length.ble (1000000) then (bif !rpR L g v m u then some (.v (Bo true), ⟨[], [], [.live ⟨39, [.num .i64, .num .i64], L, false, false⟩]⟩) else (bif decide ((0 : Int) ≤ eM e ∧ eM e ≤ (4096 : Int)) then (bif L.length.ble (1000000) && decide ((0 : Int) ≤ v ∧ v ≤ (2199023255552 : Int)) then (bif L.length.ble (1000000) && decide ((0 : Int) ≤ v ∧ v ≤ (2199023255552 : Int)) then (bif ofI (hX x) (hX y) (hZ z) (hV vx) (hV vy) (hV vz) g v (0 : Int) L == (1 : Int) then (bif !ofI (oI (hX x) d0 (eM e)) (oI (hX y) d1 (eM e)) (oI (hZ z) d2 (eM e)) (oI (hV vx) d3 (eM e)) (oI (hV vy) d4 (eM e)) (oI (hV vz) d5 (eM e)) g v (eM e) L == (3 : Int) then (bif ofI (hX x) (hX y) (hZ z) (hV vx) (hV vy) (hV vz) g v (0 : Int) L == (3 : Int) then some (.v (Bo (!ofI (oI (hX x) d0 (eM e)) (oI (hX y) d1 (eM e)) (oI (hZ z) d2 (eM e)) (oI (hV vx) d3 (eM e)) (oI (hV vy) d4 (eM e)) (oI (hV vz) d5 (eM e)) g v (eM e) L == (1 : Int))), ⟨[], [], [.live ⟨39, [.num .i64, .num .i64], L, false, false⟩]⟩) else some (.v (Bo true), ⟨[], [], [.live ⟨39, [.num .i64, .num .i64], L, false, false⟩]⟩)) else some (.v (Bo false), ⟨[], [], [.live ⟨39, [.num .i64, .num .i64], L, false, false⟩]⟩)) else (bif ofI (hX x) (hX y) (hZ z) (hV vx) (hV vy) (hV vz) g v (0 : Int) L == (3 : Int) then some (.v (Bo (!ofI (oI (hX x) d0 (eM e)) (oI (hX y) d1 (eM e)) (oI (hZ z) d2 (eM e)) (oI (hV vx) d3 (eM e)) (oI (hV vy) d4 (eM e)) (oI (hV vz) d5 (eM e)) g v (eM e) L == (1 : Int))), ⟨[], [], [.live ⟨39, [.num .i64, .num .i64], L, false, false⟩]⟩) else some (.v (Bo true), ⟨[], [], [.live ⟨39, [.num .i64, .num .i64], L, false, false⟩]⟩))) else none) else none) else none)) else none)) := by kernel_rfl
set_option maxRecDepth 20000 in
theorem treeEps (p : Int) (q : Int) (x : Int) (y : Int) (z : Int) (vx : Int) (vy : Int) (vz : Int) (g : Int) (v : Int) (m : Int) (u : Int) (e : Int) (k : Int) (L : List (List Dat)) : runG Γe6 L0 Try.prog Try.f10 [.v (.agg #[I p, I q, I x, I y, I z, I vx, I vy, I vz]), .ag [.row 0, .v (I g), .v (I v), .v (I m), .v (I u)], .v (I e), .v (I k)] ⟨[], [], [rP L false false]⟩ = 
    (bif decide ((L.length : Int) > (12 : Int)) then some (.v (Bo true), ⟨[], [], [.live ⟨39, [.num .i64, .num .i64], L, false, false⟩]⟩) else (bif L.length.ble (1000000) then (bif !rpR L g v m u then some (.v (Bo true), ⟨[], [], [.live ⟨39, [.num .i64, .num .i64], L, false, false⟩]⟩) else (bif L.length.ble (1000000) && decide ((0 : Int) ≤ v ∧ v ≤ (2199023255552 : Int)) then (bif L.length.ble (1000000) && decide ((0 : Int) ≤ v ∧ v ≤ (2199023255552 : Int)) then (bif ofI x y z vx vy vz g v (eM e) L == (4 : Int) then (bif ofI x y z vx vy vz g v (wI (eM e + eM k)) L == (4 : Int) then some (.v (Bo (!imR x y z vx vy vz g (eM e))), ⟨[], [], [.live ⟨39, [.num .i64, .num .i64], L, false, false⟩]⟩) else some (.v (Bo false), ⟨[], [], [.live ⟨39, [.num .i64, .num .i64], L, false, false⟩]⟩)) else (bif ofI x y z vx vy vz g v (wI (eM e + eM k)) L == ofI x y z vx vy vz g v (eM e) L then some (.v (Bo true), ⟨[], [], [.live ⟨39, [.num .i64, .num .i64], L, false, false⟩]⟩) else (bif ofI x y z vx vy vz g v (wI (eM e + eM k)) L == (4 : Int) then some (.v (Bo true), ⟨[], [], [.live ⟨39, [.num .i64, .num .i64], L, false, false⟩]⟩) else some (.v (Bo (ofI x y z vx vy vz g v (wI (eM e + eM k)) L == (2 : Int))), ⟨[], [], [.live ⟨39, [.num .i64, .num .i64], L, false, false⟩]⟩)))) else none) else none)) else none)) := by kernel_rfl
noncomputable def ΓVe : Orc := Γe6
theorem OkVe : ΓVe.Ok Try.prog := Oke6
end Go.Proofs.Ytmfeioinhpdebaa

namespace Go.Proofs.Ytmfeioinhpdebaa
open Go Go.Proofs Go.Sx
set_option linter.unusedVariables false
theorem side_b (L : List (List Dat)) (px py : Int) : -1 ≤ sideI L px py ∧ sideI L px py ≤ 1 := by
  rw [← side_eq]
  unfold sideR
  cases areaR L
  · exact ⟨by show (-1 : Int) ≤ -1; omega, by show (-1 : Int) ≤ 1; omega⟩
  · cases plR px py
    · exact ⟨by show (-1 : Int) ≤ -1; omega, by show (-1 : Int) ≤ 1; omega⟩
    · simp only [Bool.not_true, cond_false]
      generalize anyN _ _ _ = a
      generalize oddB px py L = b
      cases a <;> cases b <;> decide
theorem box_b (x y z vx vy vz g e : Int) (L : List (List Dat)) : -1 ≤ boxI x y z vx vy vz g e L ∧ boxI x y z vx vy vz g e L ≤ 1 := by
  unfold boxI relBx
  have := side_b L (iLX x y z vx vy vz g e) (iLY x y z vx vy vz g e)
  cases boR (iLX x y z vx vy vz g e) (iLY x y z vx vy vz g e) (iHX x y z vx vy vz g e) (iHY x y z vx vy vz g e)
  · exact ⟨by show (-1 : Int) ≤ -1; omega, by show (-1 : Int) ≤ 1; omega⟩
  · cases areaB L
    · exact ⟨by show (-1 : Int) ≤ -1; omega, by show (-1 : Int) ≤ 1; omega⟩
    · simp only [Bool.not_true, cond_false]
      generalize anyN _ _ _ = b
      cases b
      · exact this
      · exact ⟨by show (-1 : Int) ≤ 0; omega, by show (0 : Int) ≤ 1; omega⟩
theorem sp_is (f m e : Int) (he : 0 ≤ e) : (f > m + e ∧ spI f m e = -1) ∨ (f ≤ m - e ∧ spI f m e = 1) ∨ (f ≤ m + e ∧ f > m - e ∧ spI f m e = 0) := by
  unfold spI
  by_cases h1 : f > m + e
  · rw [decide_eq_true h1]; exact .inl ⟨h1, rfl⟩
  · rw [decide_eq_false h1]
    by_cases h2 : f ≤ m - e
    · rw [decide_eq_true h2]; exact .inr (.inl ⟨h2, rfl⟩)
    · rw [decide_eq_false h2]; exact .inr (.inr ⟨by omega, by omega, rfl⟩)
/-- What a verdict says. -/
theorem of_is (x y z vx vy vz g mo e : Int) (L : List (List Dat)) (he : 0 ≤ e) :
    (imR x y z vx vy vz g e = false ∧ ofI x y z vx vy vz g mo e L = 4) ∨
    (imR x y z vx vy vz g e = true ∧ (m3 vx vy vz > mo + e ∨ boxI x y z vx vy vz g e L = -1) ∧ ofI x y z vx vy vz g mo e L = 3) ∨
    (imR x y z vx vy vz g e = true ∧ m3 vx vy vz ≤ mo - e ∧ boxI x y z vx vy vz g e L = 1 ∧ ofI x y z vx vy vz g mo e L = 1) ∨
    (imR x y z vx vy vz g e = true ∧ m3 vx vy vz ≤ mo + e ∧ boxI x y z vx vy vz g e L ≠ -1 ∧ (m3 vx vy vz > mo - e ∨ boxI x y z vx vy vz g e L ≠ 1) ∧ ofI x y z vx vy vz g mo e L = 2) := by
  have b := box_b x y z vx vy vz g e L
  have s := sp_is (m3 vx vy vz) mo e he
  unfold ofI
  cases imR x y z vx vy vz g e
  · exact .inl ⟨rfl, rfl⟩
  refine .inr ?_
  simp only [Bool.not_true, cond_false, true_and]
  generalize boxI x y z vx vy vz g e L = r at *
  generalize spI (m3 vx vy vz) mo e = t at *
  have w : (r < t ∧ wsI r t = r) ∨ (t ≤ r ∧ wsI r t = t) := by unfold wsI; split <;> omega
  generalize wsI r t = q at *
  have hq : q = -1 ∨ q = 0 ∨ q = 1 := by omega
  rcases hq with rfl | rfl | rfl
  · exact .inl ⟨by omega, rfl⟩
  · exact .inr (.inr ⟨by omega, by omega, by omega, rfl⟩)
  · exact .inr (.inl ⟨by omega, by omega, rfl⟩)
/-- A box in a greater one. -/
theorem box_grow {x y z u v w g e x' y' z' u' v' w' e' : Int} {L : List (List Dat)} (ha : areaB L = true) (h : imR x y z u v w g e = true) (h' : imR x' y' z' u' v' w' g e' = true) (hx : x' - e' ≤ x - e ∧ x + e ≤ x' + e') (hy : y' - e' ≤ y - e ∧ y + e ≤ y' + e') (hz : z' - e' ≤ z - e ∧ z + e ≤ z' + e') (hu : u' - e' ≤ u - e ∧ u + e ≤ u' + e') (hv : v' - e' ≤ v - e ∧ v + e ≤ v' + e') (hw : w' - e' ≤ w - e ∧ w + e ≤ w' + e')
    (hn : boxI x' y' z' u' v' w' g e' L ≠ 0) : boxI x y z u v w g e L = boxI x' y' z' u' v' w' g e' L := by
  obtain ⟨i1, i2, i3, i4⟩ := iOn h
  obtain ⟨j1, j2, j3, j4⟩ := iOn h'
  obtain ⟨⟨l1, l2⟩, l3, l4⟩ := im_in h h' hx hy hz hu hv hw
  have k := im_box h
  have k' := im_box h'
  unfold boxI at *
  rw [j1, j2, j3, j4] at hn ⊢
  rw [i1, i2, i3, i4]
  generalize boL x u e (loT z w g e) (hiT z w g e) = a at *
  generalize boL y v e (loT z w g e) (hiT z w g e) = b at *
  generalize boH x u e (loT z w g e) (hiT z w g e) = c at *
  generalize boH y v e (loT z w g e) (hiT z w g e) = d at *
  generalize boL x' u' e' (loT z' w' g e') (hiT z' w' g e') = a' at *
  generalize boL y' v' e' (loT z' w' g e') (hiT z' w' g e') = b' at *
  generalize boH x' u' e' (loT z' w' g e') (hiT z' w' g e') = c' at *
  generalize boH y' v' e' (loT z' w' g e') (hiT z' w' g e') = d' at *
  cases hr : anyN (rlBx a' b' c' d' L) L.length 0
  · have hm : ∀ k, 0 ≤ k → k < (L.length : Int) → rlBx a' b' c' d' L k = false := fun k k0 k1 => anyN_none.1 hr k k0 (by omega)
    have hm' := rl_in ha k' k hm l1 l3 l2 l4
    obtain ⟨_, _, b3, b4⟩ := boR_le k
    rw [rel_free ha k' hm, rel_free ha k hm', side_in ha k' hm (u1 := a) (u2 := b) (by omega)]
  · exact absurd (by unfold relBx; rw [k', ha, hr]; rfl) hn
abbrev mPv (L : List (List Dat)) : Mem := ⟨[], [], [rP L false false]⟩
theorem rp_is {L : List (List Dat)} {g v m u : Int} (h : rpR L g v m u = true) : areaB L = true ∧ (1 ≤ g ∧ g ≤ 100) ∧ (1 ≤ v ∧ v ≤ 65536) := by
  unfold rpR at h
  rw [area_eq] at h
  simp only [Bool.and_eq_true] at h
  obtain ⟨h1, h2, h3, _⟩ := h
  have w : ∀ {n lo hi : Int}, wiB n lo hi = true → lo ≤ n ∧ n ≤ hi := fun {n lo hi} h => by
    unfold wiB at h
    by_cases h1 : n ≥ lo
    · rw [decide_eq_true h1] at h
      exact ⟨h1, of_decide_eq_true h⟩
    · rw [decide_eq_false h1] at h; cases h
  exact ⟨h1, w h2, w h3⟩
theorem verdictTruth (p q x y z vx vy vz g v m u e d0 d1 d2 d3 d4 d5 : Int) (L : List (List Dat)) : runG ΓVe L0 Try.prog Try.f8 [.v (.agg #[I p, I q, I x, I y, I z, I vx, I vy, I vz]), .ag [.row 0, .v (I g), .v (I v), .v (I m), .v (I u)], .v (I e), .v (.agg #[I d0, I d1, I d2, I d3, I d4, I d5])] (mPv L) = some (.v (Bo true), mPv L) := by
  refine (treeTruth p q x y z vx vy vz g v m u e d0 d1 d2 d3 d4 d5 L).trans ?_
  by_cases h : (L.length : Int) > 12
  · rw [decide_eq_true h]; rfl
  rw [decide_eq_false h, Nat.ble_eq_true_of_le (show L.length ≤ 1000000 by omega)]
  cases hr : rpR L g v m u
  · rfl
  obtain ⟨ha, hg, hv⟩ := rp_is hr
  have rX := hX_in x
  have rY := hX_in y
  have rZ := hZ_in z
  have rU := hV_in vx
  have rV := hV_in vy
  have rW := hV_in vz
  have rE := eM_in e
  generalize hX x = X at *
  generalize hX y = Y at *
  generalize hZ z = Z at *
  generalize hV vx = U at *
  generalize hV vy = V at *
  generalize hV vz = W at *
  generalize eM e = E at *
  have oX := oI_in (x := X) (d := d0) (e := E) (by omega) (by omega)
  have oY := oI_in (x := Y) (d := d1) (e := E) (by omega) (by omega)
  have oZ := oI_in (x := Z) (d := d2) (e := E) (by omega) (by omega)
  have oU := oI_in (x := U) (d := d3) (e := E) (by omega) (by omega)
  have oV := oI_in (x := V) (d := d4) (e := E) (by omega) (by omega)
  have oW := oI_in (x := W) (d := d5) (e := E) (by omega) (by omega)
  generalize oI X d0 E = X' at *
  generalize oI Y d1 E = Y' at *
  generalize oI Z d2 E = Z' at *
  generalize oI U d3 E = U' at *
  generalize oI V d4 E = V' at *
  generalize oI W d5 E = W' at *
  have hS : imR X Y Z U V W g 0 = true := imR_of (by omega) (by omega) (by omega) (by omega) (by omega) (by omega) (by omega) (by omega)
  have hR : imR X' Y' Z' U' V' W' g E = true := imR_of (by omega) (by omega) (by omega) (by omega) (by omega) (by omega) (by omega) (by omega)
  have a1 := of_is X Y Z U V W g v 0 L (by omega)
  have a2 := of_is X' Y' Z' U' V' W' g v E L (by omega)
  rw [hS] at a1
  rw [hR] at a2
  have gr := box_grow (L := L) ha hS hR (by omega) (by omega) (by omega) (by omega) (by omega) (by omega)
  have f1 := m3_is U V W
  have f2 := m3_is U' V' W'
  have c1 := abI_is U
  have c2 := abI_is V
  have c3 := abI_is W
  have c4 := abI_is U'
  have c5 := abI_is V'
  have c6 := abI_is W'
  rw [decide_eq_true (show 0 ≤ E ∧ E ≤ 4096 by omega), decide_eq_true (show 0 ≤ v ∧ v ≤ 2199023255552 by omega)]
  generalize boxI X Y Z U V W g 0 L = r at *
  generalize boxI X' Y' Z' U' V' W' g E L = r' at *
  generalize ofI X Y Z U V W g v 0 L = t at *
  generalize ofI X' Y' Z' U' V' W' g v E L = t' at *
  simp only [Bool.true_eq_false, false_and, true_and, false_or] at a1 a2
  have q : m3 U V W ≤ m3 U' V' W' + E ∧ m3 U' V' W' ≤ m3 U V W + E := by
    generalize m3 U V W = M at *
    generalize m3 U' V' W' = M' at *
    clear a1 a2 gr
    constructor
    · rcases f1.2.2.2 with k | k | k <;> omega
    · rcases f2.2.2.2 with k | k | k <;> omega
  generalize m3 U V W = M at *
  generalize m3 U' V' W' = M' at *
  clear f1 f2 c1 c2 c3 c4 c5 c6
  have n1 : ¬ (t = 1 ∧ t' = 3) := by
    rintro ⟨rfl, rfl⟩
    by_cases h0 : r' = 0
    · omega
    · have := gr h0
      omega
  have n2 : ¬ (t = 3 ∧ t' = 1) := by
    rintro ⟨rfl, rfl⟩
    by_cases h0 : r' = 0
    · omega
    · have := gr h0
      omega
  simp only [Bool.and_self, cond_true, cond_false, Bool.not_true]
  by_cases k1 : t = 1
  · rw [k1, beq_eq_false_iff_ne.2 (show t' ≠ 3 by omega)]
    rfl
  · rw [beq_eq_false_iff_ne.2 k1]
    by_cases k3 : t = 3
    · rw [k3, beq_eq_false_iff_ne.2 (show t' ≠ 1 by omega)]
      rfl
    · rw [beq_eq_false_iff_ne.2 k3]
      rfl
theorem verdictEps (p q x y z vx vy vz g v m u e k : Int) (L : List (List Dat)) : runG ΓVe L0 Try.prog Try.f10 [.v (.agg #[I p, I q, I x, I y, I z, I vx, I vy, I vz]), .ag [.row 0, .v (I g), .v (I v), .v (I m), .v (I u)], .v (I e), .v (I k)] (mPv L) = some (.v (Bo true), mPv L) := by
  refine (treeEps p q x y z vx vy vz g v m u e k L).trans ?_
  by_cases h : (L.length : Int) > 12
  · rw [decide_eq_true h]; rfl
  rw [decide_eq_false h, Nat.ble_eq_true_of_le (show L.length ≤ 1000000 by omega)]
  cases hr : rpR L g v m u
  · rfl
  obtain ⟨ha, hg, hv⟩ := rp_is hr
  have rE := eM_in e
  have rK := eM_in k
  generalize eM e = E at *
  generalize eM k = K at *
  rw [decide_eq_true (show 0 ≤ v ∧ v ≤ 2199023255552 by omega), wI_id (n := E + K) (by omega)]
  have a1 := of_is x y z vx vy vz g v E L (by omega)
  have a2 := of_is x y z vx vy vz g v (E + K) L (by omega)
  have hi : imR x y z vx vy vz g (E + K) = imR x y z vx vy vz g E := by
    unfold imR
    rw [decide_eq_true (show 0 ≤ E + K ∧ E + K ≤ 2048 by omega), decide_eq_true (show 0 ≤ E ∧ E ≤ 2048 by omega)]
  rw [hi] at a2
  simp only [Bool.and_self, cond_true, cond_false, Bool.not_true]
  cases hm : imR x y z vx vy vz g E
  · rw [hm] at a1 a2
    simp only [Bool.false_eq_true, false_and, true_and, or_false] at a1 a2
    rw [a1, a2]
    rfl
  have gr := box_grow (L := L) ha hm (hi.trans hm) (by omega) (by omega) (by omega) (by omega) (by omega) (by omega)
  rw [hm] at a1 a2
  simp only [Bool.true_eq_false, false_and, true_and, false_or] at a1 a2
  generalize boxI x y z vx vy vz g E L = r at *
  generalize boxI x y z vx vy vz g (E + K) L = r' at *
  generalize ofI x y z vx vy vz g v E L = t at *
  generalize ofI x y z vx vy vz g v (E + K) L = t' at *
  generalize m3 vx vy vz = M at *
  have n : t ≠ 4 ∧ (t' = t ∨ t' = 4 ∨ t' = 2) := by
    by_cases h0 : r' = 0
    · omega
    · have := gr h0
      omega
  rw [beq_eq_false_iff_ne.2 n.1]
  rcases n.2 with k | k | k
  · rw [k, beq_self_eq_true]; rfl
  · rw [k]
    cases (4 : Int) == t <;> rfl
  · rw [k]
    cases (2 : Int) == t <;> rfl
/-! The laws' forms. -/
def kPz : List TK := [.r 39 [.num .i64, .num .i64], .p (.num .i64), .p (.num .i64), .p (.num .i64), .p (.num .i64)]
theorem phz_is {xs : List TD} (h : WfT kPz xs) : ∃ L g v m u, xs = [.L L, .d (.n g), .d (.n v), .d (.n m), .d (.n u)] := by
  match xs, h with
  | [.L L, .d (.n g), .d (.n v), .d (.n m), .d (.n u)], _ => exact ⟨L, g, v, m, u, rfl⟩
theorem rows_kPz {xs : List TD} (h : WfT kPz xs) : (in0Rows (tkIn kPz xs)).length = 1 := by
  obtain ⟨L, g, v, m, u, rfl⟩ := phz_is h
  rfl
abbrev ksNv : List CK := [.num .i64, .num .i64, .num .i64, .num .i64, .num .i64, .num .i64, .num .i64, .num .i64]
theorem nv_is {l : List Dat} (h : WfL ksNv l) : ∃ a b c d e f g q, l = [.n a, .n b, .n c, .n d, .n e, .n f, .n g, .n q] := by
  match l, h with
  | [.n a, .n b, .n c, .n d, .n e, .n f, .n g, .n q], _ => exact ⟨a, b, c, d, e, f, g, q, rfl⟩
abbrev ksA6 : List CK := [.num .i64, .num .i64, .num .i64, .num .i64, .num .i64, .num .i64]
theorem a6_is {l : List Dat} (h : WfL ksA6 l) : ∃ a b c d e f, l = [.n a, .n b, .n c, .n d, .n e, .n f] := by
  match l, h with
  | [.n a, .n b, .n c, .n d, .n e, .n f], _ => exact ⟨a, b, c, d, e, f, rfl⟩
theorem verdictTruthLaw (l0 : List Dat) (l1 : List TD) (a2 : Int) (l3 : List Dat) (w0 : WfL ksNv l0) (w1 : WfT kPz l1) (u2 : (Lit.int .i64 a2).wf = true) (w3 : WfL ksA6 l3) : ∃ m', runG ΓVe L0 Try.prog Try.f8 (inArgs [.v (.agg (mkEl ksNv l0).toArray), .ag (tkIn kPz l1), .v (.int .i64 a2), .v (.agg (mkEl ksA6 l3).toArray)] 0) (inMem [.v (.agg (mkEl ksNv l0).toArray), .ag (tkIn kPz l1), .v (.int .i64 a2), .v (.agg (mkEl ksA6 l3).toArray)]) = some (.v (.bool true), m') := by
  obtain ⟨n0, n1, n2, n3, n4, n5, n6, n7, rfl⟩ := nv_is w0
  obtain ⟨L, g, v, m, u, rfl⟩ := phz_is w1
  obtain ⟨c0, c1, c2, c3, c4, c5, rfl⟩ := a6_is w3
  exact ⟨_, verdictTruth n0 n1 n2 n3 n4 n5 n6 n7 g v m u a2 c0 c1 c2 c3 c4 c5 L⟩
theorem verdictEpsLaw (l0 : List Dat) (l1 : List TD) (a2 a3 : Int) (w0 : WfL ksNv l0) (w1 : WfT kPz l1) (u2 : (Lit.int .i64 a2).wf = true) (u3 : (Lit.int .i64 a3).wf = true) : ∃ m', runG ΓVe L0 Try.prog Try.f10 (inArgs [.v (.agg (mkEl ksNv l0).toArray), .ag (tkIn kPz l1), .v (.int .i64 a2), .v (.int .i64 a3)] 0) (inMem [.v (.agg (mkEl ksNv l0).toArray), .ag (tkIn kPz l1), .v (.int .i64 a2), .v (.int .i64 a3)]) = some (.v (.bool true), m') := by
  obtain ⟨n0, n1, n2, n3, n4, n5, n6, n7, rfl⟩ := nv_is w0
  obtain ⟨L, g, v, m, u, rfl⟩ := phz_is w1
  exact ⟨_, verdictEps n0 n1 n2 n3 n4 n5 n6 n7 g v m u a2 a3 L⟩
end Go.Proofs.Ytmfeioinhpdebaa

