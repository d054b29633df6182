/-
  Contracts: fix.Sqrt, Hyp, and the document's root.
-/
import Derived.Test.YtanjomncnbmgkaaYl
namespace Go.Proofs.Ytanjomncnbmgkaa
open Go Go.Proofs Go.Sx

def absI (a : Int) : Int := bif decide (a < 0) then -a else a
theorem call37 (a : Int) (ha : inI a = true) : CallOk Try.prog 37 [.int .i64 a] (.tuple #[.int .i64 (smI (absI a)), .bool (inI (absI a))]) := by
  refine by_run Oko Try.func37 rfl (by kernel_rfl) ?_
  have e : run Γo L0 Try.prog Try.f37 [.int .i64 a] = bif decide (a < 0) then bif inI 0 && inI a then smV (0 - a) else none else some (.tuple #[.int .i64 a, .bool true]) := by kernel_rfl
  rw [e, ha]
  show _ = smV (absI a)
  rw [inI_iff] at ha
  unfold absI
  by_cases h : a < 0
  · simp only [h, decide_true, cond_true, show inI 0 = true by decide, Bool.and_self, Int.zero_sub]
  · simp only [h, decide_false, cond_false]
    exact smV_yes (by omega) rfl
theorem call41 (a : Int) (ha : inI a = true) : CallOk Try.prog 41 [.int .i64 a] (.tuple #[.int .i64 (smI (absI a)), .bool (inI (absI a))]) := by
  refine by_run Oko Try.func41 rfl (by kernel_rfl) ?_
  have e : run Γo L0 Try.prog Try.f41 [.int .i64 a] = bif a == -9223372036854775808 then noV else some (.tuple #[.int .i64 (if IntKind.wrap IntKind.i64 (0 - a) > a then IntKind.wrap IntKind.i64 (0 - a) else a), .bool true]) := by kernel_rfl
  rw [e]
  show _ = smV (absI a)
  rw [inI_iff] at ha
  unfold absI
  by_cases h0 : a = -9223372036854775808
  · subst h0; rfl
  · have hb : (a == -9223372036854775808) = false := by simpa using h0
    rw [hb, wrapS (n := 0 - a) (by omega)]
    simp only [cond_false]
    by_cases h : a < 0
    · simp only [h, decide_true, cond_true]
      refine smV_yes (by omega) ?_
      split <;> omega
    · simp only [h, decide_false, cond_false]
      refine smV_yes (by omega) ?_
      split <;> omega

def rkO (t : Bool) (n : Int) : Bool := t && (decide (0 ≤ n) && decide (rtW n ≤ 9223372036854775807))
theorem rtW_nonneg {n : Int} (h1 : n < 170141183460469231731687303715884105728) : 0 ≤ rtW n := by
  by_cases h : 0 ≤ n
  · exact (rt_spec n h h1).1
  · rw [rtW_neg (by omega)]; omega
theorem call67 (a b : Int) (t : Bool) (h : inW a b = true) : CallOk Try.prog 67 [W a b, .bool t] (.tuple #[.int .i64 (bif rkO t (wv a b) then rtW (wv a b) else 0), .bool (rkO t (wv a b))]) := by
  refine by_run Oko Try.func67 rfl (by kernel_rfl) ?_
  have e : run Γo L0 Try.prog Try.f67 [W a b, .bool t] = bif !t then noV else bif inW a b then bif !decide (0 ≤ wv a b) then noV else bif decide (rtW (wv a b) > 9223372036854775807) then noV else some (.tuple #[.int .i64 (IntKind.i64.wrap (rtW (wv a b))), .bool true]) else none := by kernel_rfl
  rw [e, h]
  cases t
  · rfl
  · have hW := inW_iff.1 h
    have hlt : wv a b < 170141183460469231731687303715884105728 := by unfold wv; omega
    have h0 := rtW_nonneg hlt
    unfold rkO
    by_cases hn : 0 ≤ wv a b
    · by_cases hr : rtW (wv a b) > 9223372036854775807
      · have hr' : ¬ rtW (wv a b) ≤ 9223372036854775807 := by omega
        simp only [hn, hr, hr', decide_true, decide_false, Bool.not_true, cond_true, cond_false, Bool.and_false]; rfl
      · have hr' : rtW (wv a b) ≤ 9223372036854775807 := by omega
        rw [wrapS (n := rtW (wv a b)) (by omega)]
        simp only [hn, hr, hr', decide_true, decide_false, Bool.not_true, cond_true, cond_false, Bool.and_self]
    · simp only [hn, decide_false, Bool.not_true, Bool.not_false, cond_true, cond_false, Bool.false_and, Bool.and_false]; rfl
def tM : FuncId → List Value → Option (Bool × Value)
  | 67, [.agg ⟨[.int .i64 a, .int .u64 b]⟩, .bool t] => some (inW a b, .tuple #[.int .i64 (bif rkO t (wv a b) then rtW (wv a b) else 0), .bool (rkO t (wv a b))])
  | 37, [.int .i64 a] => some (inI a, .tuple #[.int .i64 (smI (absI a)), .bool (inI (absI a))])
  | 41, [.int .i64 a] => some (inI a, .tuple #[.int .i64 (smI (absI a)), .bool (inI (absI a))])
  | 45, [.int .i64 a, .int .i64 b, .int .i64 c, .int .i64 m] => some (inI a && (inI b && inI c), mdV a b c m)
  | 46, [.int .i64 a, .int .i64 b, .int .i64 c, .int .i64 m] => some (inI a && (inI b && inI c), mdV a b c m)
  | _, _ => none
theorem tM_ok (f : FuncId) (vs : List Value) (r : Value) (h : tM f vs = some (true, r)) : CallOk Try.prog f vs r := by
  unfold tM at h
  split at h
  · injection h with h; injection h with h1 h2; subst h2; exact call67 _ _ _ h1
  · injection h with h; injection h with h1 h2; subst h2; exact call37 _ h1
  · injection h with h; injection h with h1 h2; subst h2; exact call41 _ h1
  · injection h with h; injection h with h1 h2; subst h2; simp only [Bool.and_eq_true] at h1; exact call45 _ _ _ _ h1.1 h1.2.1 h1.2.2
  · injection h with h; injection h with h1 h2; subst h2; simp only [Bool.and_eq_true] at h1; exact call46 _ _ _ _ h1.1 h1.2.1 h1.2.2
  · cases h
noncomputable def Γp := add tM Γo
theorem Okp : Γp.Ok Try.prog := add_ok Oko tM_ok

/-- The root that is told. -/
def sqV (t : Bool) (n : Int) : Value := .tuple #[.int .i64 (bif rkO t n then rtW n else 0), .bool (rkO t n)]
theorem call47 (a : Int) (ha : inI a = true) : CallOk Try.prog 47 [.int .i64 a] (sqV true a) := by
  refine by_run Okp Try.func47 rfl (by kernel_rfl) ?_
  have e : run Γp L0 Try.prog Try.f47 [.int .i64 a] = bif inI a then bif inW (hiW a) (loW a) then some (sqV true (wW a)) else none else none := by kernel_rfl
  rw [e, ha, inW_h, wW_ok (okW_I ha)]; rfl
theorem call50 (a b : Int) (ha : inI a = true) (hb : inI b = true) : CallOk Try.prog 50 [.int .i64 a, .int .i64 b] (sqV (okW (a * a + b * b)) (wW (a * a + b * b))) := by
  refine by_run Okp Try.func50 rfl (by kernel_rfl) ?_
  have e : run Γp L0 Try.prog Try.f50 [.int .i64 a, .int .i64 b] = bif inI a && inI a then bif inI b && inI b then bif inW (hiW (a * a)) (loW (a * a)) && inW (hiW (b * b)) (loW (b * b)) then
    bif inW (hiW (wW (a * a) + wW (b * b))) (loW (wW (a * a) + wW (b * b))) then some (sqV (okW (wW (a * a) + wW (b * b))) (wW (wW (a * a) + wW (b * b)))) else none else none else none else none := by kernel_rfl
  rw [e, ha, hb, inW_h, inW_h, inW_h, wW_ok (okW_mul ha ha), wW_ok (okW_mul hb hb)]; rfl

/-! ### The document's root, by halving -/
noncomputable def body48 : Code := loopAt (Try.f48.body.getD .skip) 0
theorem loops48 : loopsOf (Try.f48.body.getD .skip) = [body48] := by kernel_rfl
theorem loops48' : loopsOf body48 = [] := by kernel_rfl
def keep48 := maskOf 25 [4, 3, 1]
def kx48 := maskOf 25 [3]
def S48 (a b lo hi : Int) : St := mk keep48 [.ptr 0 0, .v (.int .i64 lo), .v (.int .i64 hi)] ⟨[[.v (.int .i64 a), .v (.int .u64 b)]], [true], []⟩
def S48x (a b lo : Int) : St := mk kx48 [.v (.int .i64 lo)] ⟨[[.v (.int .i64 a), .v (.int .u64 b)]], [true], []⟩
def K48 (e : Ex) (st : St) : Option (Ex × St) := some (e, cutG kx48 st)
def mid48 (lo hi : Int) : Int := IntKind.i64.wrap (lo + IntKind.i64.wrap (Int.tdiv (IntKind.i64.wrap (hi - lo)) 2))
theorem step48 (a b lo hi : Int) (m : Nat) : evLoop Γp Try.prog L0 (cutG keep48) body48 (m + 1) (S48 a b lo hi) K48 =
    bif decide (IntKind.i64.wrap (hi - lo) > 1) then
      bif inI (mid48 lo hi) && inI (mid48 lo hi) then
        bif inW (pHi (mid48 lo hi * mid48 lo hi)) (pLo (mid48 lo hi * mid48 lo hi)) && inW a b then
          bif decide (cmpI (wv (pHi (mid48 lo hi * mid48 lo hi)) (pLo (mid48 lo hi * mid48 lo hi))) (wv a b) ≤ 0) then evLoop Γp Try.prog L0 (cutG keep48) body48 m (S48 a b (mid48 lo hi) hi) K48
          else evLoop Γp Try.prog L0 (cutG keep48) body48 m (S48 a b lo (mid48 lo hi)) K48
        else none
      else none
    else some (.exit 0, S48x a b lo) := by kernel_rfl
theorem cmpI_le (m n : Int) : decide (cmpI m n ≤ 0) = decide (m ≤ n) := by
  unfold cmpI
  by_cases h1 : m < n
  · simp [h1]; omega
  · by_cases h2 : n < m
    · simp [h1, h2]
    · have : m = n := by omega
      simp [this]
theorem cmpI_gt (m n : Int) : decide (cmpI m n > 0) = decide (n < m) := by
  unfold cmpI
  by_cases h1 : m < n
  · simp [h1]; omega
  · by_cases h2 : n < m <;> simp [h1, h2]
theorem rt_uniq {n r : Int} (hn : n < 170141183460469231731687303715884105728) (h0 : 0 ≤ r) (h1 : r * r ≤ n) (h2 : n < (r + 1) * (r + 1)) : rtW n = r := by
  have hn0 : 0 ≤ n := Int.le_trans (Int.mul_nonneg h0 h0) h1
  obtain ⟨s0, _, s2, s3⟩ := rt_spec n hn0 hn
  rcases Int.lt_trichotomy (rtW n) r with h | h | h
  · have : (rtW n + 1) * (rtW n + 1) ≤ r * r := Int.mul_le_mul (by omega) (by omega) (by omega) h0
    omega
  · exact h
  · have : (r + 1) * (r + 1) ≤ rtW n * rtW n := Int.mul_le_mul (by omega) (by omega) (by omega) s0
    omega
theorem half_loop {α : Type} (N : Int) (hN : N < 21267647932558653966460912964485513216) (g : Bool) (hg : g = true) (E : Nat → Int → Int → Option α) (F : Int → Option α)
    (hE : ∀ m lo hi, E (m + 1) lo hi = bif decide (IntKind.i64.wrap (hi - lo) > 1) then
      bif inI (mid48 lo hi) && inI (mid48 lo hi) then
        bif inW (pHi (mid48 lo hi * mid48 lo hi)) (pLo (mid48 lo hi * mid48 lo hi)) && g then
          bif decide (cmpI (wv (pHi (mid48 lo hi * mid48 lo hi)) (pLo (mid48 lo hi * mid48 lo hi))) N ≤ 0) then E m (mid48 lo hi) hi else E m lo (mid48 lo hi)
        else none
      else none
    else F lo) : ∀ (k : Nat) (lo hi : Int), 0 ≤ lo → lo < hi → hi ≤ 4611686018427387904 → hi - lo ≤ 2 ^ k → (lo = 0 ∨ lo * lo ≤ N) → N < hi * hi → E (k + 1) lo hi = F (rtW N) := by
  have done : ∀ lo hi, hi = lo + 1 → 0 ≤ lo → hi ≤ 4611686018427387904 → (lo = 0 ∨ lo * lo ≤ N) → N < hi * hi → lo = rtW N := by
    intro lo hi h1 h2 h3 h4 h5
    subst h1
    rcases (by omega : N < 0 ∨ 0 ≤ N) with hn | hn
    · rw [rtW_neg hn]
      rcases h4 with h4 | h4
      · exact h4
      · have := Int.mul_nonneg h2 h2; omega
    · symm
      refine rt_uniq (by omega) h2 ?_ h5
      rcases h4 with h4 | h4
      · subst h4; simpa using hn
      · exact h4
  intro k
  induction k with
  | zero =>
    intro lo hi h0 h1 h2 h3 h4 h5
    have he : hi = lo + 1 := by simp at h3; omega
    have hw : IntKind.i64.wrap (hi - lo) = 1 := by rw [wrapS (by omega)]; omega
    rw [hE, hw]
    simp only [show decide ((1 : Int) > 1) = false by decide, cond_false]
    rw [done lo hi he h0 h2 h4 h5]
  | succ k ih =>
    intro lo hi h0 h1 h2 h3 h4 h5
    have hs : (2 : Int) ^ (k + 1) = 2 ^ k * 2 := Int.pow_succ 2 k
    have hw : IntKind.i64.wrap (hi - lo) = hi - lo := wrapS (by omega)
    rw [hE, hw]
    by_cases hc : hi - lo > 1
    · have ht : IntKind.i64.wrap ((hi - lo).tdiv 2) = (hi - lo) / 2 := by
        rw [Int.tdiv_eq_ediv_of_nonneg (by omega), wrapS (by omega)]
      have hm : mid48 lo hi = lo + (hi - lo) / 2 := by
        unfold mid48
        rw [hw, ht, wrapS (by omega)]
      have h6 : lo < mid48 lo hi := by rw [hm]; omega
      have h7 : mid48 lo hi < hi := by rw [hm]; omega
      have h8 : hi - mid48 lo hi ≤ 2 ^ k := by rw [hm]; omega
      have h9 : mid48 lo hi - lo ≤ 2 ^ k := by rw [hm]; omega
      generalize mid48 lo hi = M at *
      have hI : inI M = true := inI_iff.2 (by omega)
      obtain ⟨p1, p2⟩ := p_ok (okW_mul hI hI)
      have pw : wv (pHi (M * M)) (pLo (M * M)) = M * M := by rw [p1, p2]; exact wW_ok (okW_mul hI hI)
      rw [pw, p1, p2, inW_h, hI, hg, cmpI_le]
      simp only [hc, decide_true, cond_true, Bool.and_self]
      by_cases hle : M * M ≤ N
      · simp only [hle, decide_true, cond_true]
        exact ih M hi (by omega) h7 h2 h8 (.inr hle) h5
      · simp only [hle, decide_false, cond_false]
        exact ih lo M h0 h6 (by omega) h9 h4 (by omega)
    · simp only [hc, decide_false, cond_false]
      rw [done lo hi (by omega) h0 h2 h4 h5]
theorem loop48 (a b : Int) (hW : inW a b = true) (hN : wv a b < 21267647932558653966460912964485513216) : evLoop Γp Try.prog L0 (cutG keep48) body48 63 (S48 a b 0 4611686018427387904) K48 = some (.exit 0, S48x a b (rtW (wv a b))) :=
  half_loop (wv a b) hN (inW a b) hW (fun m lo hi => evLoop Γp Try.prog L0 (cutG keep48) body48 m (S48 a b lo hi) K48) (fun lo => some (.exit 0, S48x a b lo)) (fun m lo hi => step48 a b lo hi m) 62 0 4611686018427387904 (by decide) (by decide) (by decide) (by decide) (.inl rfl) (by
    have : (4611686018427387904 : Int) * 4611686018427387904 = 21267647932558653966460912964485513216 := by decide
    rw [this]; exact hN)
def G48 (vals : List SV) (m : Mem) : Option (Bool × Ex × St) :=
  match vals, m with
  | [.ptr 0 0, .v (.int .i64 lo), .v (.int .i64 hi)], ⟨[[.v (.int .i64 a), .v (.int .u64 b)]], [true], []⟩ =>
    some (inW a b && (decide (wv a b < 21267647932558653966460912964485513216) && (lo == 0 && hi == 4611686018427387904)), .exit 0, S48x a b (rtW (wv a b)))
  | _, _ => none
def Λ48 : LoopOrc := fun _ st => viaK keep48 G48 st
theorem loopOk48 (w0 : World) : LoopOk Λ48 Try.prog w0 body48 := by
  refine loop_okK (Λ := L0) (keep := keep48) (kx := fun _ => kx48) Okp mixed (fun b hb => by rw [loops48'] at hb; cases hb) (G := G48) (fun _ => rfl) ?_
  intro vals m e st' h
  unfold G48 at h
  split at h
  · rename_i lo hi a b
    injection h with h
    injection h with h1 h
    injection h with h2 h3
    subst h2 h3
    simp only [Bool.and_eq_true, beq_iff_eq, decide_eq_true_eq] at h1
    obtain ⟨g1, g2, rfl, rfl⟩ := h1
    exact ⟨63, loop48 a b g1 g2⟩
  · cases h
theorem call48 (a b : Int) (hW : inW a b = true) (hN : wv a b < 21267647932558653966460912964485513216) : CallOk Try.prog 48 [W a b] (.int .i64 (rtW (wv a b))) := by
  refine callOk_of_runV Okp mixed names (Λ := Λ48) Try.func48 rfl (fun w b hb => ?_) ?_
  · have hb' : b ∈ loopsOf (Try.f48.body.getD .skip) := hb
    rw [loops48, List.mem_singleton] at hb'
    subst hb'; exact loopOk48 w
  · have e : run Γp Λ48 Try.prog Try.f48 [W a b] = bif inW a b && (decide (wv a b < 21267647932558653966460912964485513216) && ((0 : Int) == 0 && (4611686018427387904 : Int) == 4611686018427387904)) then some (.int .i64 (rtW (wv a b))) else none := by kernel_rfl
    rw [e, hW]
    simp [hN]
end Go.Proofs.Ytanjomncnbmgkaa

