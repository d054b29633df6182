/-
  Contracts: fix.Add, Sub, MulDiv and others, and the document's.
-/
import Derived.Test.YtanjomncnbmgkaaYk
namespace Go.Proofs.Ytanjomncnbmgkaa
open Go Go.Proofs Go.Sx

theorem inW_h (n : Int) : inW (hiW n) (loW n) = true := by
  cases h : okW n
  · have : hiW n = 0 ∧ loW n = 0 := by simp [hiW, loW, h]
    rw [this.1, this.2]; decide
  · exact (wv_Wn h).2
theorem wW_ok {n : Int} (h : okW n = true) : wW n = n := (wv_Wn h).1
theorem okW_small {n : Int} (h1 : -170141183460469231731687303715884105728 ≤ n) (h2 : n < 170141183460469231731687303715884105728) : okW n = true := (okW_of h1 h2).1
def noV : Option Value := some (.tuple #[.int .i64 0, .bool false])
def smV (n : Int) : Option Value := some (.tuple #[.int .i64 (smI n), .bool (inI n)])
theorem smV_no {n : Int} (h : n < -9223372036854775808 ∨ 9223372036854775808 ≤ n) : noV = smV n := by
  have : inI n = false := by simp only [inI, decide_eq_false_iff_not]; omega
  unfold smV smI; rw [this]; rfl
theorem smV_yes {n m : Int} (h : -9223372036854775808 ≤ n ∧ n < 9223372036854775808) (hm : m = n) : some (Value.tuple #[.int .i64 m, .bool true]) = smV n := by
  have : inI n = true := inI_iff.2 h
  unfold smV smI; rw [this, hm]; rfl
theorem wrapS {n : Int} (h : -9223372036854775808 ≤ n ∧ n < 9223372036854775808) : IntKind.i64.wrap n = n := by rw [wrapI]; split <;> omega

theorem call34 (a b : Int) (ha : inI a = true) (hb : inI b = true) : CallOk Try.prog 34 [.int .i64 a, .int .i64 b] (.tuple #[.int .i64 (smI (a + b)), .bool (inI (a + b))]) := by
  refine by_run Okn Try.func34 rfl (by kernel_rfl) ?_
  have e : run Γn L0 Try.prog Try.f34 [.int .i64 a, .int .i64 b] = bif inI a then bif inI b then bif inW (hiW a) (loW a) && inW (hiW b) (loW b) then bif inW (hiW (wW a + wW b)) (loW (wW a + wW b)) then
    some (.tuple #[.int .i64 (bif okW (wW a + wW b) then smI (wW (wW a + wW b)) else 0), .bool (okW (wW a + wW b) && inI (wW (wW a + wW b)))]) else none else none else none else none := by kernel_rfl
  rw [e, ha, hb, wW_ok (okW_I ha), wW_ok (okW_I hb), inW_h, inW_h, inW_h]
  rw [inI_iff] at ha hb
  have hk : okW (a + b) = true := okW_small (by omega) (by omega)
  rw [wW_ok hk, hk]; rfl
theorem call35 (a b : Int) (ha : inI a = true) (hb : inI b = true) : CallOk Try.prog 35 [.int .i64 a, .int .i64 b] (.tuple #[.int .i64 (smI (a - b)), .bool (inI (a - b))]) := by
  refine by_run Okn Try.func35 rfl (by kernel_rfl) ?_
  have e : run Γn L0 Try.prog Try.f35 [.int .i64 a, .int .i64 b] = bif inI a then bif inI b then bif inW (hiW a) (loW a) && inW (hiW b) (loW b) then bif inW (hiW (wW a - wW b)) (loW (wW a - wW b)) then
    some (.tuple #[.int .i64 (bif okW (wW a - wW b) then smI (wW (wW a - wW b)) else 0), .bool (okW (wW a - wW b) && inI (wW (wW a - wW b)))]) else none else none else none else none := by kernel_rfl
  rw [e, ha, hb, wW_ok (okW_I ha), wW_ok (okW_I hb), inW_h, inW_h, inW_h]
  rw [inI_iff] at ha hb
  have hk : okW (a - b) = true := okW_small (by omega) (by omega)
  rw [wW_ok hk, hk]; rfl
theorem call38 (a b : Int) (ha : inI a = true) (hb : inI b = true) : CallOk Try.prog 38 [.int .i64 a, .int .i64 b] (.tuple #[.int .i64 (smI (a + b)), .bool (inI (a + b))]) := by
  refine by_run Okn Try.func38 rfl (by kernel_rfl) ?_
  have e : run Γn L0 Try.prog Try.f38 [.int .i64 a, .int .i64 b] =
    bif decide (b > 0) then bif decide (a > IntKind.i64.wrap (9223372036854775807 - b)) then noV
      else bif decide (b < 0) then bif decide (a < IntKind.i64.wrap (-9223372036854775808 - b)) then noV else some (.tuple #[.int .i64 (IntKind.i64.wrap (a + b)), .bool true])
      else some (.tuple #[.int .i64 (IntKind.i64.wrap (a + b)), .bool true])
    else bif decide (b < 0) then bif decide (a < IntKind.i64.wrap (-9223372036854775808 - b)) then noV else some (.tuple #[.int .i64 (IntKind.i64.wrap (a + b)), .bool true])
    else some (.tuple #[.int .i64 (IntKind.i64.wrap (a + b)), .bool true]) := by kernel_rfl
  rw [e]
  rw [inI_iff] at ha hb
  show _ = smV (a + b)
  by_cases h1 : b > 0
  · have h2 : ¬ b < 0 := by omega
    rw [wrapS (n := 9223372036854775807 - b) (by omega)]
    simp only [h1, h2, decide_true, decide_false, cond_true, cond_false]
    by_cases h3 : a > 9223372036854775807 - b
    · simp only [h3, decide_true, cond_true]; exact smV_no (by omega)
    · simp only [h3, decide_false, cond_false]; exact smV_yes (by omega) (wrapS (by omega))
  · simp only [h1, decide_false, cond_false]
    by_cases h2 : b < 0
    · rw [wrapS (n := -9223372036854775808 - b) (by omega)]
      simp only [h2, decide_true, cond_true]
      by_cases h3 : a < -9223372036854775808 - b
      · simp only [h3, decide_true, cond_true]; exact smV_no (by omega)
      · simp only [h3, decide_false, cond_false]; exact smV_yes (by omega) (wrapS (by omega))
    · simp only [h2, decide_false, cond_false]; exact smV_yes (by omega) (wrapS (by omega))
theorem call39 (a b : Int) (ha : inI a = true) (hb : inI b = true) : CallOk Try.prog 39 [.int .i64 a, .int .i64 b] (.tuple #[.int .i64 (smI (a - b)), .bool (inI (a - b))]) := by
  refine by_run Okn Try.func39 rfl (by kernel_rfl) ?_
  have e : run Γn L0 Try.prog Try.f39 [.int .i64 a, .int .i64 b] =
    bif decide (b < 0) then bif decide (a > IntKind.i64.wrap (9223372036854775807 + b)) then noV
      else bif decide (b > 0) then bif decide (a < IntKind.i64.wrap (-9223372036854775808 + b)) then noV else some (.tuple #[.int .i64 (IntKind.i64.wrap (a - b)), .bool true])
      else some (.tuple #[.int .i64 (IntKind.i64.wrap (a - b)), .bool true])
    else bif decide (b > 0) then bif decide (a < IntKind.i64.wrap (-9223372036854775808 + b)) then noV else some (.tuple #[.int .i64 (IntKind.i64.wrap (a - b)), .bool true])
    else some (.tuple #[.int .i64 (IntKind.i64.wrap (a - b)), .bool true]) := by kernel_rfl
  rw [e]
  rw [inI_iff] at ha hb
  show _ = smV (a - b)
  by_cases h1 : b < 0
  · have h2 : ¬ b > 0 := by omega
    rw [wrapS (n := 9223372036854775807 + b) (by omega)]
    simp only [h1, h2, decide_true, decide_false, cond_true, cond_false]
    by_cases h3 : a > 9223372036854775807 + b
    · simp only [h3, decide_true, cond_true]; exact smV_no (by omega)
    · simp only [h3, decide_false, cond_false]; exact smV_yes (by omega) (wrapS (by omega))
  · simp only [h1, decide_false, cond_false]
    by_cases h2 : b > 0
    · rw [wrapS (n := -9223372036854775808 + b) (by omega)]
      simp only [h2, decide_true, cond_true]
      by_cases h3 : a < -9223372036854775808 + b
      · simp only [h3, decide_true, cond_true]; exact smV_no (by omega)
      · simp only [h3, decide_false, cond_false]; exact smV_yes (by omega) (wrapS (by omega))
    · simp only [h2, decide_false, cond_false]; exact smV_yes (by omega) (wrapS (by omega))
def clI (n lo hi : Int) : Int := bif decide (n < lo) then lo else bif decide (n > hi) then hi else n
theorem call43 (a b d : Int) : CallOk Try.prog 43 [.int .i64 a, .int .i64 b, .int .i64 d] (.int .i64 (clI a b d)) := by
  refine by_run Okn Try.func43 rfl (by kernel_rfl) ?_
  have e : run Γn L0 Try.prog Try.f43 [.int .i64 a, .int .i64 b, .int .i64 d] = bif decide (a < b) then some (.int .i64 b) else bif decide (a > d) then some (.int .i64 d) else some (.int .i64 a) := by kernel_rfl
  rw [e]; unfold clI; cases decide (a < b) <;> cases decide (a > d) <;> rfl
theorem call44 (a b d : Int) : CallOk Try.prog 44 [.int .i64 a, .int .i64 b, .int .i64 d] (.int .i64 (clI a b d)) := by
  refine by_run Okn Try.func44 rfl (by kernel_rfl) ?_
  have e : run Γn L0 Try.prog Try.f44 [.int .i64 a, .int .i64 b, .int .i64 d] = bif decide (a < b) then some (.int .i64 b) else bif decide (a > d) then some (.int .i64 d) else some (.int .i64 a) := by kernel_rfl
  rw [e]; unfold clI; cases decide (a < b) <;> cases decide (a > d) <;> rfl
def ru (r c m : Int) (neg : Bool) : Bool := bif m == 1 then decide (r > 0) else bif m == 2 then (bif decide (2 * r > c) then true else bif 2 * r == c then !neg else false) else false
theorem call66 (r c m : Int) (neg : Bool) (hc : inI c = true) (h0 : 0 ≤ r) (h1 : r < c) : CallOk Try.prog 66 [.int .i64 r, .int .i64 c, .int .i64 m, .bool neg] (.bool (ru r c m neg)) := by
  refine by_run Okn Try.func66 rfl (by kernel_rfl) ?_
  have e : run Γn L0 Try.prog Try.f66 [.int .i64 r, .int .i64 c, .int .i64 m, .bool neg] =
    bif m == 1 then some (.bool (decide (r > 0))) else bif m == 2 then bif decide (r > IntKind.i64.wrap (c - r)) then some (.bool true) else bif r == IntKind.i64.wrap (c - r) then some (.bool (!neg)) else some (.bool false) else some (.bool false) := by kernel_rfl
  rw [e]
  rw [inI_iff] at hc
  rw [wrapS (n := c - r) (by omega)]
  have e1 : decide (2 * r > c) = decide (r > c - r) := by apply decide_eq_decide.2; omega
  have e2 : (2 * r == c) = (r == c - r) := by rw [Bool.eq_iff_iff]; simp only [beq_iff_eq]; omega
  unfold ru
  rw [e1, e2]
  cases m == 1 <;> cases m == 2 <;> cases decide (r > c - r) <;> cases (r == c - r) <;> rfl
def tL : FuncId → List Value → Option (Bool × Value)
  | 66, [.int .i64 r, .int .i64 c, .int .i64 m, .bool neg] => some (inI c && (decide (0 ≤ r) && decide (r < c)), .bool (ru r c m neg))
  | 34, [.int .i64 a, .int .i64 b] => some (inI a && inI b, .tuple #[.int .i64 (smI (a + b)), .bool (inI (a + b))])
  | 38, [.int .i64 a, .int .i64 b] => some (inI a && inI b, .tuple #[.int .i64 (smI (a + b)), .bool (inI (a + b))])
  | 35, [.int .i64 a, .int .i64 b] => some (inI a && inI b, .tuple #[.int .i64 (smI (a - b)), .bool (inI (a - b))])
  | 39, [.int .i64 a, .int .i64 b] => some (inI a && inI b, .tuple #[.int .i64 (smI (a - b)), .bool (inI (a - b))])
  | 43, [.int .i64 a, .int .i64 b, .int .i64 d] => some (true, .int .i64 (clI a b d))
  | 44, [.int .i64 a, .int .i64 b, .int .i64 d] => some (true, .int .i64 (clI a b d))
  | _, _ => none
theorem tL_ok (f : FuncId) (vs : List Value) (r : Value) (h : tL f vs = some (true, r)) : CallOk Try.prog f vs r := by
  unfold tL at h
  split at h
  · injection h with h; injection h with h1 h2; subst h2
    simp only [Bool.and_eq_true, decide_eq_true_eq] at h1
    exact call66 _ _ _ _ h1.1 h1.2.1 h1.2.2
  · injection h with h; injection h with h1 h2; subst h2; simp only [Bool.and_eq_true] at h1; exact call34 _ _ h1.1 h1.2
  · injection h with h; injection h with h1 h2; subst h2; simp only [Bool.and_eq_true] at h1; exact call38 _ _ h1.1 h1.2
  · injection h with h; injection h with h1 h2; subst h2; simp only [Bool.and_eq_true] at h1; exact call35 _ _ h1.1 h1.2
  · injection h with h; injection h with h1 h2; subst h2; simp only [Bool.and_eq_true] at h1; exact call39 _ _ h1.1 h1.2
  · injection h with h; injection h with h1 h2; subst h2; exact call43 _ _ _
  · injection h with h; injection h with h1 h2; subst h2; exact call44 _ _ _
  · cases h
noncomputable def Γo := add tL Γn
theorem Oko : Γo.Ok Try.prog := add_ok Okn tL_ok

/-! ### MulDiv -/
def mdN (a b c m : Int) : Int := a * b / c + bif ru (a * b % c) c m (decide (a * b < 0)) then 1 else 0
def mdG (c m : Int) : Bool := decide (0 < c) && (decide (0 ≤ m) && decide (m ≤ 2))
def mdV (a b c m : Int) : Value := .tuple #[.int .i64 (bif mdG c m then smI (mdN a b c m) else 0), .bool (mdG c m && inI (mdN a b c m))]
theorem mdV_no {a b c m : Int} (h : mdG c m = false) : noV = some (mdV a b c m) := by unfold mdV; rw [h]; rfl
theorem mdV_yes {a b c m n : Int} (h : mdG c m = true) (hn : n = mdN a b c m) : smV n = some (mdV a b c m) := by unfold mdV; rw [h, hn]; rfl
def up45 (d : Int) : Option Value :=
  bif inW (hiW d) (loW d) && inW (hiW 1) (loW 1) then
    bif inW (hiW (wW d + wW 1)) (loW (wW d + wW 1)) then some (.tuple #[.int .i64 (bif okW (wW d + wW 1) then smI (wW (wW d + wW 1)) else 0), .bool (okW (wW d + wW 1) && inI (wW (wW d + wW 1)))]) else none
  else none
def st45 (d : Int) : Option Value := bif inW (hiW d) (loW d) then smV (wW d) else none
theorem run45 (a b c m : Int) : run Γo L0 Try.prog Try.f45 [.int .i64 a, .int .i64 b, .int .i64 c, .int .i64 m] =
    bif decide (m < 0) then noV else bif decide (m > 2) then noV else
    bif inI a && inI b then bif inW (hiW (a * b)) (loW (a * b)) && inI c then
      bif !decide (0 < c) then noV else
      bif inW (hiW (a * b)) (loW (a * b)) then
        bif inI c && (decide (0 ≤ dvR (wW (a * b)) c) && decide (dvR (wW (a * b)) c < c)) then
          bif ru (dvR (wW (a * b)) c) c m (decide (cmpI (wW (a * b)) 0 < 0)) then up45 (dvQ (wW (a * b)) c) else st45 (dvQ (wW (a * b)) c)
        else none
      else none
    else none else none := by kernel_rfl
def up46 (h l : Int) : Option Value :=
  bif inW h l && inW (hiW 1) (loW 1) then
    bif !okW (wv h l + wW 1) then noV
    else bif inW (hiW (wv h l + wW 1)) (loW (wv h l + wW 1)) then smV (wW (wv h l + wW 1)) else none
  else none
def st46 (h l : Int) : Option Value := bif inW h l then smV (wv h l) else none
def N46 (a b : Int) : Int := wv (pHi (a * b)) (pLo (a * b))
def d46 (a b c : Int) : Int := dvQ (N46 a b) c
def r46 (a b c : Int) : Int := dvR (N46 a b) c
theorem run46 (a b c m : Int) : run Γo L0 Try.prog Try.f46 [.int .i64 a, .int .i64 b, .int .i64 c, .int .i64 m] =
    bif decide (c ≤ 0) then noV else bif decide (m < 0) then noV else bif decide (m > 2) then noV else
    bif inI a && inI b then bif inW (pHi (a * b)) (pLo (a * b)) && inI c then
      bif m == 1 then
        bif decide (r46 a b c > 0) then up46 (pHi (d46 a b c)) (pLo (d46 a b c)) else st46 (pHi (d46 a b c)) (pLo (d46 a b c))
      else bif m == 2 then
        bif decide (wU (r46 a b c) > wU (wU c - wU (r46 a b c))) then up46 (pHi (d46 a b c)) (pLo (d46 a b c))
        else bif wU (r46 a b c) == wU (wU c - wU (r46 a b c)) then
          bif decide (pHi (a * b) ≥ 0) then up46 (pHi (d46 a b c)) (pLo (d46 a b c)) else st46 (pHi (d46 a b c)) (pLo (d46 a b c))
        else st46 (pHi (d46 a b c)) (pLo (d46 a b c))
      else st46 (pHi (d46 a b c)) (pLo (d46 a b c))
    else none else none := by kernel_rfl

theorem cmp0 (n : Int) : decide (cmpI n 0 < 0) = decide (n < 0) := by
  unfold cmpI
  by_cases h : n < 0
  · simp [h]
  · by_cases h2 : 0 < n <;> simp [h, h2]
theorem wW1 : wW 1 = 1 := by decide
theorem md_facts {a b c : Int} (ha : inI a = true) (hb : inI b = true) (hc : inI c = true) (h0 : 0 < c) :
    okW (a * b) = true ∧ okW (a * b / c) = true ∧ okW (a * b / c + 1) = true ∧ 0 ≤ a * b % c ∧ a * b % c < c := by
  have hk := okW_mul ha hb
  obtain ⟨w1, w2⟩ := wv_Wn hk
  obtain ⟨k1, _⟩ := div30 _ _ c w2 h0 hc
  rw [w1] at k1
  rw [inI_iff] at ha hb
  have hm := mulI_bound ha.1 ha.2 hb.1 hb.2
  have u1 : a * b / c < 85070591730234615865843651857942052865 := (Int.ediv_lt_iff_lt_mul h0).2 (by omega)
  have u2 : -85070591730234615865843651857942052864 ≤ a * b / c := (Int.le_ediv_iff_mul_le h0).2 (by omega)
  exact ⟨hk, k1, okW_small (by omega) (by omega), Int.emod_nonneg _ (by omega), Int.emod_lt_of_pos _ h0⟩
theorem call45 (a b c m : Int) (ha : inI a = true) (hb : inI b = true) (hc : inI c = true) : CallOk Try.prog 45 [.int .i64 a, .int .i64 b, .int .i64 c, .int .i64 m] (mdV a b c m) := by
  refine by_run Oko Try.func45 rfl (by kernel_rfl) ?_
  rw [run45]
  by_cases h1 : m < 0
  · simp only [h1, decide_true, cond_true]
    exact mdV_no (by unfold mdG; have : ¬ 0 ≤ m := by omega
                     simp [this])
  by_cases h2 : m > 2
  · simp only [h1, h2, decide_true, decide_false, cond_true, cond_false]
    exact mdV_no (by unfold mdG; have : ¬ m ≤ 2 := by omega
                     simp [this])
  rw [ha, hb, hc, inW_h]
  by_cases h0 : 0 < c
  · obtain ⟨f1, f2, f3, f4, f5⟩ := md_facts ha hb hc h0
    have g : mdG c m = true := by unfold mdG; simp [h0]; omega
    have eq : dvQ (a * b) c = a * b / c := by unfold dvQ; simp [h0]
    have er : dvR (a * b) c = a * b % c := by unfold dvR; simp [h0]
    rw [wW_ok f1, eq, er, cmp0]
    unfold up45 st45
    rw [wW_ok f2, inW_h, wW1, inW_h, inW_h, f3, wW_ok f3]
    simp only [h0, h1, h2, f4, f5, decide_true, decide_false, Bool.and_self, Bool.not_true, cond_true, cond_false, Bool.true_and]
    have e : mdN a b c m = a * b / c + bif ru (a * b % c) c m (decide (a * b < 0)) then 1 else 0 := rfl
    cases hr : ru (a * b % c) c m (decide (a * b < 0))
    · rw [hr] at e
      exact mdV_yes g (by rw [e]; simp)
    · rw [hr] at e
      exact mdV_yes g (by rw [e]; rfl)
  · simp only [h0, h1, h2, decide_false, Bool.and_self, Bool.not_false, cond_true, cond_false]
    exact mdV_no (by unfold mdG; simp [h0])
theorem call46 (a b c m : Int) (ha : inI a = true) (hb : inI b = true) (hc : inI c = true) : CallOk Try.prog 46 [.int .i64 a, .int .i64 b, .int .i64 c, .int .i64 m] (mdV a b c m) := by
  refine by_run Oko Try.func46 rfl (by kernel_rfl) ?_
  rw [run46]
  by_cases h0 : 0 < c
  · have h0' : ¬ c ≤ 0 := by omega
    by_cases h1 : m < 0
    · simp only [h0', h1, decide_true, decide_false, cond_true, cond_false]
      exact mdV_no (by unfold mdG; have : ¬ 0 ≤ m := by omega
                       simp [this])
    by_cases h2 : m > 2
    · simp only [h0', h1, h2, decide_true, decide_false, cond_true, cond_false]
      exact mdV_no (by unfold mdG; have : ¬ m ≤ 2 := by omega
                       simp [this])
    obtain ⟨f1, f2, f3, f4, f5⟩ := md_facts ha hb hc h0
    have g : mdG c m = true := by unfold mdG; simp [h0]; omega
    have eq : dvQ (a * b) c = a * b / c := by unfold dvQ; simp [h0]
    have er : dvR (a * b) c = a * b % c := by unfold dvR; simp [h0]
    obtain ⟨p1, p2⟩ := p_ok f1
    obtain ⟨p3, p4⟩ := p_ok f2
    have eN : N46 a b = a * b := by unfold N46; rw [p1, p2]; exact wW_ok f1
    have ed : d46 a b c = a * b / c := by unfold d46; rw [eN, eq]
    have er' : r46 a b c = a * b % c := by unfold r46; rw [eN, er]
    have eup : up46 (pHi (d46 a b c)) (pLo (d46 a b c)) = smV (a * b / c + 1) := by
      unfold up46
      rw [ed, p3, p4, inW_h, wW1, inW_h]
      show (bif true && true then bif !okW (wW (a * b / c) + 1) then noV else bif inW (hiW (wW (a * b / c) + 1)) (loW (wW (a * b / c) + 1)) then smV (wW (wW (a * b / c) + 1)) else none else none) = _
      rw [wW_ok f2, f3, inW_h, wW_ok f3]; rfl
    have est : st46 (pHi (d46 a b c)) (pLo (d46 a b c)) = smV (a * b / c) := by
      unfold st46
      rw [ed, p3, p4, inW_h]
      show smV (wW (a * b / c)) = _
      rw [wW_ok f2]
    have hc' := inI_iff.1 hc
    have w1 : wU (r46 a b c) = a * b % c := by unfold wU; rw [er', wrapU]; omega
    have w2 : wU (wU c - wU (r46 a b c)) = c - a * b % c := by
      rw [w1]; unfold wU; rw [wrapU, wrapU]; omega
    have hneg : decide (pHi (a * b) ≥ 0) = !decide (a * b < 0) := by
      rw [p1]
      have q1 := f1
      simp only [okW, decide_eq_true_eq] at q1
      obtain ⟨_, q2, _⟩ := okW_of q1.1 q1.2
      rw [q2, ← decide_not]
      apply decide_eq_decide.2; omega
    rw [ha, hb, hc, p1, p2, inW_h, ← p1, eup, est, w2, w1, er', hneg]
    simp only [h0', h1, h2, decide_false, Bool.and_self, cond_true, cond_false]
    have e : mdN a b c m = a * b / c + bif ru (a * b % c) c m (decide (a * b < 0)) then 1 else 0 := rfl
    unfold ru at e
    have e1 : decide (2 * (a * b % c) > c) = decide (a * b % c > c - a * b % c) := by apply decide_eq_decide.2; omega
    have e2 : (2 * (a * b % c) == c) = (a * b % c == c - a * b % c) := by rw [Bool.eq_iff_iff]; simp only [beq_iff_eq]; omega
    rw [e1, e2] at e
    revert e
    cases m == 1 <;> cases m == 2 <;> cases decide (a * b % c > 0) <;> cases decide (a * b % c > c - a * b % c) <;> cases (a * b % c == c - a * b % c) <;> cases decide (a * b < 0) <;> intro e <;> exact mdV_yes g (by rw [e]; simp)
  · have h0' : c ≤ 0 := by omega
    simp only [h0', decide_true, cond_true]
    exact mdV_no (by unfold mdG; simp [h0])
end Go.Proofs.Ytanjomncnbmgkaa

