/-
  What is known of all of them; awake.
-/
import Derived.Test.YtanjomncnbmgkaaYn
namespace Go.Proofs.Ytanjomncnbmgkaa
open Go Go.Proofs Go.Sx
def tN : FuncId → List Value → Option (Bool × Value)
  | 47, [.int .i64 a] => some (inI a, sqV true a)
  | 50, [.int .i64 a, .int .i64 b] => some (inI a && inI b, sqV (okW (a * a + b * b)) (wW (a * a + b * b)))
  | 48, [.agg ⟨[.int .i64 a, .int .u64 b]⟩] => some (inW a b && decide (wv a b < 21267647932558653966460912964485513216), .int .i64 (rtW (wv a b)))
  | _, _ => none
theorem tN_ok (f : FuncId) (vs : List Value) (r : Value) (h : tN f vs = some (true, r)) : CallOk Try.prog f vs r := by
  unfold tN at h
  split at h
  · injection h with h; injection h with h1 h2; subst h2; exact call47 _ h1
  · injection h with h; injection h with h1 h2; subst h2; simp only [Bool.and_eq_true] at h1; exact call50 _ _ h1.1 h1.2
  · injection h with h; injection h with h1 h2; subst h2; simp only [Bool.and_eq_true, decide_eq_true_eq] at h1; exact call48 _ _ h1.1 h1.2
  · cases h
def tO : FuncId → List Arg → Option (Bool × Res)
  | 51, [.ints .i64 L] => some (allI L && decide (L.length ≤ 100000), .v (suV L))
  | 52, [.ints .i64 L] => some (allI L && decide (L.length ≤ 100000), .v (suV L))
  | _, _ => none
theorem tO_ok (f : FuncId) (vs : List Arg) (r : Res) (h : tO f vs = some (true, r)) : Go.Sx.CallOk Try.prog f vs r := by
  unfold tO at h
  split at h
  · injection h with h; injection h with h1 h2; subst h2; simp only [Bool.and_eq_true, decide_eq_true_eq] at h1; exact call51 _ h1.1 h1.2
  · injection h with h; injection h with h1 h2; subst h2; simp only [Bool.and_eq_true, decide_eq_true_eq] at h1; exact call52 _ h1.1 h1.2
  · cases h
noncomputable def Γq := addA tO (add tN Γp)
theorem Okq : Γq.Ok Try.prog := addA_ok (add_ok Okp tN_ok) tO_ok
theorem run42 : run Γq L0 Try.prog Try.f42 [] = some (.bool true) := by kernel_rfl
theorem call42 : CallOk Try.prog 42 [] (.bool true) := by_run Okq Try.func42 rfl (by kernel_rfl) run42
def tP : FuncId → List Value → Option (Bool × Value)
  | 42, [] => some (true, .bool true)
  | _, _ => none
theorem tP_ok (f : FuncId) (vs : List Value) (r : Value) (h : tP f vs = some (true, r)) : CallOk Try.prog f vs r := by
  unfold tP at h
  split at h
  · injection h with h; injection h with h1 h2; subst h2; exact call42
  · cases h
noncomputable def Γr := add tP Γq
theorem Okr : Γr.Ok Try.prog := add_ok Okq tP_ok
end Go.Proofs.Ytanjomncnbmgkaa

