/-
  What is known of this program: externs, equality of structs, names.
-/
import Derived.Test.YtanjomncnbmgkaaSx
import Derived.Shelf.Spec.BitsCarry
import Derived.Test.YtanjomncnbmgkaaProg
namespace Go.Proofs.Ytanjomncnbmgkaa
open Go Go.Proofs Go.Sx

def addS (x y c : Int) : Int := (x + y + c) % 18446744073709551616
def addC (x y c : Int) : Int := (x + y + c) / 18446744073709551616
def subS (x y c : Int) : Int := (x - y - c) % 18446744073709551616
def subC (x y c : Int) : Int := bif decide (x < y + c) then 1 else 0

def ext : FuncId → List Value → Option (Bool × Value)
  | 53, [.int .u64 x, .int .u64 y, .int .u64 c] => some (decide (0 ≤ x ∧ 0 ≤ y ∧ 0 ≤ c ∧ c ≤ 1), .tuple #[.int .u64 (addS x y c), .int .u64 (addC x y c)])
  | 55, [.int .u64 x, .int .u64 y, .int .u64 c] => some (decide (0 ≤ x ∧ 0 ≤ y ∧ y < 18446744073709551616 ∧ 0 ≤ c ∧ c ≤ 1), .tuple #[.int .u64 (subS x y c), .int .u64 (subC x y c)])
  | _, _ => none

theorem mixed : Try.prog.follows .mixedOrders = true := by kernel_rfl
theorem names : namesOk Try.prog = true := by kernel_rfl

theorem ext_ok (f : FuncId) (vs : List Value) (r : Value) (h : ext f vs = some (true, r)) : CallOk Try.prog f vs r := by
  intro w
  unfold ext at h
  split at h
  · rename_i x y c
    injection h with h
    injection h with h1 h2
    subst h2
    have hc : 0 ≤ x ∧ 0 ≤ y ∧ 0 ≤ c ∧ c ≤ 1 := by simpa using h1
    left
    rw [run_callFunc_extern Try.func53 (by kernel_rfl) (by kernel_rfl) (by kernel_rfl) (e := add64Entry) (by kernel_rfl)]
    rw [show (List.toArray [Value.int .u64 x, .int .u64 y, .int .u64 c]) = #[Value.int .u64 x, .int .u64 y, .int .u64 c] from rfl, run_add64 x y c hc.1 hc.2.1 hc.2.2.1 hc.2.2.2]
    rfl
  · rename_i x y c
    injection h with h
    injection h with h1 h2
    subst h2
    have hc : 0 ≤ x ∧ 0 ≤ y ∧ y < 18446744073709551616 ∧ 0 ≤ c ∧ c ≤ 1 := by simpa using h1
    obtain ⟨n, rfl⟩ := Int.eq_ofNat_of_zero_le hc.1
    obtain ⟨m, rfl⟩ := Int.eq_ofNat_of_zero_le hc.2.1
    obtain ⟨q, rfl⟩ := Int.eq_ofNat_of_zero_le hc.2.2.2.1
    left
    rw [run_callFunc_extern Try.func55 (by kernel_rfl) (by kernel_rfl) (by kernel_rfl) (e := sub64Entry) (by kernel_rfl)]
    rw [show (List.toArray [Value.int .u64 (n : Int), .int .u64 (m : Int), .int .u64 (q : Int)]) = #[Value.int .u64 (n : Int), .int .u64 (m : Int), .int .u64 (q : Int)] from rfl, run_sub64 n m q (by omega)]
    have e1 : (((n + 18446744073709551616 - m - q) % 18446744073709551616 : Nat) : Int) = subS n m q := by unfold subS; omega
    have e2 : ((if n < m + q then 1 else 0 : Nat) : Int) = subC n m q := by
      unfold subC
      by_cases hh : n < m + q
      · have : ((n : Int) < m + q) := by omega
        simp [hh, this]
      · have : ¬ ((n : Int) < m + q) := by omega
        simp [hh, this]
    rw [e1, e2]
    rfl
  · cases h

def eqs : List TypeId := [24, 30]
theorem eqs_ok : eqs.all (eqTypeOk Try.prog) = true := by kernel_rfl

noncomputable def X (n d : Nat) : Orc := exec Try.prog ext (eqvOf Try.prog eqs) n d
theorem X_ok (n d : Nat) : (X n d).Ok Try.prog := exec_ok mixed names ⟨ext_ok, eqvOf_ok eqs_ok⟩ n d

end Go.Proofs.Ytanjomncnbmgkaa

namespace Go.Proofs.Ytanjomncnbmgkaa
open Go Go.Proofs Go.Sx
abbrev W (a b : Int) : Value := .agg #[.int .i64 a, .int .u64 b]
def inI (n : Int) : Bool := decide (-9223372036854775808 ≤ n ∧ n < 9223372036854775808)
def inU (n : Int) : Bool := decide (0 ≤ n ∧ n < 18446744073709551616)
def inW (a b : Int) : Bool := inI a && inU b
def wv (a b : Int) : Int := a * 18446744073709551616 + b
def okW (n : Int) : Bool := decide (-170141183460469231731687303715884105728 ≤ n ∧ n < 170141183460469231731687303715884105728)
def hiW (n : Int) : Int := bif okW n then n / 18446744073709551616 else 0
def loW (n : Int) : Int := bif okW n then n % 18446744073709551616 else 0
abbrev Wn (n : Int) : Value := W (hiW n) (loW n)
def cmpI (m n : Int) : Int := bif decide (m < n) then -1 else bif decide (n < m) then 1 else 0
def smI (n : Int) : Int := bif inI n then n else 0
def add (t : FuncId → List Value → Option (Bool × Value)) (Γ : Orc) : Orc :=
  ⟨fun f vs => match t f vs with | some r => some r | none => Γ.call f vs, Γ.eqv, Γ.conc⟩
def t1 : FuncId → List Value → Option (Bool × Value)
  | 31, [.int .i64 n] => some (inI n, Wn n)
  | 54, [.agg ⟨[.int .i64 a, .int .u64 _]⟩] => some (true, .bool (decide (a < 0)))
  | 68, [.int .i64 _] => some (true, .bool false)
  | 69, [.int .u64 _] => some (true, .bool false)
  | 60, [.int .u64 x, .int .u64 y] => some (inU x && inU y, .tuple #[.int .u64 (x * y / 18446744073709551616), .int .u64 (x * y % 18446744073709551616)])
  | _, _ => none
def t2 : FuncId → List Value → Option (Bool × Value)
  | 58, [.int .i64 a, .int .i64 b] => some (true, .int .i64 (cmpI a b))
  | 59, [.int .u64 a, .int .u64 b] => some (true, .int .i64 (cmpI a b))
  | 15, [.agg ⟨[.int .i64 a, .int .u64 b]⟩, .agg ⟨[.int .i64 c, .int .u64 d]⟩] => some (inW a b && inW c d, .tuple #[Wn (wv a b + wv c d), .bool (okW (wv a b + wv c d))])
  | 16, [.agg ⟨[.int .i64 a, .int .u64 b]⟩, .agg ⟨[.int .i64 c, .int .u64 d]⟩] => some (inW a b && inW c d, .tuple #[Wn (wv a b - wv c d), .bool (okW (wv a b - wv c d))])
  | 18, [.agg ⟨[.int .i64 a, .int .u64 b]⟩] => some (inW a b, .tuple #[.int .i64 (smI (wv a b)), .bool (inI (wv a b))])
  | 28, [.int .i64 a, .int .i64 b] => some (inI a && inI b, Wn (a * b))
  | _, _ => none
def t3 : FuncId → List Value → Option (Bool × Value)
  | 25, [.agg ⟨[.int .i64 a, .int .u64 b]⟩, .agg ⟨[.int .i64 c, .int .u64 d]⟩] => some (inW a b && inW c d, .int .i64 (cmpI (wv a b) (wv c d)))
  | 17, [.agg ⟨[.int .i64 a, .int .u64 b]⟩] => some (inW a b, .tuple #[Wn (- wv a b), .bool (okW (- wv a b))])
  | _, _ => none
def t4 : FuncId → List Value → Option (Bool × Value)
  | 27, [.agg ⟨[.int .i64 a, .int .u64 b]⟩] => some (inW a b, .int .i64 (cmpI (wv a b) 0))
  | 24, [] => some (true, .bool true)
  | _, _ => none
noncomputable def Γ0 : Orc := ⟨ext, eqvOf Try.prog eqs, false⟩
noncomputable def Γ1 := add t1 Γ0
noncomputable def Γ2 := add t2 Γ1
noncomputable def Γ3 := add t3 Γ2
noncomputable def Γ4 := add t4 Γ3
def L0 : LoopOrc := fun _ _ => none
end Go.Proofs.Ytanjomncnbmgkaa

