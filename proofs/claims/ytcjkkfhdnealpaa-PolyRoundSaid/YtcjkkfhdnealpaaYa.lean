/-
  What is known of this program: the atomics, names; contracts of wide, of point, of box over values, and of the document's.
-/
import Derived.Test.YtcjkkfhdnealpaaSx
import Derived.Test.YtcjkkfhdnealpaaProg
import Derived.Lib.Strings
import Derived.Lib.Walk
import Derived.Lib.BufferWrite
import Derived.Lib.UnsafeStr
import Derived.Laws.MakeOwn
import Derived.WalkKit
import Derived.Test.YtcjkkfhdnealpaaSw
namespace Go.Proofs.Ytcjkkfhdnealpaa
open Go Go.Proofs Go.Sx Go.RowKit
theorem mixed : Try.prog.follows .mixedOrders = true := by kernel_rfl
theorem names : namesOk Try.prog = true := by kernel_rfl
def noC : FuncId → List SV → Mem → Option (Bool × SV × Mem) := fun _ _ _ => none
def noR : FuncId → List SV → Mem → Option (Bool × Value) := fun _ _ _ => none
def M0 : Mem := ⟨[], [], []⟩
def I (x : Int) : Value := .int .i64 x
def Bo (b : Bool) : Value := .bool b
def rLoad64 : FuncId → List SV → Mem → Option (Bool × Value) := noR
theorem rLoad64_ok : ∀ f xs m r, rLoad64 f xs m = some (true, r) → CallOk Try.prog f xs m (.v r) m := fun _ _ _ _ h => by cases h
def cCas64 : FuncId → List SV → Mem → Option (Bool × SV × Mem) := noC
theorem cCas64_ok : ∀ f xs m r m', cCas64 f xs m = some (true, r, m') → CallOk Try.prog f xs m r m' := fun _ _ _ _ _ h => by cases h
def vClone : FuncId → List Value → Option (Bool × Value) := fun _ _ => none
theorem vClone_ok : TabOk Try.prog vClone := fun _ _ _ h => by cases h
/-- Structs that are compared. -/
def good : List TypeId :=
  24 ::
  28 ::
  48 ::
  71 ::
  77 ::
  []
/-- Calls that others wait for, in a region that draws its order. -/
def makers (f : FuncId) : Bool :=
  Nat.beq f 101 ||
  false
theorem goodOk : good.all (eqTypeOk Try.prog) = true := by kernel_rfl
noncomputable def ΓA : Orc := addR (tabV vClone) { call := cCas64, eqv := eqvOf Try.prog good, rd := rLoad64, unr := 8, wr := makers }
theorem OkA : ΓA.Ok Try.prog := addR_tab ⟨cCas64_ok, rLoad64_ok, fun t xs ys r h w op x y hop => eqvOf_ok goodOk t xs ys r h w op x y hop⟩ vClone_ok
theorem runOk {Γ : Orc} {Λ : LoopOrc} (hΓ : Γ.Ok Try.prog) {f : FuncId} {fn : Func} {c : Code} (hf : Try.prog.funcs[f]? = some fn) (hb : fn.body = some c) {xs : List SV} {m m' : Mem} {r : SV}
    (hL : ∀ z, z.L.length = m.blk.length → z.U.length = m.rows.length → ∀ b ∈ loopsOf c, LoopOk Λ Try.prog z b) (h : runG Γ Λ Try.prog fn xs m = some (r, m')) : CallOk Try.prog f xs m r m' := callOk_of_run hΓ mixed names hf hb hL h
/-- A call of values alone, by its run. -/
theorem runV {Γ : Orc} {Λ : LoopOrc} (hΓ : Γ.Ok Try.prog) {f : FuncId} {fn : Func} {c : Code} (hf : Try.prog.funcs[f]? = some fn) (hb : fn.body = some c) {vs : List Value} {r : Value} {m' : Mem}
    (hL : ∀ z : Base, z.L.length = 0 → z.U.length = 0 → ∀ b ∈ loopsOf c, LoopOk Λ Try.prog z b) (h : runG Γ Λ Try.prog fn (vs.map .v) M0 = some (.v r, m')) : ∀ m, CallOk Try.prog f (vs.map .v) m (.v r) m := valOk hΓ mixed names hf hb hL h
end Go.Proofs.Ytcjkkfhdnealpaa

namespace Go.Proofs.Ytcjkkfhdnealpaa
open Go Go.Proofs Go.Sx
/-! Counters: a block of two numbers, the most and the value. -/
noncomputable def ΓC : Orc := ΓA
theorem OkC : ΓC.Ok Try.prog := OkA
end Go.Proofs.Ytcjkkfhdnealpaa

namespace Go.Proofs.Ytcjkkfhdnealpaa
open Go Go.Proofs Go.Sx
set_option linter.unusedVariables false
/-! Numbers of 128 bits: the program's calls. -/
/-! norm -/
abbrev UU (x : Int) : Value := .int .u64 x
theorem vEq {a b : Value} (h : a = b) : (some (SV.v a, M0) : Option (SV × Mem)) = some (.v b, M0) := by rw [h]
theorem l0Ok' (c : Code) (z : Base) : ∀ b ∈ loopsOf c, LoopOk L0 Try.prog z b := fun b _ st t h => by cases h

def gAdd64 (vs : List Value) : Option (Bool × Value) :=
  match vs with
  | [.int .u64 x, .int .u64 y, .int .u64 c] => some (decide (0 ≤ x ∧ 0 ≤ y ∧ 0 ≤ c ∧ c ≤ 1), .tuple #[UU (addS3 x y c), UU (addC3 x y c)])
  | _ => none
theorem gAdd64_ok : ∀ vs r, gAdd64 vs = some (true, r) → ∀ m, CallOk Try.prog 91 (vs.map .v) m (.v r) m := by
  intro vs r h
  unfold gAdd64 at h
  split at h
  · rename_i x y c
    obtain ⟨h1, rfl⟩ := some_t h
    refine callV Try.prog fun w => .inl ?_
    have hc : 0 ≤ x ∧ 0 ≤ y ∧ 0 ≤ c ∧ c ≤ 1 := by simpa using h1
    rw [run_callFunc_extern Try.func91 (by kernel_rfl) (by kernel_rfl) (by kernel_rfl) (e := add64Entry) (by kernel_rfl)]
    rw [show (List.toArray [Value.int .u64 x, .int .u64 y, .int .u64 c]) = #[Value.int .u64 x, .int .u64 y, .int .u64 c] from rfl, run_add64 x y c hc.1 hc.2.1 hc.2.2.1 hc.2.2.2]
    rfl
  · cases h
noncomputable def ΓW1 : Orc := addVal 91 gAdd64 ΓC
theorem OkW1 : ΓW1.Ok Try.prog := addVal_ok OkC gAdd64_ok
def gSub64 (vs : List Value) : Option (Bool × Value) :=
  match vs with
  | [.int .u64 x, .int .u64 y, .int .u64 c] => some (decide (0 ≤ x ∧ 0 ≤ y ∧ y < 18446744073709551616 ∧ 0 ≤ c ∧ c ≤ 1), .tuple #[UU (subS3 x y c), UU (subC3 x y c)])
  | _ => none
theorem gSub64_ok : ∀ vs r, gSub64 vs = some (true, r) → ∀ m, CallOk Try.prog 94 (vs.map .v) m (.v r) m := by
  intro vs r h
  unfold gSub64 at h
  split at h
  · rename_i x y c
    obtain ⟨h1, rfl⟩ := some_t h
    refine callV Try.prog fun w => .inl ?_
    have hc : 0 ≤ x ∧ 0 ≤ y ∧ y < 18446744073709551616 ∧ 0 ≤ c ∧ c ≤ 1 := by simpa using h1
    obtain ⟨n, rfl⟩ := Int.eq_ofNat_of_zero_le hc.1
    obtain ⟨m, rfl⟩ := Int.eq_ofNat_of_zero_le hc.2.1
    obtain ⟨q, rfl⟩ := Int.eq_ofNat_of_zero_le hc.2.2.2.1
    rw [run_callFunc_extern Try.func94 (by kernel_rfl) (by kernel_rfl) (by kernel_rfl) (e := sub64Entry) (by kernel_rfl)]
    rw [show (List.toArray [Value.int .u64 (n : Int), .int .u64 (m : Int), .int .u64 (q : Int)]) = #[Value.int .u64 (n : Int), .int .u64 (m : Int), .int .u64 (q : Int)] from rfl, run_sub64 n m q (by omega)]
    have e1 : (((n + 18446744073709551616 - m - q) % 18446744073709551616 : Nat) : Int) = subS3 n m q := by unfold subS3; omega
    have e2 : ((if n < m + q then 1 else 0 : Nat) : Int) = subC3 n m q := by
      unfold subC3
      by_cases hh : n < m + q
      · have : ((n : Int) < m + q) := by omega
        simp [hh, this]
      · have : ¬ ((n : Int) < m + q) := by omega
        simp [hh, this]
    rw [e1, e2]
    rfl
  · cases h
noncomputable def ΓW2 : Orc := addVal 94 gSub64 ΓW1
theorem OkW2 : ΓW2.Ok Try.prog := addVal_ok OkW1 gSub64_ok
set_option maxRecDepth 20000 in
theorem runWNeg (a b : Int) : runG ΓW2 L0 Try.prog Try.f92 [.v (Wd a b)] M0 = some (.v (Bo (decide (a < 0))), M0) := by kernel_rfl
def gWNeg (vs : List Value) : Option (Bool × Value) :=
  match vs with
  | [.agg ⟨[.int .i64 a, .int .u64 b]⟩] => some (true, Bo (decide (a < 0)))
  | _ => none
theorem gWNeg_ok : ∀ vs r, gWNeg vs = some (true, r) → ∀ m, CallOk Try.prog 92 (vs.map .v) m (.v r) m := by
  intro vs r h
  unfold gWNeg at h
  split at h
  · rename_i a b
    obtain ⟨h1, rfl⟩ := some_t h
    refine runV (vs := [Wd a b]) (Λ := L0) (m' := M0) OkW2 Try.func92 rfl (fun z _ _ => l0Ok' _ z) ?_
    exact (runWNeg a b).trans (rfl)
  · cases h
noncomputable def ΓW3 : Orc := addVal 92 gWNeg ΓW2
theorem OkW3 : ΓW3.Ok Try.prog := addVal_ok OkW2 gWNeg_ok
set_option maxRecDepth 20000 in
theorem runNaN1 (a : Int) : runG ΓW3 L0 Try.prog Try.f104 [.v (I a)] M0 = some (.v (Bo (a != a)), M0) := by kernel_rfl
def gNaN1 (vs : List Value) : Option (Bool × Value) :=
  match vs with
  | [.int .i64 a] => some (true, Bo false)
  | _ => none
theorem gNaN1_ok : ∀ vs r, gNaN1 vs = some (true, r) → ∀ m, CallOk Try.prog 104 (vs.map .v) m (.v r) m := by
  intro vs r h
  unfold gNaN1 at h
  split at h
  · rename_i a
    obtain ⟨h1, rfl⟩ := some_t h
    refine runV (vs := [I a]) (Λ := L0) (m' := M0) OkW3 Try.func104 rfl (fun z _ _ => l0Ok' _ z) ?_
    exact (runNaN1 a).trans (by simp)
  · cases h
noncomputable def ΓW4 : Orc := addVal 104 gNaN1 ΓW3
theorem OkW4 : ΓW4.Ok Try.prog := addVal_ok OkW3 gNaN1_ok
set_option maxRecDepth 20000 in
theorem runNaN2 (a : Int) : runG ΓW4 L0 Try.prog Try.f105 [.v (UU a)] M0 = some (.v (Bo (a != a)), M0) := by kernel_rfl
def gNaN2 (vs : List Value) : Option (Bool × Value) :=
  match vs with
  | [.int .u64 a] => some (true, Bo false)
  | _ => none
theorem gNaN2_ok : ∀ vs r, gNaN2 vs = some (true, r) → ∀ m, CallOk Try.prog 105 (vs.map .v) m (.v r) m := by
  intro vs r h
  unfold gNaN2 at h
  split at h
  · rename_i a
    obtain ⟨h1, rfl⟩ := some_t h
    refine runV (vs := [UU a]) (Λ := L0) (m' := M0) OkW4 Try.func105 rfl (fun z _ _ => l0Ok' _ z) ?_
    exact (runNaN2 a).trans (by simp)
  · cases h
noncomputable def ΓW5 : Orc := addVal 105 gNaN2 ΓW4
theorem OkW5 : ΓW5.Ok Try.prog := addVal_ok OkW4 gNaN2_ok
set_option maxRecDepth 20000 in
theorem runMul64 (x y : Int) : runG ΓW5 L0 Try.prog Try.f93 [.v (UU x), .v (UU y)] M0 = 
      (let U := IntKind.u64.wrap; let A := fun z : Int => U ((BitVec.ofInt 64 z &&& BitVec.ofInt 64 4294967295).toNat : Int); let S := fun z : Int => z.fdiv (2 ^ 32); let w0 := U (A x * A y); let t := U (U (S x * A y) + S w0); let w1 := U (A t + U (A x * S y)); some (.v (.tuple #[UU (U (U (U (S x * S y) + S t) + S w1)), UU (U (x * y))]), M0)) := by kernel_rfl
def gMul64 (vs : List Value) : Option (Bool × Value) :=
  match vs with
  | [.int .u64 x, .int .u64 y] => some (inU x && inU y, .tuple #[UU (x * y / 18446744073709551616), UU (x * y % 18446744073709551616)])
  | _ => none
theorem gMul64_ok : ∀ vs r, gMul64 vs = some (true, r) → ∀ m, CallOk Try.prog 93 (vs.map .v) m (.v r) m := by
  intro vs r h
  unfold gMul64 at h
  split at h
  · rename_i x y
    obtain ⟨h1, rfl⟩ := some_t h
    refine runV (vs := [UU x, UU y]) (Λ := L0) (m' := M0) OkW5 Try.func93 rfl (fun z _ _ => l0Ok' _ z) ?_
    exact (runMul64 x y).trans (by
      rw [Bool.and_eq_true] at h1
      obtain ⟨e1, e2⟩ := mul64_halves x y h1.1 h1.2
      exact vEq (by show Value.tuple #[UU _, UU _] = _; rw [e1, e2]))
  · cases h
noncomputable def ΓW6 : Orc := addVal 93 gMul64 ΓW5
theorem OkW6 : ΓW6.Ok Try.prog := addVal_ok OkW5 gMul64_ok
noncomputable def ΓW7 : Orc := ΓW6
theorem OkW7 : ΓW7.Ok Try.prog := OkW6
set_option maxRecDepth 20000 in
theorem runCmpr1 (x y : Int) : runG ΓW7 L0 Try.prog Try.f99 [.v (I x), .v (I y)] M0 = bif decide (x < y) then some (.v (I (-1)), M0) else (bif decide (x > y) then some (.v (I 1), M0) else some (.v (I 0), M0)) := by kernel_rfl
def gCmpr1 (vs : List Value) : Option (Bool × Value) :=
  match vs with
  | [.int .i64 x, .int .i64 y] => some (true, I (cmpI x y))
  | _ => none
theorem gCmpr1_ok : ∀ vs r, gCmpr1 vs = some (true, r) → ∀ m, CallOk Try.prog 99 (vs.map .v) m (.v r) m := by
  intro vs r h
  unfold gCmpr1 at h
  split at h
  · rename_i x y
    obtain ⟨h1, rfl⟩ := some_t h
    refine runV (vs := [I x, I y]) (Λ := L0) (m' := M0) OkW7 Try.func99 rfl (fun z _ _ => l0Ok' _ z) ?_
    exact (runCmpr1 x y).trans (by
      unfold cmpI
      cases decide (x < y)
      · show _ = some (SV.v (I (bif decide (x > y) then 1 else 0)), M0)
        cases decide (x > y) <;> rfl
      · rfl)
  · cases h
noncomputable def ΓW8 : Orc := addVal 99 gCmpr1 ΓW7
theorem OkW8 : ΓW8.Ok Try.prog := addVal_ok OkW7 gCmpr1_ok
set_option maxRecDepth 20000 in
theorem runCmpr2 (x y : Int) : runG ΓW8 L0 Try.prog Try.f100 [.v (UU x), .v (UU y)] M0 = bif decide (x < y) then some (.v (I (-1)), M0) else (bif decide (x > y) then some (.v (I 1), M0) else some (.v (I 0), M0)) := by kernel_rfl
def gCmpr2 (vs : List Value) : Option (Bool × Value) :=
  match vs with
  | [.int .u64 x, .int .u64 y] => some (true, I (cmpI x y))
  | _ => none
theorem gCmpr2_ok : ∀ vs r, gCmpr2 vs = some (true, r) → ∀ m, CallOk Try.prog 100 (vs.map .v) m (.v r) m := by
  intro vs r h
  unfold gCmpr2 at h
  split at h
  · rename_i x y
    obtain ⟨h1, rfl⟩ := some_t h
    refine runV (vs := [UU x, UU y]) (Λ := L0) (m' := M0) OkW8 Try.func100 rfl (fun z _ _ => l0Ok' _ z) ?_
    exact (runCmpr2 x y).trans (by
      unfold cmpI
      cases decide (x < y)
      · show _ = some (SV.v (I (bif decide (x > y) then 1 else 0)), M0)
        cases decide (x > y) <;> rfl
      · rfl)
  · cases h
noncomputable def ΓW9 : Orc := addVal 100 gCmpr2 ΓW8
theorem OkW9 : ΓW9.Ok Try.prog := addVal_ok OkW8 gCmpr2_ok
set_option maxRecDepth 20000 in
theorem runWOf (n : Int) : runG ΓW9 L0 Try.prog Try.f66 [.v (I n)] M0 = some (.v (Wd (n.fdiv (2 ^ 63)) (IntKind.u64.wrap n)), M0) := by kernel_rfl
def gWOf (vs : List Value) : Option (Bool × Value) :=
  match vs with
  | [.int .i64 n] => some (inI n, Wn n)
  | _ => none
theorem gWOf_ok : ∀ vs r, gWOf vs = some (true, r) → ∀ m, CallOk Try.prog 66 (vs.map .v) m (.v r) m := by
  intro vs r h
  unfold gWOf at h
  split at h
  · rename_i n
    obtain ⟨h1, rfl⟩ := some_t h
    refine runV (vs := [I n]) (Λ := L0) (m' := M0) OkW9 Try.func66 rfl (fun z _ _ => l0Ok' _ z) ?_
    exact (runWOf n).trans (by
      rw [inI_iff] at h1
      obtain ⟨_, h2, h3⟩ := okW_of (n := n) (by omega) (by omega)
      refine vEq (wd_eq ?_ ?_)
      · rw [h2, Int.fdiv_eq_ediv_of_nonneg _ (by decide), show (2 : Int) ^ 63 = 9223372036854775808 from by decide]
        omega
      · rw [h3, wrU])
  · cases h
noncomputable def ΓW10 : Orc := addVal 66 gWOf ΓW9
theorem OkW10 : ΓW10.Ok Try.prog := addVal_ok OkW9 gWOf_ok
set_option maxRecDepth 20000 in
theorem runWAdd (a b c d : Int) : runG ΓW10 L0 Try.prog Try.f67 [.v (Wd a b), .v (Wd c d)] M0 = 
    (bif decide ((0 : Int) ≤ b ∧ (0 : Int) ≤ d ∧ (0 : Int) ≤ (0 : Int) ∧ (0 : Int) ≤ (1 : Int)) then (bif decide ((0 : Int) ≤ IntKind.u64.wrap a ∧ (0 : Int) ≤ IntKind.u64.wrap c ∧ (0 : Int) ≤ addC3 b d (0 : Int) ∧ addC3 b d (0 : Int) ≤ (1 : Int)) then (bif decide (a < (0 : Int)) == decide (c < (0 : Int)) then (bif !decide (wI (addS3 (IntKind.u64.wrap a) (IntKind.u64.wrap c) (addC3 b d (0 : Int))) < (0 : Int)) == decide (a < (0 : Int)) then some (.v (.tuple #[(.agg #[(I 0), (.int .u64 0)]), (Bo false)]), M0) else some (.v (.tuple #[(.agg #[(I (wI (addS3 (IntKind.u64.wrap a) (IntKind.u64.wrap c) (addC3 b d (0 : Int))))), (.int .u64 (addS3 b d (0 : Int)))]), (Bo true)]), M0)) else some (.v (.tuple #[(.agg #[(I (wI (addS3 (IntKind.u64.wrap a) (IntKind.u64.wrap c) (addC3 b d (0 : Int))))), (.int .u64 (addS3 b d (0 : Int)))]), (Bo true)]), M0)) else none) else none) := by kernel_rfl
def gWAdd (vs : List Value) : Option (Bool × Value) :=
  match vs with
  | [.agg ⟨[.int .i64 a, .int .u64 b]⟩, .agg ⟨[.int .i64 c, .int .u64 d]⟩] => some (inW a b && inW c d, .tuple #[Wn (wv a b + wv c d), Bo (okW (wv a b + wv c d))])
  | _ => none
theorem gWAdd_ok : ∀ vs r, gWAdd vs = some (true, r) → ∀ m, CallOk Try.prog 67 (vs.map .v) m (.v r) m := by
  intro vs r h
  unfold gWAdd at h
  split at h
  · rename_i a b c d
    obtain ⟨h1, rfl⟩ := some_t h
    refine runV (vs := [Wd a b, Wd c d]) (Λ := L0) (m' := M0) OkW10 Try.func67 rfl (fun z _ _ => l0Ok' _ z) ?_
    exact (runWAdd a b c d).trans (by
      rw [Bool.and_eq_true] at h1
      obtain ⟨⟨k0, k1⟩, k2, k3⟩ := addW a b c d h1.1 h1.2
      have i1 := inW_iff.1 h1.1
      have i2 := inW_iff.1 h1.2
      have u1 := inU_iff.1 (inU_wrap a)
      have u2 := inU_iff.1 (inU_wrap c)
      rw [decide_eq_true (show (0 : Int) ≤ b ∧ (0 : Int) ≤ d ∧ (0 : Int) ≤ 0 ∧ (0 : Int) ≤ 1 by omega), decide_eq_true (show (0 : Int) ≤ IntKind.u64.wrap a ∧ (0 : Int) ≤ IntKind.u64.wrap c ∧ (0 : Int) ≤ addC3 b d 0 ∧ addC3 b d 0 ≤ (1 : Int) by omega)]
      simp only [cond_true]
      cases ho : okW (wv a b + wv c d) with
      | true =>
        obtain ⟨e1, e2⟩ := k3 ho
        rw [ho, Bool.not_true] at k2
        cases hs : decide (a < 0) == decide (c < 0) with
        | false => exact vEq (wdB e1 e2 rfl)
        | true =>
          rw [hs, Bool.true_and] at k2
          have k2' : (!decide (wI (addS3 (IntKind.u64.wrap a) (IntKind.u64.wrap c) (addC3 b d 0)) < 0) == decide (a < 0)) = false := k2
          rw [k2']
          exact vEq (wdB e1 e2 rfl)
      | false =>
        rw [ho, Bool.not_false, Bool.and_eq_true] at k2
        have k2' : (!decide (wI (addS3 (IntKind.u64.wrap a) (IntKind.u64.wrap c) (addC3 b d 0)) < 0) == decide (a < 0)) = true := k2.2
        rw [k2.1, k2']
        obtain ⟨_, e1, e2⟩ := okW_not (n := wv a b + wv c d) (by have := of_decide_eq_false ho; omega)
        exact vEq (wdB e1.symm e2.symm rfl))
  · cases h
noncomputable def ΓW11 : Orc := addVal 67 gWAdd ΓW10
theorem OkW11 : ΓW11.Ok Try.prog := addVal_ok OkW10 gWAdd_ok
set_option maxRecDepth 20000 in
theorem runWInt (a b : Int) : runG ΓW11 L0 Try.prog Try.f103 [.v (Wd a b)] M0 = 
    (bif inI (wI b) then (bif !(hiW (wI b) == a && (loW (wI b) == b && true)) then some (.v (.tuple #[(I 0), (Bo false)]), M0) else some (.v (.tuple #[(I (wI b)), (Bo true)]), M0)) else none) := by kernel_rfl
def gWInt (vs : List Value) : Option (Bool × Value) :=
  match vs with
  | [.agg ⟨[.int .i64 a, .int .u64 b]⟩] => some (inW a b, .tuple #[I (smI (wv a b)), Bo (inI (wv a b))])
  | _ => none
theorem gWInt_ok : ∀ vs r, gWInt vs = some (true, r) → ∀ m, CallOk Try.prog 103 (vs.map .v) m (.v r) m := by
  intro vs r h
  unfold gWInt at h
  split at h
  · rename_i a b
    obtain ⟨h1, rfl⟩ := some_t h
    refine runV (vs := [Wd a b]) (Λ := L0) (m' := M0) OkW11 Try.func103 rfl (fun z _ _ => l0Ok' _ z) ?_
    exact (runWInt a b).trans (by
      obtain ⟨k1, k2, k3⟩ := intW a b h1
      have k2' : (hiW (wI b) == a && (loW (wI b) == b && true)) = inI (wv a b) := k2
      rw [show inI (wI b) = true from k1, k2']
      cases hq : inI (wv a b) with
      | true => exact vEq (inB ((k3 hq).trans (by simp [smI, hq])) rfl)
      | false => exact vEq (inB (by simp [smI, hq]) rfl))
  · cases h
noncomputable def ΓW12 : Orc := addVal 103 gWInt ΓW11
theorem OkW12 : ΓW12.Ok Try.prog := addVal_ok OkW11 gWInt_ok
set_option maxRecDepth 20000 in
theorem runWCmp (a b c d : Int) : runG ΓW12 L0 Try.prog Try.f80 [.v (Wd a b), .v (Wd c d)] M0 = 
    (bif cmpI a c != (0 : Int) then some (.v (I (cmpI a c)), M0) else some (.v (I (cmpI b d)), M0)) := by kernel_rfl
def gWCmp (vs : List Value) : Option (Bool × Value) :=
  match vs with
  | [.agg ⟨[.int .i64 a, .int .u64 b]⟩, .agg ⟨[.int .i64 c, .int .u64 d]⟩] => some (inW a b && inW c d, I (cmpI (wv a b) (wv c d)))
  | _ => none
theorem gWCmp_ok : ∀ vs r, gWCmp vs = some (true, r) → ∀ m, CallOk Try.prog 80 (vs.map .v) m (.v r) m := by
  intro vs r h
  unfold gWCmp at h
  split at h
  · rename_i a b c d
    obtain ⟨h1, rfl⟩ := some_t h
    refine runV (vs := [Wd a b, Wd c d]) (Λ := L0) (m' := M0) OkW12 Try.func80 rfl (fun z _ _ => l0Ok' _ z) ?_
    exact (runWCmp a b c d).trans (by
      rw [Bool.and_eq_true] at h1
      rw [← cmpW h1.1 h1.2]
      cases cmpI a c != 0 <;> rfl)
  · cases h
noncomputable def ΓW13 : Orc := addVal 80 gWCmp ΓW12
theorem OkW13 : ΓW13.Ok Try.prog := addVal_ok OkW12 gWCmp_ok
set_option maxRecDepth 20000 in
theorem runWMul (a b : Int) : runG ΓW13 L0 Try.prog Try.f68 [.v (I a), .v (I b)] M0 = 
    (bif inU (IntKind.u64.wrap a) && inU (IntKind.u64.wrap b) then (bif decide (a < (0 : Int)) then (bif decide (b < (0 : Int)) then some (.v (.agg #[(I (wI (IntKind.u64.wrap (IntKind.u64.wrap (IntKind.u64.wrap a * IntKind.u64.wrap b / (18446744073709551616 : Int) - IntKind.u64.wrap b) - IntKind.u64.wrap a)))), (.int .u64 (IntKind.u64.wrap a * IntKind.u64.wrap b % (18446744073709551616 : Int)))]), M0) else some (.v (.agg #[(I (wI (IntKind.u64.wrap (IntKind.u64.wrap a * IntKind.u64.wrap b / (18446744073709551616 : Int) - IntKind.u64.wrap b)))), (.int .u64 (IntKind.u64.wrap a * IntKind.u64.wrap b % (18446744073709551616 : Int)))]), M0)) else (bif decide (b < (0 : Int)) then some (.v (.agg #[(I (wI (IntKind.u64.wrap (IntKind.u64.wrap a * IntKind.u64.wrap b / (18446744073709551616 : Int) - IntKind.u64.wrap a)))), (.int .u64 (IntKind.u64.wrap a * IntKind.u64.wrap b % (18446744073709551616 : Int)))]), M0) else some (.v (.agg #[(I (wI (IntKind.u64.wrap a * IntKind.u64.wrap b / (18446744073709551616 : Int)))), (.int .u64 (IntKind.u64.wrap a * IntKind.u64.wrap b % (18446744073709551616 : Int)))]), M0))) else none) := by kernel_rfl
def gWMul (vs : List Value) : Option (Bool × Value) :=
  match vs with
  | [.int .i64 a, .int .i64 b] => some (inI a && inI b, Wn (a * b))
  | _ => none
theorem gWMul_ok : ∀ vs r, gWMul vs = some (true, r) → ∀ m, CallOk Try.prog 68 (vs.map .v) m (.v r) m := by
  intro vs r h
  unfold gWMul at h
  split at h
  · rename_i a b
    obtain ⟨h1, rfl⟩ := some_t h
    refine runV (vs := [I a, I b]) (Λ := L0) (m' := M0) OkW13 Try.func68 rfl (fun z _ _ => l0Ok' _ z) ?_
    exact (runWMul a b).trans (by
      rw [inU_wrap, inU_wrap]
      rw [Bool.and_eq_true] at h1
      have k := mulW a b h1.1 h1.2
      refine Eq.trans ?_ (vEq k)
      cases decide (a < 0) <;> cases decide (b < 0) <;> rfl)
  · cases h
noncomputable def ΓW14 : Orc := addVal 68 gWMul ΓW13
theorem OkW14 : ΓW14.Ok Try.prog := addVal_ok OkW13 gWMul_ok
set_option maxRecDepth 20000 in
theorem runFNumber (a b : Int) (o : Bool) : runG ΓW14 L0 Try.prog Try.f98 [.v (Wd a b), .v (Bo o)] M0 = 
    (bif !o then some (.v (.tuple #[(I 0), (Bo false)]), M0) else (bif inW a b then some (.v (.tuple #[(I (smI (wv a b))), (Bo (inI (wv a b)))]), M0) else none)) := by kernel_rfl
def gFNumber (vs : List Value) : Option (Bool × Value) :=
  match vs with
  | [.agg ⟨[.int .i64 a, .int .u64 b]⟩, .bool o] => some (inW a b, .tuple #[I (bif o then smI (wv a b) else 0), Bo (o && inI (wv a b))])
  | _ => none
theorem gFNumber_ok : ∀ vs r, gFNumber vs = some (true, r) → ∀ m, CallOk Try.prog 98 (vs.map .v) m (.v r) m := by
  intro vs r h
  unfold gFNumber at h
  split at h
  · rename_i a b o
    obtain ⟨h1, rfl⟩ := some_t h
    refine runV (vs := [Wd a b, Bo o]) (Λ := L0) (m' := M0) OkW14 Try.func98 rfl (fun z _ _ => l0Ok' _ z) ?_
    exact (runFNumber a b o).trans (by
      cases o with
      | false => rfl
      | true => rw [h1]; rfl)
  · cases h
noncomputable def ΓW15 : Orc := addVal 98 gFNumber ΓW14
theorem OkW15 : ΓW15.Ok Try.prog := addVal_ok OkW14 gFNumber_ok
set_option maxRecDepth 20000 in
theorem runFAdd (a b : Int) : runG ΓW15 L0 Try.prog Try.f77 [.v (I a), .v (I b)] M0 = 
    (bif inI a then (bif inI b then (bif inW (hiW a) (loW a) && inW (hiW b) (loW b) then (bif inW (hiW (wv (hiW a) (loW a) + wv (hiW b) (loW b))) (loW (wv (hiW a) (loW a) + wv (hiW b) (loW b))) then some (.v (.tuple #[(I (bif okW (wv (hiW a) (loW a) + wv (hiW b) (loW b)) then smI (wv (hiW (wv (hiW a) (loW a) + wv (hiW b) (loW b))) (loW (wv (hiW a) (loW a) + wv (hiW b) (loW b)))) else (0 : Int))), (Bo (okW (wv (hiW a) (loW a) + wv (hiW b) (loW b)) && inI (wv (hiW (wv (hiW a) (loW a) + wv (hiW b) (loW b))) (loW (wv (hiW a) (loW a) + wv (hiW b) (loW b))))))]), M0) else none) else none) else none) else none) := by kernel_rfl
def gFAdd (vs : List Value) : Option (Bool × Value) :=
  match vs with
  | [.int .i64 a, .int .i64 b] => some (inI a && inI b, .tuple #[I (smI (a + b)), Bo (inI (a + b))])
  | _ => none
theorem gFAdd_ok : ∀ vs r, gFAdd vs = some (true, r) → ∀ m, CallOk Try.prog 77 (vs.map .v) m (.v r) m := by
  intro vs r h
  unfold gFAdd at h
  split at h
  · rename_i a b
    obtain ⟨h1, rfl⟩ := some_t h
    refine runV (vs := [I a, I b]) (Λ := L0) (m' := M0) OkW15 Try.func77 rfl (fun z _ _ => l0Ok' _ z) ?_
    exact (runFAdd a b).trans (by
      rw [Bool.and_eq_true] at h1
      have i1 := inI_iff.1 h1.1
      have i2 := inI_iff.1 h1.2
      obtain ⟨o, _, _⟩ := okW_of (n := a + b) (by omega) (by omega)
      obtain ⟨e1, e2⟩ := wv_Wn (okW_I h1.1)
      obtain ⟨e3, e4⟩ := wv_Wn (okW_I h1.2)
      obtain ⟨e5, e6⟩ := wv_Wn o
      rw [h1.1, h1.2, e1, e2, e3, e4, o, e5, e6]
      rfl)
  · cases h
noncomputable def ΓW16 : Orc := addVal 77 gFAdd ΓW15
theorem OkW16 : ΓW16.Ok Try.prog := addVal_ok OkW15 gFAdd_ok
noncomputable def ΓWd : Orc := ΓW16
theorem OkWd : ΓWd.Ok Try.prog := OkW16
end Go.Proofs.Ytcjkkfhdnealpaa

namespace Go.Proofs.Ytcjkkfhdnealpaa
open Go Go.Proofs Go.Sx
set_option linter.unusedVariables false
/-! norm -/
/-! Numbers of 128 bits: the document's, digit by digit. -/
def MB (a b : Int) (R : List (List Dat)) : Mem := ⟨[[.v (I a), .v (UU b)]], [true], [.live ⟨3, [.num .i64], R, true, false⟩]⟩
def MRow (R : List (List Dat)) : Mem := ⟨[], [], [.live ⟨3, [.num .i64], R, true, false⟩]⟩
noncomputable def bdBits : Code := Try.f101.body.getD .skip
noncomputable def bdBits0 : Code := loopAt bdBits 0
noncomputable def bdBits1 : Code := loopAt bdBits 1
theorem loopsBits : loopsOf bdBits = [bdBits0, bdBits1] := by kernel_rfl
theorem loopsBits0 : loopsOf bdBits0 = [] := by kernel_rfl
theorem loopsBits1 : loopsOf bdBits1 = [] := by kernel_rfl
theorem tagBits0 : tagOf bdBits0 = 3 := by kernel_rfl
theorem tagBits1 : tagOf bdBits1 = 7 := by kernel_rfl
def kBits0 : List Bool := maskOf 34 [1, 3, 4]
def xBits0 : List Bool := maskOf 34 [1, 3]
def kBits1 : List Bool := maskOf 34 [1, 3, 5]
def xBits1 : List Bool := maskOf 34 [3]
def KBits0 (e : Ex) (st : St) : Option (Ex × St) := some (e, cutC 0 0 xBits0 st)
def KBits1 (e : Ex) (st : St) : Option (Ex × St) := some (e, cutC 0 0 xBits1 st)
def HBits0 (a b i : Int) (R : List (List Dat)) : St := mk kBits0 [.ptr 0 0, .row 0, .v (I i)] (MB a b R)
def HBits1 (a b i : Int) (R : List (List Dat)) : St := mk kBits1 [.ptr 0 0, .row 0, .v (I i)] (MB a b R)
theorem stepBits0 (a b i : Int) (R : List (List Dat)) (k : Nat) : evLoop ΓWd Try.prog L0 (cutC 0 0 kBits0) bdBits0 (k + 1) (HBits0 a b i R) KBits0 =
    bif decide (i < 64) then (bif decide (i < 0) then none else bif roomA R.length then evLoop ΓWd Try.prog L0 (cutC 0 0 kBits0) bdBits0 k (HBits0 a b (IntKind.i64.wrap (i + 1)) (R ++ [[.n (bx b i)]])) KBits0 else none) else some (.exit 0, mk xBits0 [.ptr 0 0, .row 0] (MB a b R)) := by kernel_rfl
theorem stepBits1 (a b i : Int) (R : List (List Dat)) (k : Nat) : evLoop ΓWd Try.prog L0 (cutC 0 0 kBits1) bdBits1 (k + 1) (HBits1 a b i R) KBits1 =
    bif decide (i < 64) then (bif decide (i < 0) then none else bif roomA R.length then evLoop ΓWd Try.prog L0 (cutC 0 0 kBits1) bdBits1 k (HBits1 a b (IntKind.i64.wrap (i + 1)) (R ++ [[.n (bx (IntKind.u64.wrap a) i)]])) KBits1 else none) else some (.exit 2, mk xBits1 [.row 0] (MRow R)) := by kernel_rfl
noncomputable def GBits0 (vals : List SV) (m : Mem) : Option (Bool × Ex × St) :=
  match vals, m with
  | [.ptr 0 0, .row 0, .v (.int .i64 z)], ⟨[[.v (.int .i64 a), .v (.int .u64 b)]], [true], [.live ⟨3, [.num .i64], [], true, false⟩]⟩ => some (inU b && (z == 0), .exit 0, mk xBits0 [.ptr 0 0, .row 0] (MB a b (rowN (bl b 64))))
  | _, _ => none
noncomputable def GBits1 (vals : List SV) (m : Mem) : Option (Bool × Ex × St) :=
  match vals, m with
  | [.ptr 0 0, .row 0, .v (.int .i64 z)], ⟨[[.v (.int .i64 a), .v (.int .u64 b)]], [true], [.live ⟨3, [.num .i64], R, true, false⟩]⟩ => some (inU b && (z == 0 && isT (R = rowN (bl b 64))), .exit 2, mk xBits1 [.row 0] (MRow (rowN (bl (wu a b) 128))))
  | _, _ => none
noncomputable def ΛBits : LoopOrc := fun body st => match tagOf body with
  | 3 => viaC 0 0 kBits0 GBits0 st
  | 7 => viaC 0 0 kBits1 GBits1 st
  | _ => none
theorem loopOkBits0 (z : Base) (z1 : z.L.length = 0) (z2 : z.U.length = 0) : LoopOk ΛBits Try.prog z bdBits0 := by
  refine loop_okC (Λ := L0) (kx := fun _ => xBits0) OkWd mixed z1 z2 (fun b hb => by rw [loopsBits0] at hb; cases hb) (keep := kBits0) (G := GBits0) (fun st => by unfold ΛBits; rw [tagBits0]; rfl) ?_
  intro vals m e st' h
  unfold GBits0 at h
  split at h
  · rename_i z a b
    obtain ⟨h1, rfl, rfl⟩ := some_t2 h
    simp only [Bool.and_eq_true, beq_iff_eq] at h1
    obtain ⟨h1, rfl⟩ := h1
    rw [inU_iff] at h1
    refine ⟨65, ?_⟩
    exact bitsLoop b h1.1 h1.2 (fun k i R => evLoop ΓWd Try.prog L0 (cutC 0 0 kBits0) bdBits0 k (HBits0 a b i R) KBits0) (fun R => some (.exit 0, mk xBits0 [.ptr 0 0, .row 0] (MB a b R))) (fun k i R => stepBits0 a b i R k) [] (by simp) 64 0 rfl
  · cases h
theorem loopOkBits1 (z : Base) (z1 : z.L.length = 0) (z2 : z.U.length = 0) : LoopOk ΛBits Try.prog z bdBits1 := by
  refine loop_okC (Λ := L0) (kx := fun _ => xBits1) OkWd mixed z1 z2 (fun b hb => by rw [loopsBits1] at hb; cases hb) (keep := kBits1) (G := GBits1) (fun st => by unfold ΛBits; rw [tagBits1]; rfl) ?_
  intro vals m e st' h
  unfold GBits1 at h
  split at h
  · rename_i z a b R
    obtain ⟨h1, rfl, rfl⟩ := some_t2 h
    simp only [Bool.and_eq_true, beq_iff_eq, isT_iff] at h1
    obtain ⟨h1, rfl, rfl⟩ := h1
    rw [inU_iff] at h1
    have hu := inU_iff.1 (inU_wrap a)
    refine ⟨65, ?_⟩
    have := bitsLoop (IntKind.u64.wrap a) hu.1 hu.2 (fun k i R => evLoop ΓWd Try.prog L0 (cutC 0 0 kBits1) bdBits1 k (HBits1 a b i R) KBits1) (fun R => some (.exit 2, mk xBits1 [.row 0] (MRow R))) (fun k i R => stepBits1 a b i R k) (bl b 64) (by rw [bl_length]; omega) 64 0 rfl
    rw [show bl (IntKind.u64.wrap a) 0 = [] from rfl, List.append_nil, bl_join _ _ h1.1 h1.2] at this
    exact this
  · cases h
theorem runBits (a b : Int) : runG ΓWd ΛBits Try.prog Try.f101 [.v (Wd a b)] M0 = 
    bif inU b && ((0 : Int) == 0) then (bif inU b && ((0 : Int) == 0 && isT (rowN (bl b 64) = rowN (bl b 64))) then some (.row 0, MRow (rowN (bl (wu a b) 128))) else none) else none := by kernel_rfl
noncomputable def gBits (xs : List SV) (m : Mem) : Option (Bool × SV × Mem) :=
  match xs, m with
  | [.v (.agg ⟨[.int .i64 a, .int .u64 b]⟩)], ⟨[], [], []⟩ => some (inU b, .row 0, MRow (rowN (bl (wu a b) 128)))
  | _, _ => none
theorem gBits_ok : ∀ xs m r m', gBits xs m = some (true, r, m') → CallOk Try.prog 101 xs m r m' := by
  intro xs m r m' h
  unfold gBits at h
  split at h
  · rename_i a b
    obtain ⟨h1, rfl, rfl⟩ := some_t2 h
    refine runOk (Λ := ΛBits) OkWd Try.func101 rfl (fun z z1 z2 c hc => ?_) ?_
    · have hc' : c ∈ loopsOf bdBits := hc
      rw [loopsBits] at hc'
      rcases List.mem_cons.1 hc' with rfl | hc'
      · exact loopOkBits0 z z1 z2
      · rw [List.mem_singleton] at hc'
        subst hc'; exact loopOkBits1 z z1 z2
    · exact (runBits a b).trans (by rw [h1, beq_self_eq_true, isT_of (show rowN (bl b 64) = rowN (bl b 64) from rfl)]; rfl)
  · cases h
noncomputable def ΓR1 : Orc := addCl 101 gBits ΓWd
theorem OkR1 : ΓR1.Ok Try.prog := addCl_ok OkWd gBits_ok
def MV (lo : Int) (e : TypeId) (R : List (List Dat)) (own mark : Bool) : Mem := ⟨[[.v (I 0), .v (UU 0)], [.v (I 0), .v (UU lo)]], [true, true], [.live ⟨e, [.num .i64], R, own, mark⟩]⟩
noncomputable def bdVal : Code := loopAt (Try.f102.body.getD .skip) 0
theorem loopsVal : loopsOf (Try.f102.body.getD .skip) = [bdVal] := by kernel_rfl
theorem loopsVal0 : loopsOf bdVal = [] := by kernel_rfl
def kVal : List Bool := maskOf 36 [0, 2, 3, 4, 5]
def xVal : List Bool := maskOf 36 [2, 3, 4]
def KVal (e : Ex) (st : St) : Option (Ex × St) := some (e, cutC 0 1 xVal st)
def HVal (t : TypeId) (R : List (List Dat)) (own mark : Bool) (lo hi i : Int) : St := mk kVal [.row 0, .ptr 0 0, .ptr 1 0, .v (UU hi), .v (I i)] (MV lo t R own mark)
def XVal (t : TypeId) (R : List (List Dat)) (own mark : Bool) (lo hi : Int) : St := mk xVal [.ptr 0 0, .ptr 1 0, .v (UU hi)] (MV lo t R own mark)
theorem stepVal (t : TypeId) (R : List (List Dat)) (own mark : Bool) (lo hi i : Int) (k : Nat) : evLoop ΓR1 Try.prog L0 (cutC 0 1 kVal) bdVal (k + 1) (HVal t R own mark lo hi i) KVal =
    bif decide (i < 64) then (bif inL R i then (bif oneAt R i then (bif decide (i < 0) then none else bif inL R (IntKind.i64.wrap (64 + i)) then (bif oneAt R (IntKind.i64.wrap (64 + i)) then (bif decide (i < 0) then none else evLoop ΓR1 Try.prog L0 (cutC 0 1 kVal) bdVal k (HVal t R own mark (orV lo i) (orV hi i) (IntKind.i64.wrap (i + 1))) KVal) else evLoop ΓR1 Try.prog L0 (cutC 0 1 kVal) bdVal k (HVal t R own mark (orV lo i) hi (IntKind.i64.wrap (i + 1))) KVal) else none)
      else (bif inL R (IntKind.i64.wrap (64 + i)) then (bif oneAt R (IntKind.i64.wrap (64 + i)) then (bif decide (i < 0) then none else evLoop ΓR1 Try.prog L0 (cutC 0 1 kVal) bdVal k (HVal t R own mark lo (orV hi i) (IntKind.i64.wrap (i + 1))) KVal) else evLoop ΓR1 Try.prog L0 (cutC 0 1 kVal) bdVal k (HVal t R own mark lo hi (IntKind.i64.wrap (i + 1))) KVal) else none)) else none) else some (.exit 0, XVal t R own mark lo hi) := by kernel_rfl
def unN (R : List (List Dat)) : List Int := numsOf R
noncomputable def GVal (vals : List SV) (m : Mem) : Option (Bool × Ex × St) :=
  match vals, m with
  | [.row 0, .ptr 0 0, .ptr 1 0, .v (.int .u64 hi), .v (.int .i64 i)], ⟨[[.v (.int .i64 0), .v (.int .u64 0)], [.v (.int .i64 0), .v (.int .u64 lo)]], [true, true], [.live ⟨t, [.num .i64], R, own, mark⟩]⟩ =>
    some (isT (R.length = 128 ∧ R = rowN (unN R)) && (hi == 0 && (lo == 0 && (i == 0))), .exit 0, XVal t R own mark (loL (unN R) 64) (hiL (unN R) 64))
  | _, _ => none
noncomputable def ΛVal : LoopOrc := fun _ st => viaC 0 1 kVal GVal st
theorem loopOkVal (z : Base) (z1 : z.L.length = 0) (z2 : z.U.length = 1) : LoopOk ΛVal Try.prog z bdVal := by
  refine loop_okC (Λ := L0) (kx := fun _ => xVal) OkR1 mixed z1 z2 (fun b hb => by rw [loopsVal0] at hb; cases hb) (G := GVal) (fun _ => rfl) ?_
  intro vals m e st' h
  unfold GVal at h
  split at h
  · rename_i hi i lo t R own mark
    obtain ⟨h1, rfl, rfl⟩ := some_t2 h
    simp only [Bool.and_eq_true, beq_iff_eq, isT_iff] at h1
    obtain ⟨⟨h1, h2⟩, rfl, rfl, rfl⟩ := h1
    refine ⟨65, ?_⟩
    have hl : (unN R).length = 128 := by unfold unN numsOf; rw [List.length_map]; exact h1
    have := valueLoop (unN R) hl (fun k lo hi i => evLoop ΓR1 Try.prog L0 (cutC 0 1 kVal) bdVal k (HVal t (rowN (unN R)) own mark lo hi i) KVal) (fun lo hi => some (.exit 0, XVal t (rowN (unN R)) own mark lo hi)) (fun k lo hi i => stepVal t (rowN (unN R)) own mark lo hi i k) 64 0 rfl
    rw [← h2] at this
    exact this
  · cases h
theorem runVal (t : TypeId) (R : List (List Dat)) (own mark : Bool) : runG ΓR1 ΛVal Try.prog Try.f102 [.row 0] ⟨[], [], [.live ⟨t, [.num .i64], R, own, mark⟩]⟩ = 
    bif isT (R.length = 128 ∧ R = rowN (unN R)) && ((0 : Int) == 0 && ((0 : Int) == 0 && ((0 : Int) == 0))) then some (.v (Wd (IntKind.i64.wrap (hiL (unN R) 64)) (loL (unN R) 64)), ⟨[], [], [.live ⟨t, [.num .i64], R, own, mark⟩]⟩) else none := by kernel_rfl
noncomputable def gVal (xs : List SV) (m : Mem) : Option (Bool × Value) :=
  match xs, m with
  | [.row 0], ⟨[], [], [.live ⟨t, [.num .i64], R, own, mark⟩]⟩ => some (isT (R.length = 128 ∧ R = rowN (unN R)), Wd (IntKind.i64.wrap (hiL (unN R) 64)) (loL (unN R) 64))
  | _, _ => none
theorem gVal_ok : ∀ xs m r, gVal xs m = some (true, r) → CallOk Try.prog 102 xs m (.v r) m := by
  intro xs m r h
  unfold gVal at h
  split at h
  · rename_i t R own mark
    obtain ⟨h1, rfl⟩ := some_t h
    refine runOk (Λ := ΛVal) OkR1 Try.func102 rfl (fun z z1 z2 => oneLoop (c := Try.f102.body.getD .skip) loopsVal (loopOkVal z z1 z2)) ?_
    exact (runVal t R own mark).trans (by rw [h1]; rfl)
  · cases h
noncomputable def ΓR2 : Orc := addRd 102 gVal ΓR1
theorem OkR2 : ΓR2.Ok Try.prog := addRd_ok OkR1 gVal_ok
end Go.Proofs.Ytcjkkfhdnealpaa

namespace Go.Proofs.Ytcjkkfhdnealpaa
open Go Go.Proofs Go.Sx
set_option linter.unusedVariables false
/-! norm -/

def rwI (R : List (List Dat)) : RowS := .live ⟨3, [.num .i64], R, true, false⟩
noncomputable def bdPl : Code := loopAt (Try.f95.body.getD .skip) 0
theorem loopsPl : loopsOf (Try.f95.body.getD .skip) = [bdPl] := by kernel_rfl
theorem loopsPl0 : loopsOf bdPl = [] := by kernel_rfl
def kPl : List Bool := maskOf 39 [4, 5, 6, 7, 8, 9]
def xPl : List Bool := maskOf 39 [4, 7]
def KPl (e : Ex) (st : St) : Option (Ex × St) := some (e, cutC 0 0 xPl st)
def MPl (X Y R : List (List Dat)) : Mem := ⟨[[.v (I 0), .v (UU 0)]], [true], [rwI X, rwI Y, rwI R]⟩
def HPl (X Y : List (List Dat)) (s i : Int) (R : List (List Dat)) : St := mk kPl [.ptr 0 0, .row 0, .row 1, .row 2, .v (I s), .v (I i)] (MPl X Y R)
def XPl (R : List (List Dat)) : St := mk xPl [.ptr 0 0, .row 0] ⟨[[.v (I 0), .v (UU 0)]], [true], [rwI R]⟩
theorem stepPl (X Y R : List (List Dat)) (s i : Int) (k : Nat) : evLoop ΓR2 Try.prog L0 (cutC 0 0 kPl) bdPl (k + 1) (HPl X Y s i R) KPl =
    bif decide (i < 128) then (bif inL X i then (bif inL Y i then (bif roomA R.length then evLoop ΓR2 Try.prog L0 (cutC 0 0 kPl) bdPl k (HPl X Y (IntKind.i64.wrap ((sm X Y s i).tdiv 2)) (IntKind.i64.wrap (i + 1)) (R ++ [[.n ((sm X Y s i).tmod 2)]])) KPl else none) else none) else none) else some (.exit 0, XPl R) := by kernel_rfl
noncomputable def GPl (A B : Int) (vals : List SV) (m : Mem) : Option (Bool × Ex × St) :=
  match vals, m with
  | [.ptr 0 0, .row 0, .row 1, .row 2, .v (.int .i64 s), .v (.int .i64 i)], ⟨[[.v (.int .i64 0), .v (.int .u64 0)]], [true], [.live ⟨3, [.num .i64], X, true, false⟩, .live ⟨3, [.num .i64], Y, true, false⟩, .live ⟨3, [.num .i64], [], true, false⟩]⟩ =>
    some (isT (X = rowN (bl A 128) ∧ Y = rowN (bl B 128)) && (s == 0 && (i == 0)), .exit 0, XPl (rowN (bl (A + B) 128)))
  | _, _ => none
noncomputable def ΛPl (A B : Int) : LoopOrc := fun _ st => viaC 0 0 kPl (GPl A B) st
theorem loopOkPl (A B : Int) (z : Base) (z1 : z.L.length = 0) (z2 : z.U.length = 0) : LoopOk (ΛPl A B) Try.prog z bdPl := by
  refine loop_okC (Λ := L0) (kx := fun _ => xPl) OkR2 mixed z1 z2 (fun b hb => by rw [loopsPl0] at hb; cases hb) (G := GPl A B) (fun _ => rfl) ?_
  intro vals m e st' h
  unfold GPl at h
  split at h
  · rename_i s i X Y
    obtain ⟨h1, rfl, rfl⟩ := some_t2 h
    simp only [Bool.and_eq_true, beq_iff_eq, isT_iff] at h1
    obtain ⟨⟨rfl, rfl⟩, rfl, rfl⟩ := h1
    refine ⟨129, ?_⟩
    have := plusLoop A B (fun k s i R => evLoop ΓR2 Try.prog L0 (cutC 0 0 kPl) bdPl k (HPl (rowN (bl A 128)) (rowN (bl B 128)) s i R) KPl) (fun R => some (.exit 0, XPl R)) (fun k s i R => stepPl (rowN (bl A 128)) (rowN (bl B 128)) R s i k) 128 0 rfl
    rw [cy_zero] at this
    exact this
  · cases h
theorem runPl (a b c d : Int) : runG ΓR2 (ΛPl (wu a b) (wu c d)) Try.prog Try.f95 [.v (Wd a b), .v (Wd c d)] M0 =
    same (bif inU b then (bif inU d then (bif isT (rowN (bl (wu a b) 128) = rowN (bl (wu a b) 128) ∧ rowN (bl (wu c d) 128) = rowN (bl (wu c d) 128)) && ((0 : Int) == 0 && ((0 : Int) == 0)) then (bif isT ((rowN (bl (wu a b + wu c d) 128)).length = 128 ∧ rowN (bl (wu a b + wu c d) 128) = rowN (unN (rowN (bl (wu a b + wu c d) 128)))) then
      some (.v (Wd (IntKind.i64.wrap (hiL (unN (rowN (bl (wu a b + wu c d) 128))) 64)) (loL (unN (rowN (bl (wu a b + wu c d) 128))) 64)), M0) else none) else none) else none) else none) (bif inU b then (bif inU d then (bif isT (rowN (bl (wu a b) 128) = rowN (bl (wu a b) 128) ∧ rowN (bl (wu c d) 128) = rowN (bl (wu c d) 128)) && ((0 : Int) == 0 && ((0 : Int) == 0)) then (bif isT ((rowN (bl (wu a b + wu c d) 128)).length = 128 ∧ rowN (bl (wu a b + wu c d) 128) = rowN (unN (rowN (bl (wu a b + wu c d) 128)))) then
      some (.v (Wd (IntKind.i64.wrap (hiL (unN (rowN (bl (wu a b + wu c d) 128))) 64)) (loL (unN (rowN (bl (wu a b + wu c d) 128))) 64)), M0) else none) else none) else none) else none) := by kernel_rfl
def gPl (vs : List Value) : Option (Bool × Value) :=
  match vs with
  | [.agg ⟨[.int .i64 a, .int .u64 b]⟩, .agg ⟨[.int .i64 c, .int .u64 d]⟩] => some (inU b && inU d, pW (wv a b + wv c d))
  | _ => none
theorem gPl_ok : ∀ vs r, gPl vs = some (true, r) → ∀ m, CallOk Try.prog 95 (vs.map .v) m (.v r) m := by
  intro vs r h
  unfold gPl at h
  split at h
  · rename_i a b c d
    obtain ⟨h1, rfl⟩ := some_t h
    rw [Bool.and_eq_true] at h1
    refine runV (vs := [Wd a b, Wd c d]) (Λ := ΛPl (wu a b) (wu c d)) (m' := M0) OkR2 Try.func95 rfl (fun z z1 z2 => oneLoop (c := Try.f95.body.getD .skip) loopsPl (loopOkPl _ _ z z1 z2)) ?_
    refine (runPl a b c d).trans ?_
    have e : unN (rowN (bl (wu a b + wu c d) 128)) = bl (wu a b + wu c d) 128 := nums_rowN _
    rw [h1.1, h1.2, isT_of ⟨rfl, rfl⟩, e, isT_of ⟨by rw [rowN_len, bl_length], rfl⟩, same_self]
    exact vEq (plusW a b c d)
  · cases h
noncomputable def ΓQ1 : Orc := addVal 95 gPl ΓR2
theorem OkQ1 : ΓQ1.Ok Try.prog := addVal_ok OkR2 gPl_ok
set_option maxRecDepth 20000 in
theorem runROf (n : Int) : runG ΓQ1 L0 Try.prog Try.f96 [.v (I n)] M0 = bif decide (n < 0) then some (.v (Wd (-1) (IntKind.u64.wrap n)), M0) else some (.v (Wd 0 (IntKind.u64.wrap n)), M0) := by kernel_rfl
def gROf (vs : List Value) : Option (Bool × Value) :=
  match vs with
  | [.int .i64 n] => some (inI n, Wn n)
  | _ => none
theorem gROf_ok : ∀ vs r, gROf vs = some (true, r) → ∀ m, CallOk Try.prog 96 (vs.map .v) m (.v r) m := by
  intro vs r h
  unfold gROf at h
  split at h
  · rename_i n
    obtain ⟨h1, rfl⟩ := some_t h
    refine runV (vs := [I n]) (Λ := L0) (m' := M0) OkQ1 Try.func96 rfl (fun z _ _ => l0Ok' _ z) ?_
    exact (runROf n).trans (by
      rw [inI_iff] at h1
      obtain ⟨_, h2, h3⟩ := okW_of (n := n) (by omega) (by omega)
      by_cases hn : n < 0
      · rw [decide_eq_true hn]
        exact vEq (wd_eq (by rw [h2]; omega) (by rw [h3, wrU]))
      · rw [decide_eq_false hn]
        exact vEq (wd_eq (by rw [h2]; omega) (by rw [h3, wrU])))
  · cases h
noncomputable def ΓQ2 : Orc := addVal 96 gROf ΓQ1
theorem OkQ2 : ΓQ2.Ok Try.prog := addVal_ok OkQ1 gROf_ok
set_option maxRecDepth 20000 in
theorem runRFlip (a b : Int) : runG ΓQ2 L0 Try.prog Try.f97 [.v (Wd a b)] M0 = bif inU (IntKind.u64.wrap (-1 - b)) && inU 1 then some (.v (pW (wv (IntKind.i64.wrap (-1 - a)) (IntKind.u64.wrap (-1 - b)) + wv 0 1)), M0) else none := by kernel_rfl
def gRFlip (vs : List Value) : Option (Bool × Value) :=
  match vs with
  | [.agg ⟨[.int .i64 a, .int .u64 b]⟩] => some (inU b, pW (- wv a b))
  | _ => none
theorem gRFlip_ok : ∀ vs r, gRFlip vs = some (true, r) → ∀ m, CallOk Try.prog 97 (vs.map .v) m (.v r) m := by
  intro vs r h
  unfold gRFlip at h
  split at h
  · rename_i a b
    obtain ⟨h1, rfl⟩ := some_t h
    refine runV (vs := [Wd a b]) (Λ := L0) (m' := M0) OkQ2 Try.func97 rfl (fun z _ _ => l0Ok' _ z) ?_
    exact (runRFlip a b).trans (by
      obtain ⟨e1, e2⟩ := flipW a b h1
      rw [e1, show inU 1 = true from rfl]
      refine vEq (pW_eq ?_)
      rw [show wv 0 1 = 1 from rfl]
      omega)
  · cases h
noncomputable def ΓQ3 : Orc := addVal 97 gRFlip ΓQ2
theorem OkQ3 : ΓQ3.Ok Try.prog := addVal_ok OkQ2 gRFlip_ok
set_option maxRecDepth 20000 in
theorem runRCmp (a b c d : Int) : runG ΓQ3 L0 Try.prog Try.f74 [.v (Wd a b), .v (Wd c d)] M0 = 
    (bif decide (a < c) then some (.v (I (-1)), M0) else (bif a == c then (bif decide (b < d) then some (.v (I (-1)), M0) else (bif a == c && (b == d && true) then some (.v (I 0), M0) else some (.v (I 1), M0))) else (bif a == c && (b == d && true) then some (.v (I 0), M0) else some (.v (I 1), M0)))) := by kernel_rfl
def gRCmp (vs : List Value) : Option (Bool × Value) :=
  match vs with
  | [.agg ⟨[.int .i64 a, .int .u64 b]⟩, .agg ⟨[.int .i64 c, .int .u64 d]⟩] => some (inW a b && inW c d, I (cmpI (wv a b) (wv c d)))
  | _ => none
theorem gRCmp_ok : ∀ vs r, gRCmp vs = some (true, r) → ∀ m, CallOk Try.prog 74 (vs.map .v) m (.v r) m := by
  intro vs r h
  unfold gRCmp at h
  split at h
  · rename_i a b c d
    obtain ⟨h1, rfl⟩ := some_t h
    refine runV (vs := [Wd a b, Wd c d]) (Λ := L0) (m' := M0) OkQ3 Try.func74 rfl (fun z _ _ => l0Ok' _ z) ?_
    exact (runRCmp a b c d).trans (by
      rw [Bool.and_eq_true] at h1
      rw [← cmpR h1.1 h1.2]
      cases decide (a < c) <;> cases a == c <;> cases decide (b < d) <;> cases b == d <;> rfl)
  · cases h
noncomputable def ΓQ4 : Orc := addVal 74 gRCmp ΓQ3
theorem OkQ4 : ΓQ4.Ok Try.prog := addVal_ok OkQ3 gRCmp_ok
noncomputable def bdMu : Code := loopAt (Try.f72.body.getD .skip) 0
theorem loopsMu : loopsOf (Try.f72.body.getD .skip) = [bdMu] := by kernel_rfl
theorem loopsMu0 : loopsOf bdMu = [] := by kernel_rfl
def kMu : List Bool := maskOf 36 [1, 4, 5, 6, 7, 8]
def xMu : List Bool := maskOf 36 [1, 4, 5, 6]
def KMu (e : Ex) (st : St) : Option (Ex × St) := some (e, cutC 0 0 xMu st)
def MMu (oa ob xa xb ya yb : Int) : Mem := ⟨[[.v (I oa), .v (UU ob)], [.v (I xa), .v (UU xb)], [.v (I ya), .v (UU yb)]], [true, true, true], []⟩
def HMu (b n oa ob i xa xb ya yb : Int) : St := mk kMu [.v (I b), .ptr 0 0, .ptr 1 0, .ptr 2 0, .v (UU n), .v (I i)] (MMu oa ob xa xb ya yb)
def XMu (b oa ob xa xb ya yb : Int) : St := mk xMu [.v (I b), .ptr 0 0, .ptr 1 0, .ptr 2 0] (MMu oa ob xa xb ya yb)
theorem stepMu (b n oa ob i xa xb ya yb : Int) (k : Nat) : evLoop ΓQ4 Try.prog L0 (cutC 0 0 kMu) bdMu (k + 1) (HMu b n oa ob i xa xb ya yb) KMu =
    bif decide (i < 64) then (bif decide (i < 0) then none else (bif bu n i == 1 then (bif inU yb && inU xb then (bif inU xb && inU xb then evLoop ΓQ4 Try.prog L0 (cutC 0 0 kMu) bdMu k (HMu b n oa ob (IntKind.i64.wrap (i + 1)) (pHi (wv xa xb + wv xa xb)) (pLo (wv xa xb + wv xa xb)) (pHi (wv ya yb + wv xa xb)) (pLo (wv ya yb + wv xa xb))) KMu else none) else none)
      else (bif inU xb && inU xb then evLoop ΓQ4 Try.prog L0 (cutC 0 0 kMu) bdMu k (HMu b n oa ob (IntKind.i64.wrap (i + 1)) (pHi (wv xa xb + wv xa xb)) (pLo (wv xa xb + wv xa xb)) ya yb) KMu else none))) else some (.exit 0, XMu b oa ob xa xb ya yb) := by kernel_rfl
def GMu (vals : List SV) (m : Mem) : Option (Bool × Ex × St) :=
  match vals, m with
  | [.v (.int .i64 b), .ptr 0 0, .ptr 1 0, .ptr 2 0, .v (.int .u64 n), .v (.int .i64 i)], ⟨[[.v (.int .i64 oa), .v (.int .u64 ob)], [.v (.int .i64 xa), .v (.int .u64 xb)], [.v (.int .i64 ya), .v (.int .u64 yb)]], [true, true, true], []⟩ =>
    some (inW xa xb && (inU n && (i == 0 && (ya == 0 && yb == 0))), .exit 0, XMu b oa ob (pHi (wv xa xb * 2 ^ 64)) (pLo (wv xa xb * 2 ^ 64)) (pHi (wv xa xb * (n % 2 ^ 64))) (pLo (wv xa xb * (n % 2 ^ 64))))
  | _, _ => none
noncomputable def ΛMu : LoopOrc := fun _ st => viaC 0 0 kMu GMu st
theorem loopOkMu (z : Base) (z1 : z.L.length = 0) (z2 : z.U.length = 0) : LoopOk ΛMu Try.prog z bdMu := by
  refine loop_okC (Λ := L0) (kx := fun _ => xMu) OkQ4 mixed z1 z2 (fun b hb => by rw [loopsMu0] at hb; cases hb) (G := GMu) (fun _ => rfl) ?_
  intro vals m e st' h
  unfold GMu at h
  split at h
  · rename_i b n i oa ob xa xb ya yb
    obtain ⟨h1, rfl, rfl⟩ := some_t2 h
    simp only [Bool.and_eq_true, beq_iff_eq] at h1
    obtain ⟨g1, g2, rfl, rfl, rfl⟩ := h1
    rw [inU_iff] at g2
    have := mulLoop n (wv xa xb) g2.1 g2.2 (fun k i xa xb ya yb => evLoop ΓQ4 Try.prog L0 (cutC 0 0 kMu) bdMu k (HMu b n oa ob i xa xb ya yb) KMu) (fun xa xb ya yb => some (.exit 0, XMu b oa ob xa xb ya yb)) (fun k i xa xb ya yb => stepMu b n oa ob i xa xb ya yb k) 64 0 rfl
    refine ⟨65, ?_⟩
    rw [Int.pow_zero, Int.mul_one, Int.emod_one, Int.mul_zero, (p_self g1).1, (p_self g1).2] at this
    exact this
  · cases h
theorem runMu (a b : Int) : runG ΓQ4 ΛMu Try.prog Try.f72 [.v (I a), .v (I b)] M0 =
    bif inI a then
      (bif inW (hiW a) (loW a) && (inU (IntKind.u64.wrap b) && ((0 : Int) == 0 && ((0 : Int) == 0 && (0 : Int) == 0))) then
        (bif decide (b < 0) then
          (bif inU (pLo (wv (hiW a) (loW a) * 2 ^ 64)) then
            (bif inU (pLo (wv (hiW a) (loW a) * (IntKind.u64.wrap b % 2 ^ 64))) && inU (pLo (-wv (pHi (wv (hiW a) (loW a) * 2 ^ 64)) (pLo (wv (hiW a) (loW a) * 2 ^ 64)))) then
              some (.v (pW (wv (pHi (wv (hiW a) (loW a) * (IntKind.u64.wrap b % 2 ^ 64))) (pLo (wv (hiW a) (loW a) * (IntKind.u64.wrap b % 2 ^ 64))) + wv (pHi (-wv (pHi (wv (hiW a) (loW a) * 2 ^ 64)) (pLo (wv (hiW a) (loW a) * 2 ^ 64)))) (pLo (-wv (pHi (wv (hiW a) (loW a) * 2 ^ 64)) (pLo (wv (hiW a) (loW a) * 2 ^ 64)))))), M0)
            else none)
          else none)
        else some (.v (Wd (pHi (wv (hiW a) (loW a) * (IntKind.u64.wrap b % 2 ^ 64))) (pLo (wv (hiW a) (loW a) * (IntKind.u64.wrap b % 2 ^ 64)))), M0))
      else none)
    else none := by kernel_rfl
def gMu (vs : List Value) : Option (Bool × Value) :=
  match vs with
  | [.int .i64 a, .int .i64 b] => some (inI a && inI b, pW (a * b))
  | _ => none
theorem gMu_ok : ∀ vs r, gMu vs = some (true, r) → ∀ m, CallOk Try.prog 72 (vs.map .v) m (.v r) m := by
  intro vs r h
  unfold gMu at h
  split at h
  · rename_i a b
    obtain ⟨h1, rfl⟩ := some_t h
    rw [Bool.and_eq_true] at h1
    obtain ⟨h1, h2⟩ := h1
    refine runV (vs := [I a, I b]) (Λ := ΛMu) (m' := M0) OkQ4 Try.func72 rfl (fun z z1 z2 => oneLoop (c := Try.f72.body.getD .skip) loopsMu (loopOkMu z z1 z2)) ?_
    refine (runMu a b).trans ?_
    obtain ⟨e1, e2⟩ := wv_Wn (okW_I h1)
    rw [h1, e1, e2, inU_wrap, inU_pLo, inU_pLo, inU_pLo]
    simp only [BEq.rfl, Bool.and_self, cond_true]
    rw [inI_iff] at h2
    have e64 : (2 : Int) ^ 64 = 18446744073709551616 := by decide
    rw [e64]
    have em : IntKind.u64.wrap b % 18446744073709551616 = b % 18446744073709551616 := by rw [wrU]; omega
    rw [em]
    by_cases hb : b < 0
    · simp only [hb, decide_true, cond_true]
      refine vEq (pW_eq ?_)
      have q1 := wv_p (a * (b % 18446744073709551616))
      have q2 := wv_p (-wv (pHi (a * 18446744073709551616)) (pLo (a * 18446744073709551616)))
      have q3 := wv_p (a * 18446744073709551616)
      have : b % 18446744073709551616 = b + 18446744073709551616 := by omega
      rw [this, Int.mul_add] at q1 ⊢
      omega
    · simp only [hb, decide_false, cond_false]
      have : b % 18446744073709551616 = b := by omega
      rw [this]
  · cases h
noncomputable def ΓQ5 : Orc := addVal 72 gMu ΓQ4
theorem OkQ5 : ΓQ5.Ok Try.prog := addVal_ok OkQ4 gMu_ok
noncomputable def ΓRf : Orc := ΓQ5
theorem OkRf : ΓRf.Ok Try.prog := OkQ5
end Go.Proofs.Ytcjkkfhdnealpaa

namespace Go.Proofs.Ytcjkkfhdnealpaa
open Go Go.Proofs Go.Sx
set_option linter.unusedVariables false
/-! norm -/
/-! Places. -/
theorem vB {x y : Bool} (h : x = y) : (some (SV.v (Bo x), M0) : Option (SV × Mem)) = some (.v (Bo y), M0) := by rw [h]
theorem vI {x y : Int} (h : x = y) : (some (SV.v (I x), M0) : Option (SV × Mem)) = some (.v (I y), M0) := by rw [h]

set_option maxRecDepth 20000 in
theorem runBtw (x a b : Int) : runG ΓRf L0 Try.prog Try.f79 [.v (I x), .v (I a), .v (I b)] M0 = 
    (bif decide (a ≤ x) then some (.v (Bo (decide (x ≤ b))), M0) else some (.v (Bo false), M0)) := by kernel_rfl
def gBtw (vs : List Value) : Option (Bool × Value) :=
  match vs with
  | [.int .i64 x, .int .i64 a, .int .i64 b] => some (true, Bo (decide (a ≤ x) && decide (x ≤ b)))
  | _ => none
theorem gBtw_ok : ∀ vs r, gBtw vs = some (true, r) → ∀ m, CallOk Try.prog 79 (vs.map .v) m (.v r) m := by
  intro vs r h
  unfold gBtw at h
  split at h
  · rename_i x a b
    obtain ⟨h1, rfl⟩ := some_t h
    refine runV (vs := [I x, I a, I b]) (Λ := L0) (m' := M0) OkRf Try.func79 rfl (fun z _ _ => l0Ok' _ z) ?_
    exact (runBtw x a b).trans (by cases decide (a ≤ x) <;> rfl)
  · cases h
noncomputable def ΓP1 : Orc := addVal 79 gBtw ΓRf
theorem OkP1 : ΓP1.Ok Try.prog := addVal_ok OkRf gBtw_ok
set_option maxRecDepth 20000 in
theorem runPRight (a1 a2 : Int) : runG ΓP1 L0 Try.prog Try.f83 [.v (.agg #[I a1, I a2])] M0 = 
    (bif decide ((-1099511627776 : Int) ≤ a1) && decide (a1 ≤ (1099511627776 : Int)) then some (.v (Bo (decide ((-1099511627776 : Int) ≤ a2) && decide (a2 ≤ (1099511627776 : Int)))), M0) else some (.v (Bo false), M0)) := by kernel_rfl
def gPRight (vs : List Value) : Option (Bool × Value) :=
  match vs with
  | [.agg ⟨[.int .i64 a1, .int .i64 a2]⟩] => some (true, Bo (plR a1 a2))
  | _ => none
theorem gPRight_ok : ∀ vs r, gPRight vs = some (true, r) → ∀ m, CallOk Try.prog 83 (vs.map .v) m (.v r) m := by
  intro vs r h
  unfold gPRight at h
  split at h
  · rename_i a1 a2
    obtain ⟨h1, rfl⟩ := some_t h
    refine runV (vs := [.agg #[I a1, I a2]]) (Λ := L0) (m' := M0) OkP1 Try.func83 rfl (fun z _ _ => l0Ok' _ z) ?_
    exact (runPRight a1 a2).trans (by
      unfold plR
      by_cases h1 : -1099511627776 ≤ a1 <;> by_cases h2 : a1 ≤ 1099511627776 <;> by_cases h3 : -1099511627776 ≤ a2 <;> by_cases h4 : a2 ≤ 1099511627776 <;> simp [h1, h2, h3, h4])
  · cases h
noncomputable def ΓP2 : Orc := addVal 83 gPRight ΓP1
theorem OkP2 : ΓP2.Ok Try.prog := addVal_ok OkP1 gPRight_ok
set_option maxRecDepth 20000 in
theorem runRPRight (a1 a2 : Int) : runG ΓP2 L0 Try.prog Try.f32 [.v (.agg #[I a1, I a2])] M0 = 
    (bif decide (a1 ≥ (-1099511627776 : Int)) then (bif decide (a1 ≤ (1099511627776 : Int)) then (bif decide (a2 ≥ (-1099511627776 : Int)) then some (.v (Bo (decide (a2 ≤ (1099511627776 : Int)))), M0) else some (.v (Bo false), M0)) else some (.v (Bo false), M0)) else some (.v (Bo false), M0)) := by kernel_rfl
def gRPRight (vs : List Value) : Option (Bool × Value) :=
  match vs with
  | [.agg ⟨[.int .i64 a1, .int .i64 a2]⟩] => some (true, Bo (plR a1 a2))
  | _ => none
theorem gRPRight_ok : ∀ vs r, gRPRight vs = some (true, r) → ∀ m, CallOk Try.prog 32 (vs.map .v) m (.v r) m := by
  intro vs r h
  unfold gRPRight at h
  split at h
  · rename_i a1 a2
    obtain ⟨h1, rfl⟩ := some_t h
    refine runV (vs := [.agg #[I a1, I a2]]) (Λ := L0) (m' := M0) OkP2 Try.func32 rfl (fun z _ _ => l0Ok' _ z) ?_
    exact (runRPRight a1 a2).trans (by
      unfold plR
      by_cases h1 : -1099511627776 ≤ a1 <;> by_cases h2 : a1 ≤ 1099511627776 <;> by_cases h3 : -1099511627776 ≤ a2 <;> by_cases h4 : a2 ≤ 1099511627776 <;> simp [h1, h2, h3, h4])
  · cases h
noncomputable def ΓP3 : Orc := addVal 32 gRPRight ΓP2
theorem OkP3 : ΓP3.Ok Try.prog := addVal_ok OkP2 gRPRight_ok
set_option maxRecDepth 20000 in
theorem runAllR0 (t : TypeId) (a1 a2 b1 b2 : Int) (own mark : Bool) : runG ΓP3 L0 Try.prog Try.f78 [.row 0] ⟨[], [], [.live ⟨t, [.num .i64, .num .i64], [[.n a1, .n a2], [.n b1, .n b2]], own, mark⟩]⟩ = (bif !plR a1 a2 then some (.v (Bo false), ⟨[], [], [.live ⟨t, [.num .i64, .num .i64], [[.n a1, .n a2], [.n b1, .n b2]], own, mark⟩]⟩) else (bif !plR b1 b2 then some (.v (Bo false), ⟨[], [], [.live ⟨t, [.num .i64, .num .i64], [[.n a1, .n a2], [.n b1, .n b2]], own, mark⟩]⟩) else some (.v (Bo true), ⟨[], [], [.live ⟨t, [.num .i64, .num .i64], [[.n a1, .n a2], [.n b1, .n b2]], own, mark⟩]⟩))) := by kernel_rfl
set_option maxRecDepth 20000 in
theorem runAllR1 (t : TypeId) (a1 a2 b1 b2 c1 c2 : Int) (own mark : Bool) : runG ΓP3 L0 Try.prog Try.f78 [.row 0] ⟨[], [], [.live ⟨t, [.num .i64, .num .i64], [[.n a1, .n a2], [.n b1, .n b2], [.n c1, .n c2]], own, mark⟩]⟩ = (bif !plR a1 a2 then some (.v (Bo false), ⟨[], [], [.live ⟨t, [.num .i64, .num .i64], [[.n a1, .n a2], [.n b1, .n b2], [.n c1, .n c2]], own, mark⟩]⟩) else (bif !plR b1 b2 then some (.v (Bo false), ⟨[], [], [.live ⟨t, [.num .i64, .num .i64], [[.n a1, .n a2], [.n b1, .n b2], [.n c1, .n c2]], own, mark⟩]⟩) else (bif !plR c1 c2 then some (.v (Bo false), ⟨[], [], [.live ⟨t, [.num .i64, .num .i64], [[.n a1, .n a2], [.n b1, .n b2], [.n c1, .n c2]], own, mark⟩]⟩) else some (.v (Bo true), ⟨[], [], [.live ⟨t, [.num .i64, .num .i64], [[.n a1, .n a2], [.n b1, .n b2], [.n c1, .n c2]], own, mark⟩]⟩)))) := by kernel_rfl
set_option maxRecDepth 20000 in
theorem runAllR2 (t : TypeId) (a1 a2 b1 b2 c1 c2 d1 d2 : Int) (own mark : Bool) : runG ΓP3 L0 Try.prog Try.f78 [.row 0] ⟨[], [], [.live ⟨t, [.num .i64, .num .i64], [[.n a1, .n a2], [.n b1, .n b2], [.n c1, .n c2], [.n d1, .n d2]], own, mark⟩]⟩ = (bif !plR a1 a2 then some (.v (Bo false), ⟨[], [], [.live ⟨t, [.num .i64, .num .i64], [[.n a1, .n a2], [.n b1, .n b2], [.n c1, .n c2], [.n d1, .n d2]], own, mark⟩]⟩) else (bif !plR b1 b2 then some (.v (Bo false), ⟨[], [], [.live ⟨t, [.num .i64, .num .i64], [[.n a1, .n a2], [.n b1, .n b2], [.n c1, .n c2], [.n d1, .n d2]], own, mark⟩]⟩) else (bif !plR c1 c2 then some (.v (Bo false), ⟨[], [], [.live ⟨t, [.num .i64, .num .i64], [[.n a1, .n a2], [.n b1, .n b2], [.n c1, .n c2], [.n d1, .n d2]], own, mark⟩]⟩) else (bif !plR d1 d2 then some (.v (Bo false), ⟨[], [], [.live ⟨t, [.num .i64, .num .i64], [[.n a1, .n a2], [.n b1, .n b2], [.n c1, .n c2], [.n d1, .n d2]], own, mark⟩]⟩) else some (.v (Bo true), ⟨[], [], [.live ⟨t, [.num .i64, .num .i64], [[.n a1, .n a2], [.n b1, .n b2], [.n c1, .n c2], [.n d1, .n d2]], own, mark⟩]⟩))))) := by kernel_rfl
def gAllR (xs : List SV) (m : Mem) : Option (Bool × Value) :=
  match xs, m with
  | [.row 0], ⟨[], [], [.live ⟨t, [.num .i64, .num .i64], [[.n a1, .n a2], [.n b1, .n b2]], own, mark⟩]⟩ => some (true, Bo ((plR a1 a2 && plR b1 b2)))
  | [.row 0], ⟨[], [], [.live ⟨t, [.num .i64, .num .i64], [[.n a1, .n a2], [.n b1, .n b2], [.n c1, .n c2]], own, mark⟩]⟩ => some (true, Bo ((plR a1 a2 && (plR b1 b2 && plR c1 c2))))
  | [.row 0], ⟨[], [], [.live ⟨t, [.num .i64, .num .i64], [[.n a1, .n a2], [.n b1, .n b2], [.n c1, .n c2], [.n d1, .n d2]], own, mark⟩]⟩ => some (true, Bo ((plR a1 a2 && (plR b1 b2 && (plR c1 c2 && plR d1 d2)))))
  | _, _ => none
theorem gAllR_ok : ∀ xs m r, gAllR xs m = some (true, r) → CallOk Try.prog 78 xs m (.v r) m := by
  intro xs m r h
  unfold gAllR at h
  split at h
  · rename_i t a1 a2 b1 b2 own mark
    obtain ⟨h1, rfl⟩ := some_t h
    refine runOk (Λ := L0) OkP3 Try.func78 rfl (fun z _ _ => l0Ok' _ z) ?_
    exact (runAllR0 t a1 a2 b1 b2 own mark).trans (by cases plR a1 a2 <;> cases plR b1 b2 <;> rfl)
  · rename_i t a1 a2 b1 b2 c1 c2 own mark
    obtain ⟨h1, rfl⟩ := some_t h
    refine runOk (Λ := L0) OkP3 Try.func78 rfl (fun z _ _ => l0Ok' _ z) ?_
    exact (runAllR1 t a1 a2 b1 b2 c1 c2 own mark).trans (by cases plR a1 a2 <;> cases plR b1 b2 <;> cases plR c1 c2 <;> rfl)
  · rename_i t a1 a2 b1 b2 c1 c2 d1 d2 own mark
    obtain ⟨h1, rfl⟩ := some_t h
    refine runOk (Λ := L0) OkP3 Try.func78 rfl (fun z _ _ => l0Ok' _ z) ?_
    exact (runAllR2 t a1 a2 b1 b2 c1 c2 d1 d2 own mark).trans (by cases plR a1 a2 <;> cases plR b1 b2 <;> cases plR c1 c2 <;> cases plR d1 d2 <;> rfl)
  · cases h
noncomputable def ΓP4 : Orc := addRd 78 gAllR ΓP3
theorem OkP4 : ΓP4.Ok Try.prog := addRd_ok OkP3 gAllR_ok
set_option maxRecDepth 20000 in
theorem runTurn (a1 a2 b1 b2 c1 c2 : Int) : runG ΓP4 L0 Try.prog Try.f35 [.v (.agg #[I a1, I a2]), .v (.agg #[I b1, I b2]), .v (.agg #[I c1, I c2])] M0 = 
    (bif !(plR a1 a2 && (plR b1 b2 && plR c1 c2)) then some (.v (I 0), M0) else (bif inI (wI (b1 - a1)) && inI (wI (c2 - a2)) then (bif inI (wI (b2 - a2)) && inI (wI (c1 - a1)) then (bif inW (hiW (wI (b1 - a1) * wI (c2 - a2))) (loW (wI (b1 - a1) * wI (c2 - a2))) && inW (hiW (wI (b2 - a2) * wI (c1 - a1))) (loW (wI (b2 - a2) * wI (c1 - a1))) then some (.v (I (cmpI (wv (hiW (wI (b1 - a1) * wI (c2 - a2))) (loW (wI (b1 - a1) * wI (c2 - a2)))) (wv (hiW (wI (b2 - a2) * wI (c1 - a1))) (loW (wI (b2 - a2) * wI (c1 - a1)))))), M0) else none) else none) else none)) := by kernel_rfl
def gTurn (vs : List Value) : Option (Bool × Value) :=
  match vs with
  | [.agg ⟨[.int .i64 a1, .int .i64 a2]⟩, .agg ⟨[.int .i64 b1, .int .i64 b2]⟩, .agg ⟨[.int .i64 c1, .int .i64 c2]⟩] => some (true, I (turnI a1 a2 b1 b2 c1 c2))
  | _ => none
theorem gTurn_ok : ∀ vs r, gTurn vs = some (true, r) → ∀ m, CallOk Try.prog 35 (vs.map .v) m (.v r) m := by
  intro vs r h
  unfold gTurn at h
  split at h
  · rename_i a1 a2 b1 b2 c1 c2
    obtain ⟨h1, rfl⟩ := some_t h
    refine runV (vs := [.agg #[I a1, I a2], .agg #[I b1, I b2], .agg #[I c1, I c2]]) (Λ := L0) (m' := M0) OkP4 Try.func35 rfl (fun z _ _ => l0Ok' _ z) ?_
    exact (runTurn a1 a2 b1 b2 c1 c2).trans (by
      have m1 := okW_mul (inI_wrap (b1 - a1)) (inI_wrap (c2 - a2))
      have m2 := okW_mul (inI_wrap (b2 - a2)) (inI_wrap (c1 - a1))
      cases h : plR a1 a2 && (plR b1 b2 && plR c1 c2) with
      | false => exact vI (by unfold turnI; rw [h]; rfl)
      | true =>
        rw [← turnI_wrap h]
        have i1 : inI (wI (b1 - a1)) = true := inI_wrap _
        have i2 : inI (wI (c2 - a2)) = true := inI_wrap _
        have i3 : inI (wI (b2 - a2)) = true := inI_wrap _
        have i4 : inI (wI (c1 - a1)) = true := inI_wrap _
        have w1 : wv (hiW (wI (b1 - a1) * wI (c2 - a2))) (loW (wI (b1 - a1) * wI (c2 - a2))) = wI (b1 - a1) * wI (c2 - a2) := (wv_Wn m1).1
        have w2 : wv (hiW (wI (b2 - a2) * wI (c1 - a1))) (loW (wI (b2 - a2) * wI (c1 - a1))) = wI (b2 - a2) * wI (c1 - a1) := (wv_Wn m2).1
        rw [i1, i2, i3, i4, inW_Wn, inW_Wn, w1, w2]
        rfl)
  · cases h
noncomputable def ΓP5 : Orc := addVal 35 gTurn ΓP4
theorem OkP5 : ΓP5.Ok Try.prog := addVal_ok OkP4 gTurn_ok
set_option maxRecDepth 20000 in
theorem runOn (p1 p2 a1 a2 b1 b2 : Int) : runG ΓP5 L0 Try.prog Try.f33 [.v (.agg #[I p1, I p2]), .v (.agg #[I a1, I a2]), .v (.agg #[I b1, I b2])] M0 = 
    (bif !(plR p1 p2 && (plR a1 a2 && plR b1 b2)) then some (.v (Bo false), M0) else (bif turnI a1 a2 b1 b2 p1 p2 != (0 : Int) then some (.v (Bo false), M0) else (bif decide ((if b1 < a1 then b1 else a1) ≤ p1) && decide (p1 ≤ if b1 > a1 then b1 else a1) then some (.v (Bo (decide ((if b2 < a2 then b2 else a2) ≤ p2) && decide (p2 ≤ if b2 > a2 then b2 else a2))), M0) else some (.v (Bo false), M0)))) := by kernel_rfl
def gOn (vs : List Value) : Option (Bool × Value) :=
  match vs with
  | [.agg ⟨[.int .i64 p1, .int .i64 p2]⟩, .agg ⟨[.int .i64 a1, .int .i64 a2]⟩, .agg ⟨[.int .i64 b1, .int .i64 b2]⟩] => some (true, Bo (onB p1 p2 a1 a2 b1 b2))
  | _ => none
theorem gOn_ok : ∀ vs r, gOn vs = some (true, r) → ∀ m, CallOk Try.prog 33 (vs.map .v) m (.v r) m := by
  intro vs r h
  unfold gOn at h
  split at h
  · rename_i p1 p2 a1 a2 b1 b2
    obtain ⟨h1, rfl⟩ := some_t h
    refine runV (vs := [.agg #[I p1, I p2], .agg #[I a1, I a2], .agg #[I b1, I b2]]) (Λ := L0) (m' := M0) OkP5 Try.func33 rfl (fun z _ _ => l0Ok' _ z) ?_
    exact (runOn p1 p2 a1 a2 b1 b2).trans (by
      unfold onB btw
      cases plR p1 p2 && (plR a1 a2 && plR b1 b2) with
      | false => rfl
      | true =>
        by_cases ht : turnI a1 a2 b1 b2 p1 p2 = 0
        · rw [ht]
          cases decide ((if b1 < a1 then b1 else a1) ≤ p1) && decide (p1 ≤ if b1 > a1 then b1 else a1) <;> rfl
        · rw [bne_iff_ne.2 ht, beq_eq_false_iff_ne.2 ht]
          rfl)
  · cases h
noncomputable def ΓP6 : Orc := addVal 33 gOn ΓP5
theorem OkP6 : ΓP6.Ok Try.prog := addVal_ok OkP5 gOn_ok
set_option maxRecDepth 20000 in
theorem runMeet (a1 a2 b1 b2 c1 c2 d1 d2 : Int) : runG ΓP6 L0 Try.prog Try.f34 [.v (.agg #[I a1, I a2]), .v (.agg #[I b1, I b2]), .v (.agg #[I c1, I c2]), .v (.agg #[I d1, I d2])] M0 = 
    (bif !(plR a1 a2 && (plR b1 b2 && (plR c1 c2 && plR d1 d2))) then some (.v (Bo false), M0) else (bif onB a1 a2 c1 c2 d1 d2 then some (.v (Bo true), M0) else (bif onB b1 b2 c1 c2 d1 d2 then some (.v (Bo true), M0) else (bif onB c1 c2 a1 a2 b1 b2 then some (.v (Bo true), M0) else (bif onB d1 d2 a1 a2 b1 b2 then some (.v (Bo true), M0) else (bif decide (wI (turnI a1 a2 b1 b2 c1 c2 * turnI a1 a2 b1 b2 d1 d2) < (0 : Int)) then some (.v (Bo (decide (wI (turnI c1 c2 d1 d2 a1 a2 * turnI c1 c2 d1 d2 b1 b2) < (0 : Int)))), M0) else some (.v (Bo false), M0))))))) := by kernel_rfl
def gMeet (vs : List Value) : Option (Bool × Value) :=
  match vs with
  | [.agg ⟨[.int .i64 a1, .int .i64 a2]⟩, .agg ⟨[.int .i64 b1, .int .i64 b2]⟩, .agg ⟨[.int .i64 c1, .int .i64 c2]⟩, .agg ⟨[.int .i64 d1, .int .i64 d2]⟩] => some (true, Bo (meetB a1 a2 b1 b2 c1 c2 d1 d2))
  | _ => none
theorem gMeet_ok : ∀ vs r, gMeet vs = some (true, r) → ∀ m, CallOk Try.prog 34 (vs.map .v) m (.v r) m := by
  intro vs r h
  unfold gMeet at h
  split at h
  · rename_i a1 a2 b1 b2 c1 c2 d1 d2
    obtain ⟨h1, rfl⟩ := some_t h
    refine runV (vs := [.agg #[I a1, I a2], .agg #[I b1, I b2], .agg #[I c1, I c2], .agg #[I d1, I d2]]) (Λ := L0) (m' := M0) OkP6 Try.func34 rfl (fun z _ _ => l0Ok' _ z) ?_
    exact (runMeet a1 a2 b1 b2 c1 c2 d1 d2).trans (by
      unfold meetB crossB
      cases plR a1 a2 && (plR b1 b2 && (plR c1 c2 && plR d1 d2))
      · rfl
      cases onB a1 a2 c1 c2 d1 d2
      · cases onB b1 b2 c1 c2 d1 d2
        · cases onB c1 c2 a1 a2 b1 b2
          · cases onB d1 d2 a1 a2 b1 b2
            · cases decide (wI (turnI a1 a2 b1 b2 c1 c2 * turnI a1 a2 b1 b2 d1 d2) < 0) <;> rfl
            · rfl
          · rfl
        · rfl
      · rfl)
  · cases h
noncomputable def ΓP7 : Orc := addVal 34 gMeet ΓP6
theorem OkP7 : ΓP7.Ok Try.prog := addVal_ok OkP6 gMeet_ok
set_option maxRecDepth 20000 in
theorem runMove (a1 a2 x y : Int) : runG ΓP7 L0 Try.prog Try.f31 [.v (.agg #[I a1, I a2]), .v (I x), .v (I y)] M0 = 
    (bif inI a1 && inI x then (bif inI a2 && inI y then (bif !inI (a1 + x) then some (.v (.tuple #[(.agg #[(I 0), (I 0)]), (Bo false)]), M0) else (bif !inI (a2 + y) then some (.v (.tuple #[(.agg #[(I 0), (I 0)]), (Bo false)]), M0) else (bif !(plR a1 a2 && plR (smI (a1 + x)) (smI (a2 + y))) then some (.v (.tuple #[(.agg #[(I 0), (I 0)]), (Bo false)]), M0) else some (.v (.tuple #[(.agg #[(I (smI (a1 + x))), (I (smI (a2 + y)))]), (Bo true)]), M0)))) else none) else none) := by kernel_rfl
def gMove (vs : List Value) : Option (Bool × Value) :=
  match vs with
  | [.agg ⟨[.int .i64 a1, .int .i64 a2]⟩, .int .i64 x, .int .i64 y] => some (inI a1 && (inI a2 && (inI x && inI y)), .tuple #[.agg #[I (bif moveB a1 a2 x y then a1 + x else 0), I (bif moveB a1 a2 x y then a2 + y else 0)], Bo (moveB a1 a2 x y)])
  | _ => none
theorem gMove_ok : ∀ vs r, gMove vs = some (true, r) → ∀ m, CallOk Try.prog 31 (vs.map .v) m (.v r) m := by
  intro vs r h
  unfold gMove at h
  split at h
  · rename_i a1 a2 x y
    obtain ⟨h1, rfl⟩ := some_t h
    refine runV (vs := [.agg #[I a1, I a2], I x, I y]) (Λ := L0) (m' := M0) OkP7 Try.func31 rfl (fun z _ _ => l0Ok' _ z) ?_
    exact (runMove a1 a2 x y).trans (by
      simp only [Bool.and_eq_true] at h1
      obtain ⟨i1, i2, i3, i4⟩ := h1
      have no : ∀ m n : Int, (inI m = false ∨ inI n = false) → plR m n = false := fun m n h => by
        rw [Bool.eq_false_iff]
        intro hp
        rw [plR_iff] at hp
        rcases h with h | h <;> rw [Bool.eq_false_iff] at h <;> exact h (inI_iff.2 (by omega))
      rw [i1, i2, i3, i4]
      cases q1 : inI (a1 + x) with
      | false =>
        have e : moveB a1 a2 x y = false := by unfold moveB; rw [no _ _ (.inl q1), Bool.and_false]
        rw [e]; rfl
      | true => cases q2 : inI (a2 + y) with
        | false =>
          have e : moveB a1 a2 x y = false := by unfold moveB; rw [no _ _ (.inr q2), Bool.and_false]
          rw [e]; rfl
        | true =>
          have s1 : smI (a1 + x) = a1 + x := by simp [smI, q1]
          have s2 : smI (a2 + y) = a2 + y := by simp [smI, q2]
          rw [s1, s2]
          unfold moveB
          cases plR a1 a2 && plR (a1 + x) (a2 + y) <;> rfl)
  · cases h
noncomputable def ΓP8 : Orc := addVal 31 gMove ΓP7
theorem OkP8 : ΓP8.Ok Try.prog := addVal_ok OkP7 gMove_ok
set_option maxRecDepth 20000 in
theorem runRTurn (a1 a2 b1 b2 c1 c2 : Int) : runG ΓP8 L0 Try.prog Try.f65 [.v (.agg #[I a1, I a2]), .v (.agg #[I b1, I b2]), .v (.agg #[I c1, I c2])] M0 = 
    (bif !plR a1 a2 then some (.v (I 0), M0) else (bif !plR b1 b2 then some (.v (I 0), M0) else (bif !plR c1 c2 then some (.v (I 0), M0) else (bif inI (wI (b1 - a1)) && inI (wI (c2 - a2)) then (bif inI (wI (b2 - a2)) && inI (wI (c1 - a1)) then (bif inW (pHi (wI (b1 - a1) * wI (c2 - a2))) (pLo (wI (b1 - a1) * wI (c2 - a2))) && inW (pHi (wI (b2 - a2) * wI (c1 - a1))) (pLo (wI (b2 - a2) * wI (c1 - a1))) then some (.v (I (cmpI (wv (pHi (wI (b1 - a1) * wI (c2 - a2))) (pLo (wI (b1 - a1) * wI (c2 - a2)))) (wv (pHi (wI (b2 - a2) * wI (c1 - a1))) (pLo (wI (b2 - a2) * wI (c1 - a1)))))), M0) else none) else none) else none)))) := by kernel_rfl
def gRTurn (vs : List Value) : Option (Bool × Value) :=
  match vs with
  | [.agg ⟨[.int .i64 a1, .int .i64 a2]⟩, .agg ⟨[.int .i64 b1, .int .i64 b2]⟩, .agg ⟨[.int .i64 c1, .int .i64 c2]⟩] => some (true, I (turnI a1 a2 b1 b2 c1 c2))
  | _ => none
theorem gRTurn_ok : ∀ vs r, gRTurn vs = some (true, r) → ∀ m, CallOk Try.prog 65 (vs.map .v) m (.v r) m := by
  intro vs r h
  unfold gRTurn at h
  split at h
  · rename_i a1 a2 b1 b2 c1 c2
    obtain ⟨h1, rfl⟩ := some_t h
    refine runV (vs := [.agg #[I a1, I a2], .agg #[I b1, I b2], .agg #[I c1, I c2]]) (Λ := L0) (m' := M0) OkP8 Try.func65 rfl (fun z _ _ => l0Ok' _ z) ?_
    exact (runRTurn a1 a2 b1 b2 c1 c2).trans (by
      have m1 := okW_mul (inI_wrap (b1 - a1)) (inI_wrap (c2 - a2))
      have m2 := okW_mul (inI_wrap (b2 - a2)) (inI_wrap (c1 - a1))
      cases hA : plR a1 a2 with
      | false => exact vI (by unfold turnI; rw [hA]; rfl)
      | true =>
      cases hB : plR b1 b2 with
      | false => exact vI (by unfold turnI; rw [hA, hB]; rfl)
      | true =>
      cases hC : plR c1 c2 with
      | false => exact vI (by unfold turnI; rw [hA, hB, hC]; rfl)
      | true =>
        rw [← turnI_wrap (show (plR a1 a2 && (plR b1 b2 && plR c1 c2)) = true by rw [hA, hB, hC]; rfl)]
        have i1 : inI (wI (b1 - a1)) = true := inI_wrap _
        have i2 : inI (wI (c2 - a2)) = true := inI_wrap _
        have i3 : inI (wI (b2 - a2)) = true := inI_wrap _
        have i4 : inI (wI (c1 - a1)) = true := inI_wrap _
        have p1 : pHi (wI (b1 - a1) * wI (c2 - a2)) = hiW (wI (b1 - a1) * wI (c2 - a2)) ∧ pLo (wI (b1 - a1) * wI (c2 - a2)) = loW (wI (b1 - a1) * wI (c2 - a2)) := p_ok m1
        have p2 : pHi (wI (b2 - a2) * wI (c1 - a1)) = hiW (wI (b2 - a2) * wI (c1 - a1)) ∧ pLo (wI (b2 - a2) * wI (c1 - a1)) = loW (wI (b2 - a2) * wI (c1 - a1)) := p_ok m2
        have w1 : wv (hiW (wI (b1 - a1) * wI (c2 - a2))) (loW (wI (b1 - a1) * wI (c2 - a2))) = wI (b1 - a1) * wI (c2 - a2) := (wv_Wn m1).1
        have w2 : wv (hiW (wI (b2 - a2) * wI (c1 - a1))) (loW (wI (b2 - a2) * wI (c1 - a1))) = wI (b2 - a2) * wI (c1 - a1) := (wv_Wn m2).1
        rw [p1.1, p1.2, p2.1, p2.2, i1, i2, i3, i4, inW_Wn, inW_Wn, w1, w2]
        rfl)
  · cases h
noncomputable def ΓP9 : Orc := addVal 65 gRTurn ΓP8
theorem OkP9 : ΓP9.Ok Try.prog := addVal_ok OkP8 gRTurn_ok
set_option maxRecDepth 20000 in
theorem runROn (p1 p2 a1 a2 b1 b2 : Int) : runG ΓP9 L0 Try.prog Try.f60 [.v (.agg #[I p1, I p2]), .v (.agg #[I a1, I a2]), .v (.agg #[I b1, I b2])] M0 = 
    (bif !plR a1 a2 then some (.v (Bo false), M0) else (bif !plR b1 b2 then some (.v (Bo false), M0) else (bif !plR p1 p2 then some (.v (Bo false), M0) else (bif turnI a1 a2 b1 b2 p1 p2 != (0 : Int) then some (.v (Bo false), M0) else (bif decide (p1 ≥ if b1 < a1 then b1 else a1) then (bif decide (p1 ≤ if b1 > a1 then b1 else a1) then (bif decide (p2 ≥ if b2 < a2 then b2 else a2) then some (.v (Bo (decide (p2 ≤ if b2 > a2 then b2 else a2))), M0) else some (.v (Bo false), M0)) else some (.v (Bo false), M0)) else some (.v (Bo false), M0)))))) := by kernel_rfl
def gROn (vs : List Value) : Option (Bool × Value) :=
  match vs with
  | [.agg ⟨[.int .i64 p1, .int .i64 p2]⟩, .agg ⟨[.int .i64 a1, .int .i64 a2]⟩, .agg ⟨[.int .i64 b1, .int .i64 b2]⟩] => some (true, Bo (onB p1 p2 a1 a2 b1 b2))
  | _ => none
theorem gROn_ok : ∀ vs r, gROn vs = some (true, r) → ∀ m, CallOk Try.prog 60 (vs.map .v) m (.v r) m := by
  intro vs r h
  unfold gROn at h
  split at h
  · rename_i p1 p2 a1 a2 b1 b2
    obtain ⟨h1, rfl⟩ := some_t h
    refine runV (vs := [.agg #[I p1, I p2], .agg #[I a1, I a2], .agg #[I b1, I b2]]) (Λ := L0) (m' := M0) OkP9 Try.func60 rfl (fun z _ _ => l0Ok' _ z) ?_
    exact (runROn p1 p2 a1 a2 b1 b2).trans (by
      unfold onB btw
      cases plR a1 a2
      · cases plR p1 p2 <;> rfl
      cases plR b1 b2
      · cases plR p1 p2 <;> rfl
      cases plR p1 p2
      · rfl
      by_cases ht : turnI a1 a2 b1 b2 p1 p2 = 0
      · rw [ht]
        have e1 : decide (p1 ≥ if b1 < a1 then b1 else a1) = decide ((if b1 < a1 then b1 else a1) ≤ p1) := rfl
        have e2 : decide (p2 ≥ if b2 < a2 then b2 else a2) = decide ((if b2 < a2 then b2 else a2) ≤ p2) := rfl
        rw [e1, e2]
        cases decide ((if b1 < a1 then b1 else a1) ≤ p1) <;> cases decide (p1 ≤ if b1 > a1 then b1 else a1) <;> cases decide ((if b2 < a2 then b2 else a2) ≤ p2) <;> rfl
      · rw [bne_iff_ne.2 ht, beq_eq_false_iff_ne.2 ht]
        rfl)
  · cases h
noncomputable def ΓP10 : Orc := addVal 60 gROn ΓP9
theorem OkP10 : ΓP10.Ok Try.prog := addVal_ok OkP9 gROn_ok
set_option maxRecDepth 20000 in
theorem runRMeet (a1 a2 b1 b2 c1 c2 d1 d2 : Int) : runG ΓP10 L0 Try.prog Try.f61 [.v (.agg #[I a1, I a2]), .v (.agg #[I b1, I b2]), .v (.agg #[I c1, I c2]), .v (.agg #[I d1, I d2])] M0 = 
    (bif !plR a1 a2 then some (.v (Bo false), M0) else (bif !plR b1 b2 then some (.v (Bo false), M0) else (bif !plR c1 c2 then some (.v (Bo false), M0) else (bif !plR d1 d2 then some (.v (Bo false), M0) else (bif onB a1 a2 c1 c2 d1 d2 then some (.v (Bo true), M0) else (bif onB b1 b2 c1 c2 d1 d2 then some (.v (Bo true), M0) else (bif onB c1 c2 a1 a2 b1 b2 then some (.v (Bo true), M0) else (bif onB d1 d2 a1 a2 b1 b2 then some (.v (Bo true), M0) else (bif decide (wI (turnI a1 a2 b1 b2 c1 c2 * turnI a1 a2 b1 b2 d1 d2) < (0 : Int)) then some (.v (Bo (decide (wI (turnI c1 c2 d1 d2 a1 a2 * turnI c1 c2 d1 d2 b1 b2) < (0 : Int)))), M0) else some (.v (Bo false), M0)))))))))) := by kernel_rfl
def gRMeet (vs : List Value) : Option (Bool × Value) :=
  match vs with
  | [.agg ⟨[.int .i64 a1, .int .i64 a2]⟩, .agg ⟨[.int .i64 b1, .int .i64 b2]⟩, .agg ⟨[.int .i64 c1, .int .i64 c2]⟩, .agg ⟨[.int .i64 d1, .int .i64 d2]⟩] => some (true, Bo (meetB a1 a2 b1 b2 c1 c2 d1 d2))
  | _ => none
theorem gRMeet_ok : ∀ vs r, gRMeet vs = some (true, r) → ∀ m, CallOk Try.prog 61 (vs.map .v) m (.v r) m := by
  intro vs r h
  unfold gRMeet at h
  split at h
  · rename_i a1 a2 b1 b2 c1 c2 d1 d2
    obtain ⟨h1, rfl⟩ := some_t h
    refine runV (vs := [.agg #[I a1, I a2], .agg #[I b1, I b2], .agg #[I c1, I c2], .agg #[I d1, I d2]]) (Λ := L0) (m' := M0) OkP10 Try.func61 rfl (fun z _ _ => l0Ok' _ z) ?_
    exact (runRMeet a1 a2 b1 b2 c1 c2 d1 d2).trans (by
      unfold meetB crossB
      cases plR a1 a2
      · rfl
      cases plR b1 b2
      · rfl
      cases plR c1 c2
      · rfl
      cases plR d1 d2
      · rfl
      cases onB a1 a2 c1 c2 d1 d2
      · cases onB b1 b2 c1 c2 d1 d2
        · cases onB c1 c2 a1 a2 b1 b2
          · cases onB d1 d2 a1 a2 b1 b2
            · cases decide (wI (turnI a1 a2 b1 b2 c1 c2 * turnI a1 a2 b1 b2 d1 d2) < 0) <;> rfl
            · rfl
          · rfl
        · rfl
      · rfl)
  · cases h
noncomputable def ΓP11 : Orc := addVal 61 gRMeet ΓP10
theorem OkP11 : ΓP11.Ok Try.prog := addVal_ok OkP10 gRMeet_ok
noncomputable def ΓPt : Orc := ΓP11
theorem OkPt : ΓPt.Ok Try.prog := OkP11
end Go.Proofs.Ytcjkkfhdnealpaa

namespace Go.Proofs.Ytcjkkfhdnealpaa
open Go Go.Proofs Go.Sx
set_option linter.unusedVariables false
/-! norm -/
/-! cast -/
/-! Roots. -/
noncomputable def ΓT2 : Orc := ΓPt
theorem OkT2 : ΓT2.Ok Try.prog := OkPt
/-! fix.Sqrt -/
noncomputable def ΓT3 : Orc := ΓT2
theorem OkT3 : ΓT3.Ok Try.prog := OkT2
noncomputable def ΓT4 : Orc := ΓT3
theorem OkT4 : ΓT4.Ok Try.prog := OkT3
def clI (n lo hi : Int) : Int := bif decide (n < lo) then lo else bif decide (n > hi) then hi else n
set_option maxRecDepth 20000 in
theorem runFClamp (n lo hi : Int) : runG ΓT4 L0 Try.prog Try.f84 [.v (I n), .v (I lo), .v (I hi)] M0 = 
    (bif decide (n < lo) then some (.v (I lo), M0) else (bif decide (n > hi) then some (.v (I hi), M0) else some (.v (I n), M0))) := by kernel_rfl
def gFClamp (vs : List Value) : Option (Bool × Value) :=
  match vs with
  | [.int .i64 n, .int .i64 lo, .int .i64 hi] => some (true, I (clI n lo hi))
  | _ => none
theorem gFClamp_ok : ∀ vs r, gFClamp vs = some (true, r) → ∀ m, CallOk Try.prog 84 (vs.map .v) m (.v r) m := by
  intro vs r h
  unfold gFClamp at h
  split at h
  · rename_i n lo hi
    obtain ⟨h1, rfl⟩ := some_t h
    refine runV (vs := [I n, I lo, I hi]) (Λ := L0) (m' := M0) OkT4 Try.func84 rfl (fun z _ _ => l0Ok' _ z) ?_
    exact (runFClamp n lo hi).trans (by
      unfold clI
      cases decide (n < lo) <;> cases decide (n > hi) <;> rfl)
  · cases h
noncomputable def ΓT5 : Orc := addVal 84 gFClamp ΓT4
theorem OkT5 : ΓT5.Ok Try.prog := addVal_ok OkT4 gFClamp_ok
/-! The document's root. -/
noncomputable def ΓRt : Orc := ΓT5
theorem OkRt : ΓRt.Ok Try.prog := OkT5
end Go.Proofs.Ytcjkkfhdnealpaa

namespace Go.Proofs.Ytcjkkfhdnealpaa
open Go Go.Proofs Go.Sx
set_option linter.unusedVariables false
/-! norm -/
/-! cast -/
/-! Falls. -/
noncomputable def ΓA1 : Orc := ΓRt
theorem OkA1 : ΓA1.Ok Try.prog := OkRt
noncomputable def ΓA2 : Orc := ΓA1
theorem OkA2 : ΓA2.Ok Try.prog := OkA1
noncomputable def ΓA3 : Orc := ΓA2
theorem OkA3 : ΓA3.Ok Try.prog := OkA2
noncomputable def ΓA4 : Orc := ΓA3
theorem OkA4 : ΓA4.Ok Try.prog := OkA3
noncomputable def ΓA5 : Orc := ΓA4
theorem OkA5 : ΓA5.Ok Try.prog := OkA4
noncomputable def ΓA6 : Orc := ΓA5
theorem OkA6 : ΓA6.Ok Try.prog := OkA5
noncomputable def ΓA7 : Orc := ΓA6
theorem OkA7 : ΓA7.Ok Try.prog := OkA6
noncomputable def ΓA8 : Orc := ΓA7
theorem OkA8 : ΓA8.Ok Try.prog := OkA7
noncomputable def ΓA9 : Orc := ΓA8
theorem OkA9 : ΓA9.Ok Try.prog := OkA8
noncomputable def ΓA10 : Orc := ΓA9
theorem OkA10 : ΓA10.Ok Try.prog := OkA9
noncomputable def ΓA11 : Orc := ΓA10
theorem OkA11 : ΓA11.Ok Try.prog := OkA10
noncomputable def ΓFa : Orc := ΓA11
theorem OkFa : ΓFa.Ok Try.prog := OkA11
end Go.Proofs.Ytcjkkfhdnealpaa

namespace Go.Proofs.Ytcjkkfhdnealpaa
open Go Go.Proofs Go.Sx
set_option linter.unusedVariables false
/-! norm -/
/-! cast -/
/-! Boxes, as far as impacts have them. -/
def ofG (x y n : Int) : Bool := decide (0 ≤ n ∧ n ≤ 4096) && (decide (-1099511623680 ≤ x ∧ x ≤ 1099511623680) && decide (-1099511623680 ≤ y ∧ y ≤ 1099511623680))
def boR (a b c d : Int) : Bool := plR a b && (plR c d && (decide (a ≤ c) && decide (b ≤ d)))
def hasB (a b c d x y : Int) : Bool := boR a b c d && (plR x y && (decide (x ≥ a) && (decide (x ≤ c) && (decide (y ≥ b) && decide (y ≤ d)))))
def inBx (a b c d a' b' c' d' : Int) : Bool := boR a b c d && (hasB a' b' c' d' a b && hasB a' b' c' d' c d)
theorem boR_iff {a b c d : Int} : boR a b c d = true ↔ plR a b = true ∧ plR c d = true ∧ a ≤ c ∧ b ≤ d := by
  unfold boR
  simp only [Bool.and_eq_true, decide_eq_true_eq]
theorem hasB_iff {a b c d x y : Int} : hasB a b c d x y = true ↔ boR a b c d = true ∧ plR x y = true ∧ a ≤ x ∧ x ≤ c ∧ b ≤ y ∧ y ≤ d := by
  unfold hasB
  simp only [Bool.and_eq_true, decide_eq_true_eq]
theorem ofG_iff {x y n : Int} : ofG x y n = true ↔ (0 ≤ n ∧ n ≤ 4096) ∧ (-1099511623680 ≤ x ∧ x ≤ 1099511623680) ∧ (-1099511623680 ≤ y ∧ y ≤ 1099511623680) := by
  unfold ofG
  simp only [Bool.and_eq_true, decide_eq_true_eq]
theorem clI_in {n lo hi : Int} (h1 : lo ≤ n) (h2 : n ≤ hi) : clI n lo hi = n := by
  unfold clI
  rw [decide_eq_false (show ¬ n < lo by omega), decide_eq_false (show ¬ n > hi by omega)]
  rfl

set_option maxRecDepth 20000 in
theorem runBRt (a : Int) (b : Int) (c : Int) (d : Int) : runG ΓFa L0 Try.prog Try.f39 [.v (.agg #[I a, I b, I c, I d])] M0 = 
    (bif plR a b then (bif plR c d then (bif decide (a ≤ c) then some (.v (Bo (decide (b ≤ d))), M0) else some (.v (Bo false), M0)) else some (.v (Bo false), M0)) else some (.v (Bo false), M0)) := by kernel_rfl
def gBRt (vs : List Value) : Option (Bool × Value) :=
  match vs with
  | [.agg ⟨[.int .i64 a, .int .i64 b, .int .i64 c, .int .i64 d]⟩] => some (true, Bo (boR a b c d))
  | _ => none
theorem gBRt_ok : ∀ vs r, gBRt vs = some (true, r) → ∀ m, CallOk Try.prog 39 (vs.map .v) m (.v r) m := by
  intro vs r h
  unfold gBRt at h
  split at h
  · rename_i a b c d
    obtain ⟨h1, rfl⟩ := some_t h
    refine runV (vs := [.agg #[I a, I b, I c, I d]]) (Λ := L0) (m' := M0) OkFa Try.func39 rfl (fun z _ _ => l0Ok' _ z) ?_
    exact (runBRt a b c d).trans (by unfold boR; cases plR a b <;> cases plR c d <;> cases decide (a ≤ c) <;> rfl)
  · cases h
noncomputable def ΓB1 : Orc := addVal 39 gBRt ΓFa
theorem OkB1 : ΓB1.Ok Try.prog := addVal_ok OkFa gBRt_ok
set_option maxRecDepth 20000 in
theorem runRBRt (a : Int) (b : Int) (c : Int) (d : Int) : runG ΓB1 L0 Try.prog Try.f40 [.v (.agg #[I a, I b, I c, I d])] M0 = 
    (bif plR a b then (bif plR c d then (bif decide (a ≤ c) then some (.v (Bo (decide (b ≤ d))), M0) else some (.v (Bo false), M0)) else some (.v (Bo false), M0)) else some (.v (Bo false), M0)) := by kernel_rfl
def gRBRt (vs : List Value) : Option (Bool × Value) :=
  match vs with
  | [.agg ⟨[.int .i64 a, .int .i64 b, .int .i64 c, .int .i64 d]⟩] => some (true, Bo (boR a b c d))
  | _ => none
theorem gRBRt_ok : ∀ vs r, gRBRt vs = some (true, r) → ∀ m, CallOk Try.prog 40 (vs.map .v) m (.v r) m := by
  intro vs r h
  unfold gRBRt at h
  split at h
  · rename_i a b c d
    obtain ⟨h1, rfl⟩ := some_t h
    refine runV (vs := [.agg #[I a, I b, I c, I d]]) (Λ := L0) (m' := M0) OkB1 Try.func40 rfl (fun z _ _ => l0Ok' _ z) ?_
    exact (runRBRt a b c d).trans (by unfold boR; cases plR a b <;> cases plR c d <;> cases decide (a ≤ c) <;> rfl)
  · cases h
noncomputable def ΓB2 : Orc := addVal 40 gRBRt ΓB1
theorem OkB2 : ΓB2.Ok Try.prog := addVal_ok OkB1 gRBRt_ok
set_option maxRecDepth 20000 in
theorem runRBHas (a : Int) (b : Int) (c : Int) (d : Int) (x : Int) (y : Int) : runG ΓB2 L0 Try.prog Try.f43 [.v (.agg #[I a, I b, I c, I d]), .v (.agg #[I x, I y])] M0 = 
    (bif boR a b c d then (bif plR x y then (bif decide (x ≥ a) then (bif decide (x ≤ c) then (bif decide (y ≥ b) then some (.v (Bo (decide (y ≤ d))), M0) else some (.v (Bo false), M0)) else some (.v (Bo false), M0)) else some (.v (Bo false), M0)) else some (.v (Bo false), M0)) else some (.v (Bo false), M0)) := by kernel_rfl
def gRBHas (vs : List Value) : Option (Bool × Value) :=
  match vs with
  | [.agg ⟨[.int .i64 a, .int .i64 b, .int .i64 c, .int .i64 d]⟩, .agg ⟨[.int .i64 x, .int .i64 y]⟩] => some (true, Bo (hasB a b c d x y))
  | _ => none
theorem gRBHas_ok : ∀ vs r, gRBHas vs = some (true, r) → ∀ m, CallOk Try.prog 43 (vs.map .v) m (.v r) m := by
  intro vs r h
  unfold gRBHas at h
  split at h
  · rename_i a b c d x y
    obtain ⟨h1, rfl⟩ := some_t h
    refine runV (vs := [.agg #[I a, I b, I c, I d], .agg #[I x, I y]]) (Λ := L0) (m' := M0) OkB2 Try.func43 rfl (fun z _ _ => l0Ok' _ z) ?_
    exact (runRBHas a b c d x y).trans (by unfold hasB; cases boR a b c d <;> cases plR x y <;> cases decide (x ≥ a) <;> cases decide (x ≤ c) <;> cases decide (y ≥ b) <;> rfl)
  · cases h
noncomputable def ΓB3 : Orc := addVal 43 gRBHas ΓB2
theorem OkB3 : ΓB3.Ok Try.prog := addVal_ok OkB2 gRBHas_ok
set_option maxRecDepth 20000 in
theorem runRBIn (a : Int) (b : Int) (c : Int) (d : Int) (a' : Int) (b' : Int) (c' : Int) (d' : Int) : runG ΓB3 L0 Try.prog Try.f45 [.v (.agg #[I a, I b, I c, I d]), .v (.agg #[I a', I b', I c', I d'])] M0 = 
    (bif boR a b c d then (bif hasB a' b' c' d' a b then some (.v (Bo (hasB a' b' c' d' c d)), M0) else some (.v (Bo false), M0)) else some (.v (Bo false), M0)) := by kernel_rfl
def gRBIn (vs : List Value) : Option (Bool × Value) :=
  match vs with
  | [.agg ⟨[.int .i64 a, .int .i64 b, .int .i64 c, .int .i64 d]⟩, .agg ⟨[.int .i64 a', .int .i64 b', .int .i64 c', .int .i64 d']⟩] => some (true, Bo (inBx a b c d a' b' c' d'))
  | _ => none
theorem gRBIn_ok : ∀ vs r, gRBIn vs = some (true, r) → ∀ m, CallOk Try.prog 45 (vs.map .v) m (.v r) m := by
  intro vs r h
  unfold gRBIn at h
  split at h
  · rename_i a b c d a' b' c' d'
    obtain ⟨h1, rfl⟩ := some_t h
    refine runV (vs := [.agg #[I a, I b, I c, I d], .agg #[I a', I b', I c', I d']]) (Λ := L0) (m' := M0) OkB3 Try.func45 rfl (fun z _ _ => l0Ok' _ z) ?_
    exact (runRBIn a b c d a' b' c' d').trans (by unfold inBx; cases boR a b c d <;> cases hasB a' b' c' d' a b <;> rfl)
  · cases h
noncomputable def ΓB4 : Orc := addVal 45 gRBIn ΓB3
theorem OkB4 : ΓB4.Ok Try.prog := addVal_ok OkB3 gRBIn_ok
set_option maxRecDepth 20000 in
theorem runBHd (x : Int) (y : Int) : runG ΓB4 L0 Try.prog Try.f85 [.v (I x), .v (I y)] M0 = 
    some (.v (.agg #[(I (clI x (-1099511627776 : Int) (1099511627776 : Int))), (I (clI y (-1099511627776 : Int) (1099511627776 : Int)))]), M0) := by kernel_rfl
def gBHd (vs : List Value) : Option (Bool × Value) :=
  match vs with
  | [.int .i64 x, .int .i64 y] => some (true, .agg #[I (clI x (-1099511627776) 1099511627776), I (clI y (-1099511627776) 1099511627776)])
  | _ => none
theorem gBHd_ok : ∀ vs r, gBHd vs = some (true, r) → ∀ m, CallOk Try.prog 85 (vs.map .v) m (.v r) m := by
  intro vs r h
  unfold gBHd at h
  split at h
  · rename_i x y
    obtain ⟨h1, rfl⟩ := some_t h
    refine runV (vs := [I x, I y]) (Λ := L0) (m' := M0) OkB4 Try.func85 rfl (fun z _ _ => l0Ok' _ z) ?_
    exact (runBHd x y).trans (rfl)
  · cases h
noncomputable def ΓB5 : Orc := addVal 85 gBHd ΓB4
theorem OkB5 : ΓB5.Ok Try.prog := addVal_ok OkB4 gBHd_ok
set_option maxRecDepth 20000 in
theorem runBOf (x : Int) (y : Int) (n : Int) : runG ΓB5 L0 Try.prog Try.f41 [.v (.agg #[I x, I y]), .v (I n)] M0 = 
    (bif !plR x y then some (.v (.agg #[(I 0), (I 0), (I 0), (I 0)]), M0) else some (.v (.agg #[(I (clI (wI (x - clI n (0 : Int) (2199023255552 : Int))) (-1099511627776 : Int) (1099511627776 : Int))), (I (clI (wI (y - clI n (0 : Int) (2199023255552 : Int))) (-1099511627776 : Int) (1099511627776 : Int))), (I (clI (wI (x + clI n (0 : Int) (2199023255552 : Int))) (-1099511627776 : Int) (1099511627776 : Int))), (I (clI (wI (y + clI n (0 : Int) (2199023255552 : Int))) (-1099511627776 : Int) (1099511627776 : Int)))]), M0)) := by kernel_rfl
def gBOf (vs : List Value) : Option (Bool × Value) :=
  match vs with
  | [.agg ⟨[.int .i64 x, .int .i64 y]⟩, .int .i64 n] => some (ofG x y n, .agg #[I (x - n), I (y - n), I (x + n), I (y + n)])
  | _ => none
theorem gBOf_ok : ∀ vs r, gBOf vs = some (true, r) → ∀ m, CallOk Try.prog 41 (vs.map .v) m (.v r) m := by
  intro vs r h
  unfold gBOf at h
  split at h
  · rename_i x y n
    obtain ⟨h1, rfl⟩ := some_t h
    refine runV (vs := [.agg #[I x, I y], I n]) (Λ := L0) (m' := M0) OkB5 Try.func41 rfl (fun z _ _ => l0Ok' _ z) ?_
    exact (runBOf x y n).trans (by
      obtain ⟨h2, h3, h4⟩ := ofG_iff.1 h1
      rw [plR_iff.2 (by omega), clI_in (n := n) (by omega) (by omega), wI_id (n := x - n) (by omega), wI_id (n := y - n) (by omega), wI_id (n := x + n) (by omega), wI_id (n := y + n) (by omega), clI_in (n := x - n) (by omega) (by omega), clI_in (n := y - n) (by omega) (by omega), clI_in (n := x + n) (by omega) (by omega), clI_in (n := y + n) (by omega) (by omega)]
      rfl)
  · cases h
noncomputable def ΓB6 : Orc := addVal 41 gBOf ΓB5
theorem OkB6 : ΓB6.Ok Try.prog := addVal_ok OkB5 gBOf_ok
set_option maxRecDepth 20000 in
theorem runBJn (a : Int) (b : Int) (c : Int) (d : Int) (a' : Int) (b' : Int) (c' : Int) (d' : Int) : runG ΓB6 L0 Try.prog Try.f46 [.v (.agg #[I a, I b, I c, I d]), .v (.agg #[I a', I b', I c', I d'])] M0 = 
    (bif boR a b c d then (bif boR a' b' c' d' then some (.v (.agg #[(I (if a' < a then a' else a)), (I (if b' < b then b' else b)), (I (if c' > c then c' else c)), (I (if d' > d then d' else d))]), M0) else (bif boR a b c d then some (.v (.agg #[(I a), (I b), (I c), (I d)]), M0) else (bif boR a' b' c' d' then some (.v (.agg #[(I a'), (I b'), (I c'), (I d')]), M0) else some (.v (.agg #[(I 0), (I 0), (I 0), (I 0)]), M0)))) else (bif boR a b c d then some (.v (.agg #[(I a), (I b), (I c), (I d)]), M0) else (bif boR a' b' c' d' then some (.v (.agg #[(I a'), (I b'), (I c'), (I d')]), M0) else some (.v (.agg #[(I 0), (I 0), (I 0), (I 0)]), M0)))) := by kernel_rfl
def gBJn (vs : List Value) : Option (Bool × Value) :=
  match vs with
  | [.agg ⟨[.int .i64 a, .int .i64 b, .int .i64 c, .int .i64 d]⟩, .agg ⟨[.int .i64 a', .int .i64 b', .int .i64 c', .int .i64 d']⟩] => some (boR a b c d && boR a' b' c' d', Value.agg #[I (mn a a'), I (mn b b'), I (mx c c'), I (mx d d')])
  | _ => none
theorem gBJn_ok : ∀ vs r, gBJn vs = some (true, r) → ∀ m, CallOk Try.prog 46 (vs.map .v) m (.v r) m := by
  intro vs r h
  unfold gBJn at h
  split at h
  · rename_i a b c d a' b' c' d'
    obtain ⟨h1, rfl⟩ := some_t h
    refine runV (vs := [.agg #[I a, I b, I c, I d], .agg #[I a', I b', I c', I d']]) (Λ := L0) (m' := M0) OkB6 Try.func46 rfl (fun z _ _ => l0Ok' _ z) ?_
    exact (runBJn a b c d a' b' c' d').trans (by
      rw [Bool.and_eq_true] at h1
      rw [h1.1, h1.2]
      rfl)
  · cases h
noncomputable def ΓB7 : Orc := addVal 46 gBJn ΓB6
theorem OkB7 : ΓB7.Ok Try.prog := addVal_ok OkB6 gBJn_ok
noncomputable def ΓB8 : Orc := ΓB7
theorem OkB8 : ΓB8.Ok Try.prog := OkB7
noncomputable def ΓB9 : Orc := ΓB8
theorem OkB9 : ΓB9.Ok Try.prog := OkB8
noncomputable def ΓB10 : Orc := ΓB9
theorem OkB10 : ΓB10.Ok Try.prog := OkB9
noncomputable def ΓB11 : Orc := ΓB10
theorem OkB11 : ΓB11.Ok Try.prog := OkB10
noncomputable def ΓBx : Orc := ΓB11
theorem OkBx : ΓBx.Ok Try.prog := OkB11
end Go.Proofs.Ytcjkkfhdnealpaa

namespace Go.Proofs.Ytcjkkfhdnealpaa
open Go Go.Proofs Go.Sx
set_option linter.unusedVariables false
/-! norm -/
/-! cast -/
/-! Boxes, whatever they are. -/
def oLo (x y n c : Int) : Int := bif plR x y then clI (wI (c - clI n 0 2199023255552)) (-1099511627776) 1099511627776 else 0
def oHi (x y n c : Int) : Int := bif plR x y then clI (wI (c + clI n 0 2199023255552)) (-1099511627776) 1099511627776 else 0
def pick (A B : Bool) (m x y : Int) : Int := bif A && B then m else bif A then x else bif B then y else 0
def jn1 (a b c d a' b' c' d' : Int) : Int := pick (boR a b c d) (boR a' b' c' d') (mn a a') a a'
def jn2 (a b c d a' b' c' d' : Int) : Int := pick (boR a b c d) (boR a' b' c' d') (mn b b') b b'
def jn3 (a b c d a' b' c' d' : Int) : Int := pick (boR a b c d) (boR a' b' c' d') (mx c c') c c'
def jn4 (a b c d a' b' c' d' : Int) : Int := pick (boR a b c d) (boR a' b' c' d') (mx d d') d d'
theorem inC_eq (a b c d a' b' c' d' : Int) : (boR a b c d && (boR a' b' c' d' && (decide (a' ≤ a) && (decide (b' ≤ b) && (decide (c ≤ c') && decide (d ≤ d')))))) = inBx a b c d a' b' c' d' := by
  rw [Bool.eq_iff_iff]
  unfold inBx
  simp only [Bool.and_eq_true, decide_eq_true_eq, hasB_iff]
  constructor
  · rintro ⟨h1, h2, h3, h4, h5, h6⟩
    obtain ⟨p1, p2, p3, p4⟩ := boR_iff.1 h1
    exact ⟨h1, ⟨h2, p1, h3, by omega, h4, by omega⟩, h2, p2, by omega, h5, by omega, h6⟩
  · rintro ⟨h1, ⟨h2, p1, h3, _, h4, _⟩, _, p2, _, h5, _, h6⟩
    exact ⟨h1, h2, h3, h4, h5, h6⟩
theorem inP_eq (a b c d x y : Int) : inBx x y x y a b c d = hasB a b c d x y := by
  rw [Bool.eq_iff_iff]
  unfold inBx
  simp only [Bool.and_eq_true, hasB_iff, boR_iff]
  constructor
  · rintro ⟨h1, h2, h3⟩
    exact h2
  · intro h
    exact ⟨⟨h.2.1, h.2.1, Int.le_refl _, Int.le_refl _⟩, h, h⟩
theorem hold_eq (n : Int) : (if 1099511627776 < (if (-1099511627776 : Int) > n then (-1099511627776 : Int) else n) then (1099511627776 : Int) else (if (-1099511627776 : Int) > n then (-1099511627776 : Int) else n)) = clI n (-1099511627776) 1099511627776 := by
  unfold clI
  by_cases h1 : n < -1099511627776
  · rw [decide_eq_true h1, if_pos (show (-1099511627776 : Int) > n from h1)]
    rfl
  · rw [decide_eq_false h1, if_neg (show ¬ (-1099511627776 : Int) > n from h1)]
    by_cases h2 : n > 1099511627776
    · rw [decide_eq_true h2, if_pos (show 1099511627776 < n from h2)]
      rfl
    · rw [decide_eq_false h2, if_neg (show ¬ 1099511627776 < n from h2)]
      rfl
def cap4 (n : Int) : Int := if (4398046511104 : Int) < (if (0 : Int) > n then (0 : Int) else n) then (4398046511104 : Int) else (if (0 : Int) > n then (0 : Int) else n)
theorem cap_eq {c : Int} (n : Int) (h : -1099511627776 ≤ c ∧ c ≤ 1099511627776) : clI (wI (c - cap4 n)) (-1099511627776) 1099511627776 = clI (wI (c - clI n 0 2199023255552)) (-1099511627776) 1099511627776 ∧ clI (wI (c + cap4 n)) (-1099511627776) 1099511627776 = clI (wI (c + clI n 0 2199023255552)) (-1099511627776) 1099511627776 := by
  have lo : ∀ m : Int, m ≤ -1099511627776 → clI m (-1099511627776) 1099511627776 = -1099511627776 := fun m hm => by
    unfold clI
    by_cases h1 : m < -1099511627776
    · rw [decide_eq_true h1]; rfl
    · rw [decide_eq_false h1, decide_eq_false (show ¬ m > 1099511627776 by omega)]
      show m = _
      omega
  have hi : ∀ m : Int, 1099511627776 ≤ m → clI m (-1099511627776) 1099511627776 = 1099511627776 := fun m hm => by
    unfold clI
    rw [decide_eq_false (show ¬ m < -1099511627776 by omega)]
    by_cases h1 : m > 1099511627776
    · rw [decide_eq_true h1]; rfl
    · rw [decide_eq_false h1]
      show m = _
      omega
  by_cases h0 : n < 0
  · have e1 : cap4 n = 0 := by unfold cap4; rw [if_pos (show (0 : Int) > n from h0), if_neg (by decide)]
    have e2 : clI n 0 2199023255552 = 0 := by unfold clI; rw [decide_eq_true h0]; rfl
    rw [e1, e2]
    exact ⟨rfl, rfl⟩
  · have e0 : (if (0 : Int) > n then (0 : Int) else n) = n := if_neg h0
    by_cases h1 : n ≤ 2199023255552
    · have e1 : cap4 n = n := by unfold cap4; rw [e0, if_neg (by omega)]
      have e2 : clI n 0 2199023255552 = n := clI_in (by omega) h1
      rw [e1, e2]
      exact ⟨rfl, rfl⟩
    · have e2 : clI n 0 2199023255552 = 2199023255552 := by unfold clI; rw [decide_eq_false h0, decide_eq_true (show n > 2199023255552 by omega)]; rfl
      have e1 : 2199023255552 ≤ cap4 n ∧ cap4 n ≤ 4398046511104 := by unfold cap4; rw [e0]; split <;> omega
      rw [e2, wI_id (n := c - cap4 n) (by omega), wI_id (n := c + cap4 n) (by omega), wI_id (n := c - 2199023255552) (by omega), wI_id (n := c + 2199023255552) (by omega), lo _ (by omega), lo _ (by omega), hi _ (by omega), hi _ (by omega)]
      exact ⟨rfl, rfl⟩
def grB (a b c d n : Int) : Bool := boR a b c d && (!decide (n < 0) && (moveB a b (0 - n) (0 - n) && moveB c d n n))
def grV (g : Bool) (x : Int) : Int := bif g then x else 0

set_option maxRecDepth 20000 in
theorem runUOf (x : Int) (y : Int) (n : Int) : runG ΓBx L0 Try.prog Try.f41 [.v (.agg #[I x, I y]), .v (I n)] M0 = 
    (bif !plR x y then some (.v (.agg #[(I 0), (I 0), (I 0), (I 0)]), M0) else some (.v (.agg #[(I (clI (wI (x - clI n (0 : Int) (2199023255552 : Int))) (-1099511627776 : Int) (1099511627776 : Int))), (I (clI (wI (y - clI n (0 : Int) (2199023255552 : Int))) (-1099511627776 : Int) (1099511627776 : Int))), (I (clI (wI (x + clI n (0 : Int) (2199023255552 : Int))) (-1099511627776 : Int) (1099511627776 : Int))), (I (clI (wI (y + clI n (0 : Int) (2199023255552 : Int))) (-1099511627776 : Int) (1099511627776 : Int)))]), M0)) := by kernel_rfl
def gUOf (vs : List Value) : Option (Bool × Value) :=
  match vs with
  | [.agg ⟨[.int .i64 x, .int .i64 y]⟩, .int .i64 n] => some (true, .agg #[I (oLo x y n x), I (oLo x y n y), I (oHi x y n x), I (oHi x y n y)])
  | _ => none
theorem gUOf_ok : ∀ vs r, gUOf vs = some (true, r) → ∀ m, CallOk Try.prog 41 (vs.map .v) m (.v r) m := by
  intro vs r h
  unfold gUOf at h
  split at h
  · rename_i x y n
    obtain ⟨h1, rfl⟩ := some_t h
    refine runV (vs := [.agg #[I x, I y], I n]) (Λ := L0) (m' := M0) OkBx Try.func41 rfl (fun z _ _ => l0Ok' _ z) ?_
    exact (runUOf x y n).trans (by unfold oLo oHi; cases plR x y <;> rfl)
  · cases h
noncomputable def ΓU1 : Orc := addVal 41 gUOf ΓBx
theorem OkU1 : ΓU1.Ok Try.prog := addVal_ok OkBx gUOf_ok
set_option maxRecDepth 20000 in
theorem runUHo (n : Int) : runG ΓU1 L0 Try.prog Try.f81 [.v (I n)] M0 = 
    some (.v (I (if (1099511627776 : Int) < if (-1099511627776 : Int) > n then (-1099511627776 : Int) else n then (1099511627776 : Int) else if (-1099511627776 : Int) > n then (-1099511627776 : Int) else n)), M0) := by kernel_rfl
def gUHo (vs : List Value) : Option (Bool × Value) :=
  match vs with
  | [.int .i64 n] => some (true, I (clI n (-1099511627776) 1099511627776))
  | _ => none
theorem gUHo_ok : ∀ vs r, gUHo vs = some (true, r) → ∀ m, CallOk Try.prog 81 (vs.map .v) m (.v r) m := by
  intro vs r h
  unfold gUHo at h
  split at h
  · rename_i n
    obtain ⟨h1, rfl⟩ := some_t h
    refine runV (vs := [I n]) (Λ := L0) (m' := M0) OkU1 Try.func81 rfl (fun z _ _ => l0Ok' _ z) ?_
    exact (runUHo n).trans (vI (hold_eq n))
  · cases h
noncomputable def ΓU2 : Orc := addVal 81 gUHo ΓU1
theorem OkU2 : ΓU2.Ok Try.prog := addVal_ok OkU1 gUHo_ok
set_option maxRecDepth 20000 in
theorem runRbOf (x : Int) (y : Int) (n : Int) : runG ΓU2 L0 Try.prog Try.f37 [.v (.agg #[I x, I y]), .v (I n)] M0 = 
    (bif !plR x y then some (.v (.agg #[(I 0), (I 0), (I 0), (I 0)]), M0) else some (.v (.agg #[(I (clI (wI (x - if (4398046511104 : Int) < if (0 : Int) > n then (0 : Int) else n then (4398046511104 : Int) else if (0 : Int) > n then (0 : Int) else n)) (-1099511627776 : Int) (1099511627776 : Int))), (I (clI (wI (y - if (4398046511104 : Int) < if (0 : Int) > n then (0 : Int) else n then (4398046511104 : Int) else if (0 : Int) > n then (0 : Int) else n)) (-1099511627776 : Int) (1099511627776 : Int))), (I (clI (wI (x + if (4398046511104 : Int) < if (0 : Int) > n then (0 : Int) else n then (4398046511104 : Int) else if (0 : Int) > n then (0 : Int) else n)) (-1099511627776 : Int) (1099511627776 : Int))), (I (clI (wI (y + if (4398046511104 : Int) < if (0 : Int) > n then (0 : Int) else n then (4398046511104 : Int) else if (0 : Int) > n then (0 : Int) else n)) (-1099511627776 : Int) (1099511627776 : Int)))]), M0)) := by kernel_rfl
def gRbOf (vs : List Value) : Option (Bool × Value) :=
  match vs with
  | [.agg ⟨[.int .i64 x, .int .i64 y]⟩, .int .i64 n] => some (true, .agg #[I (oLo x y n x), I (oLo x y n y), I (oHi x y n x), I (oHi x y n y)])
  | _ => none
theorem gRbOf_ok : ∀ vs r, gRbOf vs = some (true, r) → ∀ m, CallOk Try.prog 37 (vs.map .v) m (.v r) m := by
  intro vs r h
  unfold gRbOf at h
  split at h
  · rename_i x y n
    obtain ⟨h1, rfl⟩ := some_t h
    refine runV (vs := [.agg #[I x, I y], I n]) (Λ := L0) (m' := M0) OkU2 Try.func37 rfl (fun z _ _ => l0Ok' _ z) ?_
    exact (runRbOf x y n).trans (by
      unfold oLo oHi
      cases hp : plR x y
      · rfl
      · have h := plR_iff.1 hp
        have c1 := cap_eq (c := x) n (by omega)
        have c2 := cap_eq (c := y) n (by omega)
        unfold cap4 at c1 c2
        simp only [Bool.not_true, cond_true, cond_false]
        rw [c1.1, c1.2, c2.1, c2.2])
  · cases h
noncomputable def ΓU3 : Orc := addVal 37 gRbOf ΓU2
theorem OkU3 : ΓU3.Ok Try.prog := addVal_ok OkU2 gRbOf_ok
set_option maxRecDepth 20000 in
theorem runUJn (a : Int) (b : Int) (c : Int) (d : Int) (a' : Int) (b' : Int) (c' : Int) (d' : Int) : runG ΓU3 L0 Try.prog Try.f46 [.v (.agg #[I a, I b, I c, I d]), .v (.agg #[I a', I b', I c', I d'])] M0 = 
    (bif boR a b c d then (bif boR a' b' c' d' then some (.v (.agg #[(I (if a' < a then a' else a)), (I (if b' < b then b' else b)), (I (if c' > c then c' else c)), (I (if d' > d then d' else d))]), M0) else (bif boR a b c d then some (.v (.agg #[(I a), (I b), (I c), (I d)]), M0) else (bif boR a' b' c' d' then some (.v (.agg #[(I a'), (I b'), (I c'), (I d')]), M0) else some (.v (.agg #[(I 0), (I 0), (I 0), (I 0)]), M0)))) else (bif boR a b c d then some (.v (.agg #[(I a), (I b), (I c), (I d)]), M0) else (bif boR a' b' c' d' then some (.v (.agg #[(I a'), (I b'), (I c'), (I d')]), M0) else some (.v (.agg #[(I 0), (I 0), (I 0), (I 0)]), M0)))) := by kernel_rfl
def gUJn (vs : List Value) : Option (Bool × Value) :=
  match vs with
  | [.agg ⟨[.int .i64 a, .int .i64 b, .int .i64 c, .int .i64 d]⟩, .agg ⟨[.int .i64 a', .int .i64 b', .int .i64 c', .int .i64 d']⟩] => some (true, Value.agg #[I (jn1 a b c d a' b' c' d'), I (jn2 a b c d a' b' c' d'), I (jn3 a b c d a' b' c' d'), I (jn4 a b c d a' b' c' d')])
  | _ => none
theorem gUJn_ok : ∀ vs r, gUJn vs = some (true, r) → ∀ m, CallOk Try.prog 46 (vs.map .v) m (.v r) m := by
  intro vs r h
  unfold gUJn at h
  split at h
  · rename_i a b c d a' b' c' d'
    obtain ⟨h1, rfl⟩ := some_t h
    refine runV (vs := [.agg #[I a, I b, I c, I d], .agg #[I a', I b', I c', I d']]) (Λ := L0) (m' := M0) OkU3 Try.func46 rfl (fun z _ _ => l0Ok' _ z) ?_
    exact (runUJn a b c d a' b' c' d').trans (by unfold jn1 jn2 jn3 jn4 pick; cases boR a b c d <;> cases boR a' b' c' d' <;> rfl)
  · cases h
noncomputable def ΓU4 : Orc := addVal 46 gUJn ΓU3
theorem OkU4 : ΓU4.Ok Try.prog := addVal_ok OkU3 gUJn_ok
set_option maxRecDepth 20000 in
theorem runRJn (a : Int) (b : Int) (c : Int) (d : Int) (a' : Int) (b' : Int) (c' : Int) (d' : Int) : runG ΓU4 L0 Try.prog Try.f47 [.v (.agg #[I a, I b, I c, I d]), .v (.agg #[I a', I b', I c', I d'])] M0 = 
    (bif !boR a b c d then (bif !boR a' b' c' d' then some (.v (.agg #[(I 0), (I 0), (I 0), (I 0)]), M0) else (bif !boR a b c d then some (.v (.agg #[(I a'), (I b'), (I c'), (I d')]), M0) else (bif !boR a' b' c' d' then some (.v (.agg #[(I a), (I b), (I c), (I d)]), M0) else some (.v (.agg #[(I (if a' < a then a' else a)), (I (if b' < b then b' else b)), (I (if c' > c then c' else c)), (I (if d' > d then d' else d))]), M0)))) else (bif !boR a b c d then some (.v (.agg #[(I a'), (I b'), (I c'), (I d')]), M0) else (bif !boR a' b' c' d' then some (.v (.agg #[(I a), (I b), (I c), (I d)]), M0) else some (.v (.agg #[(I (if a' < a then a' else a)), (I (if b' < b then b' else b)), (I (if c' > c then c' else c)), (I (if d' > d then d' else d))]), M0)))) := by kernel_rfl
def gRJn (vs : List Value) : Option (Bool × Value) :=
  match vs with
  | [.agg ⟨[.int .i64 a, .int .i64 b, .int .i64 c, .int .i64 d]⟩, .agg ⟨[.int .i64 a', .int .i64 b', .int .i64 c', .int .i64 d']⟩] => some (true, Value.agg #[I (jn1 a b c d a' b' c' d'), I (jn2 a b c d a' b' c' d'), I (jn3 a b c d a' b' c' d'), I (jn4 a b c d a' b' c' d')])
  | _ => none
theorem gRJn_ok : ∀ vs r, gRJn vs = some (true, r) → ∀ m, CallOk Try.prog 47 (vs.map .v) m (.v r) m := by
  intro vs r h
  unfold gRJn at h
  split at h
  · rename_i a b c d a' b' c' d'
    obtain ⟨h1, rfl⟩ := some_t h
    refine runV (vs := [.agg #[I a, I b, I c, I d], .agg #[I a', I b', I c', I d']]) (Λ := L0) (m' := M0) OkU4 Try.func47 rfl (fun z _ _ => l0Ok' _ z) ?_
    exact (runRJn a b c d a' b' c' d').trans (by unfold jn1 jn2 jn3 jn4 pick; cases boR a b c d <;> cases boR a' b' c' d' <;> rfl)
  · cases h
noncomputable def ΓU5 : Orc := addVal 47 gRJn ΓU4
theorem OkU5 : ΓU5.Ok Try.prog := addVal_ok OkU4 gRJn_ok
set_option maxRecDepth 20000 in
theorem runUIn (a : Int) (b : Int) (c : Int) (d : Int) (a' : Int) (b' : Int) (c' : Int) (d' : Int) : runG ΓU5 L0 Try.prog Try.f44 [.v (.agg #[I a, I b, I c, I d]), .v (.agg #[I a', I b', I c', I d'])] M0 = 
    (bif !boR a b c d then some (.v (Bo false), M0) else (bif !boR a' b' c' d' then some (.v (Bo false), M0) else (bif decide (a' ≤ a) then (bif decide (b' ≤ b) then (bif decide (c ≤ c') then some (.v (Bo (decide (d ≤ d'))), M0) else some (.v (Bo false), M0)) else some (.v (Bo false), M0)) else some (.v (Bo false), M0)))) := by kernel_rfl
def gUIn (vs : List Value) : Option (Bool × Value) :=
  match vs with
  | [.agg ⟨[.int .i64 a, .int .i64 b, .int .i64 c, .int .i64 d]⟩, .agg ⟨[.int .i64 a', .int .i64 b', .int .i64 c', .int .i64 d']⟩] => some (true, Bo (inBx a b c d a' b' c' d'))
  | _ => none
theorem gUIn_ok : ∀ vs r, gUIn vs = some (true, r) → ∀ m, CallOk Try.prog 44 (vs.map .v) m (.v r) m := by
  intro vs r h
  unfold gUIn at h
  split at h
  · rename_i a b c d a' b' c' d'
    obtain ⟨h1, rfl⟩ := some_t h
    refine runV (vs := [.agg #[I a, I b, I c, I d], .agg #[I a', I b', I c', I d']]) (Λ := L0) (m' := M0) OkU5 Try.func44 rfl (fun z _ _ => l0Ok' _ z) ?_
    exact (runUIn a b c d a' b' c' d').trans (by rw [← inC_eq]; cases boR a b c d <;> cases boR a' b' c' d' <;> cases decide (a' ≤ a) <;> cases decide (b' ≤ b) <;> cases decide (c ≤ c') <;> rfl)
  · cases h
noncomputable def ΓU6 : Orc := addVal 44 gUIn ΓU5
theorem OkU6 : ΓU6.Ok Try.prog := addVal_ok OkU5 gUIn_ok
set_option maxRecDepth 20000 in
theorem runUHas (a : Int) (b : Int) (c : Int) (d : Int) (x : Int) (y : Int) : runG ΓU6 L0 Try.prog Try.f42 [.v (.agg #[I a, I b, I c, I d]), .v (.agg #[I x, I y])] M0 = 
    some (.v (Bo (inBx x y x y a b c d)), M0) := by kernel_rfl
def gUHas (vs : List Value) : Option (Bool × Value) :=
  match vs with
  | [.agg ⟨[.int .i64 a, .int .i64 b, .int .i64 c, .int .i64 d]⟩, .agg ⟨[.int .i64 x, .int .i64 y]⟩] => some (true, Bo (hasB a b c d x y))
  | _ => none
theorem gUHas_ok : ∀ vs r, gUHas vs = some (true, r) → ∀ m, CallOk Try.prog 42 (vs.map .v) m (.v r) m := by
  intro vs r h
  unfold gUHas at h
  split at h
  · rename_i a b c d x y
    obtain ⟨h1, rfl⟩ := some_t h
    refine runV (vs := [.agg #[I a, I b, I c, I d], .agg #[I x, I y]]) (Λ := L0) (m' := M0) OkU6 Try.func42 rfl (fun z _ _ => l0Ok' _ z) ?_
    exact (runUHas a b c d x y).trans (vB (inP_eq a b c d x y))
  · cases h
noncomputable def ΓU7 : Orc := addVal 42 gUHas ΓU6
theorem OkU7 : ΓU7.Ok Try.prog := addVal_ok OkU6 gUHas_ok
set_option maxRecDepth 20000 in
theorem runUGr (a : Int) (b : Int) (c : Int) (d : Int) (n : Int) : runG ΓU7 L0 Try.prog Try.f36 [.v (.agg #[I a, I b, I c, I d]), .v (I n)] M0 = 
    (bif !boR a b c d then some (.v (.tuple #[(.agg #[(I 0), (I 0), (I 0), (I 0)]), (Bo false)]), M0) else (bif decide (n < (0 : Int)) then some (.v (.tuple #[(.agg #[(I 0), (I 0), (I 0), (I 0)]), (Bo false)]), M0) else (bif inI a && (inI b && (inI (wI ((0 : Int) - n)) && inI (wI ((0 : Int) - n)))) then (bif inI c && (inI d && (inI n && inI n)) then (bif !moveB a b (wI ((0 : Int) - n)) (wI ((0 : Int) - n)) then some (.v (.tuple #[(.agg #[(I 0), (I 0), (I 0), (I 0)]), (Bo false)]), M0) else (bif !moveB c d n n then some (.v (.tuple #[(.agg #[(I 0), (I 0), (I 0), (I 0)]), (Bo false)]), M0) else some (.v (.tuple #[(.agg #[(I (bif moveB a b (wI ((0 : Int) - n)) (wI ((0 : Int) - n)) then a + wI ((0 : Int) - n) else (0 : Int))), (I (bif moveB a b (wI ((0 : Int) - n)) (wI ((0 : Int) - n)) then b + wI ((0 : Int) - n) else (0 : Int))), (I (bif moveB c d n n then c + n else (0 : Int))), (I (bif moveB c d n n then d + n else (0 : Int)))]), (Bo true)]), M0))) else none) else none))) := by kernel_rfl
def gUGr (vs : List Value) : Option (Bool × Value) :=
  match vs with
  | [.agg ⟨[.int .i64 a, .int .i64 b, .int .i64 c, .int .i64 d]⟩, .int .i64 n] => some (inI n, .tuple #[.agg #[I (grV (grB a b c d n) (a - n)), I (grV (grB a b c d n) (b - n)), I (grV (grB a b c d n) (c + n)), I (grV (grB a b c d n) (d + n))], Bo (grB a b c d n)])
  | _ => none
theorem gUGr_ok : ∀ vs r, gUGr vs = some (true, r) → ∀ m, CallOk Try.prog 36 (vs.map .v) m (.v r) m := by
  intro vs r h
  unfold gUGr at h
  split at h
  · rename_i a b c d n
    obtain ⟨h1, rfl⟩ := some_t h
    refine runV (vs := [.agg #[I a, I b, I c, I d], I n]) (Λ := L0) (m' := M0) OkU7 Try.func36 rfl (fun z _ _ => l0Ok' _ z) ?_
    exact (runUGr a b c d n).trans (by
      unfold grV grB
      cases hb : boR a b c d
      · rfl
      · by_cases hn : n < 0
        · rw [decide_eq_true hn]; rfl
        · obtain ⟨p1, p2, _, _⟩ := boR_iff.1 hb
          have q1 := plR_iff.1 p1
          have q2 := plR_iff.1 p2
          have hi := inI_iff.1 h1
          have ia : inI a = true := inI_iff.2 (by omega)
          have ib : inI b = true := inI_iff.2 (by omega)
          have ic : inI c = true := inI_iff.2 (by omega)
          have id' : inI d = true := inI_iff.2 (by omega)
          have im : inI (0 - n) = true := inI_iff.2 (by omega)
          rw [decide_eq_false hn, wI_id (n := 0 - n) (by omega), ia, ib, ic, id', im, h1, show a + (0 - n) = a - n by omega, show b + (0 - n) = b - n by omega]
          cases moveB a b (0 - n) (0 - n) <;> cases moveB c d n n <;> rfl)
  · cases h
noncomputable def ΓU8 : Orc := addVal 36 gUGr ΓU7
theorem OkU8 : ΓU8.Ok Try.prog := addVal_ok OkU7 gUGr_ok
noncomputable def ΓBo : Orc := ΓU8
theorem OkBo : ΓBo.Ok Try.prog := OkU8
end Go.Proofs.Ytcjkkfhdnealpaa

