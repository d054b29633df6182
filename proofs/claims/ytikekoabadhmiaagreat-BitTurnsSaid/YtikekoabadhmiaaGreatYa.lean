/-
  What is known of this program: the atomics, names; contracts of wide, of point, of box over values, and of the document's.
-/
import Derived.Test.YtikekoabadhmiaaGreatSx
import Derived.Test.YtikekoabadhmiaaGreatProg
import Derived.Lib.Strings
import Derived.Lib.Walk
import Derived.Lib.BufferWrite
import Derived.Lib.UnsafeStr
import Derived.Laws.MakeOwn
import Derived.WalkKit
import Derived.Test.YtikekoabadhmiaaGreatSw
namespace Go.Proofs.YtikekoabadhmiaaGreat
open Go Go.Proofs Go.Sx Go.RowKit
theorem mixed : Tryz.prog.follows .mixedOrders = true := by kernel_rfl
theorem names : namesOk Tryz.prog = true := by kernel_rfl
def noC : FuncId → List SV → Mem → Option (Bool × SV × Mem) := fun _ _ _ => none
def noR : FuncId → List SV → Mem → Option (Bool × Value) := fun _ _ _ => none
def M0 : Mem := ⟨[], [], []⟩
def I (x : Int) : Value := .int .i64 x
def S (s : ByteArray) : Value := .string s
def Bo (b : Bool) : Value := .bool b
def U16 (x : Int) : Value := .int .u16 x
def U32 (x : Int) : Value := .int .u32 x
def rLoad64 : FuncId → List SV → Mem → Option (Bool × Value) := noR
theorem rLoad64_ok : ∀ f xs m r, rLoad64 f xs m = some (true, r) → CallOk Tryz.prog f xs m (.v r) m := fun _ _ _ _ h => by cases h
def cCas64 : FuncId → List SV → Mem → Option (Bool × SV × Mem) := noC
theorem cCas64_ok : ∀ f xs m r m', cCas64 f xs m = some (true, r, m') → CallOk Tryz.prog f xs m r m' := fun _ _ _ _ _ h => by cases h
def vClone : FuncId → List Value → Option (Bool × Value) := fun _ _ => none
theorem vClone_ok : TabOk Tryz.prog vClone := fun _ _ _ h => by cases h
/-- Structs that are compared. -/
def good : List TypeId :=
  51 ::
  94 ::
  146 ::
  []
/-- Calls that others wait for, in a region that draws its order. -/
def makers (f : FuncId) : Bool :=
  Nat.beq f 130 ||
  false
theorem goodOk : good.all (eqTypeOk Tryz.prog) = true := by kernel_rfl
noncomputable def ΓA : Orc := addR (tabV vClone) { call := cCas64, eqv := eqvOf Tryz.prog good, rd := rLoad64, unr := 8, wr := makers }
theorem OkA : ΓA.Ok Tryz.prog := addR_tab ⟨cCas64_ok, rLoad64_ok, fun t xs ys r h w op x y hop => eqvOf_ok goodOk t xs ys r h w op x y hop⟩ vClone_ok
theorem runOk {Γ : Orc} {Λ : LoopOrc} (hΓ : Γ.Ok Tryz.prog) {f : FuncId} {fn : Func} {c : Code} (hf : Tryz.prog.funcs[f]? = some fn) (hb : fn.body = some c) {xs : List SV} {m m' : Mem} {r : SV}
    (hL : ∀ z, z.L.length = m.blk.length → z.U.length = m.rows.length → ∀ b ∈ loopsOf c, LoopOk Λ Tryz.prog z b) (h : runG Γ Λ Tryz.prog fn xs m = some (r, m')) : CallOk Tryz.prog f xs m r m' := callOk_of_run hΓ mixed names hf hb hL h
/-- A call of values alone, by its run. -/
theorem runV {Γ : Orc} {Λ : LoopOrc} (hΓ : Γ.Ok Tryz.prog) {f : FuncId} {fn : Func} {c : Code} (hf : Tryz.prog.funcs[f]? = some fn) (hb : fn.body = some c) {vs : List Value} {r : Value} {m' : Mem}
    (hL : ∀ z : Base, z.L.length = 0 → z.U.length = 0 → ∀ b ∈ loopsOf c, LoopOk Λ Tryz.prog z b) (h : runG Γ Λ Tryz.prog fn (vs.map .v) M0 = some (.v r, m')) : ∀ m, CallOk Tryz.prog f (vs.map .v) m (.v r) m := valOk hΓ mixed names hf hb hL h
end Go.Proofs.YtikekoabadhmiaaGreat

namespace Go.Proofs.YtikekoabadhmiaaGreat
open Go Go.Proofs Go.Sx
/-! Counters: a block of two numbers, the most and the value. -/
noncomputable def ΓC : Orc := ΓA
theorem OkC : ΓC.Ok Tryz.prog := OkA
end Go.Proofs.YtikekoabadhmiaaGreat

namespace Go.Proofs.YtikekoabadhmiaaGreat
open Go Go.Proofs Go.Sx
set_option linter.unusedVariables false
/-! Numbers of 128 bits: the program's calls. -/
/-! norm -/
abbrev UU (x : Int) : Value := .int .u64 x
theorem vEq {a b : Value} (h : a = b) : (some (SV.v a, M0) : Option (SV × Mem)) = some (.v b, M0) := by rw [h]
theorem l0Ok' (c : Code) (z : Base) : ∀ b ∈ loopsOf c, LoopOk L0 Tryz.prog z b := fun b _ st t h => by cases h

def gAdd64 (vs : List Value) : Option (Bool × Value) :=
  match vs with
  | [.int .u64 x, .int .u64 y, .int .u64 c] => some (decide (0 ≤ x ∧ 0 ≤ y ∧ 0 ≤ c ∧ c ≤ 1), .tuple #[UU (addS3 x y c), UU (addC3 x y c)])
  | _ => none
theorem gAdd64_ok : ∀ vs r, gAdd64 vs = some (true, r) → ∀ m, CallOk Tryz.prog 71 (vs.map .v) m (.v r) m := by
  intro vs r h
  unfold gAdd64 at h
  split at h
  · rename_i x y c
    obtain ⟨h1, rfl⟩ := some_t h
    refine callV Tryz.prog fun w => .inl ?_
    have hc : 0 ≤ x ∧ 0 ≤ y ∧ 0 ≤ c ∧ c ≤ 1 := by simpa using h1
    rw [run_callFunc_extern Tryz.func71 (by kernel_rfl) (by kernel_rfl) (by kernel_rfl) (e := add64Entry) (by kernel_rfl)]
    rw [show (List.toArray [Value.int .u64 x, .int .u64 y, .int .u64 c]) = #[Value.int .u64 x, .int .u64 y, .int .u64 c] from rfl, run_add64 x y c hc.1 hc.2.1 hc.2.2.1 hc.2.2.2]
    rfl
  · cases h
noncomputable def ΓW1 : Orc := addVal 71 gAdd64 ΓC
theorem OkW1 : ΓW1.Ok Tryz.prog := addVal_ok OkC gAdd64_ok
noncomputable def ΓW2 : Orc := ΓW1
theorem OkW2 : ΓW2.Ok Tryz.prog := OkW1
set_option maxRecDepth 20000 in
theorem runWNeg (a b : Int) : runG ΓW2 L0 Tryz.prog Tryz.f72 [.v (Wd a b)] M0 = some (.v (Bo (decide (a < 0))), M0) := by kernel_rfl
def gWNeg (vs : List Value) : Option (Bool × Value) :=
  match vs with
  | [.agg ⟨[.int .i64 a, .int .u64 b]⟩] => some (true, Bo (decide (a < 0)))
  | _ => none
theorem gWNeg_ok : ∀ vs r, gWNeg vs = some (true, r) → ∀ m, CallOk Tryz.prog 72 (vs.map .v) m (.v r) m := by
  intro vs r h
  unfold gWNeg at h
  split at h
  · rename_i a b
    obtain ⟨h1, rfl⟩ := some_t h
    refine runV (vs := [Wd a b]) (Λ := L0) (m' := M0) OkW2 Tryz.func72 rfl (fun z _ _ => l0Ok' _ z) ?_
    exact (runWNeg a b).trans (rfl)
  · cases h
noncomputable def ΓW3 : Orc := addVal 72 gWNeg ΓW2
theorem OkW3 : ΓW3.Ok Tryz.prog := addVal_ok OkW2 gWNeg_ok
set_option maxRecDepth 20000 in
theorem runNaN1 (a : Int) : runG ΓW3 L0 Tryz.prog Tryz.f100 [.v (I a)] M0 = some (.v (Bo (a != a)), M0) := by kernel_rfl
def gNaN1 (vs : List Value) : Option (Bool × Value) :=
  match vs with
  | [.int .i64 a] => some (true, Bo false)
  | _ => none
theorem gNaN1_ok : ∀ vs r, gNaN1 vs = some (true, r) → ∀ m, CallOk Tryz.prog 100 (vs.map .v) m (.v r) m := by
  intro vs r h
  unfold gNaN1 at h
  split at h
  · rename_i a
    obtain ⟨h1, rfl⟩ := some_t h
    refine runV (vs := [I a]) (Λ := L0) (m' := M0) OkW3 Tryz.func100 rfl (fun z _ _ => l0Ok' _ z) ?_
    exact (runNaN1 a).trans (by simp)
  · cases h
noncomputable def ΓW4 : Orc := addVal 100 gNaN1 ΓW3
theorem OkW4 : ΓW4.Ok Tryz.prog := addVal_ok OkW3 gNaN1_ok
set_option maxRecDepth 20000 in
theorem runNaN2 (a : Int) : runG ΓW4 L0 Tryz.prog Tryz.f101 [.v (UU a)] M0 = some (.v (Bo (a != a)), M0) := by kernel_rfl
def gNaN2 (vs : List Value) : Option (Bool × Value) :=
  match vs with
  | [.int .u64 a] => some (true, Bo false)
  | _ => none
theorem gNaN2_ok : ∀ vs r, gNaN2 vs = some (true, r) → ∀ m, CallOk Tryz.prog 101 (vs.map .v) m (.v r) m := by
  intro vs r h
  unfold gNaN2 at h
  split at h
  · rename_i a
    obtain ⟨h1, rfl⟩ := some_t h
    refine runV (vs := [UU a]) (Λ := L0) (m' := M0) OkW4 Tryz.func101 rfl (fun z _ _ => l0Ok' _ z) ?_
    exact (runNaN2 a).trans (by simp)
  · cases h
noncomputable def ΓW5 : Orc := addVal 101 gNaN2 ΓW4
theorem OkW5 : ΓW5.Ok Tryz.prog := addVal_ok OkW4 gNaN2_ok
set_option maxRecDepth 20000 in
theorem runMul64 (x y : Int) : runG ΓW5 L0 Tryz.prog Tryz.f68 [.v (UU x), .v (UU y)] M0 = 
      (let U := IntKind.u64.wrap; let A := fun z : Int => U ((BitVec.ofInt 64 z &&& BitVec.ofInt 64 4294967295).toNat : Int); let S := fun z : Int => z.fdiv (2 ^ 32); let w0 := U (A x * A y); let t := U (U (S x * A y) + S w0); let w1 := U (A t + U (A x * S y)); some (.v (.tuple #[UU (U (U (U (S x * S y) + S t) + S w1)), UU (U (x * y))]), M0)) := by kernel_rfl
def gMul64 (vs : List Value) : Option (Bool × Value) :=
  match vs with
  | [.int .u64 x, .int .u64 y] => some (inU x && inU y, .tuple #[UU (x * y / 18446744073709551616), UU (x * y % 18446744073709551616)])
  | _ => none
theorem gMul64_ok : ∀ vs r, gMul64 vs = some (true, r) → ∀ m, CallOk Tryz.prog 68 (vs.map .v) m (.v r) m := by
  intro vs r h
  unfold gMul64 at h
  split at h
  · rename_i x y
    obtain ⟨h1, rfl⟩ := some_t h
    refine runV (vs := [UU x, UU y]) (Λ := L0) (m' := M0) OkW5 Tryz.func68 rfl (fun z _ _ => l0Ok' _ z) ?_
    exact (runMul64 x y).trans (by
      rw [Bool.and_eq_true] at h1
      obtain ⟨e1, e2⟩ := mul64_halves x y h1.1 h1.2
      exact vEq (by show Value.tuple #[UU _, UU _] = _; rw [e1, e2]))
  · cases h
noncomputable def ΓW6 : Orc := addVal 68 gMul64 ΓW5
theorem OkW6 : ΓW6.Ok Tryz.prog := addVal_ok OkW5 gMul64_ok
noncomputable def ΓW7 : Orc := ΓW6
theorem OkW7 : ΓW7.Ok Tryz.prog := OkW6
set_option maxRecDepth 20000 in
theorem runCmpr1 (x y : Int) : runG ΓW7 L0 Tryz.prog Tryz.f89 [.v (I x), .v (I y)] M0 = bif decide (x < y) then some (.v (I (-1)), M0) else (bif decide (x > y) then some (.v (I 1), M0) else some (.v (I 0), M0)) := by kernel_rfl
def gCmpr1 (vs : List Value) : Option (Bool × Value) :=
  match vs with
  | [.int .i64 x, .int .i64 y] => some (true, I (cmpI x y))
  | _ => none
theorem gCmpr1_ok : ∀ vs r, gCmpr1 vs = some (true, r) → ∀ m, CallOk Tryz.prog 89 (vs.map .v) m (.v r) m := by
  intro vs r h
  unfold gCmpr1 at h
  split at h
  · rename_i x y
    obtain ⟨h1, rfl⟩ := some_t h
    refine runV (vs := [I x, I y]) (Λ := L0) (m' := M0) OkW7 Tryz.func89 rfl (fun z _ _ => l0Ok' _ z) ?_
    exact (runCmpr1 x y).trans (by
      unfold cmpI
      cases decide (x < y)
      · show _ = some (SV.v (I (bif decide (x > y) then 1 else 0)), M0)
        cases decide (x > y) <;> rfl
      · rfl)
  · cases h
noncomputable def ΓW8 : Orc := addVal 89 gCmpr1 ΓW7
theorem OkW8 : ΓW8.Ok Tryz.prog := addVal_ok OkW7 gCmpr1_ok
set_option maxRecDepth 20000 in
theorem runCmpr2 (x y : Int) : runG ΓW8 L0 Tryz.prog Tryz.f90 [.v (UU x), .v (UU y)] M0 = bif decide (x < y) then some (.v (I (-1)), M0) else (bif decide (x > y) then some (.v (I 1), M0) else some (.v (I 0), M0)) := by kernel_rfl
def gCmpr2 (vs : List Value) : Option (Bool × Value) :=
  match vs with
  | [.int .u64 x, .int .u64 y] => some (true, I (cmpI x y))
  | _ => none
theorem gCmpr2_ok : ∀ vs r, gCmpr2 vs = some (true, r) → ∀ m, CallOk Tryz.prog 90 (vs.map .v) m (.v r) m := by
  intro vs r h
  unfold gCmpr2 at h
  split at h
  · rename_i x y
    obtain ⟨h1, rfl⟩ := some_t h
    refine runV (vs := [UU x, UU y]) (Λ := L0) (m' := M0) OkW8 Tryz.func90 rfl (fun z _ _ => l0Ok' _ z) ?_
    exact (runCmpr2 x y).trans (by
      unfold cmpI
      cases decide (x < y)
      · show _ = some (SV.v (I (bif decide (x > y) then 1 else 0)), M0)
        cases decide (x > y) <;> rfl
      · rfl)
  · cases h
noncomputable def ΓW9 : Orc := addVal 90 gCmpr2 ΓW8
theorem OkW9 : ΓW9.Ok Tryz.prog := addVal_ok OkW8 gCmpr2_ok
set_option maxRecDepth 20000 in
theorem runWOf (n : Int) : runG ΓW9 L0 Tryz.prog Tryz.f55 [.v (I n)] M0 = some (.v (Wd (n.fdiv (2 ^ 63)) (IntKind.u64.wrap n)), M0) := by kernel_rfl
def gWOf (vs : List Value) : Option (Bool × Value) :=
  match vs with
  | [.int .i64 n] => some (inI n, Wn n)
  | _ => none
theorem gWOf_ok : ∀ vs r, gWOf vs = some (true, r) → ∀ m, CallOk Tryz.prog 55 (vs.map .v) m (.v r) m := by
  intro vs r h
  unfold gWOf at h
  split at h
  · rename_i n
    obtain ⟨h1, rfl⟩ := some_t h
    refine runV (vs := [I n]) (Λ := L0) (m' := M0) OkW9 Tryz.func55 rfl (fun z _ _ => l0Ok' _ z) ?_
    exact (runWOf n).trans (by
      rw [inI_iff] at h1
      obtain ⟨_, h2, h3⟩ := okW_of (n := n) (by omega) (by omega)
      refine vEq (wd_eq ?_ ?_)
      · rw [h2, Int.fdiv_eq_ediv_of_nonneg _ (by decide), show (2 : Int) ^ 63 = 9223372036854775808 from by decide]
        omega
      · rw [h3, wrU])
  · cases h
noncomputable def ΓW10 : Orc := addVal 55 gWOf ΓW9
theorem OkW10 : ΓW10.Ok Tryz.prog := addVal_ok OkW9 gWOf_ok
set_option maxRecDepth 20000 in
theorem runWAdd (a b c d : Int) : runG ΓW10 L0 Tryz.prog Tryz.f54 [.v (Wd a b), .v (Wd c d)] M0 = 
    (bif decide ((0 : Int) ≤ b ∧ (0 : Int) ≤ d ∧ (0 : Int) ≤ (0 : Int) ∧ (0 : Int) ≤ (1 : Int)) then (bif decide ((0 : Int) ≤ IntKind.u64.wrap a ∧ (0 : Int) ≤ IntKind.u64.wrap c ∧ (0 : Int) ≤ addC3 b d (0 : Int) ∧ addC3 b d (0 : Int) ≤ (1 : Int)) then (bif decide (a < (0 : Int)) == decide (c < (0 : Int)) then (bif !decide (wI (addS3 (IntKind.u64.wrap a) (IntKind.u64.wrap c) (addC3 b d (0 : Int))) < (0 : Int)) == decide (a < (0 : Int)) then some (.v (.tuple #[(.agg #[(I 0), (.int .u64 0)]), (Bo false)]), M0) else some (.v (.tuple #[(.agg #[(I (wI (addS3 (IntKind.u64.wrap a) (IntKind.u64.wrap c) (addC3 b d (0 : Int))))), (.int .u64 (addS3 b d (0 : Int)))]), (Bo true)]), M0)) else some (.v (.tuple #[(.agg #[(I (wI (addS3 (IntKind.u64.wrap a) (IntKind.u64.wrap c) (addC3 b d (0 : Int))))), (.int .u64 (addS3 b d (0 : Int)))]), (Bo true)]), M0)) else none) else none) := by kernel_rfl
def gWAdd (vs : List Value) : Option (Bool × Value) :=
  match vs with
  | [.agg ⟨[.int .i64 a, .int .u64 b]⟩, .agg ⟨[.int .i64 c, .int .u64 d]⟩] => some (inW a b && inW c d, .tuple #[Wn (wv a b + wv c d), Bo (okW (wv a b + wv c d))])
  | _ => none
theorem gWAdd_ok : ∀ vs r, gWAdd vs = some (true, r) → ∀ m, CallOk Tryz.prog 54 (vs.map .v) m (.v r) m := by
  intro vs r h
  unfold gWAdd at h
  split at h
  · rename_i a b c d
    obtain ⟨h1, rfl⟩ := some_t h
    refine runV (vs := [Wd a b, Wd c d]) (Λ := L0) (m' := M0) OkW10 Tryz.func54 rfl (fun z _ _ => l0Ok' _ z) ?_
    exact (runWAdd a b c d).trans (by
      rw [Bool.and_eq_true] at h1
      obtain ⟨⟨k0, k1⟩, k2, k3⟩ := addW a b c d h1.1 h1.2
      have i1 := inW_iff.1 h1.1
      have i2 := inW_iff.1 h1.2
      have u1 := inU_iff.1 (inU_wrap a)
      have u2 := inU_iff.1 (inU_wrap c)
      rw [decide_eq_true (show (0 : Int) ≤ b ∧ (0 : Int) ≤ d ∧ (0 : Int) ≤ 0 ∧ (0 : Int) ≤ 1 by omega), decide_eq_true (show (0 : Int) ≤ IntKind.u64.wrap a ∧ (0 : Int) ≤ IntKind.u64.wrap c ∧ (0 : Int) ≤ addC3 b d 0 ∧ addC3 b d 0 ≤ (1 : Int) by omega)]
      simp only [cond_true]
      cases ho : okW (wv a b + wv c d) with
      | true =>
        obtain ⟨e1, e2⟩ := k3 ho
        rw [ho, Bool.not_true] at k2
        cases hs : decide (a < 0) == decide (c < 0) with
        | false => exact vEq (wdB e1 e2 rfl)
        | true =>
          rw [hs, Bool.true_and] at k2
          have k2' : (!decide (wI (addS3 (IntKind.u64.wrap a) (IntKind.u64.wrap c) (addC3 b d 0)) < 0) == decide (a < 0)) = false := k2
          rw [k2']
          exact vEq (wdB e1 e2 rfl)
      | false =>
        rw [ho, Bool.not_false, Bool.and_eq_true] at k2
        have k2' : (!decide (wI (addS3 (IntKind.u64.wrap a) (IntKind.u64.wrap c) (addC3 b d 0)) < 0) == decide (a < 0)) = true := k2.2
        rw [k2.1, k2']
        obtain ⟨_, e1, e2⟩ := okW_not (n := wv a b + wv c d) (by have := of_decide_eq_false ho; omega)
        exact vEq (wdB e1.symm e2.symm rfl))
  · cases h
noncomputable def ΓW11 : Orc := addVal 54 gWAdd ΓW10
theorem OkW11 : ΓW11.Ok Tryz.prog := addVal_ok OkW10 gWAdd_ok
set_option maxRecDepth 20000 in
theorem runWInt (a b : Int) : runG ΓW11 L0 Tryz.prog Tryz.f56 [.v (Wd a b)] M0 = 
    (bif inI (wI b) then (bif !(hiW (wI b) == a && (loW (wI b) == b && true)) then some (.v (.tuple #[(I 0), (Bo false)]), M0) else some (.v (.tuple #[(I (wI b)), (Bo true)]), M0)) else none) := by kernel_rfl
def gWInt (vs : List Value) : Option (Bool × Value) :=
  match vs with
  | [.agg ⟨[.int .i64 a, .int .u64 b]⟩] => some (inW a b, .tuple #[I (smI (wv a b)), Bo (inI (wv a b))])
  | _ => none
theorem gWInt_ok : ∀ vs r, gWInt vs = some (true, r) → ∀ m, CallOk Tryz.prog 56 (vs.map .v) m (.v r) m := by
  intro vs r h
  unfold gWInt at h
  split at h
  · rename_i a b
    obtain ⟨h1, rfl⟩ := some_t h
    refine runV (vs := [Wd a b]) (Λ := L0) (m' := M0) OkW11 Tryz.func56 rfl (fun z _ _ => l0Ok' _ z) ?_
    exact (runWInt a b).trans (by
      obtain ⟨k1, k2, k3⟩ := intW a b h1
      have k2' : (hiW (wI b) == a && (loW (wI b) == b && true)) = inI (wv a b) := k2
      rw [show inI (wI b) = true from k1, k2']
      cases hq : inI (wv a b) with
      | true => exact vEq (inB ((k3 hq).trans (by simp [smI, hq])) rfl)
      | false => exact vEq (inB (by simp [smI, hq]) rfl))
  · cases h
noncomputable def ΓW12 : Orc := addVal 56 gWInt ΓW11
theorem OkW12 : ΓW12.Ok Tryz.prog := addVal_ok OkW11 gWInt_ok
set_option maxRecDepth 20000 in
theorem runWCmp (a b c d : Int) : runG ΓW12 L0 Tryz.prog Tryz.f70 [.v (Wd a b), .v (Wd c d)] M0 = 
    (bif cmpI a c != (0 : Int) then some (.v (I (cmpI a c)), M0) else some (.v (I (cmpI b d)), M0)) := by kernel_rfl
def gWCmp (vs : List Value) : Option (Bool × Value) :=
  match vs with
  | [.agg ⟨[.int .i64 a, .int .u64 b]⟩, .agg ⟨[.int .i64 c, .int .u64 d]⟩] => some (inW a b && inW c d, I (cmpI (wv a b) (wv c d)))
  | _ => none
theorem gWCmp_ok : ∀ vs r, gWCmp vs = some (true, r) → ∀ m, CallOk Tryz.prog 70 (vs.map .v) m (.v r) m := by
  intro vs r h
  unfold gWCmp at h
  split at h
  · rename_i a b c d
    obtain ⟨h1, rfl⟩ := some_t h
    refine runV (vs := [Wd a b, Wd c d]) (Λ := L0) (m' := M0) OkW12 Tryz.func70 rfl (fun z _ _ => l0Ok' _ z) ?_
    exact (runWCmp a b c d).trans (by
      rw [Bool.and_eq_true] at h1
      rw [← cmpW h1.1 h1.2]
      cases cmpI a c != 0 <;> rfl)
  · cases h
noncomputable def ΓW13 : Orc := addVal 70 gWCmp ΓW12
theorem OkW13 : ΓW13.Ok Tryz.prog := addVal_ok OkW12 gWCmp_ok
set_option maxRecDepth 20000 in
theorem runWMul (a b : Int) : runG ΓW13 L0 Tryz.prog Tryz.f49 [.v (I a), .v (I b)] M0 = 
    (bif inU (IntKind.u64.wrap a) && inU (IntKind.u64.wrap b) then (bif decide (a < (0 : Int)) then (bif decide (b < (0 : Int)) then some (.v (.agg #[(I (wI (IntKind.u64.wrap (IntKind.u64.wrap (IntKind.u64.wrap a * IntKind.u64.wrap b / (18446744073709551616 : Int) - IntKind.u64.wrap b) - IntKind.u64.wrap a)))), (.int .u64 (IntKind.u64.wrap a * IntKind.u64.wrap b % (18446744073709551616 : Int)))]), M0) else some (.v (.agg #[(I (wI (IntKind.u64.wrap (IntKind.u64.wrap a * IntKind.u64.wrap b / (18446744073709551616 : Int) - IntKind.u64.wrap b)))), (.int .u64 (IntKind.u64.wrap a * IntKind.u64.wrap b % (18446744073709551616 : Int)))]), M0)) else (bif decide (b < (0 : Int)) then some (.v (.agg #[(I (wI (IntKind.u64.wrap (IntKind.u64.wrap a * IntKind.u64.wrap b / (18446744073709551616 : Int) - IntKind.u64.wrap a)))), (.int .u64 (IntKind.u64.wrap a * IntKind.u64.wrap b % (18446744073709551616 : Int)))]), M0) else some (.v (.agg #[(I (wI (IntKind.u64.wrap a * IntKind.u64.wrap b / (18446744073709551616 : Int)))), (.int .u64 (IntKind.u64.wrap a * IntKind.u64.wrap b % (18446744073709551616 : Int)))]), M0))) else none) := by kernel_rfl
def gWMul (vs : List Value) : Option (Bool × Value) :=
  match vs with
  | [.int .i64 a, .int .i64 b] => some (inI a && inI b, Wn (a * b))
  | _ => none
theorem gWMul_ok : ∀ vs r, gWMul vs = some (true, r) → ∀ m, CallOk Tryz.prog 49 (vs.map .v) m (.v r) m := by
  intro vs r h
  unfold gWMul at h
  split at h
  · rename_i a b
    obtain ⟨h1, rfl⟩ := some_t h
    refine runV (vs := [I a, I b]) (Λ := L0) (m' := M0) OkW13 Tryz.func49 rfl (fun z _ _ => l0Ok' _ z) ?_
    exact (runWMul a b).trans (by
      rw [inU_wrap, inU_wrap]
      rw [Bool.and_eq_true] at h1
      have k := mulW a b h1.1 h1.2
      refine Eq.trans ?_ (vEq k)
      cases decide (a < 0) <;> cases decide (b < 0) <;> rfl)
  · cases h
noncomputable def ΓW14 : Orc := addVal 49 gWMul ΓW13
theorem OkW14 : ΓW14.Ok Tryz.prog := addVal_ok OkW13 gWMul_ok
set_option maxRecDepth 20000 in
theorem runFNumber (a b : Int) (o : Bool) : runG ΓW14 L0 Tryz.prog Tryz.f53 [.v (Wd a b), .v (Bo o)] M0 = 
    (bif !o then some (.v (.tuple #[(I 0), (Bo false)]), M0) else (bif inW a b then some (.v (.tuple #[(I (smI (wv a b))), (Bo (inI (wv a b)))]), M0) else none)) := by kernel_rfl
def gFNumber (vs : List Value) : Option (Bool × Value) :=
  match vs with
  | [.agg ⟨[.int .i64 a, .int .u64 b]⟩, .bool o] => some (inW a b, .tuple #[I (bif o then smI (wv a b) else 0), Bo (o && inI (wv a b))])
  | _ => none
theorem gFNumber_ok : ∀ vs r, gFNumber vs = some (true, r) → ∀ m, CallOk Tryz.prog 53 (vs.map .v) m (.v r) m := by
  intro vs r h
  unfold gFNumber at h
  split at h
  · rename_i a b o
    obtain ⟨h1, rfl⟩ := some_t h
    refine runV (vs := [Wd a b, Bo o]) (Λ := L0) (m' := M0) OkW14 Tryz.func53 rfl (fun z _ _ => l0Ok' _ z) ?_
    exact (runFNumber a b o).trans (by
      cases o with
      | false => rfl
      | true => rw [h1]; rfl)
  · cases h
noncomputable def ΓW15 : Orc := addVal 53 gFNumber ΓW14
theorem OkW15 : ΓW15.Ok Tryz.prog := addVal_ok OkW14 gFNumber_ok
set_option maxRecDepth 20000 in
theorem runFAdd (a b : Int) : runG ΓW15 L0 Tryz.prog Tryz.f36 [.v (I a), .v (I b)] M0 = 
    (bif inI a then (bif inI b then (bif inW (hiW a) (loW a) && inW (hiW b) (loW b) then (bif inW (hiW (wv (hiW a) (loW a) + wv (hiW b) (loW b))) (loW (wv (hiW a) (loW a) + wv (hiW b) (loW b))) then some (.v (.tuple #[(I (bif okW (wv (hiW a) (loW a) + wv (hiW b) (loW b)) then smI (wv (hiW (wv (hiW a) (loW a) + wv (hiW b) (loW b))) (loW (wv (hiW a) (loW a) + wv (hiW b) (loW b)))) else (0 : Int))), (Bo (okW (wv (hiW a) (loW a) + wv (hiW b) (loW b)) && inI (wv (hiW (wv (hiW a) (loW a) + wv (hiW b) (loW b))) (loW (wv (hiW a) (loW a) + wv (hiW b) (loW b))))))]), M0) else none) else none) else none) else none) := by kernel_rfl
def gFAdd (vs : List Value) : Option (Bool × Value) :=
  match vs with
  | [.int .i64 a, .int .i64 b] => some (inI a && inI b, .tuple #[I (smI (a + b)), Bo (inI (a + b))])
  | _ => none
theorem gFAdd_ok : ∀ vs r, gFAdd vs = some (true, r) → ∀ m, CallOk Tryz.prog 36 (vs.map .v) m (.v r) m := by
  intro vs r h
  unfold gFAdd at h
  split at h
  · rename_i a b
    obtain ⟨h1, rfl⟩ := some_t h
    refine runV (vs := [I a, I b]) (Λ := L0) (m' := M0) OkW15 Tryz.func36 rfl (fun z _ _ => l0Ok' _ z) ?_
    exact (runFAdd a b).trans (by
      rw [Bool.and_eq_true] at h1
      have i1 := inI_iff.1 h1.1
      have i2 := inI_iff.1 h1.2
      obtain ⟨o, _, _⟩ := okW_of (n := a + b) (by omega) (by omega)
      obtain ⟨e1, e2⟩ := wv_Wn (okW_I h1.1)
      obtain ⟨e3, e4⟩ := wv_Wn (okW_I h1.2)
      obtain ⟨e5, e6⟩ := wv_Wn o
      rw [h1.1, h1.2, e1, e2, e3, e4, o, e5, e6]
      rfl)
  · cases h
noncomputable def ΓW16 : Orc := addVal 36 gFAdd ΓW15
theorem OkW16 : ΓW16.Ok Tryz.prog := addVal_ok OkW15 gFAdd_ok
noncomputable def ΓWd : Orc := ΓW16
theorem OkWd : ΓWd.Ok Tryz.prog := OkW16
end Go.Proofs.YtikekoabadhmiaaGreat

namespace Go.Proofs.YtikekoabadhmiaaGreat
open Go Go.Proofs Go.Sx
set_option linter.unusedVariables false
/-! norm -/
/-! Numbers of 128 bits: the document's, digit by digit. -/
def MB (a b : Int) (R : List (List Dat)) : Mem := ⟨[[.v (I a), .v (UU b)]], [true], [.live ⟨3, [.num .i64], R, true, false⟩]⟩
def MRow (R : List (List Dat)) : Mem := ⟨[], [], [.live ⟨3, [.num .i64], R, true, false⟩]⟩
noncomputable def bdBits : Code := Tryz.f130.body.getD .skip
noncomputable def bdBits0 : Code := loopAt bdBits 0
noncomputable def bdBits1 : Code := loopAt bdBits 1
theorem loopsBits : loopsOf bdBits = [bdBits0, bdBits1] := by kernel_rfl
theorem loopsBits0 : loopsOf bdBits0 = [] := by kernel_rfl
theorem loopsBits1 : loopsOf bdBits1 = [] := by kernel_rfl
theorem tagBits0 : tagOf bdBits0 = 3 := by kernel_rfl
theorem tagBits1 : tagOf bdBits1 = 7 := by kernel_rfl
def kBits0 : List Bool := maskOf 34 [1, 3, 4]
def xBits0 : List Bool := maskOf 34 [1, 3]
def kBits1 : List Bool := maskOf 34 [1, 3, 5]
def xBits1 : List Bool := maskOf 34 [3]
def KBits0 (e : Ex) (st : St) : Option (Ex × St) := some (e, cutC 0 0 xBits0 st)
def KBits1 (e : Ex) (st : St) : Option (Ex × St) := some (e, cutC 0 0 xBits1 st)
def HBits0 (a b i : Int) (R : List (List Dat)) : St := mk kBits0 [.ptr 0 0, .row 0, .v (I i)] (MB a b R)
def HBits1 (a b i : Int) (R : List (List Dat)) : St := mk kBits1 [.ptr 0 0, .row 0, .v (I i)] (MB a b R)
theorem stepBits0 (a b i : Int) (R : List (List Dat)) (k : Nat) : evLoop ΓWd Tryz.prog L0 (cutC 0 0 kBits0) bdBits0 (k + 1) (HBits0 a b i R) KBits0 =
    bif decide (i < 64) then (bif decide (i < 0) then none else bif roomA R.length then evLoop ΓWd Tryz.prog L0 (cutC 0 0 kBits0) bdBits0 k (HBits0 a b (IntKind.i64.wrap (i + 1)) (R ++ [[.n (bx b i)]])) KBits0 else none) else some (.exit 0, mk xBits0 [.ptr 0 0, .row 0] (MB a b R)) := by kernel_rfl
theorem stepBits1 (a b i : Int) (R : List (List Dat)) (k : Nat) : evLoop ΓWd Tryz.prog L0 (cutC 0 0 kBits1) bdBits1 (k + 1) (HBits1 a b i R) KBits1 =
    bif decide (i < 64) then (bif decide (i < 0) then none else bif roomA R.length then evLoop ΓWd Tryz.prog L0 (cutC 0 0 kBits1) bdBits1 k (HBits1 a b (IntKind.i64.wrap (i + 1)) (R ++ [[.n (bx (IntKind.u64.wrap a) i)]])) KBits1 else none) else some (.exit 2, mk xBits1 [.row 0] (MRow R)) := by kernel_rfl
noncomputable def GBits0 (vals : List SV) (m : Mem) : Option (Bool × Ex × St) :=
  match vals, m with
  | [.ptr 0 0, .row 0, .v (.int .i64 z)], ⟨[[.v (.int .i64 a), .v (.int .u64 b)]], [true], [.live ⟨3, [.num .i64], [], true, false⟩]⟩ => some (inU b && (z == 0), .exit 0, mk xBits0 [.ptr 0 0, .row 0] (MB a b (rowN (bl b 64))))
  | _, _ => none
noncomputable def GBits1 (vals : List SV) (m : Mem) : Option (Bool × Ex × St) :=
  match vals, m with
  | [.ptr 0 0, .row 0, .v (.int .i64 z)], ⟨[[.v (.int .i64 a), .v (.int .u64 b)]], [true], [.live ⟨3, [.num .i64], R, true, false⟩]⟩ => some (inU b && (z == 0 && isT (R = rowN (bl b 64))), .exit 2, mk xBits1 [.row 0] (MRow (rowN (bl (wu a b) 128))))
  | _, _ => none
noncomputable def ΛBits : LoopOrc := fun body st => match tagOf body with
  | 3 => viaC 0 0 kBits0 GBits0 st
  | 7 => viaC 0 0 kBits1 GBits1 st
  | _ => none
theorem loopOkBits0 (z : Base) (z1 : z.L.length = 0) (z2 : z.U.length = 0) : LoopOk ΛBits Tryz.prog z bdBits0 := by
  refine loop_okC (Λ := L0) (kx := fun _ => xBits0) OkWd mixed z1 z2 (fun b hb => by rw [loopsBits0] at hb; cases hb) (keep := kBits0) (G := GBits0) (fun st => by unfold ΛBits; rw [tagBits0]; rfl) ?_
  intro vals m e st' h
  unfold GBits0 at h
  split at h
  · rename_i z a b
    obtain ⟨h1, rfl, rfl⟩ := some_t2 h
    simp only [Bool.and_eq_true, beq_iff_eq] at h1
    obtain ⟨h1, rfl⟩ := h1
    rw [inU_iff] at h1
    refine ⟨65, ?_⟩
    exact bitsLoop b h1.1 h1.2 (fun k i R => evLoop ΓWd Tryz.prog L0 (cutC 0 0 kBits0) bdBits0 k (HBits0 a b i R) KBits0) (fun R => some (.exit 0, mk xBits0 [.ptr 0 0, .row 0] (MB a b R))) (fun k i R => stepBits0 a b i R k) [] (by simp) 64 0 rfl
  · cases h
theorem loopOkBits1 (z : Base) (z1 : z.L.length = 0) (z2 : z.U.length = 0) : LoopOk ΛBits Tryz.prog z bdBits1 := by
  refine loop_okC (Λ := L0) (kx := fun _ => xBits1) OkWd mixed z1 z2 (fun b hb => by rw [loopsBits1] at hb; cases hb) (keep := kBits1) (G := GBits1) (fun st => by unfold ΛBits; rw [tagBits1]; rfl) ?_
  intro vals m e st' h
  unfold GBits1 at h
  split at h
  · rename_i z a b R
    obtain ⟨h1, rfl, rfl⟩ := some_t2 h
    simp only [Bool.and_eq_true, beq_iff_eq, isT_iff] at h1
    obtain ⟨h1, rfl, rfl⟩ := h1
    rw [inU_iff] at h1
    have hu := inU_iff.1 (inU_wrap a)
    refine ⟨65, ?_⟩
    have := bitsLoop (IntKind.u64.wrap a) hu.1 hu.2 (fun k i R => evLoop ΓWd Tryz.prog L0 (cutC 0 0 kBits1) bdBits1 k (HBits1 a b i R) KBits1) (fun R => some (.exit 2, mk xBits1 [.row 0] (MRow R))) (fun k i R => stepBits1 a b i R k) (bl b 64) (by rw [bl_length]; omega) 64 0 rfl
    rw [show bl (IntKind.u64.wrap a) 0 = [] from rfl, List.append_nil, bl_join _ _ h1.1 h1.2] at this
    exact this
  · cases h
theorem runBits (a b : Int) : runG ΓWd ΛBits Tryz.prog Tryz.f130 [.v (Wd a b)] M0 = 
    bif inU b && ((0 : Int) == 0) then (bif inU b && ((0 : Int) == 0 && isT (rowN (bl b 64) = rowN (bl b 64))) then some (.row 0, MRow (rowN (bl (wu a b) 128))) else none) else none := by kernel_rfl
noncomputable def gBits (xs : List SV) (m : Mem) : Option (Bool × SV × Mem) :=
  match xs, m with
  | [.v (.agg ⟨[.int .i64 a, .int .u64 b]⟩)], ⟨[], [], []⟩ => some (inU b, .row 0, MRow (rowN (bl (wu a b) 128)))
  | _, _ => none
theorem gBits_ok : ∀ xs m r m', gBits xs m = some (true, r, m') → CallOk Tryz.prog 130 xs m r m' := by
  intro xs m r m' h
  unfold gBits at h
  split at h
  · rename_i a b
    obtain ⟨h1, rfl, rfl⟩ := some_t2 h
    refine runOk (Λ := ΛBits) OkWd Tryz.func130 rfl (fun z z1 z2 c hc => ?_) ?_
    · have hc' : c ∈ loopsOf bdBits := hc
      rw [loopsBits] at hc'
      rcases List.mem_cons.1 hc' with rfl | hc'
      · exact loopOkBits0 z z1 z2
      · rw [List.mem_singleton] at hc'
        subst hc'; exact loopOkBits1 z z1 z2
    · exact (runBits a b).trans (by rw [h1, beq_self_eq_true, isT_of (show rowN (bl b 64) = rowN (bl b 64) from rfl)]; rfl)
  · cases h
noncomputable def ΓR1 : Orc := addCl 130 gBits ΓWd
theorem OkR1 : ΓR1.Ok Tryz.prog := addCl_ok OkWd gBits_ok
def MV (lo : Int) (e : TypeId) (R : List (List Dat)) (own mark : Bool) : Mem := ⟨[[.v (I 0), .v (UU 0)], [.v (I 0), .v (UU lo)]], [true, true], [.live ⟨e, [.num .i64], R, own, mark⟩]⟩
noncomputable def bdVal : Code := loopAt (Tryz.f131.body.getD .skip) 0
theorem loopsVal : loopsOf (Tryz.f131.body.getD .skip) = [bdVal] := by kernel_rfl
theorem loopsVal0 : loopsOf bdVal = [] := by kernel_rfl
def kVal : List Bool := maskOf 36 [0, 2, 3, 4, 5]
def xVal : List Bool := maskOf 36 [2, 3, 4]
def KVal (e : Ex) (st : St) : Option (Ex × St) := some (e, cutC 0 1 xVal st)
def HVal (t : TypeId) (R : List (List Dat)) (own mark : Bool) (lo hi i : Int) : St := mk kVal [.row 0, .ptr 0 0, .ptr 1 0, .v (UU hi), .v (I i)] (MV lo t R own mark)
def XVal (t : TypeId) (R : List (List Dat)) (own mark : Bool) (lo hi : Int) : St := mk xVal [.ptr 0 0, .ptr 1 0, .v (UU hi)] (MV lo t R own mark)
theorem stepVal (t : TypeId) (R : List (List Dat)) (own mark : Bool) (lo hi i : Int) (k : Nat) : evLoop ΓR1 Tryz.prog L0 (cutC 0 1 kVal) bdVal (k + 1) (HVal t R own mark lo hi i) KVal =
    bif decide (i < 64) then (bif inL R i then (bif oneAt R i then (bif decide (i < 0) then none else bif inL R (IntKind.i64.wrap (64 + i)) then (bif oneAt R (IntKind.i64.wrap (64 + i)) then (bif decide (i < 0) then none else evLoop ΓR1 Tryz.prog L0 (cutC 0 1 kVal) bdVal k (HVal t R own mark (orV lo i) (orV hi i) (IntKind.i64.wrap (i + 1))) KVal) else evLoop ΓR1 Tryz.prog L0 (cutC 0 1 kVal) bdVal k (HVal t R own mark (orV lo i) hi (IntKind.i64.wrap (i + 1))) KVal) else none)
      else (bif inL R (IntKind.i64.wrap (64 + i)) then (bif oneAt R (IntKind.i64.wrap (64 + i)) then (bif decide (i < 0) then none else evLoop ΓR1 Tryz.prog L0 (cutC 0 1 kVal) bdVal k (HVal t R own mark lo (orV hi i) (IntKind.i64.wrap (i + 1))) KVal) else evLoop ΓR1 Tryz.prog L0 (cutC 0 1 kVal) bdVal k (HVal t R own mark lo hi (IntKind.i64.wrap (i + 1))) KVal) else none)) else none) else some (.exit 0, XVal t R own mark lo hi) := by kernel_rfl
def unN (R : List (List Dat)) : List Int := numsOf R
noncomputable def GVal (vals : List SV) (m : Mem) : Option (Bool × Ex × St) :=
  match vals, m with
  | [.row 0, .ptr 0 0, .ptr 1 0, .v (.int .u64 hi), .v (.int .i64 i)], ⟨[[.v (.int .i64 0), .v (.int .u64 0)], [.v (.int .i64 0), .v (.int .u64 lo)]], [true, true], [.live ⟨t, [.num .i64], R, own, mark⟩]⟩ =>
    some (isT (R.length = 128 ∧ R = rowN (unN R)) && (hi == 0 && (lo == 0 && (i == 0))), .exit 0, XVal t R own mark (loL (unN R) 64) (hiL (unN R) 64))
  | _, _ => none
noncomputable def ΛVal : LoopOrc := fun _ st => viaC 0 1 kVal GVal st
theorem loopOkVal (z : Base) (z1 : z.L.length = 0) (z2 : z.U.length = 1) : LoopOk ΛVal Tryz.prog z bdVal := by
  refine loop_okC (Λ := L0) (kx := fun _ => xVal) OkR1 mixed z1 z2 (fun b hb => by rw [loopsVal0] at hb; cases hb) (G := GVal) (fun _ => rfl) ?_
  intro vals m e st' h
  unfold GVal at h
  split at h
  · rename_i hi i lo t R own mark
    obtain ⟨h1, rfl, rfl⟩ := some_t2 h
    simp only [Bool.and_eq_true, beq_iff_eq, isT_iff] at h1
    obtain ⟨⟨h1, h2⟩, rfl, rfl, rfl⟩ := h1
    refine ⟨65, ?_⟩
    have hl : (unN R).length = 128 := by unfold unN numsOf; rw [List.length_map]; exact h1
    have := valueLoop (unN R) hl (fun k lo hi i => evLoop ΓR1 Tryz.prog L0 (cutC 0 1 kVal) bdVal k (HVal t (rowN (unN R)) own mark lo hi i) KVal) (fun lo hi => some (.exit 0, XVal t (rowN (unN R)) own mark lo hi)) (fun k lo hi i => stepVal t (rowN (unN R)) own mark lo hi i k) 64 0 rfl
    rw [← h2] at this
    exact this
  · cases h
theorem runVal (t : TypeId) (R : List (List Dat)) (own mark : Bool) : runG ΓR1 ΛVal Tryz.prog Tryz.f131 [.row 0] ⟨[], [], [.live ⟨t, [.num .i64], R, own, mark⟩]⟩ = 
    bif isT (R.length = 128 ∧ R = rowN (unN R)) && ((0 : Int) == 0 && ((0 : Int) == 0 && ((0 : Int) == 0))) then some (.v (Wd (IntKind.i64.wrap (hiL (unN R) 64)) (loL (unN R) 64)), ⟨[], [], [.live ⟨t, [.num .i64], R, own, mark⟩]⟩) else none := by kernel_rfl
noncomputable def gVal (xs : List SV) (m : Mem) : Option (Bool × Value) :=
  match xs, m with
  | [.row 0], ⟨[], [], [.live ⟨t, [.num .i64], R, own, mark⟩]⟩ => some (isT (R.length = 128 ∧ R = rowN (unN R)), Wd (IntKind.i64.wrap (hiL (unN R) 64)) (loL (unN R) 64))
  | _, _ => none
theorem gVal_ok : ∀ xs m r, gVal xs m = some (true, r) → CallOk Tryz.prog 131 xs m (.v r) m := by
  intro xs m r h
  unfold gVal at h
  split at h
  · rename_i t R own mark
    obtain ⟨h1, rfl⟩ := some_t h
    refine runOk (Λ := ΛVal) OkR1 Tryz.func131 rfl (fun z z1 z2 => oneLoop (c := Tryz.f131.body.getD .skip) loopsVal (loopOkVal z z1 z2)) ?_
    exact (runVal t R own mark).trans (by rw [h1]; rfl)
  · cases h
noncomputable def ΓR2 : Orc := addRd 131 gVal ΓR1
theorem OkR2 : ΓR2.Ok Tryz.prog := addRd_ok OkR1 gVal_ok
end Go.Proofs.YtikekoabadhmiaaGreat

namespace Go.Proofs.YtikekoabadhmiaaGreat
open Go Go.Proofs Go.Sx
set_option linter.unusedVariables false
/-! norm -/

def rwI (R : List (List Dat)) : RowS := .live ⟨3, [.num .i64], R, true, false⟩
noncomputable def bdPl : Code := loopAt (Tryz.f117.body.getD .skip) 0
theorem loopsPl : loopsOf (Tryz.f117.body.getD .skip) = [bdPl] := by kernel_rfl
theorem loopsPl0 : loopsOf bdPl = [] := by kernel_rfl
def kPl : List Bool := maskOf 39 [4, 5, 6, 7, 8, 9]
def xPl : List Bool := maskOf 39 [4, 7]
def KPl (e : Ex) (st : St) : Option (Ex × St) := some (e, cutC 0 0 xPl st)
def MPl (X Y R : List (List Dat)) : Mem := ⟨[[.v (I 0), .v (UU 0)]], [true], [rwI X, rwI Y, rwI R]⟩
def HPl (X Y : List (List Dat)) (s i : Int) (R : List (List Dat)) : St := mk kPl [.ptr 0 0, .row 0, .row 1, .row 2, .v (I s), .v (I i)] (MPl X Y R)
def XPl (R : List (List Dat)) : St := mk xPl [.ptr 0 0, .row 0] ⟨[[.v (I 0), .v (UU 0)]], [true], [rwI R]⟩
theorem stepPl (X Y R : List (List Dat)) (s i : Int) (k : Nat) : evLoop ΓR2 Tryz.prog L0 (cutC 0 0 kPl) bdPl (k + 1) (HPl X Y s i R) KPl =
    bif decide (i < 128) then (bif inL X i then (bif inL Y i then (bif roomA R.length then evLoop ΓR2 Tryz.prog L0 (cutC 0 0 kPl) bdPl k (HPl X Y (IntKind.i64.wrap ((sm X Y s i).tdiv 2)) (IntKind.i64.wrap (i + 1)) (R ++ [[.n ((sm X Y s i).tmod 2)]])) KPl else none) else none) else none) else some (.exit 0, XPl R) := by kernel_rfl
noncomputable def GPl (A B : Int) (vals : List SV) (m : Mem) : Option (Bool × Ex × St) :=
  match vals, m with
  | [.ptr 0 0, .row 0, .row 1, .row 2, .v (.int .i64 s), .v (.int .i64 i)], ⟨[[.v (.int .i64 0), .v (.int .u64 0)]], [true], [.live ⟨3, [.num .i64], X, true, false⟩, .live ⟨3, [.num .i64], Y, true, false⟩, .live ⟨3, [.num .i64], [], true, false⟩]⟩ =>
    some (isT (X = rowN (bl A 128) ∧ Y = rowN (bl B 128)) && (s == 0 && (i == 0)), .exit 0, XPl (rowN (bl (A + B) 128)))
  | _, _ => none
noncomputable def ΛPl (A B : Int) : LoopOrc := fun _ st => viaC 0 0 kPl (GPl A B) st
theorem loopOkPl (A B : Int) (z : Base) (z1 : z.L.length = 0) (z2 : z.U.length = 0) : LoopOk (ΛPl A B) Tryz.prog z bdPl := by
  refine loop_okC (Λ := L0) (kx := fun _ => xPl) OkR2 mixed z1 z2 (fun b hb => by rw [loopsPl0] at hb; cases hb) (G := GPl A B) (fun _ => rfl) ?_
  intro vals m e st' h
  unfold GPl at h
  split at h
  · rename_i s i X Y
    obtain ⟨h1, rfl, rfl⟩ := some_t2 h
    simp only [Bool.and_eq_true, beq_iff_eq, isT_iff] at h1
    obtain ⟨⟨rfl, rfl⟩, rfl, rfl⟩ := h1
    refine ⟨129, ?_⟩
    have := plusLoop A B (fun k s i R => evLoop ΓR2 Tryz.prog L0 (cutC 0 0 kPl) bdPl k (HPl (rowN (bl A 128)) (rowN (bl B 128)) s i R) KPl) (fun R => some (.exit 0, XPl R)) (fun k s i R => stepPl (rowN (bl A 128)) (rowN (bl B 128)) R s i k) 128 0 rfl
    rw [cy_zero] at this
    exact this
  · cases h
theorem runPl (a b c d : Int) : runG ΓR2 (ΛPl (wu a b) (wu c d)) Tryz.prog Tryz.f117 [.v (Wd a b), .v (Wd c d)] M0 =
    same (bif inU b then (bif inU d then (bif isT (rowN (bl (wu a b) 128) = rowN (bl (wu a b) 128) ∧ rowN (bl (wu c d) 128) = rowN (bl (wu c d) 128)) && ((0 : Int) == 0 && ((0 : Int) == 0)) then (bif isT ((rowN (bl (wu a b + wu c d) 128)).length = 128 ∧ rowN (bl (wu a b + wu c d) 128) = rowN (unN (rowN (bl (wu a b + wu c d) 128)))) then
      some (.v (Wd (IntKind.i64.wrap (hiL (unN (rowN (bl (wu a b + wu c d) 128))) 64)) (loL (unN (rowN (bl (wu a b + wu c d) 128))) 64)), M0) else none) else none) else none) else none) (bif inU b then (bif inU d then (bif isT (rowN (bl (wu a b) 128) = rowN (bl (wu a b) 128) ∧ rowN (bl (wu c d) 128) = rowN (bl (wu c d) 128)) && ((0 : Int) == 0 && ((0 : Int) == 0)) then (bif isT ((rowN (bl (wu a b + wu c d) 128)).length = 128 ∧ rowN (bl (wu a b + wu c d) 128) = rowN (unN (rowN (bl (wu a b + wu c d) 128)))) then
      some (.v (Wd (IntKind.i64.wrap (hiL (unN (rowN (bl (wu a b + wu c d) 128))) 64)) (loL (unN (rowN (bl (wu a b + wu c d) 128))) 64)), M0) else none) else none) else none) else none) := by kernel_rfl
def gPl (vs : List Value) : Option (Bool × Value) :=
  match vs with
  | [.agg ⟨[.int .i64 a, .int .u64 b]⟩, .agg ⟨[.int .i64 c, .int .u64 d]⟩] => some (inU b && inU d, pW (wv a b + wv c d))
  | _ => none
theorem gPl_ok : ∀ vs r, gPl vs = some (true, r) → ∀ m, CallOk Tryz.prog 117 (vs.map .v) m (.v r) m := by
  intro vs r h
  unfold gPl at h
  split at h
  · rename_i a b c d
    obtain ⟨h1, rfl⟩ := some_t h
    rw [Bool.and_eq_true] at h1
    refine runV (vs := [Wd a b, Wd c d]) (Λ := ΛPl (wu a b) (wu c d)) (m' := M0) OkR2 Tryz.func117 rfl (fun z z1 z2 => oneLoop (c := Tryz.f117.body.getD .skip) loopsPl (loopOkPl _ _ z z1 z2)) ?_
    refine (runPl a b c d).trans ?_
    have e : unN (rowN (bl (wu a b + wu c d) 128)) = bl (wu a b + wu c d) 128 := nums_rowN _
    rw [h1.1, h1.2, isT_of ⟨rfl, rfl⟩, e, isT_of ⟨by rw [rowN_len, bl_length], rfl⟩, same_self]
    exact vEq (plusW a b c d)
  · cases h
noncomputable def ΓQ1 : Orc := addVal 117 gPl ΓR2
theorem OkQ1 : ΓQ1.Ok Tryz.prog := addVal_ok OkR2 gPl_ok
set_option maxRecDepth 20000 in
theorem runROf (n : Int) : runG ΓQ1 L0 Tryz.prog Tryz.f116 [.v (I n)] M0 = bif decide (n < 0) then some (.v (Wd (-1) (IntKind.u64.wrap n)), M0) else some (.v (Wd 0 (IntKind.u64.wrap n)), M0) := by kernel_rfl
def gROf (vs : List Value) : Option (Bool × Value) :=
  match vs with
  | [.int .i64 n] => some (inI n, Wn n)
  | _ => none
theorem gROf_ok : ∀ vs r, gROf vs = some (true, r) → ∀ m, CallOk Tryz.prog 116 (vs.map .v) m (.v r) m := by
  intro vs r h
  unfold gROf at h
  split at h
  · rename_i n
    obtain ⟨h1, rfl⟩ := some_t h
    refine runV (vs := [I n]) (Λ := L0) (m' := M0) OkQ1 Tryz.func116 rfl (fun z _ _ => l0Ok' _ z) ?_
    exact (runROf n).trans (by
      rw [inI_iff] at h1
      obtain ⟨_, h2, h3⟩ := okW_of (n := n) (by omega) (by omega)
      by_cases hn : n < 0
      · rw [decide_eq_true hn]
        exact vEq (wd_eq (by rw [h2]; omega) (by rw [h3, wrU]))
      · rw [decide_eq_false hn]
        exact vEq (wd_eq (by rw [h2]; omega) (by rw [h3, wrU])))
  · cases h
noncomputable def ΓQ2 : Orc := addVal 116 gROf ΓQ1
theorem OkQ2 : ΓQ2.Ok Tryz.prog := addVal_ok OkQ1 gROf_ok
set_option maxRecDepth 20000 in
theorem runRFlip (a b : Int) : runG ΓQ2 L0 Tryz.prog Tryz.f118 [.v (Wd a b)] M0 = bif inU (IntKind.u64.wrap (-1 - b)) && inU 1 then some (.v (pW (wv (IntKind.i64.wrap (-1 - a)) (IntKind.u64.wrap (-1 - b)) + wv 0 1)), M0) else none := by kernel_rfl
def gRFlip (vs : List Value) : Option (Bool × Value) :=
  match vs with
  | [.agg ⟨[.int .i64 a, .int .u64 b]⟩] => some (inU b, pW (- wv a b))
  | _ => none
theorem gRFlip_ok : ∀ vs r, gRFlip vs = some (true, r) → ∀ m, CallOk Tryz.prog 118 (vs.map .v) m (.v r) m := by
  intro vs r h
  unfold gRFlip at h
  split at h
  · rename_i a b
    obtain ⟨h1, rfl⟩ := some_t h
    refine runV (vs := [Wd a b]) (Λ := L0) (m' := M0) OkQ2 Tryz.func118 rfl (fun z _ _ => l0Ok' _ z) ?_
    exact (runRFlip a b).trans (by
      obtain ⟨e1, e2⟩ := flipW a b h1
      rw [e1, show inU 1 = true from rfl]
      refine vEq (pW_eq ?_)
      rw [show wv 0 1 = 1 from rfl]
      omega)
  · cases h
noncomputable def ΓQ3 : Orc := addVal 118 gRFlip ΓQ2
theorem OkQ3 : ΓQ3.Ok Tryz.prog := addVal_ok OkQ2 gRFlip_ok
set_option maxRecDepth 20000 in
theorem runRCmp (a b c d : Int) : runG ΓQ3 L0 Tryz.prog Tryz.f103 [.v (Wd a b), .v (Wd c d)] M0 = 
    (bif decide (a < c) then some (.v (I (-1)), M0) else (bif a == c then (bif decide (b < d) then some (.v (I (-1)), M0) else (bif a == c && (b == d && true) then some (.v (I 0), M0) else some (.v (I 1), M0))) else (bif a == c && (b == d && true) then some (.v (I 0), M0) else some (.v (I 1), M0)))) := by kernel_rfl
def gRCmp (vs : List Value) : Option (Bool × Value) :=
  match vs with
  | [.agg ⟨[.int .i64 a, .int .u64 b]⟩, .agg ⟨[.int .i64 c, .int .u64 d]⟩] => some (inW a b && inW c d, I (cmpI (wv a b) (wv c d)))
  | _ => none
theorem gRCmp_ok : ∀ vs r, gRCmp vs = some (true, r) → ∀ m, CallOk Tryz.prog 103 (vs.map .v) m (.v r) m := by
  intro vs r h
  unfold gRCmp at h
  split at h
  · rename_i a b c d
    obtain ⟨h1, rfl⟩ := some_t h
    refine runV (vs := [Wd a b, Wd c d]) (Λ := L0) (m' := M0) OkQ3 Tryz.func103 rfl (fun z _ _ => l0Ok' _ z) ?_
    exact (runRCmp a b c d).trans (by
      rw [Bool.and_eq_true] at h1
      rw [← cmpR h1.1 h1.2]
      cases decide (a < c) <;> cases a == c <;> cases decide (b < d) <;> cases b == d <;> rfl)
  · cases h
noncomputable def ΓQ4 : Orc := addVal 103 gRCmp ΓQ3
theorem OkQ4 : ΓQ4.Ok Tryz.prog := addVal_ok OkQ3 gRCmp_ok
noncomputable def bdMu : Code := loopAt (Tryz.f104.body.getD .skip) 0
theorem loopsMu : loopsOf (Tryz.f104.body.getD .skip) = [bdMu] := by kernel_rfl
theorem loopsMu0 : loopsOf bdMu = [] := by kernel_rfl
def kMu : List Bool := maskOf 36 [1, 4, 5, 6, 7, 8]
def xMu : List Bool := maskOf 36 [1, 4, 5, 6]
def KMu (e : Ex) (st : St) : Option (Ex × St) := some (e, cutC 0 0 xMu st)
def MMu (oa ob xa xb ya yb : Int) : Mem := ⟨[[.v (I oa), .v (UU ob)], [.v (I xa), .v (UU xb)], [.v (I ya), .v (UU yb)]], [true, true, true], []⟩
def HMu (b n oa ob i xa xb ya yb : Int) : St := mk kMu [.v (I b), .ptr 0 0, .ptr 1 0, .ptr 2 0, .v (UU n), .v (I i)] (MMu oa ob xa xb ya yb)
def XMu (b oa ob xa xb ya yb : Int) : St := mk xMu [.v (I b), .ptr 0 0, .ptr 1 0, .ptr 2 0] (MMu oa ob xa xb ya yb)
theorem stepMu (b n oa ob i xa xb ya yb : Int) (k : Nat) : evLoop ΓQ4 Tryz.prog L0 (cutC 0 0 kMu) bdMu (k + 1) (HMu b n oa ob i xa xb ya yb) KMu =
    bif decide (i < 64) then (bif decide (i < 0) then none else (bif bu n i == 1 then (bif inU yb && inU xb then (bif inU xb && inU xb then evLoop ΓQ4 Tryz.prog L0 (cutC 0 0 kMu) bdMu k (HMu b n oa ob (IntKind.i64.wrap (i + 1)) (pHi (wv xa xb + wv xa xb)) (pLo (wv xa xb + wv xa xb)) (pHi (wv ya yb + wv xa xb)) (pLo (wv ya yb + wv xa xb))) KMu else none) else none)
      else (bif inU xb && inU xb then evLoop ΓQ4 Tryz.prog L0 (cutC 0 0 kMu) bdMu k (HMu b n oa ob (IntKind.i64.wrap (i + 1)) (pHi (wv xa xb + wv xa xb)) (pLo (wv xa xb + wv xa xb)) ya yb) KMu else none))) else some (.exit 0, XMu b oa ob xa xb ya yb) := by kernel_rfl
def GMu (vals : List SV) (m : Mem) : Option (Bool × Ex × St) :=
  match vals, m with
  | [.v (.int .i64 b), .ptr 0 0, .ptr 1 0, .ptr 2 0, .v (.int .u64 n), .v (.int .i64 i)], ⟨[[.v (.int .i64 oa), .v (.int .u64 ob)], [.v (.int .i64 xa), .v (.int .u64 xb)], [.v (.int .i64 ya), .v (.int .u64 yb)]], [true, true, true], []⟩ =>
    some (inW xa xb && (inU n && (i == 0 && (ya == 0 && yb == 0))), .exit 0, XMu b oa ob (pHi (wv xa xb * 2 ^ 64)) (pLo (wv xa xb * 2 ^ 64)) (pHi (wv xa xb * (n % 2 ^ 64))) (pLo (wv xa xb * (n % 2 ^ 64))))
  | _, _ => none
noncomputable def ΛMu : LoopOrc := fun _ st => viaC 0 0 kMu GMu st
theorem loopOkMu (z : Base) (z1 : z.L.length = 0) (z2 : z.U.length = 0) : LoopOk ΛMu Tryz.prog z bdMu := by
  refine loop_okC (Λ := L0) (kx := fun _ => xMu) OkQ4 mixed z1 z2 (fun b hb => by rw [loopsMu0] at hb; cases hb) (G := GMu) (fun _ => rfl) ?_
  intro vals m e st' h
  unfold GMu at h
  split at h
  · rename_i b n i oa ob xa xb ya yb
    obtain ⟨h1, rfl, rfl⟩ := some_t2 h
    simp only [Bool.and_eq_true, beq_iff_eq] at h1
    obtain ⟨g1, g2, rfl, rfl, rfl⟩ := h1
    rw [inU_iff] at g2
    have := mulLoop n (wv xa xb) g2.1 g2.2 (fun k i xa xb ya yb => evLoop ΓQ4 Tryz.prog L0 (cutC 0 0 kMu) bdMu k (HMu b n oa ob i xa xb ya yb) KMu) (fun xa xb ya yb => some (.exit 0, XMu b oa ob xa xb ya yb)) (fun k i xa xb ya yb => stepMu b n oa ob i xa xb ya yb k) 64 0 rfl
    refine ⟨65, ?_⟩
    rw [Int.pow_zero, Int.mul_one, Int.emod_one, Int.mul_zero, (p_self g1).1, (p_self g1).2] at this
    exact this
  · cases h
theorem runMu (a b : Int) : runG ΓQ4 ΛMu Tryz.prog Tryz.f104 [.v (I a), .v (I b)] M0 =
    bif inI a then
      (bif inW (hiW a) (loW a) && (inU (IntKind.u64.wrap b) && ((0 : Int) == 0 && ((0 : Int) == 0 && (0 : Int) == 0))) then
        (bif decide (b < 0) then
          (bif inU (pLo (wv (hiW a) (loW a) * 2 ^ 64)) then
            (bif inU (pLo (wv (hiW a) (loW a) * (IntKind.u64.wrap b % 2 ^ 64))) && inU (pLo (-wv (pHi (wv (hiW a) (loW a) * 2 ^ 64)) (pLo (wv (hiW a) (loW a) * 2 ^ 64)))) then
              some (.v (pW (wv (pHi (wv (hiW a) (loW a) * (IntKind.u64.wrap b % 2 ^ 64))) (pLo (wv (hiW a) (loW a) * (IntKind.u64.wrap b % 2 ^ 64))) + wv (pHi (-wv (pHi (wv (hiW a) (loW a) * 2 ^ 64)) (pLo (wv (hiW a) (loW a) * 2 ^ 64)))) (pLo (-wv (pHi (wv (hiW a) (loW a) * 2 ^ 64)) (pLo (wv (hiW a) (loW a) * 2 ^ 64)))))), M0)
            else none)
          else none)
        else some (.v (Wd (pHi (wv (hiW a) (loW a) * (IntKind.u64.wrap b % 2 ^ 64))) (pLo (wv (hiW a) (loW a) * (IntKind.u64.wrap b % 2 ^ 64)))), M0))
      else none)
    else none := by kernel_rfl
def gMu (vs : List Value) : Option (Bool × Value) :=
  match vs with
  | [.int .i64 a, .int .i64 b] => some (inI a && inI b, pW (a * b))
  | _ => none
theorem gMu_ok : ∀ vs r, gMu vs = some (true, r) → ∀ m, CallOk Tryz.prog 104 (vs.map .v) m (.v r) m := by
  intro vs r h
  unfold gMu at h
  split at h
  · rename_i a b
    obtain ⟨h1, rfl⟩ := some_t h
    rw [Bool.and_eq_true] at h1
    obtain ⟨h1, h2⟩ := h1
    refine runV (vs := [I a, I b]) (Λ := ΛMu) (m' := M0) OkQ4 Tryz.func104 rfl (fun z z1 z2 => oneLoop (c := Tryz.f104.body.getD .skip) loopsMu (loopOkMu z z1 z2)) ?_
    refine (runMu a b).trans ?_
    obtain ⟨e1, e2⟩ := wv_Wn (okW_I h1)
    rw [h1, e1, e2, inU_wrap, inU_pLo, inU_pLo, inU_pLo]
    simp only [BEq.rfl, Bool.and_self, cond_true]
    rw [inI_iff] at h2
    have e64 : (2 : Int) ^ 64 = 18446744073709551616 := by decide
    rw [e64]
    have em : IntKind.u64.wrap b % 18446744073709551616 = b % 18446744073709551616 := by rw [wrU]; omega
    rw [em]
    by_cases hb : b < 0
    · simp only [hb, decide_true, cond_true]
      refine vEq (pW_eq ?_)
      have q1 := wv_p (a * (b % 18446744073709551616))
      have q2 := wv_p (-wv (pHi (a * 18446744073709551616)) (pLo (a * 18446744073709551616)))
      have q3 := wv_p (a * 18446744073709551616)
      have : b % 18446744073709551616 = b + 18446744073709551616 := by omega
      rw [this, Int.mul_add] at q1 ⊢
      omega
    · simp only [hb, decide_false, cond_false]
      have : b % 18446744073709551616 = b := by omega
      rw [this]
  · cases h
noncomputable def ΓQ5 : Orc := addVal 104 gMu ΓQ4
theorem OkQ5 : ΓQ5.Ok Tryz.prog := addVal_ok OkQ4 gMu_ok
noncomputable def ΓRf : Orc := ΓQ5
theorem OkRf : ΓRf.Ok Tryz.prog := OkQ5
end Go.Proofs.YtikekoabadhmiaaGreat

namespace Go.Proofs.YtikekoabadhmiaaGreat
open Go Go.Proofs Go.Sx
set_option linter.unusedVariables false
/-! norm -/
/-! Places. -/
theorem vI {x y : Int} (h : x = y) : (some (SV.v (I x), M0) : Option (SV × Mem)) = some (.v (I y), M0) := by rw [h]

set_option maxRecDepth 20000 in
theorem runBtw (x a b : Int) : runG ΓRf L0 Tryz.prog Tryz.f136 [.v (I x), .v (I a), .v (I b)] M0 = 
    (bif decide (a ≤ x) then some (.v (Bo (decide (x ≤ b))), M0) else some (.v (Bo false), M0)) := by kernel_rfl
def gBtw (vs : List Value) : Option (Bool × Value) :=
  match vs with
  | [.int .i64 x, .int .i64 a, .int .i64 b] => some (true, Bo (decide (a ≤ x) && decide (x ≤ b)))
  | _ => none
theorem gBtw_ok : ∀ vs r, gBtw vs = some (true, r) → ∀ m, CallOk Tryz.prog 136 (vs.map .v) m (.v r) m := by
  intro vs r h
  unfold gBtw at h
  split at h
  · rename_i x a b
    obtain ⟨h1, rfl⟩ := some_t h
    refine runV (vs := [I x, I a, I b]) (Λ := L0) (m' := M0) OkRf Tryz.func136 rfl (fun z _ _ => l0Ok' _ z) ?_
    exact (runBtw x a b).trans (by cases decide (a ≤ x) <;> rfl)
  · cases h
noncomputable def ΓP1 : Orc := addVal 136 gBtw ΓRf
theorem OkP1 : ΓP1.Ok Tryz.prog := addVal_ok OkRf gBtw_ok
set_option maxRecDepth 20000 in
theorem runPRight (a1 a2 : Int) : runG ΓP1 L0 Tryz.prog Tryz.f132 [.v (.agg #[I a1, I a2])] M0 = 
    (bif decide ((-1099511627776 : Int) ≤ a1) && decide (a1 ≤ (1099511627776 : Int)) then some (.v (Bo (decide ((-1099511627776 : Int) ≤ a2) && decide (a2 ≤ (1099511627776 : Int)))), M0) else some (.v (Bo false), M0)) := by kernel_rfl
def gPRight (vs : List Value) : Option (Bool × Value) :=
  match vs with
  | [.agg ⟨[.int .i64 a1, .int .i64 a2]⟩] => some (true, Bo (plR a1 a2))
  | _ => none
theorem gPRight_ok : ∀ vs r, gPRight vs = some (true, r) → ∀ m, CallOk Tryz.prog 132 (vs.map .v) m (.v r) m := by
  intro vs r h
  unfold gPRight at h
  split at h
  · rename_i a1 a2
    obtain ⟨h1, rfl⟩ := some_t h
    refine runV (vs := [.agg #[I a1, I a2]]) (Λ := L0) (m' := M0) OkP1 Tryz.func132 rfl (fun z _ _ => l0Ok' _ z) ?_
    exact (runPRight a1 a2).trans (by
      unfold plR
      by_cases h1 : -1099511627776 ≤ a1 <;> by_cases h2 : a1 ≤ 1099511627776 <;> by_cases h3 : -1099511627776 ≤ a2 <;> by_cases h4 : a2 ≤ 1099511627776 <;> simp [h1, h2, h3, h4])
  · cases h
noncomputable def ΓP2 : Orc := addVal 132 gPRight ΓP1
theorem OkP2 : ΓP2.Ok Tryz.prog := addVal_ok OkP1 gPRight_ok
set_option maxRecDepth 20000 in
theorem runRPRight (a1 a2 : Int) : runG ΓP2 L0 Tryz.prog Tryz.f79 [.v (.agg #[I a1, I a2])] M0 = 
    (bif decide (a1 ≥ (-1099511627776 : Int)) then (bif decide (a1 ≤ (1099511627776 : Int)) then (bif decide (a2 ≥ (-1099511627776 : Int)) then some (.v (Bo (decide (a2 ≤ (1099511627776 : Int)))), M0) else some (.v (Bo false), M0)) else some (.v (Bo false), M0)) else some (.v (Bo false), M0)) := by kernel_rfl
def gRPRight (vs : List Value) : Option (Bool × Value) :=
  match vs with
  | [.agg ⟨[.int .i64 a1, .int .i64 a2]⟩] => some (true, Bo (plR a1 a2))
  | _ => none
theorem gRPRight_ok : ∀ vs r, gRPRight vs = some (true, r) → ∀ m, CallOk Tryz.prog 79 (vs.map .v) m (.v r) m := by
  intro vs r h
  unfold gRPRight at h
  split at h
  · rename_i a1 a2
    obtain ⟨h1, rfl⟩ := some_t h
    refine runV (vs := [.agg #[I a1, I a2]]) (Λ := L0) (m' := M0) OkP2 Tryz.func79 rfl (fun z _ _ => l0Ok' _ z) ?_
    exact (runRPRight a1 a2).trans (by
      unfold plR
      by_cases h1 : -1099511627776 ≤ a1 <;> by_cases h2 : a1 ≤ 1099511627776 <;> by_cases h3 : -1099511627776 ≤ a2 <;> by_cases h4 : a2 ≤ 1099511627776 <;> simp [h1, h2, h3, h4])
  · cases h
noncomputable def ΓP3 : Orc := addVal 79 gRPRight ΓP2
theorem OkP3 : ΓP3.Ok Tryz.prog := addVal_ok OkP2 gRPRight_ok
set_option maxRecDepth 20000 in
theorem runAllR0 (t : TypeId) (a1 a2 b1 b2 : Int) (own mark : Bool) : runG ΓP3 L0 Tryz.prog Tryz.f138 [.row 0] ⟨[], [], [.live ⟨t, [.num .i64, .num .i64], [[.n a1, .n a2], [.n b1, .n b2]], own, mark⟩]⟩ = (bif !plR a1 a2 then some (.v (Bo false), ⟨[], [], [.live ⟨t, [.num .i64, .num .i64], [[.n a1, .n a2], [.n b1, .n b2]], own, mark⟩]⟩) else (bif !plR b1 b2 then some (.v (Bo false), ⟨[], [], [.live ⟨t, [.num .i64, .num .i64], [[.n a1, .n a2], [.n b1, .n b2]], own, mark⟩]⟩) else some (.v (Bo true), ⟨[], [], [.live ⟨t, [.num .i64, .num .i64], [[.n a1, .n a2], [.n b1, .n b2]], own, mark⟩]⟩))) := by kernel_rfl
set_option maxRecDepth 20000 in
theorem runAllR1 (t : TypeId) (a1 a2 b1 b2 c1 c2 : Int) (own mark : Bool) : runG ΓP3 L0 Tryz.prog Tryz.f138 [.row 0] ⟨[], [], [.live ⟨t, [.num .i64, .num .i64], [[.n a1, .n a2], [.n b1, .n b2], [.n c1, .n c2]], own, mark⟩]⟩ = (bif !plR a1 a2 then some (.v (Bo false), ⟨[], [], [.live ⟨t, [.num .i64, .num .i64], [[.n a1, .n a2], [.n b1, .n b2], [.n c1, .n c2]], own, mark⟩]⟩) else (bif !plR b1 b2 then some (.v (Bo false), ⟨[], [], [.live ⟨t, [.num .i64, .num .i64], [[.n a1, .n a2], [.n b1, .n b2], [.n c1, .n c2]], own, mark⟩]⟩) else (bif !plR c1 c2 then some (.v (Bo false), ⟨[], [], [.live ⟨t, [.num .i64, .num .i64], [[.n a1, .n a2], [.n b1, .n b2], [.n c1, .n c2]], own, mark⟩]⟩) else some (.v (Bo true), ⟨[], [], [.live ⟨t, [.num .i64, .num .i64], [[.n a1, .n a2], [.n b1, .n b2], [.n c1, .n c2]], own, mark⟩]⟩)))) := by kernel_rfl
set_option maxRecDepth 20000 in
theorem runAllR2 (t : TypeId) (a1 a2 b1 b2 c1 c2 d1 d2 : Int) (own mark : Bool) : runG ΓP3 L0 Tryz.prog Tryz.f138 [.row 0] ⟨[], [], [.live ⟨t, [.num .i64, .num .i64], [[.n a1, .n a2], [.n b1, .n b2], [.n c1, .n c2], [.n d1, .n d2]], own, mark⟩]⟩ = (bif !plR a1 a2 then some (.v (Bo false), ⟨[], [], [.live ⟨t, [.num .i64, .num .i64], [[.n a1, .n a2], [.n b1, .n b2], [.n c1, .n c2], [.n d1, .n d2]], own, mark⟩]⟩) else (bif !plR b1 b2 then some (.v (Bo false), ⟨[], [], [.live ⟨t, [.num .i64, .num .i64], [[.n a1, .n a2], [.n b1, .n b2], [.n c1, .n c2], [.n d1, .n d2]], own, mark⟩]⟩) else (bif !plR c1 c2 then some (.v (Bo false), ⟨[], [], [.live ⟨t, [.num .i64, .num .i64], [[.n a1, .n a2], [.n b1, .n b2], [.n c1, .n c2], [.n d1, .n d2]], own, mark⟩]⟩) else (bif !plR d1 d2 then some (.v (Bo false), ⟨[], [], [.live ⟨t, [.num .i64, .num .i64], [[.n a1, .n a2], [.n b1, .n b2], [.n c1, .n c2], [.n d1, .n d2]], own, mark⟩]⟩) else some (.v (Bo true), ⟨[], [], [.live ⟨t, [.num .i64, .num .i64], [[.n a1, .n a2], [.n b1, .n b2], [.n c1, .n c2], [.n d1, .n d2]], own, mark⟩]⟩))))) := by kernel_rfl
def gAllR (xs : List SV) (m : Mem) : Option (Bool × Value) :=
  match xs, m with
  | [.row 0], ⟨[], [], [.live ⟨t, [.num .i64, .num .i64], [[.n a1, .n a2], [.n b1, .n b2]], own, mark⟩]⟩ => some (true, Bo ((plR a1 a2 && plR b1 b2)))
  | [.row 0], ⟨[], [], [.live ⟨t, [.num .i64, .num .i64], [[.n a1, .n a2], [.n b1, .n b2], [.n c1, .n c2]], own, mark⟩]⟩ => some (true, Bo ((plR a1 a2 && (plR b1 b2 && plR c1 c2))))
  | [.row 0], ⟨[], [], [.live ⟨t, [.num .i64, .num .i64], [[.n a1, .n a2], [.n b1, .n b2], [.n c1, .n c2], [.n d1, .n d2]], own, mark⟩]⟩ => some (true, Bo ((plR a1 a2 && (plR b1 b2 && (plR c1 c2 && plR d1 d2)))))
  | _, _ => none
theorem gAllR_ok : ∀ xs m r, gAllR xs m = some (true, r) → CallOk Tryz.prog 138 xs m (.v r) m := by
  intro xs m r h
  unfold gAllR at h
  split at h
  · rename_i t a1 a2 b1 b2 own mark
    obtain ⟨h1, rfl⟩ := some_t h
    refine runOk (Λ := L0) OkP3 Tryz.func138 rfl (fun z _ _ => l0Ok' _ z) ?_
    exact (runAllR0 t a1 a2 b1 b2 own mark).trans (by cases plR a1 a2 <;> cases plR b1 b2 <;> rfl)
  · rename_i t a1 a2 b1 b2 c1 c2 own mark
    obtain ⟨h1, rfl⟩ := some_t h
    refine runOk (Λ := L0) OkP3 Tryz.func138 rfl (fun z _ _ => l0Ok' _ z) ?_
    exact (runAllR1 t a1 a2 b1 b2 c1 c2 own mark).trans (by cases plR a1 a2 <;> cases plR b1 b2 <;> cases plR c1 c2 <;> rfl)
  · rename_i t a1 a2 b1 b2 c1 c2 d1 d2 own mark
    obtain ⟨h1, rfl⟩ := some_t h
    refine runOk (Λ := L0) OkP3 Tryz.func138 rfl (fun z _ _ => l0Ok' _ z) ?_
    exact (runAllR2 t a1 a2 b1 b2 c1 c2 d1 d2 own mark).trans (by cases plR a1 a2 <;> cases plR b1 b2 <;> cases plR c1 c2 <;> cases plR d1 d2 <;> rfl)
  · cases h
noncomputable def ΓP4 : Orc := addRd 138 gAllR ΓP3
theorem OkP4 : ΓP4.Ok Tryz.prog := addRd_ok OkP3 gAllR_ok
set_option maxRecDepth 20000 in
theorem runTurn (a1 a2 b1 b2 c1 c2 : Int) : runG ΓP4 L0 Tryz.prog Tryz.f139 [.v (.agg #[I a1, I a2]), .v (.agg #[I b1, I b2]), .v (.agg #[I c1, I c2])] M0 = 
    (bif !(plR a1 a2 && (plR b1 b2 && plR c1 c2)) then some (.v (I 0), M0) else (bif inI (wI (b1 - a1)) && inI (wI (c2 - a2)) then (bif inI (wI (b2 - a2)) && inI (wI (c1 - a1)) then (bif inW (hiW (wI (b1 - a1) * wI (c2 - a2))) (loW (wI (b1 - a1) * wI (c2 - a2))) && inW (hiW (wI (b2 - a2) * wI (c1 - a1))) (loW (wI (b2 - a2) * wI (c1 - a1))) then some (.v (I (cmpI (wv (hiW (wI (b1 - a1) * wI (c2 - a2))) (loW (wI (b1 - a1) * wI (c2 - a2)))) (wv (hiW (wI (b2 - a2) * wI (c1 - a1))) (loW (wI (b2 - a2) * wI (c1 - a1)))))), M0) else none) else none) else none)) := by kernel_rfl
def gTurn (vs : List Value) : Option (Bool × Value) :=
  match vs with
  | [.agg ⟨[.int .i64 a1, .int .i64 a2]⟩, .agg ⟨[.int .i64 b1, .int .i64 b2]⟩, .agg ⟨[.int .i64 c1, .int .i64 c2]⟩] => some (true, I (turnI a1 a2 b1 b2 c1 c2))
  | _ => none
theorem gTurn_ok : ∀ vs r, gTurn vs = some (true, r) → ∀ m, CallOk Tryz.prog 139 (vs.map .v) m (.v r) m := by
  intro vs r h
  unfold gTurn at h
  split at h
  · rename_i a1 a2 b1 b2 c1 c2
    obtain ⟨h1, rfl⟩ := some_t h
    refine runV (vs := [.agg #[I a1, I a2], .agg #[I b1, I b2], .agg #[I c1, I c2]]) (Λ := L0) (m' := M0) OkP4 Tryz.func139 rfl (fun z _ _ => l0Ok' _ z) ?_
    exact (runTurn a1 a2 b1 b2 c1 c2).trans (by
      have m1 := okW_mul (inI_wrap (b1 - a1)) (inI_wrap (c2 - a2))
      have m2 := okW_mul (inI_wrap (b2 - a2)) (inI_wrap (c1 - a1))
      cases h : plR a1 a2 && (plR b1 b2 && plR c1 c2) with
      | false => exact vI (by unfold turnI; rw [h]; rfl)
      | true =>
        rw [← turnI_wrap h]
        have i1 : inI (wI (b1 - a1)) = true := inI_wrap _
        have i2 : inI (wI (c2 - a2)) = true := inI_wrap _
        have i3 : inI (wI (b2 - a2)) = true := inI_wrap _
        have i4 : inI (wI (c1 - a1)) = true := inI_wrap _
        have w1 : wv (hiW (wI (b1 - a1) * wI (c2 - a2))) (loW (wI (b1 - a1) * wI (c2 - a2))) = wI (b1 - a1) * wI (c2 - a2) := (wv_Wn m1).1
        have w2 : wv (hiW (wI (b2 - a2) * wI (c1 - a1))) (loW (wI (b2 - a2) * wI (c1 - a1))) = wI (b2 - a2) * wI (c1 - a1) := (wv_Wn m2).1
        rw [i1, i2, i3, i4, inW_Wn, inW_Wn, w1, w2]
        rfl)
  · cases h
noncomputable def ΓP5 : Orc := addVal 139 gTurn ΓP4
theorem OkP5 : ΓP5.Ok Tryz.prog := addVal_ok OkP4 gTurn_ok
set_option maxRecDepth 20000 in
theorem runOn (p1 p2 a1 a2 b1 b2 : Int) : runG ΓP5 L0 Tryz.prog Tryz.f137 [.v (.agg #[I p1, I p2]), .v (.agg #[I a1, I a2]), .v (.agg #[I b1, I b2])] M0 = 
    (bif !(plR p1 p2 && (plR a1 a2 && plR b1 b2)) then some (.v (Bo false), M0) else (bif turnI a1 a2 b1 b2 p1 p2 != (0 : Int) then some (.v (Bo false), M0) else (bif decide ((if b1 < a1 then b1 else a1) ≤ p1) && decide (p1 ≤ if b1 > a1 then b1 else a1) then some (.v (Bo (decide ((if b2 < a2 then b2 else a2) ≤ p2) && decide (p2 ≤ if b2 > a2 then b2 else a2))), M0) else some (.v (Bo false), M0)))) := by kernel_rfl
def gOn (vs : List Value) : Option (Bool × Value) :=
  match vs with
  | [.agg ⟨[.int .i64 p1, .int .i64 p2]⟩, .agg ⟨[.int .i64 a1, .int .i64 a2]⟩, .agg ⟨[.int .i64 b1, .int .i64 b2]⟩] => some (true, Bo (onB p1 p2 a1 a2 b1 b2))
  | _ => none
theorem gOn_ok : ∀ vs r, gOn vs = some (true, r) → ∀ m, CallOk Tryz.prog 137 (vs.map .v) m (.v r) m := by
  intro vs r h
  unfold gOn at h
  split at h
  · rename_i p1 p2 a1 a2 b1 b2
    obtain ⟨h1, rfl⟩ := some_t h
    refine runV (vs := [.agg #[I p1, I p2], .agg #[I a1, I a2], .agg #[I b1, I b2]]) (Λ := L0) (m' := M0) OkP5 Tryz.func137 rfl (fun z _ _ => l0Ok' _ z) ?_
    exact (runOn p1 p2 a1 a2 b1 b2).trans (by
      unfold onB btw
      cases plR p1 p2 && (plR a1 a2 && plR b1 b2) with
      | false => rfl
      | true =>
        by_cases ht : turnI a1 a2 b1 b2 p1 p2 = 0
        · rw [ht]
          cases decide ((if b1 < a1 then b1 else a1) ≤ p1) && decide (p1 ≤ if b1 > a1 then b1 else a1) <;> rfl
        · rw [bne_iff_ne.2 ht, beq_eq_false_iff_ne.2 ht]
          rfl)
  · cases h
noncomputable def ΓP6 : Orc := addVal 137 gOn ΓP5
theorem OkP6 : ΓP6.Ok Tryz.prog := addVal_ok OkP5 gOn_ok
set_option maxRecDepth 20000 in
theorem runMeet (a1 a2 b1 b2 c1 c2 d1 d2 : Int) : runG ΓP6 L0 Tryz.prog Tryz.f135 [.v (.agg #[I a1, I a2]), .v (.agg #[I b1, I b2]), .v (.agg #[I c1, I c2]), .v (.agg #[I d1, I d2])] M0 = 
    (bif !(plR a1 a2 && (plR b1 b2 && (plR c1 c2 && plR d1 d2))) then some (.v (Bo false), M0) else (bif onB a1 a2 c1 c2 d1 d2 then some (.v (Bo true), M0) else (bif onB b1 b2 c1 c2 d1 d2 then some (.v (Bo true), M0) else (bif onB c1 c2 a1 a2 b1 b2 then some (.v (Bo true), M0) else (bif onB d1 d2 a1 a2 b1 b2 then some (.v (Bo true), M0) else (bif decide (wI (turnI a1 a2 b1 b2 c1 c2 * turnI a1 a2 b1 b2 d1 d2) < (0 : Int)) then some (.v (Bo (decide (wI (turnI c1 c2 d1 d2 a1 a2 * turnI c1 c2 d1 d2 b1 b2) < (0 : Int)))), M0) else some (.v (Bo false), M0))))))) := by kernel_rfl
def gMeet (vs : List Value) : Option (Bool × Value) :=
  match vs with
  | [.agg ⟨[.int .i64 a1, .int .i64 a2]⟩, .agg ⟨[.int .i64 b1, .int .i64 b2]⟩, .agg ⟨[.int .i64 c1, .int .i64 c2]⟩, .agg ⟨[.int .i64 d1, .int .i64 d2]⟩] => some (true, Bo (meetB a1 a2 b1 b2 c1 c2 d1 d2))
  | _ => none
theorem gMeet_ok : ∀ vs r, gMeet vs = some (true, r) → ∀ m, CallOk Tryz.prog 135 (vs.map .v) m (.v r) m := by
  intro vs r h
  unfold gMeet at h
  split at h
  · rename_i a1 a2 b1 b2 c1 c2 d1 d2
    obtain ⟨h1, rfl⟩ := some_t h
    refine runV (vs := [.agg #[I a1, I a2], .agg #[I b1, I b2], .agg #[I c1, I c2], .agg #[I d1, I d2]]) (Λ := L0) (m' := M0) OkP6 Tryz.func135 rfl (fun z _ _ => l0Ok' _ z) ?_
    exact (runMeet a1 a2 b1 b2 c1 c2 d1 d2).trans (by
      unfold meetB crossB
      cases plR a1 a2 && (plR b1 b2 && (plR c1 c2 && plR d1 d2))
      · rfl
      cases onB a1 a2 c1 c2 d1 d2
      · cases onB b1 b2 c1 c2 d1 d2
        · cases onB c1 c2 a1 a2 b1 b2
          · cases onB d1 d2 a1 a2 b1 b2
            · cases decide (wI (turnI a1 a2 b1 b2 c1 c2 * turnI a1 a2 b1 b2 d1 d2) < 0) <;> rfl
            · rfl
          · rfl
        · rfl
      · rfl)
  · cases h
noncomputable def ΓP7 : Orc := addVal 135 gMeet ΓP6
theorem OkP7 : ΓP7.Ok Tryz.prog := addVal_ok OkP6 gMeet_ok
noncomputable def ΓP8 : Orc := ΓP7
theorem OkP8 : ΓP8.Ok Tryz.prog := OkP7
set_option maxRecDepth 20000 in
theorem runRTurn (a1 a2 b1 b2 c1 c2 : Int) : runG ΓP8 L0 Tryz.prog Tryz.f94 [.v (.agg #[I a1, I a2]), .v (.agg #[I b1, I b2]), .v (.agg #[I c1, I c2])] M0 = 
    (bif !plR a1 a2 then some (.v (I 0), M0) else (bif !plR b1 b2 then some (.v (I 0), M0) else (bif !plR c1 c2 then some (.v (I 0), M0) else (bif inI (wI (b1 - a1)) && inI (wI (c2 - a2)) then (bif inI (wI (b2 - a2)) && inI (wI (c1 - a1)) then (bif inW (pHi (wI (b1 - a1) * wI (c2 - a2))) (pLo (wI (b1 - a1) * wI (c2 - a2))) && inW (pHi (wI (b2 - a2) * wI (c1 - a1))) (pLo (wI (b2 - a2) * wI (c1 - a1))) then some (.v (I (cmpI (wv (pHi (wI (b1 - a1) * wI (c2 - a2))) (pLo (wI (b1 - a1) * wI (c2 - a2)))) (wv (pHi (wI (b2 - a2) * wI (c1 - a1))) (pLo (wI (b2 - a2) * wI (c1 - a1)))))), M0) else none) else none) else none)))) := by kernel_rfl
def gRTurn (vs : List Value) : Option (Bool × Value) :=
  match vs with
  | [.agg ⟨[.int .i64 a1, .int .i64 a2]⟩, .agg ⟨[.int .i64 b1, .int .i64 b2]⟩, .agg ⟨[.int .i64 c1, .int .i64 c2]⟩] => some (true, I (turnI a1 a2 b1 b2 c1 c2))
  | _ => none
theorem gRTurn_ok : ∀ vs r, gRTurn vs = some (true, r) → ∀ m, CallOk Tryz.prog 94 (vs.map .v) m (.v r) m := by
  intro vs r h
  unfold gRTurn at h
  split at h
  · rename_i a1 a2 b1 b2 c1 c2
    obtain ⟨h1, rfl⟩ := some_t h
    refine runV (vs := [.agg #[I a1, I a2], .agg #[I b1, I b2], .agg #[I c1, I c2]]) (Λ := L0) (m' := M0) OkP8 Tryz.func94 rfl (fun z _ _ => l0Ok' _ z) ?_
    exact (runRTurn a1 a2 b1 b2 c1 c2).trans (by
      have m1 := okW_mul (inI_wrap (b1 - a1)) (inI_wrap (c2 - a2))
      have m2 := okW_mul (inI_wrap (b2 - a2)) (inI_wrap (c1 - a1))
      cases hA : plR a1 a2 with
      | false => exact vI (by unfold turnI; rw [hA]; rfl)
      | true =>
      cases hB : plR b1 b2 with
      | false => exact vI (by unfold turnI; rw [hA, hB]; rfl)
      | true =>
      cases hC : plR c1 c2 with
      | false => exact vI (by unfold turnI; rw [hA, hB, hC]; rfl)
      | true =>
        rw [← turnI_wrap (show (plR a1 a2 && (plR b1 b2 && plR c1 c2)) = true by rw [hA, hB, hC]; rfl)]
        have i1 : inI (wI (b1 - a1)) = true := inI_wrap _
        have i2 : inI (wI (c2 - a2)) = true := inI_wrap _
        have i3 : inI (wI (b2 - a2)) = true := inI_wrap _
        have i4 : inI (wI (c1 - a1)) = true := inI_wrap _
        have p1 : pHi (wI (b1 - a1) * wI (c2 - a2)) = hiW (wI (b1 - a1) * wI (c2 - a2)) ∧ pLo (wI (b1 - a1) * wI (c2 - a2)) = loW (wI (b1 - a1) * wI (c2 - a2)) := p_ok m1
        have p2 : pHi (wI (b2 - a2) * wI (c1 - a1)) = hiW (wI (b2 - a2) * wI (c1 - a1)) ∧ pLo (wI (b2 - a2) * wI (c1 - a1)) = loW (wI (b2 - a2) * wI (c1 - a1)) := p_ok m2
        have w1 : wv (hiW (wI (b1 - a1) * wI (c2 - a2))) (loW (wI (b1 - a1) * wI (c2 - a2))) = wI (b1 - a1) * wI (c2 - a2) := (wv_Wn m1).1
        have w2 : wv (hiW (wI (b2 - a2) * wI (c1 - a1))) (loW (wI (b2 - a2) * wI (c1 - a1))) = wI (b2 - a2) * wI (c1 - a1) := (wv_Wn m2).1
        rw [p1.1, p1.2, p2.1, p2.2, i1, i2, i3, i4, inW_Wn, inW_Wn, w1, w2]
        rfl)
  · cases h
noncomputable def ΓP9 : Orc := addVal 94 gRTurn ΓP8
theorem OkP9 : ΓP9.Ok Tryz.prog := addVal_ok OkP8 gRTurn_ok
set_option maxRecDepth 20000 in
theorem runROn (p1 p2 a1 a2 b1 b2 : Int) : runG ΓP9 L0 Tryz.prog Tryz.f81 [.v (.agg #[I p1, I p2]), .v (.agg #[I a1, I a2]), .v (.agg #[I b1, I b2])] M0 = 
    (bif !plR a1 a2 then some (.v (Bo false), M0) else (bif !plR b1 b2 then some (.v (Bo false), M0) else (bif !plR p1 p2 then some (.v (Bo false), M0) else (bif turnI a1 a2 b1 b2 p1 p2 != (0 : Int) then some (.v (Bo false), M0) else (bif decide (p1 ≥ if b1 < a1 then b1 else a1) then (bif decide (p1 ≤ if b1 > a1 then b1 else a1) then (bif decide (p2 ≥ if b2 < a2 then b2 else a2) then some (.v (Bo (decide (p2 ≤ if b2 > a2 then b2 else a2))), M0) else some (.v (Bo false), M0)) else some (.v (Bo false), M0)) else some (.v (Bo false), M0)))))) := by kernel_rfl
def gROn (vs : List Value) : Option (Bool × Value) :=
  match vs with
  | [.agg ⟨[.int .i64 p1, .int .i64 p2]⟩, .agg ⟨[.int .i64 a1, .int .i64 a2]⟩, .agg ⟨[.int .i64 b1, .int .i64 b2]⟩] => some (true, Bo (onB p1 p2 a1 a2 b1 b2))
  | _ => none
theorem gROn_ok : ∀ vs r, gROn vs = some (true, r) → ∀ m, CallOk Tryz.prog 81 (vs.map .v) m (.v r) m := by
  intro vs r h
  unfold gROn at h
  split at h
  · rename_i p1 p2 a1 a2 b1 b2
    obtain ⟨h1, rfl⟩ := some_t h
    refine runV (vs := [.agg #[I p1, I p2], .agg #[I a1, I a2], .agg #[I b1, I b2]]) (Λ := L0) (m' := M0) OkP9 Tryz.func81 rfl (fun z _ _ => l0Ok' _ z) ?_
    exact (runROn p1 p2 a1 a2 b1 b2).trans (by
      unfold onB btw
      cases plR a1 a2
      · cases plR p1 p2 <;> rfl
      cases plR b1 b2
      · cases plR p1 p2 <;> rfl
      cases plR p1 p2
      · rfl
      by_cases ht : turnI a1 a2 b1 b2 p1 p2 = 0
      · rw [ht]
        have e1 : decide (p1 ≥ if b1 < a1 then b1 else a1) = decide ((if b1 < a1 then b1 else a1) ≤ p1) := rfl
        have e2 : decide (p2 ≥ if b2 < a2 then b2 else a2) = decide ((if b2 < a2 then b2 else a2) ≤ p2) := rfl
        rw [e1, e2]
        cases decide ((if b1 < a1 then b1 else a1) ≤ p1) <;> cases decide (p1 ≤ if b1 > a1 then b1 else a1) <;> cases decide ((if b2 < a2 then b2 else a2) ≤ p2) <;> rfl
      · rw [bne_iff_ne.2 ht, beq_eq_false_iff_ne.2 ht]
        rfl)
  · cases h
noncomputable def ΓP10 : Orc := addVal 81 gROn ΓP9
theorem OkP10 : ΓP10.Ok Tryz.prog := addVal_ok OkP9 gROn_ok
set_option maxRecDepth 20000 in
theorem runRMeet (a1 a2 b1 b2 c1 c2 d1 d2 : Int) : runG ΓP10 L0 Tryz.prog Tryz.f82 [.v (.agg #[I a1, I a2]), .v (.agg #[I b1, I b2]), .v (.agg #[I c1, I c2]), .v (.agg #[I d1, I d2])] M0 = 
    (bif !plR a1 a2 then some (.v (Bo false), M0) else (bif !plR b1 b2 then some (.v (Bo false), M0) else (bif !plR c1 c2 then some (.v (Bo false), M0) else (bif !plR d1 d2 then some (.v (Bo false), M0) else (bif onB a1 a2 c1 c2 d1 d2 then some (.v (Bo true), M0) else (bif onB b1 b2 c1 c2 d1 d2 then some (.v (Bo true), M0) else (bif onB c1 c2 a1 a2 b1 b2 then some (.v (Bo true), M0) else (bif onB d1 d2 a1 a2 b1 b2 then some (.v (Bo true), M0) else (bif decide (wI (turnI a1 a2 b1 b2 c1 c2 * turnI a1 a2 b1 b2 d1 d2) < (0 : Int)) then some (.v (Bo (decide (wI (turnI c1 c2 d1 d2 a1 a2 * turnI c1 c2 d1 d2 b1 b2) < (0 : Int)))), M0) else some (.v (Bo false), M0)))))))))) := by kernel_rfl
def gRMeet (vs : List Value) : Option (Bool × Value) :=
  match vs with
  | [.agg ⟨[.int .i64 a1, .int .i64 a2]⟩, .agg ⟨[.int .i64 b1, .int .i64 b2]⟩, .agg ⟨[.int .i64 c1, .int .i64 c2]⟩, .agg ⟨[.int .i64 d1, .int .i64 d2]⟩] => some (true, Bo (meetB a1 a2 b1 b2 c1 c2 d1 d2))
  | _ => none
theorem gRMeet_ok : ∀ vs r, gRMeet vs = some (true, r) → ∀ m, CallOk Tryz.prog 82 (vs.map .v) m (.v r) m := by
  intro vs r h
  unfold gRMeet at h
  split at h
  · rename_i a1 a2 b1 b2 c1 c2 d1 d2
    obtain ⟨h1, rfl⟩ := some_t h
    refine runV (vs := [.agg #[I a1, I a2], .agg #[I b1, I b2], .agg #[I c1, I c2], .agg #[I d1, I d2]]) (Λ := L0) (m' := M0) OkP10 Tryz.func82 rfl (fun z _ _ => l0Ok' _ z) ?_
    exact (runRMeet a1 a2 b1 b2 c1 c2 d1 d2).trans (by
      unfold meetB crossB
      cases plR a1 a2
      · rfl
      cases plR b1 b2
      · rfl
      cases plR c1 c2
      · rfl
      cases plR d1 d2
      · rfl
      cases onB a1 a2 c1 c2 d1 d2
      · cases onB b1 b2 c1 c2 d1 d2
        · cases onB c1 c2 a1 a2 b1 b2
          · cases onB d1 d2 a1 a2 b1 b2
            · cases decide (wI (turnI a1 a2 b1 b2 c1 c2 * turnI a1 a2 b1 b2 d1 d2) < 0) <;> rfl
            · rfl
          · rfl
        · rfl
      · rfl)
  · cases h
noncomputable def ΓP11 : Orc := addVal 82 gRMeet ΓP10
theorem OkP11 : ΓP11.Ok Tryz.prog := addVal_ok OkP10 gRMeet_ok
noncomputable def ΓPt : Orc := ΓP11
theorem OkPt : ΓPt.Ok Tryz.prog := OkP11
end Go.Proofs.YtikekoabadhmiaaGreat

namespace Go.Proofs.YtikekoabadhmiaaGreat
open Go Go.Proofs Go.Sx
set_option linter.unusedVariables false
/-! norm -/
/-! cast -/
/-! Roots. -/
set_option maxRecDepth 20000 in
theorem runHS (a b n : Int) : runG ΓPt L0 Tryz.prog Tryz.f91 [.v (Wd a b), .v (UU n)] M0 = 
    (bif inU n && inU n then (bif decide (n * n / (18446744073709551616 : Int) < IntKind.u64.wrap a) then some (.v (Bo true), M0) else (bif n * n / (18446744073709551616 : Int) == IntKind.u64.wrap a then some (.v (Bo (decide (n * n % (18446744073709551616 : Int) ≤ b))), M0) else some (.v (Bo false), M0))) else none) := by kernel_rfl
def gHS (vs : List Value) : Option (Bool × Value) :=
  match vs with
  | [.agg ⟨[.int .i64 a, .int .u64 b]⟩, .int .u64 n] => some (inW a b && (decide (0 ≤ a) && inU n), Bo (decide (n * n ≤ wv a b)))
  | _ => none
theorem gHS_ok : ∀ vs r, gHS vs = some (true, r) → ∀ m, CallOk Tryz.prog 91 (vs.map .v) m (.v r) m := by
  intro vs r h
  unfold gHS at h
  split at h
  · rename_i a b n
    obtain ⟨h1, rfl⟩ := some_t h
    refine runV (vs := [Wd a b, UU n]) (Λ := L0) (m' := M0) OkPt Tryz.func91 rfl (fun z _ _ => l0Ok' _ z) ?_
    exact (runHS a b n).trans (by
      simp only [Bool.and_eq_true, decide_eq_true_eq] at h1
      obtain ⟨g1, g2, g3⟩ := h1
      rw [g3]
      simp only [Bool.and_self, cond_true]
      rw [inW_iff] at g1
      rw [wrU]
      have ea : a % 18446744073709551616 = a := by omega
      rw [ea]
      unfold wv
      by_cases c1 : n * n / 18446744073709551616 < a
      · rw [decide_eq_true c1, decide_eq_true (show n * n ≤ a * 18446744073709551616 + b by omega)]
        rfl
      · rw [decide_eq_false c1]
        by_cases c2 : n * n / 18446744073709551616 = a
        · rw [beq_iff_eq.2 c2]
          refine vEq ?_
          show Bo _ = Bo _
          rw [decide_eq_decide.2 (show n * n % 18446744073709551616 ≤ b ↔ n * n ≤ a * 18446744073709551616 + b by omega)]
        · rw [beq_eq_false_iff_ne.2 c2, decide_eq_false (show ¬ n * n ≤ a * 18446744073709551616 + b by omega)]
          rfl)
  · cases h
noncomputable def ΓT1 : Orc := addVal 91 gHS ΓPt
theorem OkT1 : ΓT1.Ok Tryz.prog := addVal_ok OkPt gHS_ok
noncomputable def bdSq : Code := loopAt (Tryz.f73.body.getD .skip) 0
theorem loopsSq : loopsOf (Tryz.f73.body.getD .skip) = [bdSq] := by kernel_rfl
theorem loopsSq0 : loopsOf bdSq = [] := by kernel_rfl
def kSq : List Bool := maskOf 21 [1, 4, 5]
def xSq : List Bool := maskOf 21 [4]
def KSq (e : Ex) (st : St) : Option (Ex × St) := some (e, cutC 0 0 xSq st)
def MSq (a b : Int) : Mem := ⟨[[.v (I a), .v (UU b)]], [true], []⟩
def HSq (a b r q : Int) : St := mk kSq [.ptr 0 0, .v (UU r), .v (UU q)] (MSq a b)
def XSq (r : Int) : St := mk xSq [.v (UU r)] M0
theorem stepSq (a b r q : Int) (k : Nat) : evLoop ΓT1 Tryz.prog L0 (cutC 0 0 kSq) bdSq (k + 1) (HSq a b r q) KSq =
    bif decide (q > 0) then (bif inW a b && (decide (0 ≤ a) && inU (orU r q)) then (bif decide (orU r q * orU r q ≤ wv a b) then evLoop ΓT1 Tryz.prog L0 (cutC 0 0 kSq) bdSq k (HSq a b (orU r q) (q.fdiv (2 ^ 1))) KSq else evLoop ΓT1 Tryz.prog L0 (cutC 0 0 kSq) bdSq k (HSq a b r (q.fdiv (2 ^ 1))) KSq) else none) else some (.exit 0, XSq r) := by kernel_rfl
def GSq (vals : List SV) (m : Mem) : Option (Bool × Ex × St) :=
  match vals, m with
  | [.ptr 0 0, .v (.int .u64 r), .v (.int .u64 q)], ⟨[[.v (.int .i64 a), .v (.int .u64 b)]], [true], []⟩ =>
    some (inW a b && (decide (0 ≤ a) && (r == 0 && q == 9223372036854775808)), .exit 0, XSq (sqr (wv a b) 64 0))
  | _, _ => none
noncomputable def ΛSq : LoopOrc := fun _ st => viaC 0 0 kSq GSq st
theorem loopOkSq (z : Base) (z1 : z.L.length = 0) (z2 : z.U.length = 0) : LoopOk ΛSq Tryz.prog z bdSq := by
  refine loop_okC (Λ := L0) (kx := fun _ => xSq) OkT1 mixed z1 z2 (fun b hb => by rw [loopsSq0] at hb; cases hb) (G := GSq) (fun _ => rfl) ?_
  intro vals m e st' h
  unfold GSq at h
  split at h
  · rename_i r q a b
    obtain ⟨h1, rfl, rfl⟩ := some_t2 h
    simp only [Bool.and_eq_true, beq_iff_eq, decide_eq_true_eq] at h1
    obtain ⟨g1, g2, rfl, rfl⟩ := h1
    exact ⟨65, sqr_loop (wv a b) (fun x => inW a b && (decide (0 ≤ a) && inU x)) (fun x hx => by simp [g1, g2, hx]) (fun m r q => evLoop ΓT1 Tryz.prog L0 (cutC 0 0 kSq) bdSq m (HSq a b r q) KSq) (fun r => some (.exit 0, XSq r)) (fun m r q => stepSq a b r q m) 63 0 (by decide) (by decide) (by decide)⟩
  · cases h
theorem runSq (a b : Int) : runG ΓT1 ΛSq Tryz.prog Tryz.f73 [.v (Wd a b)] M0 =
    bif decide (a < 0) then some (.v (.tuple #[UU 0, Bo false]), M0)
    else bif inW a b && (decide (0 ≤ a) && ((0 : Int) == 0 && (9223372036854775808 : Int) == 9223372036854775808)) then some (.v (.tuple #[UU (sqr (wv a b) 64 0), Bo true]), M0) else none := by kernel_rfl
def gSq (vs : List Value) : Option (Bool × Value) :=
  match vs with
  | [.agg ⟨[.int .i64 a, .int .u64 b]⟩] => some (inW a b, .tuple #[UU (rtW (wv a b)), Bo (decide (0 ≤ wv a b))])
  | _ => none
theorem gSq_ok : ∀ vs r, gSq vs = some (true, r) → ∀ m, CallOk Tryz.prog 73 (vs.map .v) m (.v r) m := by
  intro vs r h
  unfold gSq at h
  split at h
  · rename_i a b
    obtain ⟨h1, rfl⟩ := some_t h
    refine runV (vs := [Wd a b]) (Λ := ΛSq) (m' := M0) OkT1 Tryz.func73 rfl (fun z z1 z2 => oneLoop (c := Tryz.f73.body.getD .skip) loopsSq (loopOkSq z z1 z2)) ?_
    refine (runSq a b).trans ?_
    have h' := h1
    rw [inW_iff] at h'
    by_cases ha : a < 0
    · have e1 : wv a b < 0 := by unfold wv; omega
      have e2 : ¬ 0 ≤ wv a b := by omega
      simp [ha, rtW, e1, e2]
    · have e1 : ¬ wv a b < 0 := by unfold wv; omega
      have e2 : 0 ≤ wv a b := by omega
      have e3 : 0 ≤ a := by omega
      simp [ha, rtW, e1, e2, e3, h1]
  · cases h
noncomputable def ΓT2 : Orc := addVal 73 gSq ΓT1
theorem OkT2 : ΓT2.Ok Tryz.prog := addVal_ok OkT1 gSq_ok
/-! fix.Sqrt -/
set_option maxRecDepth 20000 in
theorem runFRoot (a b : Int) (t : Bool) : runG ΓT2 L0 Tryz.prog Tryz.f57 [.v (Wd a b), .v (Bo t)] M0 = 
    (bif !t then some (.v (.tuple #[(I 0), (Bo false)]), M0) else (bif inW a b then (bif !decide ((0 : Int) ≤ wv a b) then some (.v (.tuple #[(I 0), (Bo false)]), M0) else (bif decide (rtW (wv a b) > (9223372036854775807 : Int)) then some (.v (.tuple #[(I 0), (Bo false)]), M0) else some (.v (.tuple #[(I (wI (rtW (wv a b)))), (Bo true)]), M0))) else none)) := by kernel_rfl
def gFRoot (vs : List Value) : Option (Bool × Value) :=
  match vs with
  | [.agg ⟨[.int .i64 a, .int .u64 b]⟩, .bool t] => some (inW a b && (inI (wv a b) && t), .tuple #[I (rtW (wv a b)), Bo (decide (0 ≤ wv a b))])
  | _ => none
theorem rtW_I {n : Int} (h : inI n = true) : 0 ≤ rtW n ∧ rtW n < 4294967296 := by
  rw [inI_iff] at h
  refine ⟨rtW_nonneg (by omega), ?_⟩
  rcases (by omega : n < 0 ∨ 0 ≤ n) with h1 | h1
  · rw [rtW_neg h1]; decide
  · obtain ⟨s0, _, s2, _⟩ := rt_spec n h1 (by omega)
    rcases (by omega : rtW n < 4294967296 ∨ 4294967296 ≤ rtW n) with h2 | h2
    · exact h2
    · have := Int.mul_le_mul h2 h2 (by decide) s0
      omega
theorem gFRoot_ok : ∀ vs r, gFRoot vs = some (true, r) → ∀ m, CallOk Tryz.prog 57 (vs.map .v) m (.v r) m := by
  intro vs r h
  unfold gFRoot at h
  split at h
  · rename_i a b t
    obtain ⟨h1, rfl⟩ := some_t h
    refine runV (vs := [Wd a b, Bo t]) (Λ := L0) (m' := M0) OkT2 Tryz.func57 rfl (fun z _ _ => l0Ok' _ z) ?_
    exact (runFRoot a b t).trans (by
      simp only [Bool.and_eq_true] at h1
      obtain ⟨g1, g2, rfl⟩ := h1
      obtain ⟨r0, r1⟩ := rtW_I g2
      rw [g1]
      simp only [Bool.not_true, cond_false, cond_true]
      by_cases hn : 0 ≤ wv a b
      · rw [decide_eq_true hn, decide_eq_false (show ¬ rtW (wv a b) > 9223372036854775807 by omega), wI_id (by omega)]
        rfl
      · rw [decide_eq_false hn, rtW_neg (by omega)]
        rfl)
  · cases h
noncomputable def ΓT3 : Orc := addVal 57 gFRoot ΓT2
theorem OkT3 : ΓT3.Ok Tryz.prog := addVal_ok OkT2 gFRoot_ok
set_option maxRecDepth 20000 in
theorem runFSqrt (n : Int) : runG ΓT3 L0 Tryz.prog Tryz.f35 [.v (I n)] M0 = 
    (bif inI n then (bif inW (hiW n) (loW n) && (inI (wv (hiW n) (loW n)) && true) then some (.v (.tuple #[(I (rtW (wv (hiW n) (loW n)))), (Bo (decide ((0 : Int) ≤ wv (hiW n) (loW n))))]), M0) else none) else none) := by kernel_rfl
def gFSqrt (vs : List Value) : Option (Bool × Value) :=
  match vs with
  | [.int .i64 n] => some (inI n, .tuple #[I (rtW n), Bo (decide (0 ≤ n))])
  | _ => none
theorem gFSqrt_ok : ∀ vs r, gFSqrt vs = some (true, r) → ∀ m, CallOk Tryz.prog 35 (vs.map .v) m (.v r) m := by
  intro vs r h
  unfold gFSqrt at h
  split at h
  · rename_i n
    obtain ⟨h1, rfl⟩ := some_t h
    refine runV (vs := [I n]) (Λ := L0) (m' := M0) OkT3 Tryz.func35 rfl (fun z _ _ => l0Ok' _ z) ?_
    exact (runFSqrt n).trans (by
      obtain ⟨e1, e2⟩ := wv_Wn (okW_I h1)
      rw [h1, e2, e1, h1]
      rfl)
  · cases h
noncomputable def ΓT4 : Orc := addVal 35 gFSqrt ΓT3
theorem OkT4 : ΓT4.Ok Tryz.prog := addVal_ok OkT3 gFSqrt_ok
noncomputable def ΓT5 : Orc := ΓT4
theorem OkT5 : ΓT5.Ok Tryz.prog := OkT4
/-! The document's root. -/
noncomputable def ΓRt : Orc := ΓT5
theorem OkRt : ΓRt.Ok Tryz.prog := OkT5
end Go.Proofs.YtikekoabadhmiaaGreat

namespace Go.Proofs.YtikekoabadhmiaaGreat
open Go Go.Proofs Go.Sx
set_option linter.unusedVariables false
/-! norm -/
/-! cast -/
/-! Falls. -/
noncomputable def ΓA1 : Orc := ΓRt
theorem OkA1 : ΓA1.Ok Tryz.prog := OkRt
noncomputable def ΓA2 : Orc := ΓA1
theorem OkA2 : ΓA2.Ok Tryz.prog := OkA1
noncomputable def ΓA3 : Orc := ΓA2
theorem OkA3 : ΓA3.Ok Tryz.prog := OkA2
noncomputable def ΓA4 : Orc := ΓA3
theorem OkA4 : ΓA4.Ok Tryz.prog := OkA3
noncomputable def ΓA5 : Orc := ΓA4
theorem OkA5 : ΓA5.Ok Tryz.prog := OkA4
noncomputable def ΓA6 : Orc := ΓA5
theorem OkA6 : ΓA6.Ok Tryz.prog := OkA5
noncomputable def ΓA7 : Orc := ΓA6
theorem OkA7 : ΓA7.Ok Tryz.prog := OkA6
noncomputable def ΓA8 : Orc := ΓA7
theorem OkA8 : ΓA8.Ok Tryz.prog := OkA7
noncomputable def ΓA9 : Orc := ΓA8
theorem OkA9 : ΓA9.Ok Tryz.prog := OkA8
noncomputable def ΓA10 : Orc := ΓA9
theorem OkA10 : ΓA10.Ok Tryz.prog := OkA9
noncomputable def ΓA11 : Orc := ΓA10
theorem OkA11 : ΓA11.Ok Tryz.prog := OkA10
noncomputable def ΓFa : Orc := ΓA11
theorem OkFa : ΓFa.Ok Tryz.prog := OkA11
end Go.Proofs.YtikekoabadhmiaaGreat

namespace Go.Proofs.YtikekoabadhmiaaGreat
open Go Go.Proofs Go.Sx
set_option linter.unusedVariables false
/-! norm -/
/-! cast -/
/-! Boxes, as far as impacts have them. -/
def boR (a b c d : Int) : Bool := plR a b && (plR c d && (decide (a ≤ c) && decide (b ≤ d)))
def hasB (a b c d x y : Int) : Bool := boR a b c d && (plR x y && (decide (x ≥ a) && (decide (x ≤ c) && (decide (y ≥ b) && decide (y ≤ d)))))
noncomputable def ΓB1 : Orc := ΓFa
theorem OkB1 : ΓB1.Ok Tryz.prog := OkFa
noncomputable def ΓB2 : Orc := ΓB1
theorem OkB2 : ΓB2.Ok Tryz.prog := OkB1
noncomputable def ΓB3 : Orc := ΓB2
theorem OkB3 : ΓB3.Ok Tryz.prog := OkB2
noncomputable def ΓB4 : Orc := ΓB3
theorem OkB4 : ΓB4.Ok Tryz.prog := OkB3
noncomputable def ΓB5 : Orc := ΓB4
theorem OkB5 : ΓB5.Ok Tryz.prog := OkB4
noncomputable def ΓB6 : Orc := ΓB5
theorem OkB6 : ΓB6.Ok Tryz.prog := OkB5
noncomputable def ΓB7 : Orc := ΓB6
theorem OkB7 : ΓB7.Ok Tryz.prog := OkB6
noncomputable def ΓB8 : Orc := ΓB7
theorem OkB8 : ΓB8.Ok Tryz.prog := OkB7
noncomputable def ΓB9 : Orc := ΓB8
theorem OkB9 : ΓB9.Ok Tryz.prog := OkB8
noncomputable def ΓB10 : Orc := ΓB9
theorem OkB10 : ΓB10.Ok Tryz.prog := OkB9
noncomputable def ΓB11 : Orc := ΓB10
theorem OkB11 : ΓB11.Ok Tryz.prog := OkB10
noncomputable def ΓBx : Orc := ΓB11
theorem OkBx : ΓBx.Ok Tryz.prog := OkB11
end Go.Proofs.YtikekoabadhmiaaGreat

namespace Go.Proofs.YtikekoabadhmiaaGreat
open Go Go.Proofs Go.Sx
set_option linter.unusedVariables false
/-! norm -/
/-! cast -/
/-! Boxes, whatever they are. -/
noncomputable def ΓU1 : Orc := ΓBx
theorem OkU1 : ΓU1.Ok Tryz.prog := OkBx
noncomputable def ΓU2 : Orc := ΓU1
theorem OkU2 : ΓU2.Ok Tryz.prog := OkU1
noncomputable def ΓU3 : Orc := ΓU2
theorem OkU3 : ΓU3.Ok Tryz.prog := OkU2
noncomputable def ΓU4 : Orc := ΓU3
theorem OkU4 : ΓU4.Ok Tryz.prog := OkU3
noncomputable def ΓU5 : Orc := ΓU4
theorem OkU5 : ΓU5.Ok Tryz.prog := OkU4
noncomputable def ΓU6 : Orc := ΓU5
theorem OkU6 : ΓU6.Ok Tryz.prog := OkU5
noncomputable def ΓU7 : Orc := ΓU6
theorem OkU7 : ΓU7.Ok Tryz.prog := OkU6
noncomputable def ΓU8 : Orc := ΓU7
theorem OkU8 : ΓU8.Ok Tryz.prog := OkU7
noncomputable def ΓBo : Orc := ΓU8
theorem OkBo : ΓBo.Ok Tryz.prog := OkU8
end Go.Proofs.YtikekoabadhmiaaGreat

