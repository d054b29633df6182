/-
  What is known of this program: the atomics, names; contracts of count, wide, of navs' nearness, of roots, and of the document's.
-/
import Derived.Test.YtnelbjbphkfkkaaSx
import Derived.Test.YtnelbjbphkfkkaaProg
import Derived.Lib.Strings
import Derived.Lib.Walk
import Derived.Lib.BufferWrite
import Derived.Lib.UnsafeStr
import Derived.Laws.MakeOwn
import Derived.WalkKit
import Derived.Test.YtnelbjbphkfkkaaSw
namespace Go.Proofs.Ytnelbjbphkfkkaa
open Go Go.Proofs Go.Sx Go.RowKit
theorem mixed : Try.prog.follows .mixedOrders = true := by kernel_rfl
theorem names : namesOk Try.prog = true := by kernel_rfl
def noC : FuncId → List SV → Mem → Option (Bool × SV × Mem) := fun _ _ _ => none
def noR : FuncId → List SV → Mem → Option (Bool × Value) := fun _ _ _ => none
def M0 : Mem := ⟨[], [], []⟩
def I (x : Int) : Value := .int .i64 x
def S (s : ByteArray) : Value := .string s
def Bo (b : Bool) : Value := .bool b
def U8 (x : Int) : Value := .int .u8 x
def U16 (x : Int) : Value := .int .u16 x
def U32 (x : Int) : Value := .int .u32 x
theorem xLoad64 : Ext Try.prog 95 (Extern.Atomic.loadT (.int .i64)) := ⟨fun args w => run_callFunc_extern Try.func95 (by kernel_rfl) (by kernel_rfl) (by kernel_rfl) (by kernel_rfl) args w⟩
def rLoad64 : FuncId → List SV → Mem → Option (Bool × Value) := loadE 95 .i64
theorem rLoad64_ok : ∀ f xs m r, rLoad64 f xs m = some (true, r) → CallOk Try.prog f xs m (.v r) m := loadE_ok xLoad64
theorem xCas64 : Ext Try.prog 100 (Extern.Atomic.casT (.int .i64)) := ⟨fun args w => run_callFunc_extern Try.func100 (by kernel_rfl) (by kernel_rfl) (by kernel_rfl) (by kernel_rfl) args w⟩
def cCas64 : FuncId → List SV → Mem → Option (Bool × SV × Mem) := casE 100 .i64
theorem cCas64_ok : ∀ f xs m r m', cCas64 f xs m = some (true, r, m') → CallOk Try.prog f xs m r m' := casE_ok xCas64
def vClone : FuncId → List Value → Option (Bool × Value) := fun _ _ => none
theorem vClone_ok : TabOk Try.prog vClone := fun _ _ _ h => by cases h
/-- Structs that are compared. -/
def good : List TypeId :=
  23 ::
  69 ::
  153 ::
  117 ::
  86 ::
  []
/-- Calls that others wait for, in a region that draws its order. -/
def makers (f : FuncId) : Bool :=
  Nat.beq f 98 ||
  Nat.beq f 76 ||
  false
theorem goodOk : good.all (eqTypeOk Try.prog) = true := by kernel_rfl
noncomputable def ΓA : Orc := addR (tabV vClone) { call := cCas64, eqv := eqvOf Try.prog good, rd := rLoad64, unr := 8, wr := makers }
theorem OkA : ΓA.Ok Try.prog := addR_tab ⟨cCas64_ok, rLoad64_ok, fun t xs ys r h w op x y hop => eqvOf_ok goodOk t xs ys r h w op x y hop⟩ vClone_ok
theorem runOk {Γ : Orc} {Λ : LoopOrc} (hΓ : Γ.Ok Try.prog) {f : FuncId} {fn : Func} {c : Code} (hf : Try.prog.funcs[f]? = some fn) (hb : fn.body = some c) {xs : List SV} {m m' : Mem} {r : SV}
    (hL : ∀ z, z.L.length = m.blk.length → z.U.length = m.rows.length → ∀ b ∈ loopsOf c, LoopOk Λ Try.prog z b) (h : runG Γ Λ Try.prog fn xs m = some (r, m')) : CallOk Try.prog f xs m r m' := callOk_of_run hΓ mixed names hf hb hL h
/-- A call of values alone, by its run. -/
theorem runV {Γ : Orc} {Λ : LoopOrc} (hΓ : Γ.Ok Try.prog) {f : FuncId} {fn : Func} {c : Code} (hf : Try.prog.funcs[f]? = some fn) (hb : fn.body = some c) {vs : List Value} {r : Value} {m' : Mem}
    (hL : ∀ z : Base, z.L.length = 0 → z.U.length = 0 → ∀ b ∈ loopsOf c, LoopOk Λ Try.prog z b) (h : runG Γ Λ Try.prog fn (vs.map .v) M0 = some (.v r, m')) : ∀ m, CallOk Try.prog f (vs.map .v) m (.v r) m := valOk hΓ mixed names hf hb hL h
end Go.Proofs.Ytnelbjbphkfkkaa

namespace Go.Proofs.Ytnelbjbphkfkkaa
open Go Go.Proofs Go.Sx
/-! Counters: a block of two numbers, the most and the value. -/
def MC (a b : Int) : Mem := ⟨[[.v (I a), .v (I b)]], [true], []⟩
def clampI (x y : Int) : Int := if (if y < x then y else x) > 0 then (if y < x then y else x) else 0
def gLoad (xs : List SV) (m : Mem) : Option (Bool × Value) :=
  match xs, m with
  | [.ptr 0 1], ⟨[[.v (.int .i64 _), .v (.int .i64 b)]], [true], []⟩ => some (true, I b)
  | _, _ => none
theorem gLoad_ok : ∀ xs m r, gLoad xs m = some (true, r) → CallOk Try.prog 83 xs m (.v r) m := by
  intro xs m r h
  unfold gLoad at h
  split at h
  · rename_i a b
    obtain ⟨_, rfl⟩ := some_t h
    refine runOk (Λ := L0) OkA Try.func83 rfl (fun z _ _ => noLoops (by kernel_rfl) z) ?_
    kernel_rfl
  · cases h
noncomputable def ΓC1 : Orc := addRd 83 gLoad ΓA
theorem OkC1 : ΓC1.Ok Try.prog := addRd_ok OkA gLoad_ok
def gClamp (vs : List Value) : Option (Bool × Value) :=
  match vs with
  | [.int .i64 x, .int .i64 y] => some (true, I (clampI x y))
  | _ => none
theorem gClamp_ok : ∀ vs r, gClamp vs = some (true, r) → ∀ m, CallOk Try.prog 81 (vs.map .v) m (.v r) m := by
  intro vs r h
  unfold gClamp at h
  split at h
  · rename_i x y
    obtain ⟨_, rfl⟩ := some_t h
    refine runV (Λ := L0) (m' := M0) OkC1 Try.func81 rfl (fun z _ _ => noLoops (by kernel_rfl) z) ?_
    kernel_rfl
  · cases h
noncomputable def ΓC2 : Orc := addVal 81 gClamp ΓC1
theorem OkC2 : ΓC2.Ok Try.prog := addVal_ok OkC1 gClamp_ok
def gValue (xs : List SV) (m : Mem) : Option (Bool × Value) :=
  match xs, m with
  | [.ptr 0 0], ⟨[[.v (.int .i64 _), .v (.int .i64 b)]], [true], []⟩ => some (true, I b)
  | [.v (.pointer none)], _ => some (true, I 0)
  | _, _ => none
theorem gValue_ok : ∀ xs m r, gValue xs m = some (true, r) → CallOk Try.prog 68 xs m (.v r) m := by
  intro xs m r h
  unfold gValue at h
  split at h
  · rename_i a b
    obtain ⟨_, rfl⟩ := some_t h
    refine runOk (Λ := L0) OkC2 Try.func68 rfl (fun z _ _ => noLoops (by kernel_rfl) z) ?_
    kernel_rfl
  · obtain ⟨_, rfl⟩ := some_t h
    refine runV (vs := [.pointer none]) (Λ := L0) (m' := M0) OkC2 Try.func68 rfl (fun z _ _ => noLoops (by kernel_rfl) z) ?_ m
    kernel_rfl
  · cases h
noncomputable def ΓC3 : Orc := addRd 68 gValue ΓC2
theorem OkC3 : ΓC3.Ok Try.prog := addRd_ok OkC2 gValue_ok
def gCas (xs : List SV) (m : Mem) : Option (Bool × SV × Mem) :=
  match xs, m with
  | [.ptr 0 1, .v (.int .i64 x), .v (.int .i64 y)], ⟨[[.v (.int .i64 a), .v (.int .i64 b)]], [true], []⟩ => some (true, .v (Bo (b == x)), MC a (bif b == x then y else b))
  | _, _ => none
theorem gCas_ok : ∀ xs m r m', gCas xs m = some (true, r, m') → CallOk Try.prog 94 xs m r m' := by
  intro xs m r m' h
  unfold gCas at h
  split at h
  · rename_i x y a b
    obtain ⟨_, rfl, rfl⟩ := some_t2 h
    refine runOk (Λ := L0) OkC3 Try.func94 rfl (fun z _ _ => noLoops (by kernel_rfl) z) ?_
    kernel_rfl
  · cases h
noncomputable def ΓC4 : Orc := addCl 94 gCas ΓC3
theorem OkC4 : ΓC4.Ok Try.prog := addCl_ok OkC3 gCas_ok
def gRaised (xs : List SV) (m : Mem) : Option (Bool × Value) :=
  match xs, m with
  | [.ptr 0 0, .v (.int .i64 v), .v (.int .i64 n)], ⟨[[.v (.int .i64 a), .v (.int .i64 _)]], [true], []⟩ => some (true, I (wI (v + clampI n (wI (a - v)))))
  | _, _ => none
theorem gRaised_ok : ∀ xs m r, gRaised xs m = some (true, r) → CallOk Try.prog 93 xs m (.v r) m := by
  intro xs m r h
  unfold gRaised at h
  split at h
  · rename_i v n a b
    obtain ⟨_, rfl⟩ := some_t h
    refine runOk (Λ := L0) OkC4 Try.func93 rfl (fun z _ _ => noLoops (by kernel_rfl) z) ?_
    kernel_rfl
  · cases h
noncomputable def ΓC5 : Orc := addRd 93 gRaised ΓC4
theorem OkC5 : ΓC5.Ok Try.prog := addRd_ok OkC4 gRaised_ok
/-- A counter's value behind a call of Add. -/
def addN' (a v n : Int) : Int := wI (v + clampI n (wI (a - v)))
def kAdd : List Bool := maskOf 24 [0, 1]
def kAddx : List Bool := maskOf 24 [4]
noncomputable def bodyAdd : Code := loopAt (Try.f82.body.getD .skip) 0
theorem loopsAdd : loopsOf (Try.f82.body.getD .skip) = [bodyAdd] := by kernel_rfl
theorem loopsAdd0 : loopsOf bodyAdd = [] := by kernel_rfl
theorem stepAdd (a v n : Int) (k : Nat) : evLoop ΓC5 Try.prog L0 (cutC 1 0 kAdd) bodyAdd (k + 1) (mk kAdd [.ptr 0 0, .v (I n)] (MC a v)) (fun e st => some (e, cutC 1 0 kAddx st)) =
    bif v == v then some (.ret, mk kAddx [.v (I (addN' a v n))] (MC a (bif v == v then addN' a v n else v))) else
      evLoop ΓC5 Try.prog L0 (cutC 1 0 kAdd) bodyAdd k (mk kAdd [.ptr 0 0, .v (I n)] (MC a (bif v == v then addN' a v n else v))) (fun e st => some (e, cutC 1 0 kAddx st)) := by kernel_rfl
def GAdd (vals : List SV) (m : Mem) : Option (Bool × Ex × St) :=
  match vals, m with
  | [.ptr 0 0, .v (.int .i64 n)], ⟨[[.v (.int .i64 a), .v (.int .i64 v)]], [true], []⟩ => some (true, .ret, mk kAddx [.v (I (addN' a v n))] (MC a (addN' a v n)))
  | _, _ => none
noncomputable def ΛAdd : LoopOrc := fun _ st => viaC 1 0 kAdd GAdd st
theorem loopOkAdd (z : Base) (h1 : z.L.length = 1) (h2 : z.U.length = 0) : LoopOk ΛAdd Try.prog z bodyAdd := by
  refine loop_okC (Λ := L0) (kx := fun _ => kAddx) OkC5 mixed h1 h2 (fun b hb => by rw [loopsAdd0] at hb; cases hb) (G := GAdd) (fun _ => rfl) ?_
  intro vals m e st' h
  unfold GAdd at h
  split at h
  · rename_i n a v
    obtain ⟨_, rfl, rfl⟩ := some_t2 h
    refine ⟨1, (stepAdd a v n 0).trans ?_⟩
    simp only [beq_self_eq_true, cond_true]
  · cases h
def gAdd (xs : List SV) (m : Mem) : Option (Bool × SV × Mem) :=
  match xs, m with
  | [.ptr 0 0, .v (.int .i64 n)], ⟨[[.v (.int .i64 a), .v (.int .i64 v)]], [true], []⟩ => some (true, .v (I (addN' a v n)), MC a (addN' a v n))
  | _, _ => none
theorem gAdd_ok : ∀ xs m r m', gAdd xs m = some (true, r, m') → CallOk Try.prog 82 xs m r m' := by
  intro xs m r m' h
  unfold gAdd at h
  split at h
  · rename_i n a v
    obtain ⟨_, rfl, rfl⟩ := some_t2 h
    refine runOk (Λ := ΛAdd) OkC5 Try.func82 rfl (fun z h1 h2 => oneLoop (c := Try.f82.body.getD .skip) loopsAdd (loopOkAdd z h1 h2)) ?_
    kernel_rfl
  · cases h
noncomputable def ΓC6 : Orc := addCl 82 gAdd ΓC5
theorem OkC6 : ΓC6.Ok Try.prog := addCl_ok OkC5 gAdd_ok
def gNew (xs : List SV) (m : Mem) : Option (Bool × SV × Mem) :=
  match xs, m with
  | [.v (.int .i64 n)], ⟨[], [], []⟩ => some (true, .ptr 0 0, MC (clampI n 1000000) 0)
  | _, _ => none
theorem gNew_ok : ∀ xs m r m', gNew xs m = some (true, r, m') → CallOk Try.prog 64 xs m r m' := by
  intro xs m r m' h
  unfold gNew at h
  split at h
  · rename_i n
    obtain ⟨_, rfl, rfl⟩ := some_t2 h
    refine runOk (Λ := L0) OkC6 Try.func64 rfl (fun z _ _ => noLoops (by kernel_rfl) z) ?_
    kernel_rfl
  · cases h
noncomputable def ΓC : Orc := addCl 64 gNew ΓC6
theorem OkC : ΓC.Ok Try.prog := addCl_ok OkC6 gNew_ok
end Go.Proofs.Ytnelbjbphkfkkaa

namespace Go.Proofs.Ytnelbjbphkfkkaa
open Go Go.Proofs Go.Sx
set_option linter.unusedVariables false
/-! Numbers of 128 bits: the program's calls. -/
/-! norm -/
abbrev UU (x : Int) : Value := .int .u64 x
theorem vEq {a b : Value} (h : a = b) : (some (SV.v a, M0) : Option (SV × Mem)) = some (.v b, M0) := by rw [h]
theorem l0Ok' (c : Code) (z : Base) : ∀ b ∈ loopsOf c, LoopOk L0 Try.prog z b := fun b _ st e st' h => by cases h

noncomputable def ΓW1 : Orc := ΓC
theorem OkW1 : ΓW1.Ok Try.prog := OkC
noncomputable def ΓW2 : Orc := ΓW1
theorem OkW2 : ΓW2.Ok Try.prog := OkW1
set_option maxRecDepth 20000 in
theorem runWNeg (a b : Int) : runG ΓW2 L0 Try.prog Try.f101 [.v (Wd a b)] M0 = some (.v (Bo (decide (a < 0))), M0) := by kernel_rfl
def gWNeg (vs : List Value) : Option (Bool × Value) :=
  match vs with
  | [.agg ⟨[.int .i64 a, .int .u64 b]⟩] => some (true, Bo (decide (a < 0)))
  | _ => none
theorem gWNeg_ok : ∀ vs r, gWNeg vs = some (true, r) → ∀ m, CallOk Try.prog 101 (vs.map .v) m (.v r) m := by
  intro vs r h
  unfold gWNeg at h
  split at h
  · rename_i a b
    obtain ⟨h1, rfl⟩ := some_t h
    refine runV (vs := [Wd a b]) (Λ := L0) (m' := M0) OkW2 Try.func101 rfl (fun z _ _ => l0Ok' _ z) ?_
    exact (runWNeg a b).trans (rfl)
  · cases h
noncomputable def ΓW3 : Orc := addVal 101 gWNeg ΓW2
theorem OkW3 : ΓW3.Ok Try.prog := addVal_ok OkW2 gWNeg_ok
noncomputable def ΓW4 : Orc := ΓW3
theorem OkW4 : ΓW4.Ok Try.prog := OkW3
noncomputable def ΓW5 : Orc := ΓW4
theorem OkW5 : ΓW5.Ok Try.prog := OkW4
set_option maxRecDepth 20000 in
theorem runMul64 (x y : Int) : runG ΓW5 L0 Try.prog Try.f103 [.v (UU x), .v (UU y)] M0 = 
      (let U := IntKind.u64.wrap; let A := fun z : Int => U ((BitVec.ofInt 64 z &&& BitVec.ofInt 64 4294967295).toNat : Int); let S := fun z : Int => z.fdiv (2 ^ 32); let w0 := U (A x * A y); let t := U (U (S x * A y) + S w0); let w1 := U (A t + U (A x * S y)); some (.v (.tuple #[UU (U (U (U (S x * S y) + S t) + S w1)), UU (U (x * y))]), M0)) := by kernel_rfl
def gMul64 (vs : List Value) : Option (Bool × Value) :=
  match vs with
  | [.int .u64 x, .int .u64 y] => some (inU x && inU y, .tuple #[UU (x * y / 18446744073709551616), UU (x * y % 18446744073709551616)])
  | _ => none
theorem gMul64_ok : ∀ vs r, gMul64 vs = some (true, r) → ∀ m, CallOk Try.prog 103 (vs.map .v) m (.v r) m := by
  intro vs r h
  unfold gMul64 at h
  split at h
  · rename_i x y
    obtain ⟨h1, rfl⟩ := some_t h
    refine runV (vs := [UU x, UU y]) (Λ := L0) (m' := M0) OkW5 Try.func103 rfl (fun z _ _ => l0Ok' _ z) ?_
    exact (runMul64 x y).trans (by
      rw [Bool.and_eq_true] at h1
      obtain ⟨e1, e2⟩ := mul64_halves x y h1.1 h1.2
      exact vEq (by show Value.tuple #[UU _, UU _] = _; rw [e1, e2]))
  · cases h
noncomputable def ΓW6 : Orc := addVal 103 gMul64 ΓW5
theorem OkW6 : ΓW6.Ok Try.prog := addVal_ok OkW5 gMul64_ok
noncomputable def ΓW7 : Orc := ΓW6
theorem OkW7 : ΓW7.Ok Try.prog := OkW6
noncomputable def ΓW8 : Orc := ΓW7
theorem OkW8 : ΓW8.Ok Try.prog := OkW7
noncomputable def ΓW9 : Orc := ΓW8
theorem OkW9 : ΓW9.Ok Try.prog := OkW8
set_option maxRecDepth 20000 in
theorem runWOf (n : Int) : runG ΓW9 L0 Try.prog Try.f90 [.v (I n)] M0 = some (.v (Wd (n.fdiv (2 ^ 63)) (IntKind.u64.wrap n)), M0) := by kernel_rfl
def gWOf (vs : List Value) : Option (Bool × Value) :=
  match vs with
  | [.int .i64 n] => some (inI n, Wn n)
  | _ => none
theorem gWOf_ok : ∀ vs r, gWOf vs = some (true, r) → ∀ m, CallOk Try.prog 90 (vs.map .v) m (.v r) m := by
  intro vs r h
  unfold gWOf at h
  split at h
  · rename_i n
    obtain ⟨h1, rfl⟩ := some_t h
    refine runV (vs := [I n]) (Λ := L0) (m' := M0) OkW9 Try.func90 rfl (fun z _ _ => l0Ok' _ z) ?_
    exact (runWOf n).trans (by
      rw [inI_iff] at h1
      obtain ⟨_, h2, h3⟩ := okW_of (n := n) (by omega) (by omega)
      refine vEq (wd_eq ?_ ?_)
      · rw [h2, Int.fdiv_eq_ediv_of_nonneg _ (by decide), show (2 : Int) ^ 63 = 9223372036854775808 from by decide]
        omega
      · rw [h3, wrU])
  · cases h
noncomputable def ΓW10 : Orc := addVal 90 gWOf ΓW9
theorem OkW10 : ΓW10.Ok Try.prog := addVal_ok OkW9 gWOf_ok
noncomputable def ΓW11 : Orc := ΓW10
theorem OkW11 : ΓW11.Ok Try.prog := OkW10
noncomputable def ΓW12 : Orc := ΓW11
theorem OkW12 : ΓW12.Ok Try.prog := OkW11
noncomputable def ΓW13 : Orc := ΓW12
theorem OkW13 : ΓW13.Ok Try.prog := OkW12
noncomputable def ΓW14 : Orc := ΓW13
theorem OkW14 : ΓW14.Ok Try.prog := OkW13
noncomputable def ΓW15 : Orc := ΓW14
theorem OkW15 : ΓW15.Ok Try.prog := OkW14
noncomputable def ΓW16 : Orc := ΓW15
theorem OkW16 : ΓW16.Ok Try.prog := OkW15
noncomputable def ΓWd : Orc := ΓW16
theorem OkWd : ΓWd.Ok Try.prog := OkW16
end Go.Proofs.Ytnelbjbphkfkkaa

namespace Go.Proofs.Ytnelbjbphkfkkaa
open Go Go.Proofs Go.Sx
set_option linter.unusedVariables false
/-! norm -/
/-! Numbers of 128 bits: the document's, digit by digit. -/
def MB (a b : Int) (R : List (List Dat)) : Mem := ⟨[[.v (I a), .v (UU b)]], [true], [.live ⟨3, [.num .i64], R, true, false⟩]⟩
def MRow (R : List (List Dat)) : Mem := ⟨[], [], [.live ⟨3, [.num .i64], R, true, false⟩]⟩
noncomputable def bdBits : Code := Try.f98.body.getD .skip
noncomputable def bdBits0 : Code := loopAt bdBits 0
noncomputable def bdBits1 : Code := loopAt bdBits 1
theorem loopsBits : loopsOf bdBits = [bdBits0, bdBits1] := by kernel_rfl
theorem loopsBits0 : loopsOf bdBits0 = [] := by kernel_rfl
theorem loopsBits1 : loopsOf bdBits1 = [] := by kernel_rfl
theorem tagBits0 : tagOf bdBits0 = 3 := by kernel_rfl
theorem tagBits1 : tagOf bdBits1 = 7 := by kernel_rfl
def kBits0 : List Bool := maskOf 34 [1, 3, 4]
def xBits0 : List Bool := maskOf 34 [1, 3]
def kBits1 : List Bool := maskOf 34 [1, 3, 5]
def xBits1 : List Bool := maskOf 34 [3]
def KBits0 (e : Ex) (st : St) : Option (Ex × St) := some (e, cutC 0 0 xBits0 st)
def KBits1 (e : Ex) (st : St) : Option (Ex × St) := some (e, cutC 0 0 xBits1 st)
def HBits0 (a b i : Int) (R : List (List Dat)) : St := mk kBits0 [.ptr 0 0, .row 0, .v (I i)] (MB a b R)
def HBits1 (a b i : Int) (R : List (List Dat)) : St := mk kBits1 [.ptr 0 0, .row 0, .v (I i)] (MB a b R)
theorem stepBits0 (a b i : Int) (R : List (List Dat)) (k : Nat) : evLoop ΓWd Try.prog L0 (cutC 0 0 kBits0) bdBits0 (k + 1) (HBits0 a b i R) KBits0 =
    bif decide (i < 64) then (bif decide (i < 0) then none else bif roomA R.length then evLoop ΓWd Try.prog L0 (cutC 0 0 kBits0) bdBits0 k (HBits0 a b (IntKind.i64.wrap (i + 1)) (R ++ [[.n (bx b i)]])) KBits0 else none) else some (.exit 0, mk xBits0 [.ptr 0 0, .row 0] (MB a b R)) := by kernel_rfl
theorem stepBits1 (a b i : Int) (R : List (List Dat)) (k : Nat) : evLoop ΓWd Try.prog L0 (cutC 0 0 kBits1) bdBits1 (k + 1) (HBits1 a b i R) KBits1 =
    bif decide (i < 64) then (bif decide (i < 0) then none else bif roomA R.length then evLoop ΓWd Try.prog L0 (cutC 0 0 kBits1) bdBits1 k (HBits1 a b (IntKind.i64.wrap (i + 1)) (R ++ [[.n (bx (IntKind.u64.wrap a) i)]])) KBits1 else none) else some (.exit 2, mk xBits1 [.row 0] (MRow R)) := by kernel_rfl
noncomputable def GBits0 (vals : List SV) (m : Mem) : Option (Bool × Ex × St) :=
  match vals, m with
  | [.ptr 0 0, .row 0, .v (.int .i64 z)], ⟨[[.v (.int .i64 a), .v (.int .u64 b)]], [true], [.live ⟨3, [.num .i64], [], true, false⟩]⟩ => some (inU b && (z == 0), .exit 0, mk xBits0 [.ptr 0 0, .row 0] (MB a b (rowN (bl b 64))))
  | _, _ => none
noncomputable def GBits1 (vals : List SV) (m : Mem) : Option (Bool × Ex × St) :=
  match vals, m with
  | [.ptr 0 0, .row 0, .v (.int .i64 z)], ⟨[[.v (.int .i64 a), .v (.int .u64 b)]], [true], [.live ⟨3, [.num .i64], R, true, false⟩]⟩ => some (inU b && (z == 0 && isT (R = rowN (bl b 64))), .exit 2, mk xBits1 [.row 0] (MRow (rowN (bl (wu a b) 128))))
  | _, _ => none
noncomputable def ΛBits : LoopOrc := fun body st => match tagOf body with
  | 3 => viaC 0 0 kBits0 GBits0 st
  | 7 => viaC 0 0 kBits1 GBits1 st
  | _ => none
theorem loopOkBits0 (z : Base) (z1 : z.L.length = 0) (z2 : z.U.length = 0) : LoopOk ΛBits Try.prog z bdBits0 := by
  refine loop_okC (Λ := L0) (kx := fun _ => xBits0) OkWd mixed z1 z2 (fun b hb => by rw [loopsBits0] at hb; cases hb) (keep := kBits0) (G := GBits0) (fun st => by unfold ΛBits; rw [tagBits0]; rfl) ?_
  intro vals m e st' h
  unfold GBits0 at h
  split at h
  · rename_i z a b
    obtain ⟨h1, rfl, rfl⟩ := some_t2 h
    simp only [Bool.and_eq_true, beq_iff_eq] at h1
    obtain ⟨h1, rfl⟩ := h1
    rw [inU_iff] at h1
    refine ⟨65, ?_⟩
    exact bitsLoop b h1.1 h1.2 (fun k i R => evLoop ΓWd Try.prog L0 (cutC 0 0 kBits0) bdBits0 k (HBits0 a b i R) KBits0) (fun R => some (.exit 0, mk xBits0 [.ptr 0 0, .row 0] (MB a b R))) (fun k i R => stepBits0 a b i R k) [] (by simp) 64 0 rfl
  · cases h
theorem loopOkBits1 (z : Base) (z1 : z.L.length = 0) (z2 : z.U.length = 0) : LoopOk ΛBits Try.prog z bdBits1 := by
  refine loop_okC (Λ := L0) (kx := fun _ => xBits1) OkWd mixed z1 z2 (fun b hb => by rw [loopsBits1] at hb; cases hb) (keep := kBits1) (G := GBits1) (fun st => by unfold ΛBits; rw [tagBits1]; rfl) ?_
  intro vals m e st' h
  unfold GBits1 at h
  split at h
  · rename_i z a b R
    obtain ⟨h1, rfl, rfl⟩ := some_t2 h
    simp only [Bool.and_eq_true, beq_iff_eq, isT_iff] at h1
    obtain ⟨h1, rfl, rfl⟩ := h1
    rw [inU_iff] at h1
    have hu := inU_iff.1 (inU_wrap a)
    refine ⟨65, ?_⟩
    have := bitsLoop (IntKind.u64.wrap a) hu.1 hu.2 (fun k i R => evLoop ΓWd Try.prog L0 (cutC 0 0 kBits1) bdBits1 k (HBits1 a b i R) KBits1) (fun R => some (.exit 2, mk xBits1 [.row 0] (MRow R))) (fun k i R => stepBits1 a b i R k) (bl b 64) (by rw [bl_length]; omega) 64 0 rfl
    rw [show bl (IntKind.u64.wrap a) 0 = [] from rfl, List.append_nil, bl_join _ _ h1.1 h1.2] at this
    exact this
  · cases h
theorem runBits (a b : Int) : runG ΓWd ΛBits Try.prog Try.f98 [.v (Wd a b)] M0 = 
    bif inU b && ((0 : Int) == 0) then (bif inU b && ((0 : Int) == 0 && isT (rowN (bl b 64) = rowN (bl b 64))) then some (.row 0, MRow (rowN (bl (wu a b) 128))) else none) else none := by kernel_rfl
noncomputable def gBits (xs : List SV) (m : Mem) : Option (Bool × SV × Mem) :=
  match xs, m with
  | [.v (.agg ⟨[.int .i64 a, .int .u64 b]⟩)], ⟨[], [], []⟩ => some (inU b, .row 0, MRow (rowN (bl (wu a b) 128)))
  | _, _ => none
theorem gBits_ok : ∀ xs m r m', gBits xs m = some (true, r, m') → CallOk Try.prog 98 xs m r m' := by
  intro xs m r m' h
  unfold gBits at h
  split at h
  · rename_i a b
    obtain ⟨h1, rfl, rfl⟩ := some_t2 h
    refine runOk (Λ := ΛBits) OkWd Try.func98 rfl (fun z z1 z2 c hc => ?_) ?_
    · have hc' : c ∈ loopsOf bdBits := hc
      rw [loopsBits] at hc'
      rcases List.mem_cons.1 hc' with rfl | hc'
      · exact loopOkBits0 z z1 z2
      · rw [List.mem_singleton] at hc'
        subst hc'; exact loopOkBits1 z z1 z2
    · exact (runBits a b).trans (by rw [h1, beq_self_eq_true, isT_of (show rowN (bl b 64) = rowN (bl b 64) from rfl)]; rfl)
  · cases h
noncomputable def ΓR1 : Orc := addCl 98 gBits ΓWd
theorem OkR1 : ΓR1.Ok Try.prog := addCl_ok OkWd gBits_ok
def MV (lo : Int) (e : TypeId) (R : List (List Dat)) (own mark : Bool) : Mem := ⟨[[.v (I 0), .v (UU 0)], [.v (I 0), .v (UU lo)]], [true, true], [.live ⟨e, [.num .i64], R, own, mark⟩]⟩
noncomputable def bdVal : Code := loopAt (Try.f99.body.getD .skip) 0
theorem loopsVal : loopsOf (Try.f99.body.getD .skip) = [bdVal] := by kernel_rfl
theorem loopsVal0 : loopsOf bdVal = [] := by kernel_rfl
def kVal : List Bool := maskOf 36 [0, 2, 3, 4, 5]
def xVal : List Bool := maskOf 36 [2, 3, 4]
def KVal (e : Ex) (st : St) : Option (Ex × St) := some (e, cutC 0 1 xVal st)
def HVal (t : TypeId) (R : List (List Dat)) (own mark : Bool) (lo hi i : Int) : St := mk kVal [.row 0, .ptr 0 0, .ptr 1 0, .v (UU hi), .v (I i)] (MV lo t R own mark)
def XVal (t : TypeId) (R : List (List Dat)) (own mark : Bool) (lo hi : Int) : St := mk xVal [.ptr 0 0, .ptr 1 0, .v (UU hi)] (MV lo t R own mark)
theorem stepVal (t : TypeId) (R : List (List Dat)) (own mark : Bool) (lo hi i : Int) (k : Nat) : evLoop ΓR1 Try.prog L0 (cutC 0 1 kVal) bdVal (k + 1) (HVal t R own mark lo hi i) KVal =
    bif decide (i < 64) then (bif inL R i then (bif oneAt R i then (bif decide (i < 0) then none else bif inL R (IntKind.i64.wrap (64 + i)) then (bif oneAt R (IntKind.i64.wrap (64 + i)) then (bif decide (i < 0) then none else evLoop ΓR1 Try.prog L0 (cutC 0 1 kVal) bdVal k (HVal t R own mark (orV lo i) (orV hi i) (IntKind.i64.wrap (i + 1))) KVal) else evLoop ΓR1 Try.prog L0 (cutC 0 1 kVal) bdVal k (HVal t R own mark (orV lo i) hi (IntKind.i64.wrap (i + 1))) KVal) else none)
      else (bif inL R (IntKind.i64.wrap (64 + i)) then (bif oneAt R (IntKind.i64.wrap (64 + i)) then (bif decide (i < 0) then none else evLoop ΓR1 Try.prog L0 (cutC 0 1 kVal) bdVal k (HVal t R own mark lo (orV hi i) (IntKind.i64.wrap (i + 1))) KVal) else evLoop ΓR1 Try.prog L0 (cutC 0 1 kVal) bdVal k (HVal t R own mark lo hi (IntKind.i64.wrap (i + 1))) KVal) else none)) else none) else some (.exit 0, XVal t R own mark lo hi) := by kernel_rfl
def unN (R : List (List Dat)) : List Int := numsOf R
noncomputable def GVal (vals : List SV) (m : Mem) : Option (Bool × Ex × St) :=
  match vals, m with
  | [.row 0, .ptr 0 0, .ptr 1 0, .v (.int .u64 hi), .v (.int .i64 i)], ⟨[[.v (.int .i64 0), .v (.int .u64 0)], [.v (.int .i64 0), .v (.int .u64 lo)]], [true, true], [.live ⟨t, [.num .i64], R, own, mark⟩]⟩ =>
    some (isT (R.length = 128 ∧ R = rowN (unN R)) && (hi == 0 && (lo == 0 && (i == 0))), .exit 0, XVal t R own mark (loL (unN R) 64) (hiL (unN R) 64))
  | _, _ => none
noncomputable def ΛVal : LoopOrc := fun _ st => viaC 0 1 kVal GVal st
theorem loopOkVal (z : Base) (z1 : z.L.length = 0) (z2 : z.U.length = 1) : LoopOk ΛVal Try.prog z bdVal := by
  refine loop_okC (Λ := L0) (kx := fun _ => xVal) OkR1 mixed z1 z2 (fun b hb => by rw [loopsVal0] at hb; cases hb) (G := GVal) (fun _ => rfl) ?_
  intro vals m e st' h
  unfold GVal at h
  split at h
  · rename_i hi i lo t R own mark
    obtain ⟨h1, rfl, rfl⟩ := some_t2 h
    simp only [Bool.and_eq_true, beq_iff_eq, isT_iff] at h1
    obtain ⟨⟨h1, h2⟩, rfl, rfl, rfl⟩ := h1
    refine ⟨65, ?_⟩
    have hl : (unN R).length = 128 := by unfold unN numsOf; rw [List.length_map]; exact h1
    have := valueLoop (unN R) hl (fun k lo hi i => evLoop ΓR1 Try.prog L0 (cutC 0 1 kVal) bdVal k (HVal t (rowN (unN R)) own mark lo hi i) KVal) (fun lo hi => some (.exit 0, XVal t (rowN (unN R)) own mark lo hi)) (fun k lo hi i => stepVal t (rowN (unN R)) own mark lo hi i k) 64 0 rfl
    rw [← h2] at this
    exact this
  · cases h
theorem runVal (t : TypeId) (R : List (List Dat)) (own mark : Bool) : runG ΓR1 ΛVal Try.prog Try.f99 [.row 0] ⟨[], [], [.live ⟨t, [.num .i64], R, own, mark⟩]⟩ = 
    bif isT (R.length = 128 ∧ R = rowN (unN R)) && ((0 : Int) == 0 && ((0 : Int) == 0 && ((0 : Int) == 0))) then some (.v (Wd (IntKind.i64.wrap (hiL (unN R) 64)) (loL (unN R) 64)), ⟨[], [], [.live ⟨t, [.num .i64], R, own, mark⟩]⟩) else none := by kernel_rfl
noncomputable def gVal (xs : List SV) (m : Mem) : Option (Bool × Value) :=
  match xs, m with
  | [.row 0], ⟨[], [], [.live ⟨t, [.num .i64], R, own, mark⟩]⟩ => some (isT (R.length = 128 ∧ R = rowN (unN R)), Wd (IntKind.i64.wrap (hiL (unN R) 64)) (loL (unN R) 64))
  | _, _ => none
theorem gVal_ok : ∀ xs m r, gVal xs m = some (true, r) → CallOk Try.prog 99 xs m (.v r) m := by
  intro xs m r h
  unfold gVal at h
  split at h
  · rename_i t R own mark
    obtain ⟨h1, rfl⟩ := some_t h
    refine runOk (Λ := ΛVal) OkR1 Try.func99 rfl (fun z z1 z2 => oneLoop (c := Try.f99.body.getD .skip) loopsVal (loopOkVal z z1 z2)) ?_
    exact (runVal t R own mark).trans (by rw [h1]; rfl)
  · cases h
noncomputable def ΓR2 : Orc := addRd 99 gVal ΓR1
theorem OkR2 : ΓR2.Ok Try.prog := addRd_ok OkR1 gVal_ok
end Go.Proofs.Ytnelbjbphkfkkaa

namespace Go.Proofs.Ytnelbjbphkfkkaa
open Go Go.Proofs Go.Sx
set_option linter.unusedVariables false
/-! norm -/

def rwI (R : List (List Dat)) : RowS := .live ⟨3, [.num .i64], R, true, false⟩
noncomputable def bdPl : Code := loopAt (Try.f91.body.getD .skip) 0
theorem loopsPl : loopsOf (Try.f91.body.getD .skip) = [bdPl] := by kernel_rfl
theorem loopsPl0 : loopsOf bdPl = [] := by kernel_rfl
def kPl : List Bool := maskOf 39 [4, 5, 6, 7, 8, 9]
def xPl : List Bool := maskOf 39 [4, 7]
def KPl (e : Ex) (st : St) : Option (Ex × St) := some (e, cutC 0 0 xPl st)
def MPl (X Y R : List (List Dat)) : Mem := ⟨[[.v (I 0), .v (UU 0)]], [true], [rwI X, rwI Y, rwI R]⟩
def HPl (X Y : List (List Dat)) (s i : Int) (R : List (List Dat)) : St := mk kPl [.ptr 0 0, .row 0, .row 1, .row 2, .v (I s), .v (I i)] (MPl X Y R)
def XPl (R : List (List Dat)) : St := mk xPl [.ptr 0 0, .row 0] ⟨[[.v (I 0), .v (UU 0)]], [true], [rwI R]⟩
theorem stepPl (X Y R : List (List Dat)) (s i : Int) (k : Nat) : evLoop ΓR2 Try.prog L0 (cutC 0 0 kPl) bdPl (k + 1) (HPl X Y s i R) KPl =
    bif decide (i < 128) then (bif inL X i then (bif inL Y i then (bif roomA R.length then evLoop ΓR2 Try.prog L0 (cutC 0 0 kPl) bdPl k (HPl X Y (IntKind.i64.wrap ((sm X Y s i).tdiv 2)) (IntKind.i64.wrap (i + 1)) (R ++ [[.n ((sm X Y s i).tmod 2)]])) KPl else none) else none) else none) else some (.exit 0, XPl R) := by kernel_rfl
noncomputable def GPl (A B : Int) (vals : List SV) (m : Mem) : Option (Bool × Ex × St) :=
  match vals, m with
  | [.ptr 0 0, .row 0, .row 1, .row 2, .v (.int .i64 s), .v (.int .i64 i)], ⟨[[.v (.int .i64 0), .v (.int .u64 0)]], [true], [.live ⟨3, [.num .i64], X, true, false⟩, .live ⟨3, [.num .i64], Y, true, false⟩, .live ⟨3, [.num .i64], [], true, false⟩]⟩ =>
    some (isT (X = rowN (bl A 128) ∧ Y = rowN (bl B 128)) && (s == 0 && (i == 0)), .exit 0, XPl (rowN (bl (A + B) 128)))
  | _, _ => none
noncomputable def ΛPl (A B : Int) : LoopOrc := fun _ st => viaC 0 0 kPl (GPl A B) st
theorem loopOkPl (A B : Int) (z : Base) (z1 : z.L.length = 0) (z2 : z.U.length = 0) : LoopOk (ΛPl A B) Try.prog z bdPl := by
  refine loop_okC (Λ := L0) (kx := fun _ => xPl) OkR2 mixed z1 z2 (fun b hb => by rw [loopsPl0] at hb; cases hb) (G := GPl A B) (fun _ => rfl) ?_
  intro vals m e st' h
  unfold GPl at h
  split at h
  · rename_i s i X Y
    obtain ⟨h1, rfl, rfl⟩ := some_t2 h
    simp only [Bool.and_eq_true, beq_iff_eq, isT_iff] at h1
    obtain ⟨⟨rfl, rfl⟩, rfl, rfl⟩ := h1
    refine ⟨129, ?_⟩
    have := plusLoop A B (fun k s i R => evLoop ΓR2 Try.prog L0 (cutC 0 0 kPl) bdPl k (HPl (rowN (bl A 128)) (rowN (bl B 128)) s i R) KPl) (fun R => some (.exit 0, XPl R)) (fun k s i R => stepPl (rowN (bl A 128)) (rowN (bl B 128)) R s i k) 128 0 rfl
    rw [cy_zero] at this
    exact this
  · cases h
theorem runPl (a b c d : Int) : runG ΓR2 (ΛPl (wu a b) (wu c d)) Try.prog Try.f91 [.v (Wd a b), .v (Wd c d)] M0 =
    same (bif inU b then (bif inU d then (bif isT (rowN (bl (wu a b) 128) = rowN (bl (wu a b) 128) ∧ rowN (bl (wu c d) 128) = rowN (bl (wu c d) 128)) && ((0 : Int) == 0 && ((0 : Int) == 0)) then (bif isT ((rowN (bl (wu a b + wu c d) 128)).length = 128 ∧ rowN (bl (wu a b + wu c d) 128) = rowN (unN (rowN (bl (wu a b + wu c d) 128)))) then
      some (.v (Wd (IntKind.i64.wrap (hiL (unN (rowN (bl (wu a b + wu c d) 128))) 64)) (loL (unN (rowN (bl (wu a b + wu c d) 128))) 64)), M0) else none) else none) else none) else none) (bif inU b then (bif inU d then (bif isT (rowN (bl (wu a b) 128) = rowN (bl (wu a b) 128) ∧ rowN (bl (wu c d) 128) = rowN (bl (wu c d) 128)) && ((0 : Int) == 0 && ((0 : Int) == 0)) then (bif isT ((rowN (bl (wu a b + wu c d) 128)).length = 128 ∧ rowN (bl (wu a b + wu c d) 128) = rowN (unN (rowN (bl (wu a b + wu c d) 128)))) then
      some (.v (Wd (IntKind.i64.wrap (hiL (unN (rowN (bl (wu a b + wu c d) 128))) 64)) (loL (unN (rowN (bl (wu a b + wu c d) 128))) 64)), M0) else none) else none) else none) else none) := by kernel_rfl
def gPl (vs : List Value) : Option (Bool × Value) :=
  match vs with
  | [.agg ⟨[.int .i64 a, .int .u64 b]⟩, .agg ⟨[.int .i64 c, .int .u64 d]⟩] => some (inU b && inU d, pW (wv a b + wv c d))
  | _ => none
theorem gPl_ok : ∀ vs r, gPl vs = some (true, r) → ∀ m, CallOk Try.prog 91 (vs.map .v) m (.v r) m := by
  intro vs r h
  unfold gPl at h
  split at h
  · rename_i a b c d
    obtain ⟨h1, rfl⟩ := some_t h
    rw [Bool.and_eq_true] at h1
    refine runV (vs := [Wd a b, Wd c d]) (Λ := ΛPl (wu a b) (wu c d)) (m' := M0) OkR2 Try.func91 rfl (fun z z1 z2 => oneLoop (c := Try.f91.body.getD .skip) loopsPl (loopOkPl _ _ z z1 z2)) ?_
    refine (runPl a b c d).trans ?_
    have e : unN (rowN (bl (wu a b + wu c d) 128)) = bl (wu a b + wu c d) 128 := nums_rowN _
    rw [h1.1, h1.2, isT_of ⟨rfl, rfl⟩, e, isT_of ⟨by rw [rowN_len, bl_length], rfl⟩, same_self]
    exact vEq (plusW a b c d)
  · cases h
noncomputable def ΓQ1 : Orc := addVal 91 gPl ΓR2
theorem OkQ1 : ΓQ1.Ok Try.prog := addVal_ok OkR2 gPl_ok
set_option maxRecDepth 20000 in
theorem runROf (n : Int) : runG ΓQ1 L0 Try.prog Try.f63 [.v (I n)] M0 = bif decide (n < 0) then some (.v (Wd (-1) (IntKind.u64.wrap n)), M0) else some (.v (Wd 0 (IntKind.u64.wrap n)), M0) := by kernel_rfl
def gROf (vs : List Value) : Option (Bool × Value) :=
  match vs with
  | [.int .i64 n] => some (inI n, Wn n)
  | _ => none
theorem gROf_ok : ∀ vs r, gROf vs = some (true, r) → ∀ m, CallOk Try.prog 63 (vs.map .v) m (.v r) m := by
  intro vs r h
  unfold gROf at h
  split at h
  · rename_i n
    obtain ⟨h1, rfl⟩ := some_t h
    refine runV (vs := [I n]) (Λ := L0) (m' := M0) OkQ1 Try.func63 rfl (fun z _ _ => l0Ok' _ z) ?_
    exact (runROf n).trans (by
      rw [inI_iff] at h1
      obtain ⟨_, h2, h3⟩ := okW_of (n := n) (by omega) (by omega)
      by_cases hn : n < 0
      · rw [decide_eq_true hn]
        exact vEq (wd_eq (by rw [h2]; omega) (by rw [h3, wrU]))
      · rw [decide_eq_false hn]
        exact vEq (wd_eq (by rw [h2]; omega) (by rw [h3, wrU])))
  · cases h
noncomputable def ΓQ2 : Orc := addVal 63 gROf ΓQ1
theorem OkQ2 : ΓQ2.Ok Try.prog := addVal_ok OkQ1 gROf_ok
set_option maxRecDepth 20000 in
theorem runRFlip (a b : Int) : runG ΓQ2 L0 Try.prog Try.f92 [.v (Wd a b)] M0 = bif inU (IntKind.u64.wrap (-1 - b)) && inU 1 then some (.v (pW (wv (IntKind.i64.wrap (-1 - a)) (IntKind.u64.wrap (-1 - b)) + wv 0 1)), M0) else none := by kernel_rfl
def gRFlip (vs : List Value) : Option (Bool × Value) :=
  match vs with
  | [.agg ⟨[.int .i64 a, .int .u64 b]⟩] => some (inU b, pW (- wv a b))
  | _ => none
theorem gRFlip_ok : ∀ vs r, gRFlip vs = some (true, r) → ∀ m, CallOk Try.prog 92 (vs.map .v) m (.v r) m := by
  intro vs r h
  unfold gRFlip at h
  split at h
  · rename_i a b
    obtain ⟨h1, rfl⟩ := some_t h
    refine runV (vs := [Wd a b]) (Λ := L0) (m' := M0) OkQ2 Try.func92 rfl (fun z _ _ => l0Ok' _ z) ?_
    exact (runRFlip a b).trans (by
      obtain ⟨e1, e2⟩ := flipW a b h1
      rw [e1, show inU 1 = true from rfl]
      refine vEq (pW_eq ?_)
      rw [show wv 0 1 = 1 from rfl]
      omega)
  · cases h
noncomputable def ΓQ3 : Orc := addVal 92 gRFlip ΓQ2
theorem OkQ3 : ΓQ3.Ok Try.prog := addVal_ok OkQ2 gRFlip_ok
set_option maxRecDepth 20000 in
theorem runRCmp (a b c d : Int) : runG ΓQ3 L0 Try.prog Try.f79 [.v (Wd a b), .v (Wd c d)] M0 = 
    (bif decide (a < c) then some (.v (I (-1)), M0) else (bif a == c then (bif decide (b < d) then some (.v (I (-1)), M0) else (bif a == c && (b == d && true) then some (.v (I 0), M0) else some (.v (I 1), M0))) else (bif a == c && (b == d && true) then some (.v (I 0), M0) else some (.v (I 1), M0)))) := by kernel_rfl
def gRCmp (vs : List Value) : Option (Bool × Value) :=
  match vs with
  | [.agg ⟨[.int .i64 a, .int .u64 b]⟩, .agg ⟨[.int .i64 c, .int .u64 d]⟩] => some (inW a b && inW c d, I (cmpI (wv a b) (wv c d)))
  | _ => none
theorem gRCmp_ok : ∀ vs r, gRCmp vs = some (true, r) → ∀ m, CallOk Try.prog 79 (vs.map .v) m (.v r) m := by
  intro vs r h
  unfold gRCmp at h
  split at h
  · rename_i a b c d
    obtain ⟨h1, rfl⟩ := some_t h
    refine runV (vs := [Wd a b, Wd c d]) (Λ := L0) (m' := M0) OkQ3 Try.func79 rfl (fun z _ _ => l0Ok' _ z) ?_
    exact (runRCmp a b c d).trans (by
      rw [Bool.and_eq_true] at h1
      rw [← cmpR h1.1 h1.2]
      cases decide (a < c) <;> cases a == c <;> cases decide (b < d) <;> cases b == d <;> rfl)
  · cases h
noncomputable def ΓQ4 : Orc := addVal 79 gRCmp ΓQ3
theorem OkQ4 : ΓQ4.Ok Try.prog := addVal_ok OkQ3 gRCmp_ok
noncomputable def bdMu : Code := loopAt (Try.f80.body.getD .skip) 0
theorem loopsMu : loopsOf (Try.f80.body.getD .skip) = [bdMu] := by kernel_rfl
theorem loopsMu0 : loopsOf bdMu = [] := by kernel_rfl
def kMu : List Bool := maskOf 36 [1, 4, 5, 6, 7, 8]
def xMu : List Bool := maskOf 36 [1, 4, 5, 6]
def KMu (e : Ex) (st : St) : Option (Ex × St) := some (e, cutC 0 0 xMu st)
def MMu (oa ob xa xb ya yb : Int) : Mem := ⟨[[.v (I oa), .v (UU ob)], [.v (I xa), .v (UU xb)], [.v (I ya), .v (UU yb)]], [true, true, true], []⟩
def HMu (b n oa ob i xa xb ya yb : Int) : St := mk kMu [.v (I b), .ptr 0 0, .ptr 1 0, .ptr 2 0, .v (UU n), .v (I i)] (MMu oa ob xa xb ya yb)
def XMu (b oa ob xa xb ya yb : Int) : St := mk xMu [.v (I b), .ptr 0 0, .ptr 1 0, .ptr 2 0] (MMu oa ob xa xb ya yb)
theorem stepMu (b n oa ob i xa xb ya yb : Int) (k : Nat) : evLoop ΓQ4 Try.prog L0 (cutC 0 0 kMu) bdMu (k + 1) (HMu b n oa ob i xa xb ya yb) KMu =
    bif decide (i < 64) then (bif decide (i < 0) then none else (bif bu n i == 1 then (bif inU yb && inU xb then (bif inU xb && inU xb then evLoop ΓQ4 Try.prog L0 (cutC 0 0 kMu) bdMu k (HMu b n oa ob (IntKind.i64.wrap (i + 1)) (pHi (wv xa xb + wv xa xb)) (pLo (wv xa xb + wv xa xb)) (pHi (wv ya yb + wv xa xb)) (pLo (wv ya yb + wv xa xb))) KMu else none) else none)
      else (bif inU xb && inU xb then evLoop ΓQ4 Try.prog L0 (cutC 0 0 kMu) bdMu k (HMu b n oa ob (IntKind.i64.wrap (i + 1)) (pHi (wv xa xb + wv xa xb)) (pLo (wv xa xb + wv xa xb)) ya yb) KMu else none))) else some (.exit 0, XMu b oa ob xa xb ya yb) := by kernel_rfl
def GMu (vals : List SV) (m : Mem) : Option (Bool × Ex × St) :=
  match vals, m with
  | [.v (.int .i64 b), .ptr 0 0, .ptr 1 0, .ptr 2 0, .v (.int .u64 n), .v (.int .i64 i)], ⟨[[.v (.int .i64 oa), .v (.int .u64 ob)], [.v (.int .i64 xa), .v (.int .u64 xb)], [.v (.int .i64 ya), .v (.int .u64 yb)]], [true, true, true], []⟩ =>
    some (inW xa xb && (inU n && (i == 0 && (ya == 0 && yb == 0))), .exit 0, XMu b oa ob (pHi (wv xa xb * 2 ^ 64)) (pLo (wv xa xb * 2 ^ 64)) (pHi (wv xa xb * (n % 2 ^ 64))) (pLo (wv xa xb * (n % 2 ^ 64))))
  | _, _ => none
noncomputable def ΛMu : LoopOrc := fun _ st => viaC 0 0 kMu GMu st
theorem loopOkMu (z : Base) (z1 : z.L.length = 0) (z2 : z.U.length = 0) : LoopOk ΛMu Try.prog z bdMu := by
  refine loop_okC (Λ := L0) (kx := fun _ => xMu) OkQ4 mixed z1 z2 (fun b hb => by rw [loopsMu0] at hb; cases hb) (G := GMu) (fun _ => rfl) ?_
  intro vals m e st' h
  unfold GMu at h
  split at h
  · rename_i b n i oa ob xa xb ya yb
    obtain ⟨h1, rfl, rfl⟩ := some_t2 h
    simp only [Bool.and_eq_true, beq_iff_eq] at h1
    obtain ⟨g1, g2, rfl, rfl, rfl⟩ := h1
    rw [inU_iff] at g2
    have := mulLoop n (wv xa xb) g2.1 g2.2 (fun k i xa xb ya yb => evLoop ΓQ4 Try.prog L0 (cutC 0 0 kMu) bdMu k (HMu b n oa ob i xa xb ya yb) KMu) (fun xa xb ya yb => some (.exit 0, XMu b oa ob xa xb ya yb)) (fun k i xa xb ya yb => stepMu b n oa ob i xa xb ya yb k) 64 0 rfl
    refine ⟨65, ?_⟩
    rw [Int.pow_zero, Int.mul_one, Int.emod_one, Int.mul_zero, (p_self g1).1, (p_self g1).2] at this
    exact this
  · cases h
theorem runMu (a b : Int) : runG ΓQ4 ΛMu Try.prog Try.f80 [.v (I a), .v (I b)] M0 =
    bif inI a then
      (bif inW (hiW a) (loW a) && (inU (IntKind.u64.wrap b) && ((0 : Int) == 0 && ((0 : Int) == 0 && (0 : Int) == 0))) then
        (bif decide (b < 0) then
          (bif inU (pLo (wv (hiW a) (loW a) * 2 ^ 64)) then
            (bif inU (pLo (wv (hiW a) (loW a) * (IntKind.u64.wrap b % 2 ^ 64))) && inU (pLo (-wv (pHi (wv (hiW a) (loW a) * 2 ^ 64)) (pLo (wv (hiW a) (loW a) * 2 ^ 64)))) then
              some (.v (pW (wv (pHi (wv (hiW a) (loW a) * (IntKind.u64.wrap b % 2 ^ 64))) (pLo (wv (hiW a) (loW a) * (IntKind.u64.wrap b % 2 ^ 64))) + wv (pHi (-wv (pHi (wv (hiW a) (loW a) * 2 ^ 64)) (pLo (wv (hiW a) (loW a) * 2 ^ 64)))) (pLo (-wv (pHi (wv (hiW a) (loW a) * 2 ^ 64)) (pLo (wv (hiW a) (loW a) * 2 ^ 64)))))), M0)
            else none)
          else none)
        else some (.v (Wd (pHi (wv (hiW a) (loW a) * (IntKind.u64.wrap b % 2 ^ 64))) (pLo (wv (hiW a) (loW a) * (IntKind.u64.wrap b % 2 ^ 64)))), M0))
      else none)
    else none := by kernel_rfl
def gMu (vs : List Value) : Option (Bool × Value) :=
  match vs with
  | [.int .i64 a, .int .i64 b] => some (inI a && inI b, pW (a * b))
  | _ => none
theorem gMu_ok : ∀ vs r, gMu vs = some (true, r) → ∀ m, CallOk Try.prog 80 (vs.map .v) m (.v r) m := by
  intro vs r h
  unfold gMu at h
  split at h
  · rename_i a b
    obtain ⟨h1, rfl⟩ := some_t h
    rw [Bool.and_eq_true] at h1
    obtain ⟨h1, h2⟩ := h1
    refine runV (vs := [I a, I b]) (Λ := ΛMu) (m' := M0) OkQ4 Try.func80 rfl (fun z z1 z2 => oneLoop (c := Try.f80.body.getD .skip) loopsMu (loopOkMu z z1 z2)) ?_
    refine (runMu a b).trans ?_
    obtain ⟨e1, e2⟩ := wv_Wn (okW_I h1)
    rw [h1, e1, e2, inU_wrap, inU_pLo, inU_pLo, inU_pLo]
    simp only [BEq.rfl, Bool.and_self, cond_true]
    rw [inI_iff] at h2
    have e64 : (2 : Int) ^ 64 = 18446744073709551616 := by decide
    rw [e64]
    have em : IntKind.u64.wrap b % 18446744073709551616 = b % 18446744073709551616 := by rw [wrU]; omega
    rw [em]
    by_cases hb : b < 0
    · simp only [hb, decide_true, cond_true]
      refine vEq (pW_eq ?_)
      have q1 := wv_p (a * (b % 18446744073709551616))
      have q2 := wv_p (-wv (pHi (a * 18446744073709551616)) (pLo (a * 18446744073709551616)))
      have q3 := wv_p (a * 18446744073709551616)
      have : b % 18446744073709551616 = b + 18446744073709551616 := by omega
      rw [this, Int.mul_add] at q1 ⊢
      omega
    · simp only [hb, decide_false, cond_false]
      have : b % 18446744073709551616 = b := by omega
      rw [this]
  · cases h
noncomputable def ΓQ5 : Orc := addVal 80 gMu ΓQ4
theorem OkQ5 : ΓQ5.Ok Try.prog := addVal_ok OkQ4 gMu_ok
noncomputable def ΓRf : Orc := ΓQ5
theorem OkRf : ΓRf.Ok Try.prog := OkQ5
end Go.Proofs.Ytnelbjbphkfkkaa

namespace Go.Proofs.Ytnelbjbphkfkkaa
open Go Go.Proofs Go.Sx
set_option linter.unusedVariables false
/-! Navs. -/
abbrev U64 (x : Int) : Value := .int .u64 x
theorem l0Ok (c : Code) (z : Base) : ∀ b ∈ loopsOf c, LoopOk L0 Try.prog z b := fun b _ st e st' h => by cases h

def NavM (a b c d e f g q : Int) : Mem := ⟨[[.v (I a), .v (I b), .v (I c), .v (I d), .v (I e), .v (I f), .v (I g), .v (I q)]], [true], []⟩
theorem bif_f (b X : Bool) : (bif b then some (SV.v (Bo false), M0) else some (SV.v (Bo X), M0)) = some (SV.v (Bo (!b && X)), M0) := by cases b <;> rfl
theorem bif_t (b X : Bool) : (bif b then some (SV.v (Bo X), M0) else some (SV.v (Bo false), M0)) = some (SV.v (Bo (b && X)), M0) := by cases b <;> rfl
def navR (a b c d e f g q : Int) : Bool := decide (0 ≤ a ∧ a ≤ 65535 ∧ 0 ≤ b ∧ b ≤ 255 ∧ -2147483648 ≤ c ∧ c ≤ 2147483647 ∧ -2147483648 ≤ d ∧ d ≤ 2147483647 ∧ -2147483648 ≤ e ∧ e ≤ 2147483647 ∧ -2147483648 ≤ f ∧ f ≤ 2147483647 ∧ -2147483648 ≤ g ∧ g ≤ 2147483647 ∧ -2147483648 ≤ q ∧ q ≤ 2147483647)
set_option maxRecDepth 20000 in
theorem runNumbers0 (a b c d e f g q : Int) : runG ΓRf L0 Try.prog Try.f74 [.ptr 0 0] (NavM a b c d e f g q) = some (.ag [.ptr 0 2, .ptr 0 3, .ptr 0 4, .ptr 0 5, .ptr 0 6, .ptr 0 7], NavM a b c d e f g q) := by kernel_rfl
def gNumbers (xs : List SV) (m : Mem) : Option (Bool × SV × Mem) :=
  match xs, m with
  | [.ptr 0 0], ⟨[[.v (.int .i64 a), .v (.int .i64 b), .v (.int .i64 c), .v (.int .i64 d), .v (.int .i64 e), .v (.int .i64 f), .v (.int .i64 g), .v (.int .i64 q)]], [true], []⟩ => some (true, .ag [.ptr 0 2, .ptr 0 3, .ptr 0 4, .ptr 0 5, .ptr 0 6, .ptr 0 7], NavM a b c d e f g q)
  | _, _ => none
theorem gNumbers_ok : ∀ xs m r m', gNumbers xs m = some (true, r, m') → CallOk Try.prog 74 xs m r m' := by
  intro xs m r m' h
  unfold gNumbers at h
  split at h
  · rename_i a b c d e f g q
    obtain ⟨h1, rfl, rfl⟩ := some_t2 h
    refine runOk (Λ := L0) OkRf Try.func74 rfl (fun z _ _ => l0Ok _ z) ?_
    exact (runNumbers0 a b c d e f g q).trans (rfl)
  · cases h
noncomputable def ΓN1 : Orc := addCl 74 gNumbers ΓRf
theorem OkN1 : ΓN1.Ok Try.prog := addCl_ok OkRf gNumbers_ok
set_option maxRecDepth 20000 in
theorem runRNumbers0 (a b c d e f g q : Int) : runG ΓN1 L0 Try.prog Try.f76 [.v (.agg #[I a, I b, I c, I d, I e, I f, I g, I q])] M0 = some (.row 0, ⟨[], [], [.live ⟨2, [.num .i64], [[.n c], [.n d], [.n e], [.n f], [.n g], [.n q]], true, false⟩]⟩) := by kernel_rfl
def gRNumbers (xs : List SV) (m : Mem) : Option (Bool × SV × Mem) :=
  match xs, m with
  | [.v (.agg ⟨[.int .i64 a, .int .i64 b, .int .i64 c, .int .i64 d, .int .i64 e, .int .i64 f, .int .i64 g, .int .i64 q]⟩)], ⟨[], [], []⟩ => some (true, .row 0, ⟨[], [], [.live ⟨2, [.num .i64], [[.n c], [.n d], [.n e], [.n f], [.n g], [.n q]], true, false⟩]⟩)
  | _, _ => none
theorem gRNumbers_ok : ∀ xs m r m', gRNumbers xs m = some (true, r, m') → CallOk Try.prog 76 xs m r m' := by
  intro xs m r m' h
  unfold gRNumbers at h
  split at h
  · rename_i a b c d e f g q
    obtain ⟨h1, rfl, rfl⟩ := some_t2 h
    refine runOk (Λ := L0) OkN1 Try.func76 rfl (fun z _ _ => l0Ok _ z) ?_
    exact (runRNumbers0 a b c d e f g q).trans (rfl)
  · cases h
noncomputable def ΓN2 : Orc := addCl 76 gRNumbers ΓN1
theorem OkN2 : ΓN2.Ok Try.prog := addCl_ok OkN1 gRNumbers_ok
noncomputable def ΓN3 : Orc := ΓN2
theorem OkN3 : ΓN3.Ok Try.prog := OkN2
noncomputable def ΓN4 : Orc := ΓN3
theorem OkN4 : ΓN4.Ok Try.prog := OkN3
def apartU (x y : Int) : Int := IntKind.u64.wrap (IntKind.u64.wrap (if y > x then y else x) - IntKind.u64.wrap (if y < x then y else x))
set_option maxRecDepth 20000 in
theorem runApart (x y : Int) : runG ΓN4 L0 Try.prog Try.f75 [.v (I x), .v (I y)] M0 = some (.v (U64 (apartU x y)), M0) := by kernel_rfl
def gApart (vs : List Value) : Option (Bool × Value) :=
  match vs with
  | [.int .i64 x, .int .i64 y] => some (true, U64 (apartU x y))
  | _ => none
theorem gApart_ok : ∀ vs r, gApart vs = some (true, r) → ∀ m, CallOk Try.prog 75 (vs.map .v) m (.v r) m := by
  intro vs r h
  unfold gApart at h
  split at h
  · rename_i x y
    obtain ⟨h1, rfl⟩ := some_t h
    refine runV (vs := [I x, I y]) (Λ := L0) (m' := M0) OkN4 Try.func75 rfl (fun z _ _ => l0Ok _ z) ?_
    exact (runApart x y).trans (rfl)
  · cases h
noncomputable def ΓN5 : Orc := addVal 75 gApart ΓN4
theorem OkN5 : ΓN5.Ok Try.prog := addVal_ok OkN4 gApart_ok
def apartR (x y : Int) : Int := IntKind.u64.wrap (IntKind.u64.wrap x - IntKind.u64.wrap y)
set_option maxRecDepth 20000 in
theorem runRApart0 (x y w : Int) : runG ΓN5 L0 Try.prog Try.f77 [.v (I x), .v (I y), .v (I w)] M0 = bif decide (x < y) then none else some (.v (Bo (decide (apartR x y ≤ IntKind.u64.wrap w))), M0) := by kernel_rfl
def gRApart0 (vs : List Value) : Option (Bool × Value) :=
  match vs with
  | [.int .i64 x, .int .i64 y, .int .i64 w] => some (!decide (x < y), Bo (decide (apartR x y ≤ IntKind.u64.wrap w)))
  | _ => none
theorem gRApart0_ok : ∀ vs r, gRApart0 vs = some (true, r) → ∀ m, CallOk Try.prog 77 (vs.map .v) m (.v r) m := by
  intro vs r h
  unfold gRApart0 at h
  split at h
  · rename_i x y w
    obtain ⟨h1, rfl⟩ := some_t h
    refine runV (vs := [I x, I y, I w]) (Λ := L0) (m' := M0) OkN5 Try.func77 rfl (fun z _ _ => l0Ok _ z) ?_
    exact (runRApart0 x y w).trans (by cases hc : decide (x < y) <;> rw [hc] at h1 <;> first | rfl | cases h1)
  · cases h
noncomputable def ΓN6 : Orc := addVal 77 gRApart0 ΓN5
theorem OkN6 : ΓN6.Ok Try.prog := addVal_ok OkN5 gRApart0_ok
set_option maxRecDepth 20000 in
theorem runRApart (x y w : Int) : runG ΓN6 L0 Try.prog Try.f77 [.v (I x), .v (I y), .v (I w)] M0 = bif decide (x < y) then (bif !decide (y < x) then some (.v (Bo (decide (apartR y x ≤ IntKind.u64.wrap w))), M0) else none) else some (.v (Bo (decide (apartR x y ≤ IntKind.u64.wrap w))), M0) := by kernel_rfl
def gRApart (vs : List Value) : Option (Bool × Value) :=
  match vs with
  | [.int .i64 x, .int .i64 y, .int .i64 w] => some (true, Bo (decide (apartU x y ≤ IntKind.u64.wrap w)))
  | _ => none
theorem gRApart_ok : ∀ vs r, gRApart vs = some (true, r) → ∀ m, CallOk Try.prog 77 (vs.map .v) m (.v r) m := by
  intro vs r h
  unfold gRApart at h
  split at h
  · rename_i x y w
    obtain ⟨h1, rfl⟩ := some_t h
    refine runV (vs := [I x, I y, I w]) (Λ := L0) (m' := M0) OkN6 Try.func77 rfl (fun z _ _ => l0Ok _ z) ?_
    exact (runRApart x y w).trans (by
      unfold apartU apartR
      by_cases hc : x < y
      · rw [decide_eq_true hc, decide_eq_false (show ¬ y < x by omega), if_pos (show y > x by omega), if_neg (show ¬ y < x by omega)]
        rfl
      · rw [decide_eq_false hc, if_neg (show ¬ y > x by omega)]
        by_cases h2 : y < x
        · rw [if_pos h2]; rfl
        · rw [if_neg h2, show y = x by omega]; rfl)
  · cases h
noncomputable def ΓN7 : Orc := addVal 77 gRApart ΓN6
theorem OkN7 : ΓN7.Ok Try.prog := addVal_ok OkN6 gRApart_ok
noncomputable def ΓNa : Orc := ΓN7
theorem OkNa : ΓNa.Ok Try.prog := OkN7
theorem gt_le (x y b : Int) : decide (apartU x y > b) = !decide (apartU x y ≤ b) := by
  rw [Bool.eq_iff_iff]
  simp only [decide_eq_true_eq, Bool.not_eq_true', decide_eq_false_iff_not]
  omega
def near1 (w x y : Int) : Bool := decide (apartU x y ≤ IntKind.u64.wrap w)
def nearB (w c c' d d' e e' f f' g g' q q' : Int) : Bool := !decide (w < 0) && (near1 w c c' && (near1 w d d' && (near1 w e e' && (near1 w f f' && (near1 w g g' && near1 w q q')))))
set_option maxRecDepth 20000 in
theorem runNNear (a b c d e f g q a' b' c' d' e' f' g' q' w : Int) : runG ΓNa L0 Try.prog Try.f56 [.v (.agg #[I a, I b, I c, I d, I e, I f, I g, I q]), .v (.agg #[I a', I b', I c', I d', I e', I f', I g', I q']), .v (I w)] M0 = bif decide (w < 0) then some (.v (Bo false), M0) else (bif decide (apartU c c' > IntKind.u64.wrap w) then some (.v (Bo false), M0) else (bif decide (apartU d d' > IntKind.u64.wrap w) then some (.v (Bo false), M0) else (bif decide (apartU e e' > IntKind.u64.wrap w) then some (.v (Bo false), M0) else (bif decide (apartU f f' > IntKind.u64.wrap w) then some (.v (Bo false), M0) else (bif decide (apartU g g' > IntKind.u64.wrap w) then some (.v (Bo false), M0) else (bif decide (apartU q q' > IntKind.u64.wrap w) then some (.v (Bo false), M0) else (some (.v (Bo true), M0)))))))) := by kernel_rfl
def gNNear (vs : List Value) : Option (Bool × Value) :=
  match vs with
  | [.agg ⟨[.int .i64 a, .int .i64 b, .int .i64 c, .int .i64 d, .int .i64 e, .int .i64 f, .int .i64 g, .int .i64 q]⟩, .agg ⟨[.int .i64 a', .int .i64 b', .int .i64 c', .int .i64 d', .int .i64 e', .int .i64 f', .int .i64 g', .int .i64 q']⟩, .int .i64 w] => some (true, Bo (nearB w c c' d d' e e' f f' g g' q q'))
  | _ => none
theorem gNNear_ok : ∀ vs r, gNNear vs = some (true, r) → ∀ m, CallOk Try.prog 56 (vs.map .v) m (.v r) m := by
  intro vs r h
  unfold gNNear at h
  split at h
  · rename_i a b c d e f g q a' b' c' d' e' f' g' q' w
    obtain ⟨h1, rfl⟩ := some_t h
    refine runV (vs := [.agg #[I a, I b, I c, I d, I e, I f, I g, I q], .agg #[I a', I b', I c', I d', I e', I f', I g', I q'], I w]) (Λ := L0) (m' := M0) OkNa Try.func56 rfl (fun z _ _ => l0Ok _ z) ?_
    exact (runNNear a b c d e f g q a' b' c' d' e' f' g' q' w).trans (by
      simp only [gt_le, bif_f, Bool.not_not, Bool.and_true]
      rfl)
  · cases h
noncomputable def ΓP1 : Orc := addVal 56 gNNear ΓNa
theorem OkP1 : ΓP1.Ok Try.prog := addVal_ok OkNa gNNear_ok
set_option maxRecDepth 20000 in
theorem runRNNear (a b c d e f g q a' b' c' d' e' f' g' q' w : Int) : runG ΓP1 L0 Try.prog Try.f58 [.v (.agg #[I a, I b, I c, I d, I e, I f, I g, I q]), .v (.agg #[I a', I b', I c', I d', I e', I f', I g', I q']), .v (I w)] M0 = same (bif decide (w < 0) then some (.v (Bo false), M0) else (bif !decide (apartU c c' ≤ IntKind.u64.wrap w) then some (.v (Bo false), M0) else (bif decide (w < 0) then some (.v (Bo false), M0) else (bif !decide (apartU d d' ≤ IntKind.u64.wrap w) then some (.v (Bo false), M0) else (bif decide (w < 0) then some (.v (Bo false), M0) else (bif !decide (apartU e e' ≤ IntKind.u64.wrap w) then some (.v (Bo false), M0) else (bif decide (w < 0) then some (.v (Bo false), M0) else (bif !decide (apartU f f' ≤ IntKind.u64.wrap w) then some (.v (Bo false), M0) else (bif decide (w < 0) then some (.v (Bo false), M0) else (bif !decide (apartU g g' ≤ IntKind.u64.wrap w) then some (.v (Bo false), M0) else (bif decide (w < 0) then some (.v (Bo false), M0) else (bif !decide (apartU q q' ≤ IntKind.u64.wrap w) then some (.v (Bo false), M0) else (some (.v (Bo true), M0)))))))))))))) (bif decide (w < 0) then some (.v (Bo false), M0) else (bif !decide (apartU c c' ≤ IntKind.u64.wrap w) then some (.v (Bo false), M0) else (bif decide (w < 0) then some (.v (Bo false), M0) else (bif !decide (apartU d d' ≤ IntKind.u64.wrap w) then some (.v (Bo false), M0) else (bif decide (w < 0) then some (.v (Bo false), M0) else (bif !decide (apartU e e' ≤ IntKind.u64.wrap w) then some (.v (Bo false), M0) else (bif decide (w < 0) then some (.v (Bo false), M0) else (bif !decide (apartU f f' ≤ IntKind.u64.wrap w) then some (.v (Bo false), M0) else (bif decide (w < 0) then some (.v (Bo false), M0) else (bif !decide (apartU g g' ≤ IntKind.u64.wrap w) then some (.v (Bo false), M0) else (bif decide (w < 0) then some (.v (Bo false), M0) else (bif !decide (apartU q q' ≤ IntKind.u64.wrap w) then some (.v (Bo false), M0) else (some (.v (Bo true), M0)))))))))))))) := by kernel_rfl
def gRNNear (vs : List Value) : Option (Bool × Value) :=
  match vs with
  | [.agg ⟨[.int .i64 a, .int .i64 b, .int .i64 c, .int .i64 d, .int .i64 e, .int .i64 f, .int .i64 g, .int .i64 q]⟩, .agg ⟨[.int .i64 a', .int .i64 b', .int .i64 c', .int .i64 d', .int .i64 e', .int .i64 f', .int .i64 g', .int .i64 q']⟩, .int .i64 w] => some (true, Bo (nearB w c c' d d' e e' f f' g g' q q'))
  | _ => none
theorem gRNNear_ok : ∀ vs r, gRNNear vs = some (true, r) → ∀ m, CallOk Try.prog 58 (vs.map .v) m (.v r) m := by
  intro vs r h
  unfold gRNNear at h
  split at h
  · rename_i a b c d e f g q a' b' c' d' e' f' g' q' w
    obtain ⟨h1, rfl⟩ := some_t h
    refine runV (vs := [.agg #[I a, I b, I c, I d, I e, I f, I g, I q], .agg #[I a', I b', I c', I d', I e', I f', I g', I q'], I w]) (Λ := L0) (m' := M0) OkP1 Try.func58 rfl (fun z _ _ => l0Ok _ z) ?_
    exact (runRNNear a b c d e f g q a' b' c' d' e' f' g' q' w).trans (by
      rw [same_self]
      simp only [bif_f, Bool.not_not, Bool.and_true]
      congr 4
      unfold nearB near1
      generalize decide (w < 0) = y
      cases y
      · rfl
      · rfl)
  · cases h
noncomputable def ΓP2 : Orc := addVal 58 gRNNear ΓP1
theorem OkP2 : ΓP2.Ok Try.prog := addVal_ok OkP1 gRNNear_ok
noncomputable def ΓNr : Orc := ΓP2
theorem OkNr : ΓNr.Ok Try.prog := OkP2
end Go.Proofs.Ytnelbjbphkfkkaa

namespace Go.Proofs.Ytnelbjbphkfkkaa
open Go Go.Proofs Go.Sx
set_option linter.unusedVariables false
/-! norm -/
/-! cast -/
/-! Roots. -/
set_option maxRecDepth 20000 in
theorem runHS (a b n : Int) : runG ΓNr L0 Try.prog Try.f102 [.v (Wd a b), .v (UU n)] M0 = 
    (bif inU n && inU n then (bif decide (n * n / (18446744073709551616 : Int) < IntKind.u64.wrap a) then some (.v (Bo true), M0) else (bif n * n / (18446744073709551616 : Int) == IntKind.u64.wrap a then some (.v (Bo (decide (n * n % (18446744073709551616 : Int) ≤ b))), M0) else some (.v (Bo false), M0))) else none) := by kernel_rfl
def gHS (vs : List Value) : Option (Bool × Value) :=
  match vs with
  | [.agg ⟨[.int .i64 a, .int .u64 b]⟩, .int .u64 n] => some (inW a b && (decide (0 ≤ a) && inU n), Bo (decide (n * n ≤ wv a b)))
  | _ => none
theorem gHS_ok : ∀ vs r, gHS vs = some (true, r) → ∀ m, CallOk Try.prog 102 (vs.map .v) m (.v r) m := by
  intro vs r h
  unfold gHS at h
  split at h
  · rename_i a b n
    obtain ⟨h1, rfl⟩ := some_t h
    refine runV (vs := [Wd a b, UU n]) (Λ := L0) (m' := M0) OkNr Try.func102 rfl (fun z _ _ => l0Ok' _ z) ?_
    exact (runHS a b n).trans (by
      simp only [Bool.and_eq_true, decide_eq_true_eq] at h1
      obtain ⟨g1, g2, g3⟩ := h1
      rw [g3]
      simp only [Bool.and_self, cond_true]
      rw [inW_iff] at g1
      rw [wrU]
      have ea : a % 18446744073709551616 = a := by omega
      rw [ea]
      unfold wv
      by_cases c1 : n * n / 18446744073709551616 < a
      · rw [decide_eq_true c1, decide_eq_true (show n * n ≤ a * 18446744073709551616 + b by omega)]
        rfl
      · rw [decide_eq_false c1]
        by_cases c2 : n * n / 18446744073709551616 = a
        · rw [beq_iff_eq.2 c2]
          refine vEq ?_
          show Bo _ = Bo _
          rw [decide_eq_decide.2 (show n * n % 18446744073709551616 ≤ b ↔ n * n ≤ a * 18446744073709551616 + b by omega)]
        · rw [beq_eq_false_iff_ne.2 c2, decide_eq_false (show ¬ n * n ≤ a * 18446744073709551616 + b by omega)]
          rfl)
  · cases h
noncomputable def ΓT1 : Orc := addVal 102 gHS ΓNr
theorem OkT1 : ΓT1.Ok Try.prog := addVal_ok OkNr gHS_ok
noncomputable def bdSq : Code := loopAt (Try.f97.body.getD .skip) 0
theorem loopsSq : loopsOf (Try.f97.body.getD .skip) = [bdSq] := by kernel_rfl
theorem loopsSq0 : loopsOf bdSq = [] := by kernel_rfl
def kSq : List Bool := maskOf 21 [1, 4, 5]
def xSq : List Bool := maskOf 21 [4]
def KSq (e : Ex) (st : St) : Option (Ex × St) := some (e, cutC 0 0 xSq st)
def MSq (a b : Int) : Mem := ⟨[[.v (I a), .v (UU b)]], [true], []⟩
def HSq (a b r q : Int) : St := mk kSq [.ptr 0 0, .v (UU r), .v (UU q)] (MSq a b)
def XSq (r : Int) : St := mk xSq [.v (UU r)] M0
theorem stepSq (a b r q : Int) (k : Nat) : evLoop ΓT1 Try.prog L0 (cutC 0 0 kSq) bdSq (k + 1) (HSq a b r q) KSq =
    bif decide (q > 0) then (bif inW a b && (decide (0 ≤ a) && inU (orU r q)) then (bif decide (orU r q * orU r q ≤ wv a b) then evLoop ΓT1 Try.prog L0 (cutC 0 0 kSq) bdSq k (HSq a b (orU r q) (q.fdiv (2 ^ 1))) KSq else evLoop ΓT1 Try.prog L0 (cutC 0 0 kSq) bdSq k (HSq a b r (q.fdiv (2 ^ 1))) KSq) else none) else some (.exit 0, XSq r) := by kernel_rfl
def GSq (vals : List SV) (m : Mem) : Option (Bool × Ex × St) :=
  match vals, m with
  | [.ptr 0 0, .v (.int .u64 r), .v (.int .u64 q)], ⟨[[.v (.int .i64 a), .v (.int .u64 b)]], [true], []⟩ =>
    some (inW a b && (decide (0 ≤ a) && (r == 0 && q == 9223372036854775808)), .exit 0, XSq (sqr (wv a b) 64 0))
  | _, _ => none
noncomputable def ΛSq : LoopOrc := fun _ st => viaC 0 0 kSq GSq st
theorem loopOkSq (z : Base) (z1 : z.L.length = 0) (z2 : z.U.length = 0) : LoopOk ΛSq Try.prog z bdSq := by
  refine loop_okC (Λ := L0) (kx := fun _ => xSq) OkT1 mixed z1 z2 (fun b hb => by rw [loopsSq0] at hb; cases hb) (G := GSq) (fun _ => rfl) ?_
  intro vals m e st' h
  unfold GSq at h
  split at h
  · rename_i r q a b
    obtain ⟨h1, rfl, rfl⟩ := some_t2 h
    simp only [Bool.and_eq_true, beq_iff_eq, decide_eq_true_eq] at h1
    obtain ⟨g1, g2, rfl, rfl⟩ := h1
    exact ⟨65, sqr_loop (wv a b) (fun x => inW a b && (decide (0 ≤ a) && inU x)) (fun x hx => by simp [g1, g2, hx]) (fun m r q => evLoop ΓT1 Try.prog L0 (cutC 0 0 kSq) bdSq m (HSq a b r q) KSq) (fun r => some (.exit 0, XSq r)) (fun m r q => stepSq a b r q m) 63 0 (by decide) (by decide) (by decide)⟩
  · cases h
theorem runSq (a b : Int) : runG ΓT1 ΛSq Try.prog Try.f97 [.v (Wd a b)] M0 =
    bif decide (a < 0) then some (.v (.tuple #[UU 0, Bo false]), M0)
    else bif inW a b && (decide (0 ≤ a) && ((0 : Int) == 0 && (9223372036854775808 : Int) == 9223372036854775808)) then some (.v (.tuple #[UU (sqr (wv a b) 64 0), Bo true]), M0) else none := by kernel_rfl
def gSq (vs : List Value) : Option (Bool × Value) :=
  match vs with
  | [.agg ⟨[.int .i64 a, .int .u64 b]⟩] => some (inW a b, .tuple #[UU (rtW (wv a b)), Bo (decide (0 ≤ wv a b))])
  | _ => none
theorem gSq_ok : ∀ vs r, gSq vs = some (true, r) → ∀ m, CallOk Try.prog 97 (vs.map .v) m (.v r) m := by
  intro vs r h
  unfold gSq at h
  split at h
  · rename_i a b
    obtain ⟨h1, rfl⟩ := some_t h
    refine runV (vs := [Wd a b]) (Λ := ΛSq) (m' := M0) OkT1 Try.func97 rfl (fun z z1 z2 => oneLoop (c := Try.f97.body.getD .skip) loopsSq (loopOkSq z z1 z2)) ?_
    refine (runSq a b).trans ?_
    have h' := h1
    rw [inW_iff] at h'
    by_cases ha : a < 0
    · have e1 : wv a b < 0 := by unfold wv; omega
      have e2 : ¬ 0 ≤ wv a b := by omega
      simp [ha, rtW, e1, e2]
    · have e1 : ¬ wv a b < 0 := by unfold wv; omega
      have e2 : 0 ≤ wv a b := by omega
      have e3 : 0 ≤ a := by omega
      simp [ha, rtW, e1, e2, e3, h1]
  · cases h
noncomputable def ΓT2 : Orc := addVal 97 gSq ΓT1
theorem OkT2 : ΓT2.Ok Try.prog := addVal_ok OkT1 gSq_ok
/-! fix.Sqrt -/
def rkO (n : Int) : Bool := decide (0 ≤ n)
set_option maxRecDepth 20000 in
theorem runFRoot (a b : Int) (t : Bool) : runG ΓT2 L0 Try.prog Try.f89 [.v (Wd a b), .v (Bo t)] M0 = 
    (bif !t then some (.v (.tuple #[(I 0), (Bo false)]), M0) else (bif inW a b then (bif !decide ((0 : Int) ≤ wv a b) then some (.v (.tuple #[(I 0), (Bo false)]), M0) else (bif decide (rtW (wv a b) > (9223372036854775807 : Int)) then some (.v (.tuple #[(I 0), (Bo false)]), M0) else some (.v (.tuple #[(I (wI (rtW (wv a b)))), (Bo true)]), M0))) else none)) := by kernel_rfl
def gFRoot (vs : List Value) : Option (Bool × Value) :=
  match vs with
  | [.agg ⟨[.int .i64 a, .int .u64 b]⟩, .bool t] => some (inW a b && (inI (wv a b) && t), .tuple #[I (rtW (wv a b)), Bo (decide (0 ≤ wv a b))])
  | _ => none
theorem vB {x y : Bool} (h : x = y) : (some (SV.v (Bo x), M0) : Option (SV × Mem)) = some (.v (Bo y), M0) := by rw [h]
theorem vI {x y : Int} (h : x = y) : (some (SV.v (I x), M0) : Option (SV × Mem)) = some (.v (I y), M0) := by rw [h]
theorem rtW_I {n : Int} (h : inI n = true) : 0 ≤ rtW n ∧ rtW n < 4294967296 := by
  rw [inI_iff] at h
  refine ⟨rtW_nonneg (by omega), ?_⟩
  rcases (by omega : n < 0 ∨ 0 ≤ n) with h1 | h1
  · rw [rtW_neg h1]; decide
  · obtain ⟨s0, _, s2, _⟩ := rt_spec n h1 (by omega)
    rcases (by omega : rtW n < 4294967296 ∨ 4294967296 ≤ rtW n) with h2 | h2
    · exact h2
    · have := Int.mul_le_mul h2 h2 (by decide) s0
      omega
theorem gFRoot_ok : ∀ vs r, gFRoot vs = some (true, r) → ∀ m, CallOk Try.prog 89 (vs.map .v) m (.v r) m := by
  intro vs r h
  unfold gFRoot at h
  split at h
  · rename_i a b t
    obtain ⟨h1, rfl⟩ := some_t h
    refine runV (vs := [Wd a b, Bo t]) (Λ := L0) (m' := M0) OkT2 Try.func89 rfl (fun z _ _ => l0Ok' _ z) ?_
    exact (runFRoot a b t).trans (by
      simp only [Bool.and_eq_true] at h1
      obtain ⟨g1, g2, rfl⟩ := h1
      obtain ⟨r0, r1⟩ := rtW_I g2
      rw [g1]
      simp only [Bool.not_true, cond_false, cond_true]
      by_cases hn : 0 ≤ wv a b
      · rw [decide_eq_true hn, decide_eq_false (show ¬ rtW (wv a b) > 9223372036854775807 by omega), wI_id (by omega)]
        rfl
      · rw [decide_eq_false hn, rtW_neg (by omega)]
        rfl)
  · cases h
noncomputable def ΓT3 : Orc := addVal 89 gFRoot ΓT2
theorem OkT3 : ΓT3.Ok Try.prog := addVal_ok OkT2 gFRoot_ok
set_option maxRecDepth 20000 in
theorem runFSqrt (n : Int) : runG ΓT3 L0 Try.prog Try.f78 [.v (I n)] M0 = 
    (bif inI n then (bif inW (hiW n) (loW n) && (inI (wv (hiW n) (loW n)) && true) then some (.v (.tuple #[(I (rtW (wv (hiW n) (loW n)))), (Bo (decide ((0 : Int) ≤ wv (hiW n) (loW n))))]), M0) else none) else none) := by kernel_rfl
def gFSqrt (vs : List Value) : Option (Bool × Value) :=
  match vs with
  | [.int .i64 n] => some (inI n, .tuple #[I (rtW n), Bo (decide (0 ≤ n))])
  | _ => none
theorem gFSqrt_ok : ∀ vs r, gFSqrt vs = some (true, r) → ∀ m, CallOk Try.prog 78 (vs.map .v) m (.v r) m := by
  intro vs r h
  unfold gFSqrt at h
  split at h
  · rename_i n
    obtain ⟨h1, rfl⟩ := some_t h
    refine runV (vs := [I n]) (Λ := L0) (m' := M0) OkT3 Try.func78 rfl (fun z _ _ => l0Ok' _ z) ?_
    exact (runFSqrt n).trans (by
      obtain ⟨e1, e2⟩ := wv_Wn (okW_I h1)
      rw [h1, e2, e1, h1]
      rfl)
  · cases h
noncomputable def ΓT4 : Orc := addVal 78 gFSqrt ΓT3
theorem OkT4 : ΓT4.Ok Try.prog := addVal_ok OkT3 gFSqrt_ok
def clI (n lo hi : Int) : Int := bif decide (n < lo) then lo else bif decide (n > hi) then hi else n
set_option maxRecDepth 20000 in
theorem runFClamp (n lo hi : Int) : runG ΓT4 L0 Try.prog Try.f57 [.v (I n), .v (I lo), .v (I hi)] M0 = 
    (bif decide (n < lo) then some (.v (I lo), M0) else (bif decide (n > hi) then some (.v (I hi), M0) else some (.v (I n), M0))) := by kernel_rfl
def gFClamp (vs : List Value) : Option (Bool × Value) :=
  match vs with
  | [.int .i64 n, .int .i64 lo, .int .i64 hi] => some (true, I (clI n lo hi))
  | _ => none
theorem gFClamp_ok : ∀ vs r, gFClamp vs = some (true, r) → ∀ m, CallOk Try.prog 57 (vs.map .v) m (.v r) m := by
  intro vs r h
  unfold gFClamp at h
  split at h
  · rename_i n lo hi
    obtain ⟨h1, rfl⟩ := some_t h
    refine runV (vs := [I n, I lo, I hi]) (Λ := L0) (m' := M0) OkT4 Try.func57 rfl (fun z _ _ => l0Ok' _ z) ?_
    exact (runFClamp n lo hi).trans (by
      unfold clI
      cases decide (n < lo) <;> cases decide (n > hi) <;> rfl)
  · cases h
noncomputable def ΓT5 : Orc := addVal 57 gFClamp ΓT4
theorem OkT5 : ΓT5.Ok Try.prog := addVal_ok OkT4 gFClamp_ok
/-! The document's root. -/
noncomputable def bdRo : Code := loopAt (Try.f62.body.getD .skip) 0
theorem loopsRo : loopsOf (Try.f62.body.getD .skip) = [bdRo] := by kernel_rfl
theorem loopsRo0 : loopsOf bdRo = [] := by kernel_rfl
def kRo : List Bool := maskOf 25 [1, 3, 4]
def xRo : List Bool := maskOf 25 [3]
def KRo (e : Ex) (st : St) : Option (Ex × St) := some (e, cutC 0 0 xRo st)
def HRo (a b lo hi : Int) : St := mk kRo [.ptr 0 0, .v (I lo), .v (I hi)] (MSq a b)
def XRo (r : Int) : St := mk xRo [.v (I r)] M0
theorem stepRo (a b lo hi : Int) (k : Nat) : evLoop ΓT5 Try.prog L0 (cutC 0 0 kRo) bdRo (k + 1) (HRo a b lo hi) KRo =
    bif decide (IntKind.i64.wrap (hi - lo) > 1) then (bif inI (midI lo hi) && inI (midI lo hi) then (bif inW (pHi (midI lo hi * midI lo hi)) (pLo (midI lo hi * midI lo hi)) && inW a b then (bif decide (cmpI (wv (pHi (midI lo hi * midI lo hi)) (pLo (midI lo hi * midI lo hi))) (wv a b) ≤ 0) then evLoop ΓT5 Try.prog L0 (cutC 0 0 kRo) bdRo k (HRo a b (midI lo hi) hi) KRo else evLoop ΓT5 Try.prog L0 (cutC 0 0 kRo) bdRo k (HRo a b lo (midI lo hi)) KRo) else none) else none) else some (.exit 0, XRo lo) := by kernel_rfl
theorem cmpI_le (m n : Int) : decide (cmpI m n ≤ 0) = decide (m ≤ n) := by
  unfold cmpI
  by_cases h1 : m < n
  · simp [h1]; omega
  · by_cases h2 : n < m
    · simp [h1, h2]
    · simp [h1, h2]; omega
theorem pW_ok {n : Int} (h : okW n = true) : inW (pHi n) (pLo n) = true ∧ wv (pHi n) (pLo n) = n := by
  rw [(p_ok h).1, (p_ok h).2]
  exact ⟨(wv_Wn h).2, (wv_Wn h).1⟩
def GRo (vals : List SV) (m : Mem) : Option (Bool × Ex × St) :=
  match vals, m with
  | [.ptr 0 0, .v (.int .i64 lo), .v (.int .i64 hi)], ⟨[[.v (.int .i64 a), .v (.int .u64 b)]], [true], []⟩ =>
    some (inW a b && (decide (wv a b < 21267647932558653966460912964485513216) && (lo == 0 && hi == 4611686018427387904)), .exit 0, XRo (rtW (wv a b)))
  | _, _ => none
noncomputable def ΛRo : LoopOrc := fun _ st => viaC 0 0 kRo GRo st
theorem loopOkRo (z : Base) (z1 : z.L.length = 0) (z2 : z.U.length = 0) : LoopOk ΛRo Try.prog z bdRo := by
  refine loop_okC (Λ := L0) (kx := fun _ => xRo) OkT5 mixed z1 z2 (fun b hb => by rw [loopsRo0] at hb; cases hb) (G := GRo) (fun _ => rfl) ?_
  intro vals m e st' h
  unfold GRo at h
  split at h
  · rename_i lo hi a b
    obtain ⟨h1, rfl, rfl⟩ := some_t2 h
    simp only [Bool.and_eq_true, beq_iff_eq, decide_eq_true_eq] at h1
    obtain ⟨g1, g2, rfl, rfl⟩ := h1
    refine ⟨63, half_loop (wv a b) g2 (fun m lo hi => evLoop ΓT5 Try.prog L0 (cutC 0 0 kRo) bdRo m (HRo a b lo hi) KRo) (fun r => some (.exit 0, XRo r)) (fun m lo hi hm => ?_) 62 0 4611686018427387904 (by decide) (by decide) (by decide) (by decide) (.inl rfl) (by
      have : (4611686018427387904 : Int) * 4611686018427387904 = 21267647932558653966460912964485513216 := by decide
      rw [this]; exact g2)⟩
    refine (stepRo a b lo hi m).trans ?_
    obtain ⟨p1, p2⟩ := pW_ok (okW_mul hm hm)
    rw [hm, p1, p2, g1, cmpI_le]
    rfl
  · cases h
theorem runRo (a b : Int) : runG ΓT5 ΛRo Try.prog Try.f62 [.v (Wd a b)] M0 =
    bif inW a b && (decide (wv a b < 21267647932558653966460912964485513216) && ((0 : Int) == 0 && (4611686018427387904 : Int) == 4611686018427387904)) then some (.v (I (rtW (wv a b))), M0) else none := by kernel_rfl
def gRo (vs : List Value) : Option (Bool × Value) :=
  match vs with
  | [.agg ⟨[.int .i64 a, .int .u64 b]⟩] => some (inW a b && decide (wv a b < 21267647932558653966460912964485513216), I (rtW (wv a b)))
  | _ => none
theorem gRo_ok : ∀ vs r, gRo vs = some (true, r) → ∀ m, CallOk Try.prog 62 (vs.map .v) m (.v r) m := by
  intro vs r h
  unfold gRo at h
  split at h
  · rename_i a b
    obtain ⟨h1, rfl⟩ := some_t h
    refine runV (vs := [Wd a b]) (Λ := ΛRo) (m' := M0) OkT5 Try.func62 rfl (fun z z1 z2 => oneLoop (c := Try.f62.body.getD .skip) loopsRo (loopOkRo z z1 z2)) ?_
    refine (runRo a b).trans ?_
    rw [Bool.and_eq_true] at h1
    rw [h1.1, h1.2]
    rfl
  · cases h
noncomputable def ΓRt : Orc := addVal 62 gRo ΓT5
theorem OkRt : ΓRt.Ok Try.prog := addVal_ok OkT5 gRo_ok
end Go.Proofs.Ytnelbjbphkfkkaa

