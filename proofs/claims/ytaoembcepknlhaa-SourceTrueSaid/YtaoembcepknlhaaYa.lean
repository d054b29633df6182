/-
  What is known of this program: the atomics, names; contracts of counters and of products; loops in general.
-/
import Derived.Test.YtaoembcepknlhaaSx
import Derived.Test.YtaoembcepknlhaaProg
import Derived.Lib.Strings
import Derived.Lib.Walk
import Derived.Lib.BufferWrite
import Derived.Lib.UnsafeStr
import Derived.Laws.MakeOwn
import Derived.WalkKit
import Derived.Test.YtaoembcepknlhaaSw
namespace Go.Proofs.Ytaoembcepknlhaa
open Go Go.Proofs Go.Sx Go.RowKit
theorem mixed : Try.prog.follows .mixedOrders = true := by kernel_rfl
theorem names : namesOk Try.prog = true := by kernel_rfl
def noC : FuncId → List SV → Mem → Option (Bool × SV × Mem) := fun _ _ _ => none
def noR : FuncId → List SV → Mem → Option (Bool × Value) := fun _ _ _ => none
def M0 : Mem := ⟨[], [], []⟩
def I (x : Int) : Value := .int .i64 x
def S (s : ByteArray) : Value := .string s
def Bo (b : Bool) : Value := .bool b
def U8 (x : Int) : Value := .int .u8 x
def U16 (x : Int) : Value := .int .u16 x
def U32 (x : Int) : Value := .int .u32 x
theorem xLoad64 : Ext Try.prog 36 (Extern.Atomic.loadT (.int .i64)) := ⟨fun args w => run_callFunc_extern Try.func36 (by kernel_rfl) (by kernel_rfl) (by kernel_rfl) (by kernel_rfl) args w⟩
def rLoad64 : FuncId → List SV → Mem → Option (Bool × Value) := loadE 36 .i64
theorem rLoad64_ok : ∀ f xs m r, rLoad64 f xs m = some (true, r) → CallOk Try.prog f xs m (.v r) m := loadE_ok xLoad64
theorem xCas64 : Ext Try.prog 41 (Extern.Atomic.casT (.int .i64)) := ⟨fun args w => run_callFunc_extern Try.func41 (by kernel_rfl) (by kernel_rfl) (by kernel_rfl) (by kernel_rfl) args w⟩
def cCas64 : FuncId → List SV → Mem → Option (Bool × SV × Mem) := casE 41 .i64
theorem cCas64_ok : ∀ f xs m r m', cCas64 f xs m = some (true, r, m') → CallOk Try.prog f xs m r m' := casE_ok xCas64
def vClone : FuncId → List Value → Option (Bool × Value) := fun _ _ => none
theorem vClone_ok : TabOk Try.prog vClone := fun _ _ _ h => by cases h
/-- Structs that are compared. -/
def good : List TypeId :=
  32 ::
  60 ::
  []
/-- Calls that others wait for, in a region that draws its order. -/
def makers (f : FuncId) : Bool :=
  false
theorem goodOk : good.all (eqTypeOk Try.prog) = true := by kernel_rfl
noncomputable def ΓA : Orc := addR (tabV vClone) { call := cCas64, eqv := eqvOf Try.prog good, rd := rLoad64, unr := 8, wr := makers }
theorem OkA : ΓA.Ok Try.prog := addR_tab ⟨cCas64_ok, rLoad64_ok, fun t xs ys r h w op x y hop => eqvOf_ok goodOk t xs ys r h w op x y hop⟩ vClone_ok
theorem runOk {Γ : Orc} {Λ : LoopOrc} (hΓ : Γ.Ok Try.prog) {f : FuncId} {fn : Func} {c : Code} (hf : Try.prog.funcs[f]? = some fn) (hb : fn.body = some c) {xs : List SV} {m m' : Mem} {r : SV}
    (hL : ∀ z, z.L.length = m.blk.length → z.U.length = m.rows.length → ∀ b ∈ loopsOf c, LoopOk Λ Try.prog z b) (h : runG Γ Λ Try.prog fn xs m = some (r, m')) : CallOk Try.prog f xs m r m' := callOk_of_run hΓ mixed names hf hb hL h
/-- A call of values alone, by its run. -/
theorem runV {Γ : Orc} {Λ : LoopOrc} (hΓ : Γ.Ok Try.prog) {f : FuncId} {fn : Func} {c : Code} (hf : Try.prog.funcs[f]? = some fn) (hb : fn.body = some c) {vs : List Value} {r : Value} {m' : Mem}
    (hL : ∀ z : Base, z.L.length = 0 → z.U.length = 0 → ∀ b ∈ loopsOf c, LoopOk Λ Try.prog z b) (h : runG Γ Λ Try.prog fn (vs.map .v) M0 = some (.v r, m')) : ∀ m, CallOk Try.prog f (vs.map .v) m (.v r) m := valOk hΓ mixed names hf hb hL h
end Go.Proofs.Ytaoembcepknlhaa

namespace Go.Proofs.Ytaoembcepknlhaa
open Go Go.Proofs Go.Sx
/-! Counters: a block of two numbers, the most and the value. -/
def MC (a b : Int) : Mem := ⟨[[.v (I a), .v (I b)]], [true], []⟩
def clampI (x y : Int) : Int := if (if y < x then y else x) > 0 then (if y < x then y else x) else 0
def gLoad (xs : List SV) (m : Mem) : Option (Bool × Value) :=
  match xs, m with
  | [.ptr 0 1], ⟨[[.v (.int .i64 _), .v (.int .i64 b)]], [true], []⟩ => some (true, I b)
  | _, _ => none
theorem gLoad_ok : ∀ xs m r, gLoad xs m = some (true, r) → CallOk Try.prog 30 xs m (.v r) m := by
  intro xs m r h
  unfold gLoad at h
  split at h
  · rename_i a b
    obtain ⟨_, rfl⟩ := some_t h
    refine runOk (Λ := L0) OkA Try.func30 rfl (fun z _ _ => noLoops (by kernel_rfl) z) ?_
    kernel_rfl
  · cases h
noncomputable def ΓC1 : Orc := addRd 30 gLoad ΓA
theorem OkC1 : ΓC1.Ok Try.prog := addRd_ok OkA gLoad_ok
def gClamp (vs : List Value) : Option (Bool × Value) :=
  match vs with
  | [.int .i64 x, .int .i64 y] => some (true, I (clampI x y))
  | _ => none
theorem gClamp_ok : ∀ vs r, gClamp vs = some (true, r) → ∀ m, CallOk Try.prog 24 (vs.map .v) m (.v r) m := by
  intro vs r h
  unfold gClamp at h
  split at h
  · rename_i x y
    obtain ⟨_, rfl⟩ := some_t h
    refine runV (Λ := L0) (m' := M0) OkC1 Try.func24 rfl (fun z _ _ => noLoops (by kernel_rfl) z) ?_
    kernel_rfl
  · cases h
noncomputable def ΓC2 : Orc := addVal 24 gClamp ΓC1
theorem OkC2 : ΓC2.Ok Try.prog := addVal_ok OkC1 gClamp_ok
def gValue (xs : List SV) (m : Mem) : Option (Bool × Value) :=
  match xs, m with
  | [.ptr 0 0], ⟨[[.v (.int .i64 _), .v (.int .i64 b)]], [true], []⟩ => some (true, I b)
  | [.v (.pointer none)], _ => some (true, I 0)
  | _, _ => none
theorem gValue_ok : ∀ xs m r, gValue xs m = some (true, r) → CallOk Try.prog 22 xs m (.v r) m := by
  intro xs m r h
  unfold gValue at h
  split at h
  · rename_i a b
    obtain ⟨_, rfl⟩ := some_t h
    refine runOk (Λ := L0) OkC2 Try.func22 rfl (fun z _ _ => noLoops (by kernel_rfl) z) ?_
    kernel_rfl
  · obtain ⟨_, rfl⟩ := some_t h
    refine runV (vs := [.pointer none]) (Λ := L0) (m' := M0) OkC2 Try.func22 rfl (fun z _ _ => noLoops (by kernel_rfl) z) ?_ m
    kernel_rfl
  · cases h
noncomputable def ΓC3 : Orc := addRd 22 gValue ΓC2
theorem OkC3 : ΓC3.Ok Try.prog := addRd_ok OkC2 gValue_ok
def gCas (xs : List SV) (m : Mem) : Option (Bool × SV × Mem) :=
  match xs, m with
  | [.ptr 0 1, .v (.int .i64 x), .v (.int .i64 y)], ⟨[[.v (.int .i64 a), .v (.int .i64 b)]], [true], []⟩ => some (true, .v (Bo (b == x)), MC a (bif b == x then y else b))
  | _, _ => none
theorem gCas_ok : ∀ xs m r m', gCas xs m = some (true, r, m') → CallOk Try.prog 38 xs m r m' := by
  intro xs m r m' h
  unfold gCas at h
  split at h
  · rename_i x y a b
    obtain ⟨_, rfl, rfl⟩ := some_t2 h
    refine runOk (Λ := L0) OkC3 Try.func38 rfl (fun z _ _ => noLoops (by kernel_rfl) z) ?_
    kernel_rfl
  · cases h
noncomputable def ΓC4 : Orc := addCl 38 gCas ΓC3
theorem OkC4 : ΓC4.Ok Try.prog := addCl_ok OkC3 gCas_ok
def gRaised (xs : List SV) (m : Mem) : Option (Bool × Value) :=
  match xs, m with
  | [.ptr 0 0, .v (.int .i64 v), .v (.int .i64 n)], ⟨[[.v (.int .i64 a), .v (.int .i64 _)]], [true], []⟩ => some (true, I (wI (v + clampI n (wI (a - v)))))
  | _, _ => none
theorem gRaised_ok : ∀ xs m r, gRaised xs m = some (true, r) → CallOk Try.prog 37 xs m (.v r) m := by
  intro xs m r h
  unfold gRaised at h
  split at h
  · rename_i v n a b
    obtain ⟨_, rfl⟩ := some_t h
    refine runOk (Λ := L0) OkC4 Try.func37 rfl (fun z _ _ => noLoops (by kernel_rfl) z) ?_
    kernel_rfl
  · cases h
noncomputable def ΓC5 : Orc := addRd 37 gRaised ΓC4
theorem OkC5 : ΓC5.Ok Try.prog := addRd_ok OkC4 gRaised_ok
/-- A counter's value behind a call of Add. -/
def addN' (a v n : Int) : Int := wI (v + clampI n (wI (a - v)))
def kAdd : List Bool := maskOf 24 [0, 1]
def kAddx : List Bool := maskOf 24 [4]
noncomputable def bodyAdd : Code := loopAt (Try.f31.body.getD .skip) 0
theorem loopsAdd : loopsOf (Try.f31.body.getD .skip) = [bodyAdd] := by kernel_rfl
theorem loopsAdd0 : loopsOf bodyAdd = [] := by kernel_rfl
theorem stepAdd (a v n : Int) (k : Nat) : evLoop ΓC5 Try.prog L0 (cutC 1 0 kAdd) bodyAdd (k + 1) (mk kAdd [.ptr 0 0, .v (I n)] (MC a v)) (fun e st => some (e, cutC 1 0 kAddx st)) =
    bif v == v then some (.ret, mk kAddx [.v (I (addN' a v n))] (MC a (bif v == v then addN' a v n else v))) else
      evLoop ΓC5 Try.prog L0 (cutC 1 0 kAdd) bodyAdd k (mk kAdd [.ptr 0 0, .v (I n)] (MC a (bif v == v then addN' a v n else v))) (fun e st => some (e, cutC 1 0 kAddx st)) := by kernel_rfl
def GAdd (vals : List SV) (m : Mem) : Option (Bool × Ex × St) :=
  match vals, m with
  | [.ptr 0 0, .v (.int .i64 n)], ⟨[[.v (.int .i64 a), .v (.int .i64 v)]], [true], []⟩ => some (true, .ret, mk kAddx [.v (I (addN' a v n))] (MC a (addN' a v n)))
  | _, _ => none
noncomputable def ΛAdd : LoopOrc := fun _ st => viaC 1 0 kAdd GAdd st
theorem loopOkAdd (z : Base) (h1 : z.L.length = 1) (h2 : z.U.length = 0) : LoopOk ΛAdd Try.prog z bodyAdd := by
  refine loop_okC (Λ := L0) (kx := fun _ => kAddx) OkC5 mixed h1 h2 (fun b hb => by rw [loopsAdd0] at hb; cases hb) (G := GAdd) (fun _ => rfl) ?_
  intro vals m e st' h
  unfold GAdd at h
  split at h
  · rename_i n a v
    obtain ⟨_, rfl, rfl⟩ := some_t2 h
    refine ⟨1, (stepAdd a v n 0).trans ?_⟩
    simp only [beq_self_eq_true, cond_true]
  · cases h
def gAdd (xs : List SV) (m : Mem) : Option (Bool × SV × Mem) :=
  match xs, m with
  | [.ptr 0 0, .v (.int .i64 n)], ⟨[[.v (.int .i64 a), .v (.int .i64 v)]], [true], []⟩ => some (true, .v (I (addN' a v n)), MC a (addN' a v n))
  | _, _ => none
theorem gAdd_ok : ∀ xs m r m', gAdd xs m = some (true, r, m') → CallOk Try.prog 31 xs m r m' := by
  intro xs m r m' h
  unfold gAdd at h
  split at h
  · rename_i n a v
    obtain ⟨_, rfl, rfl⟩ := some_t2 h
    refine runOk (Λ := ΛAdd) OkC5 Try.func31 rfl (fun z h1 h2 => oneLoop (c := Try.f31.body.getD .skip) loopsAdd (loopOkAdd z h1 h2)) ?_
    kernel_rfl
  · cases h
noncomputable def ΓC6 : Orc := addCl 31 gAdd ΓC5
theorem OkC6 : ΓC6.Ok Try.prog := addCl_ok OkC5 gAdd_ok
def gNew (xs : List SV) (m : Mem) : Option (Bool × SV × Mem) :=
  match xs, m with
  | [.v (.int .i64 n)], ⟨[], [], []⟩ => some (true, .ptr 0 0, MC (clampI n 1000000) 0)
  | _, _ => none
theorem gNew_ok : ∀ xs m r m', gNew xs m = some (true, r, m') → CallOk Try.prog 16 xs m r m' := by
  intro xs m r m' h
  unfold gNew at h
  split at h
  · rename_i n
    obtain ⟨_, rfl, rfl⟩ := some_t2 h
    refine runOk (Λ := L0) OkC6 Try.func16 rfl (fun z _ _ => noLoops (by kernel_rfl) z) ?_
    kernel_rfl
  · cases h
noncomputable def ΓC : Orc := addCl 16 gNew ΓC6
theorem OkC : ΓC.Ok Try.prog := addCl_ok OkC6 gNew_ok
end Go.Proofs.Ytaoembcepknlhaa

namespace Go.Proofs.Ytaoembcepknlhaa
open Go Go.Proofs Go.Sx
set_option linter.unusedVariables false
/-! Numbers of 128 bits: the program's calls. -/
/-! norm -/
abbrev UU (x : Int) : Value := .int .u64 x
theorem vEq {a b : Value} (h : a = b) : (some (SV.v a, M0) : Option (SV × Mem)) = some (.v b, M0) := by rw [h]
theorem l0Ok' (c : Code) (z : Base) : ∀ b ∈ loopsOf c, LoopOk L0 Try.prog z b := fun b _ st t h => by cases h

noncomputable def ΓW1 : Orc := ΓC
theorem OkW1 : ΓW1.Ok Try.prog := OkC
noncomputable def ΓW2 : Orc := ΓW1
theorem OkW2 : ΓW2.Ok Try.prog := OkW1
noncomputable def ΓW3 : Orc := ΓW2
theorem OkW3 : ΓW3.Ok Try.prog := OkW2
noncomputable def ΓW4 : Orc := ΓW3
theorem OkW4 : ΓW4.Ok Try.prog := OkW3
noncomputable def ΓW5 : Orc := ΓW4
theorem OkW5 : ΓW5.Ok Try.prog := OkW4
set_option maxRecDepth 20000 in
theorem runMul64 (x y : Int) : runG ΓW5 L0 Try.prog Try.f39 [.v (UU x), .v (UU y)] M0 = 
      (let U := IntKind.u64.wrap; let A := fun z : Int => U ((BitVec.ofInt 64 z &&& BitVec.ofInt 64 4294967295).toNat : Int); let S := fun z : Int => z.fdiv (2 ^ 32); let w0 := U (A x * A y); let t := U (U (S x * A y) + S w0); let w1 := U (A t + U (A x * S y)); some (.v (.tuple #[UU (U (U (U (S x * S y) + S t) + S w1)), UU (U (x * y))]), M0)) := by kernel_rfl
def gMul64 (vs : List Value) : Option (Bool × Value) :=
  match vs with
  | [.int .u64 x, .int .u64 y] => some (inU x && inU y, .tuple #[UU (x * y / 18446744073709551616), UU (x * y % 18446744073709551616)])
  | _ => none
theorem gMul64_ok : ∀ vs r, gMul64 vs = some (true, r) → ∀ m, CallOk Try.prog 39 (vs.map .v) m (.v r) m := by
  intro vs r h
  unfold gMul64 at h
  split at h
  · rename_i x y
    obtain ⟨h1, rfl⟩ := some_t h
    refine runV (vs := [UU x, UU y]) (Λ := L0) (m' := M0) OkW5 Try.func39 rfl (fun z _ _ => l0Ok' _ z) ?_
    exact (runMul64 x y).trans (by
      rw [Bool.and_eq_true] at h1
      obtain ⟨e1, e2⟩ := mul64_halves x y h1.1 h1.2
      exact vEq (by show Value.tuple #[UU _, UU _] = _; rw [e1, e2]))
  · cases h
noncomputable def ΓW6 : Orc := addVal 39 gMul64 ΓW5
theorem OkW6 : ΓW6.Ok Try.prog := addVal_ok OkW5 gMul64_ok
noncomputable def ΓW7 : Orc := ΓW6
theorem OkW7 : ΓW7.Ok Try.prog := OkW6
noncomputable def ΓW8 : Orc := ΓW7
theorem OkW8 : ΓW8.Ok Try.prog := OkW7
noncomputable def ΓW9 : Orc := ΓW8
theorem OkW9 : ΓW9.Ok Try.prog := OkW8
noncomputable def ΓW10 : Orc := ΓW9
theorem OkW10 : ΓW10.Ok Try.prog := OkW9
noncomputable def ΓW11 : Orc := ΓW10
theorem OkW11 : ΓW11.Ok Try.prog := OkW10
noncomputable def ΓW12 : Orc := ΓW11
theorem OkW12 : ΓW12.Ok Try.prog := OkW11
noncomputable def ΓW13 : Orc := ΓW12
theorem OkW13 : ΓW13.Ok Try.prog := OkW12
noncomputable def ΓW14 : Orc := ΓW13
theorem OkW14 : ΓW14.Ok Try.prog := OkW13
noncomputable def ΓW15 : Orc := ΓW14
theorem OkW15 : ΓW15.Ok Try.prog := OkW14
noncomputable def ΓW16 : Orc := ΓW15
theorem OkW16 : ΓW16.Ok Try.prog := OkW15
noncomputable def ΓWd : Orc := ΓW16
theorem OkWd : ΓWd.Ok Try.prog := OkW16
end Go.Proofs.Ytaoembcepknlhaa

namespace Go.Proofs.Ytaoembcepknlhaa
open Go Go.Proofs Go.Sx
set_option linter.unusedVariables false
/-! norm -/
/-! cast -/
/-! Tallies: three counters. -/
def TM (a u b v c w : Int) : Mem := ⟨[[.ptr 1 0, .ptr 2 0, .ptr 3 0], [.v (I a), .v (I u)], [.v (I b), .v (I v)], [.v (I c), .v (I w)]], [true, true, true, true], []⟩
def hrd (n : Int) : Bool := n == 1 || (n == 2 || n == 3)
def tV (p q a u : Int) : Int := bif hrd p || hrd q then (bif p != 3 && q != 3 then clampI 0 a else bif hrd p && (hrd q && p != q) then u else addN' a u 1) else u
def tD (p q b v : Int) : Int := bif hrd p || hrd q then (bif p != 3 && q != 3 then clampI 0 b else bif hrd p && (hrd q && p != q) then addN' b v 1 else v) else v
def tG (p q c w : Int) : Int := bif hrd p || hrd q then clampI 0 c else addN' c w 1
def whyI (x y z : Bool) : Int := (bif x then 1 else 0) + ((bif y then 2 else 0) + (bif z then 4 else 0))
theorem xStore64 : Ext Try.prog 40 Extern.Atomic.storeT := ⟨fun args w => run_callFunc_extern Try.func40 (by kernel_rfl) (by kernel_rfl) (by kernel_rfl) (by kernel_rfl) args w⟩
noncomputable def ΓD0 : Orc := addC (storeE 40 .i64) ΓC
theorem OkD0 : ΓD0.Ok Try.prog := addC_ok OkC (storeE_ok xStore64)

set_option maxRecDepth 20000 in
theorem runStore0 (n : Int) (a v : Int) : runG ΓD0 L0 Try.prog Try.f35 [.ptr 0 1, .v (I n)] (MC a v) = some (.v (.tuple #[]), MC a n) := by kernel_rfl
def gStore (xs : List SV) (m : Mem) : Option (Bool × SV × Mem) :=
  match xs, m with
  | [.ptr 0 1, .v (.int .i64 n)], ⟨[[.v (.int .i64 a), .v (.int .i64 v)]], [true], []⟩ => some (true, .v (.tuple #[]), MC a n)
  | _, _ => none
theorem gStore_ok : ∀ xs m r m', gStore xs m = some (true, r, m') → CallOk Try.prog 35 xs m r m' := by
  intro xs m r m' h
  unfold gStore at h
  split at h
  · rename_i n a v
    obtain ⟨h1, rfl, rfl⟩ := some_t2 h
    refine runOk (Λ := L0) OkD0 Try.func35 rfl (fun z _ _ => noLoops (by kernel_rfl) z) ?_
    exact (runStore0 n a v).trans (rfl)
  · cases h
noncomputable def ΓD1 : Orc := addCl 35 gStore ΓD0
theorem OkD1 : ΓD1.Ok Try.prog := addCl_ok OkD0 gStore_ok
noncomputable def ΓDw : Orc := { ΓD1 with wr := fun f => Nat.beq f 35 || makers f }
theorem OkDw : ΓDw.Ok Try.prog := ⟨OkD1.call, OkD1.rd, OkD1.eqv⟩
set_option maxRecDepth 20000 in
theorem runCUp0 (a v : Int) : runG ΓDw L0 Try.prog Try.f25 [.ptr 0 0] (MC a v) = some (.v (I (addN' a v 1)), MC a (addN' a v 1)) := by kernel_rfl
def gCUp (xs : List SV) (m : Mem) : Option (Bool × SV × Mem) :=
  match xs, m with
  | [.ptr 0 0], ⟨[[.v (.int .i64 a), .v (.int .i64 v)]], [true], []⟩ => some (true, .v (I (addN' a v 1)), MC a (addN' a v 1))
  | _, _ => none
theorem gCUp_ok : ∀ xs m r m', gCUp xs m = some (true, r, m') → CallOk Try.prog 25 xs m r m' := by
  intro xs m r m' h
  unfold gCUp at h
  split at h
  · rename_i a v
    obtain ⟨h1, rfl, rfl⟩ := some_t2 h
    refine runOk (Λ := L0) OkDw Try.func25 rfl (fun z _ _ => noLoops (by kernel_rfl) z) ?_
    exact (runCUp0 a v).trans (rfl)
  · cases h
noncomputable def ΓD2 : Orc := addCl 25 gCUp ΓDw
theorem OkD2 : ΓD2.Ok Try.prog := addCl_ok OkDw gCUp_ok
set_option maxRecDepth 20000 in
theorem runCSet0 (n : Int) (a v : Int) : runG ΓD2 L0 Try.prog Try.f28 [.ptr 0 0, .v (I n)] (MC a v) = some (.v (.tuple #[]), MC a (clampI n a)) := by kernel_rfl
def gCSet (xs : List SV) (m : Mem) : Option (Bool × SV × Mem) :=
  match xs, m with
  | [.ptr 0 0, .v (.int .i64 n)], ⟨[[.v (.int .i64 a), .v (.int .i64 v)]], [true], []⟩ => some (true, .v (.tuple #[]), MC a (clampI n a))
  | _, _ => none
theorem gCSet_ok : ∀ xs m r m', gCSet xs m = some (true, r, m') → CallOk Try.prog 28 xs m r m' := by
  intro xs m r m' h
  unfold gCSet at h
  split at h
  · rename_i n a v
    obtain ⟨h1, rfl, rfl⟩ := some_t2 h
    refine runOk (Λ := L0) OkD2 Try.func28 rfl (fun z _ _ => noLoops (by kernel_rfl) z) ?_
    exact (runCSet0 n a v).trans (rfl)
  · cases h
noncomputable def ΓD3 : Orc := addCl 28 gCSet ΓD2
theorem OkD3 : ΓD3.Ok Try.prog := addCl_ok OkD2 gCSet_ok
set_option maxRecDepth 20000 in
theorem runCReset0 (a v : Int) : runG ΓD3 L0 Try.prog Try.f19 [.ptr 0 0] (MC a v) = some (.v (.tuple #[]), MC a (clampI 0 a)) := by kernel_rfl
def gCReset (xs : List SV) (m : Mem) : Option (Bool × SV × Mem) :=
  match xs, m with
  | [.ptr 0 0], ⟨[[.v (.int .i64 a), .v (.int .i64 v)]], [true], []⟩ => some (true, .v (.tuple #[]), MC a (clampI 0 a))
  | _, _ => none
theorem gCReset_ok : ∀ xs m r m', gCReset xs m = some (true, r, m') → CallOk Try.prog 19 xs m r m' := by
  intro xs m r m' h
  unfold gCReset at h
  split at h
  · rename_i a v
    obtain ⟨h1, rfl, rfl⟩ := some_t2 h
    refine runOk (Λ := L0) OkD3 Try.func19 rfl (fun z _ _ => noLoops (by kernel_rfl) z) ?_
    exact (runCReset0 a v).trans (rfl)
  · cases h
noncomputable def ΓD4 : Orc := addCl 19 gCReset ΓD3
theorem OkD4 : ΓD4.Ok Try.prog := addCl_ok OkD3 gCReset_ok
noncomputable def ΓD5 : Orc := ΓD4
theorem OkD5 : ΓD5.Ok Try.prog := OkD4
noncomputable def ΓD6 : Orc := ΓD5
theorem OkD6 : ΓD6.Ok Try.prog := OkD5
noncomputable def ΓD7 : Orc := ΓD6
theorem OkD7 : ΓD7.Ok Try.prog := OkD6
noncomputable def ΓD8 : Orc := ΓD7
theorem OkD8 : ΓD8.Ok Try.prog := OkD7
noncomputable def ΓD9 : Orc := ΓD8
theorem OkD9 : ΓD9.Ok Try.prog := OkD8
noncomputable def ΓD10 : Orc := ΓD9
theorem OkD10 : ΓD10.Ok Try.prog := OkD9
noncomputable def ΓD11 : Orc := ΓD10
theorem OkD11 : ΓD11.Ok Try.prog := OkD10
noncomputable def ΓD12 : Orc := ΓD11
theorem OkD12 : ΓD12.Ok Try.prog := OkD11
noncomputable def ΓTl0 : Orc := ΓD12
theorem OkTl0 : ΓTl0.Ok Try.prog := OkD12
end Go.Proofs.Ytaoembcepknlhaa

/-! Loops in general, for seats that lack KRs. -/
namespace Go.Proofs.Ytaoembcepknlhaa
open Go Go.Proofs Go.Sx
set_option linter.unusedVariables false
def anyN (p : Int → Bool) : Nat → Int → Bool
  | 0, _ => false
  | m + 1, k => p k || anyN p m (k + 1)
theorem anyN_iff {p : Int → Bool} : ∀ {m : Nat} {k : Int}, anyN p m k = true ↔ ∃ i, k ≤ i ∧ i < k + m ∧ p i = true
  | 0, k => ⟨fun h => (by cases h), fun ⟨i, h1, h2, _⟩ => absurd h2 (by omega)⟩
  | m + 1, k => by
    show (p k || anyN p m (k + 1)) = true ↔ _
    rw [Bool.or_eq_true, anyN_iff]
    constructor
    · rintro (h | ⟨i, h1, h2, h3⟩)
      · exact ⟨k, by omega, by omega, h⟩
      · exact ⟨i, by omega, by omega, h3⟩
    · rintro ⟨i, h1, h2, h3⟩
      by_cases hi : i = k
      · rw [hi] at h3; exact .inl h3
      · exact .inr ⟨i, by omega, by omega, h3⟩
theorem findLoop {α : Type} (p : Int → Bool) (N : Int) (E : Nat → Int → Option α) (X Y : Option α) (he : ∀ n k, ¬ k < N → E (n + 1) k = X) (hr : ∀ n k, 0 ≤ k ∧ k < N → E (n + 1) k = bif p k then Y else E n (k + 1)) :
    ∀ (m : Nat) (k : Int), 0 ≤ k → k + m = N → E (m + 1) k = bif anyN p m k then Y else X := by
  intro m
  induction m with
  | zero =>
    intro k h0 h1
    exact he 0 k (by omega)
  | succ m ih =>
    intro k h0 h1
    rw [hr (m + 1) k (by omega)]
    show _ = bif p k || anyN p m (k + 1) then Y else X
    cases p k
    · exact ih (k + 1) (by omega) (by omega)
    · rfl
noncomputable def either (t : Code) (Λ1 Λ2 : LoopOrc) : LoopOrc := fun b st => match Nat.beq (tagOf b) (tagOf t) with
  | true => Λ1 b st
  | false => Λ2 b st
theorem eitherL {t : Code} {Λ1 Λ2 : LoopOrc} {b : Code} {z : Base} (h : Nat.beq (tagOf b) (tagOf t) = true) (h1 : LoopOk Λ1 Try.prog z b) : LoopOk (either t Λ1 Λ2) Try.prog z b := fun st x hx => h1 st x (by unfold either at hx; rw [h] at hx; exact hx)
theorem eitherR {t : Code} {Λ1 Λ2 : LoopOrc} {b : Code} {z : Base} (h : Nat.beq (tagOf b) (tagOf t) = false) (h1 : LoopOk Λ2 Try.prog z b) : LoopOk (either t Λ1 Λ2) Try.prog z b := fun st x hx => h1 st x (by unfold either at hx; rw [h] at hx; exact hx)
theorem twoLoops {Λ : LoopOrc} {c b0 b1 : Code} {z : Base} (h : loopsOf c = [b0, b1]) (h0 : LoopOk Λ Try.prog z b0) (h1 : LoopOk Λ Try.prog z b1) : ∀ b ∈ loopsOf c, LoopOk Λ Try.prog z b := by
  intro b hb
  rw [h] at hb
  simp only [List.mem_cons, List.not_mem_nil, or_false] at hb
  rcases hb with rfl | rfl
  · exact h0
  · exact h1
def foF {σ : Type} (f : Int → σ → σ) : Nat → Int → σ → σ
  | 0, _, s => s
  | m + 1, k, s => foF f m (k + 1) (f k s)
theorem foldFind {α σ : Type} (p : Int → Bool) (f : Int → σ → σ) (I : Int → σ → Prop) (N : Int) (E : Nat → Int → σ → Option α) (X : σ → Option α) (Y : Option α) (he : ∀ n k s, ¬ k < N → I k s → E (n + 1) k s = X s) (hI : ∀ k s, 0 ≤ k ∧ k < N → I k s → I (k + 1) (f k s)) (hr : ∀ n k s, 0 ≤ k ∧ k < N → I k s → E (n + 1) k s = bif p k then Y else E n (k + 1) (f k s)) :
    ∀ (m : Nat) (k : Int) (s : σ), 0 ≤ k → k + m = N → I k s → E (m + 1) k s = bif anyN p m k then Y else X (foF f m k s) := by
  intro m
  induction m with
  | zero =>
    intro k s h0 h1 hi
    exact he 0 k s (by omega) hi
  | succ m ih =>
    intro k s h0 h1 hi
    rw [hr (m + 1) k s (by omega) hi]
    show _ = bif p k || anyN p m (k + 1) then Y else X (foF f m (k + 1) (f k s))
    cases p k
    · exact ih (k + 1) (f k s) (by omega) (by omega) (hI k s (by omega) hi)
    · rfl
theorem anyN_false : ∀ (m : Nat) (k : Int), anyN (fun _ => false) m k = false
  | 0, _ => rfl
  | m + 1, k => anyN_false m (k + 1)
theorem foldAll {α σ : Type} (f : Int → σ → σ) (I : Int → σ → Prop) (N : Int) (E : Nat → Int → σ → Option α) (X : σ → Option α) (he : ∀ n k s, ¬ k < N → I k s → E (n + 1) k s = X s) (hI : ∀ k s, 0 ≤ k ∧ k < N → I k s → I (k + 1) (f k s)) (hr : ∀ n k s, 0 ≤ k ∧ k < N → I k s → E (n + 1) k s = E n (k + 1) (f k s))
    (m : Nat) (k : Int) (s : σ) (h0 : 0 ≤ k) (h1 : k + m = N) (hi : I k s) : E (m + 1) k s = X (foF f m k s) := by
  have := foldFind (fun _ => false) f I N E X none he hI (fun n k s hk hi => hr n k s hk hi) m k s h0 h1 hi
  rwa [anyN_false] at this
theorem foF_inv {σ : Type} {f : Int → σ → σ} {N : Int} {I : Int → σ → Prop} (hI : ∀ k s, 0 ≤ k ∧ k < N → I k s → I (k + 1) (f k s)) : ∀ (m : Nat) (k : Int) (s : σ), 0 ≤ k → k + m ≤ N → I k s → I (k + m) (foF f m k s)
  | 0, k, s, _, _, h => by simpa [foF] using h
  | m + 1, k, s, h0, h1, h => by
    have := foF_inv hI m (k + 1) (f k s) (by omega) (by omega) (hI k s (by omega) h)
    rwa [show k + 1 + (m : Int) = k + ((m + 1 : Nat) : Int) by omega] at this
theorem anyN_none {p : Int → Bool} {m : Nat} {k : Int} : anyN p m k = false ↔ ∀ i, k ≤ i → i < k + m → p i = false := by
  constructor
  · intro h i h1 h2
    cases hp : p i
    · rfl
    · rw [anyN_iff.2 ⟨i, h1, h2, hp⟩] at h; cases h
  · intro h
    cases ha : anyN p m k
    · rfl
    · obtain ⟨i, h1, h2, h3⟩ := anyN_iff.1 ha
      rw [h i h1 h2] at h3; cases h3
end Go.Proofs.Ytaoembcepknlhaa

