/-
  Contracts: count.New, Add, Up, Set, Reset, Value, Most, Full, awake; the law CountNil over numbers.
-/
import Derived.Test.YtdlhgjkcfchpnaaYa
namespace Go.Proofs.Ytdlhgjkcfchpnaa
open Go Go.Proofs Go.Sx
/-- A value that is no pointer to anything. -/
abbrev nilV : Value := .pointer none
theorem noLoops (z : Base) (b : Code) : LoopOk L0 Try.prog z b := fun _ _ _ h => by cases h
theorem by_runL {Γ : Orc} (hΓ : Γ.Ok Try.prog) {f : FuncId} {fn : Func} {c : Code} (hf : Try.prog.funcs[f]? = some fn) (hb : fn.body = some c) {vs : List Value} {r : Value} (h : run Γ L0 Try.prog fn vs = some r) : CallOk Try.prog f (vs.map .v) (.v r) :=
  callOk_of_runV hΓ mixed names hf hb (fun _ b _ => noLoops _ b) h
noncomputable def Γx : Orc := exec Try.prog noC (atomicE 25 27 26 .i64) noEq (fun f => Nat.beq f 24) 4 5
theorem Okx : Γx.Ok Try.prog := exec_ok mixed names ⟨(fun _ _ _ h => by cases h), (fun _ _ _ h => by cases h), atomicE_ok x25 x27 x26, (fun _ _ _ _ h => by cases h)⟩ 4 5
theorem call8 : CallOk Try.prog 8 [] (.v (.bool true)) := by
  have h : run Γx (loopX Γx Try.prog 4 2) Try.prog Try.f8 [] = some (.bool true) := by kernel_rfl
  exact callOk_of_runV (vs := []) Okx mixed names Try.func8 rfl (fun w b _ => loopX_ok Okx mixed 4 2 b) h
theorem nil13 (n : Int) : CallOk Try.prog 13 [.v nilV, .v (I n)] (.v (I 0)) := by
  refine by_runL (vs := [nilV, I n]) Ok1 Try.func13 rfl ?_
  kernel_rfl
theorem nil14 (n : Int) : CallOk Try.prog 14 [.v nilV, .v (I n)] (.v (.tuple #[])) := by
  refine by_runL (vs := [nilV, I n]) Ok1 Try.func14 rfl ?_
  kernel_rfl
theorem nil17 : CallOk Try.prog 17 [.v nilV] (.v (I 0)) := by
  refine by_runL (vs := [nilV]) Ok1 Try.func17 rfl ?_
  kernel_rfl
theorem nil18 : CallOk Try.prog 18 [.v nilV] (.v (I 0)) := by
  refine by_runL (vs := [nilV]) Ok1 Try.func18 rfl ?_
  kernel_rfl
theorem eff9 (n : Int) : EffOk Try.prog 9 [.v (I n)] (.ptr [I (cl n 1000000), I 0]) [] := by
  refine by_runE Ok1 Try.func9 rfl (by kernel_rfl) ?_
  kernel_rfl
theorem eff14 (m v n : Int) : EffOk Try.prog 14 [Ct m v, .v (I n)] (.v (.tuple #[])) (cC m (cl n m)) := by
  refine by_runE Ok1 Try.func14 rfl (by kernel_rfl) ?_
  kernel_rfl
theorem rd17 (m v : Int) : EffOk Try.prog 17 [Ct m v] (.v (I v)) (cC m v) := by
  refine by_runE Ok1 Try.func17 rfl (by kernel_rfl) ?_
  kernel_rfl
theorem rd18 (m v : Int) : EffOk Try.prog 18 [Ct m v] (.v (I m)) (cC m v) := by
  refine by_runE Ok1 Try.func18 rfl (by kernel_rfl) ?_
  kernel_rfl
def nx (m v n : Int) : Int := wI (v + cl n (wI (m - v)))
theorem rd22 (m v a n : Int) : EffOk Try.prog 22 [Ct m v, .v (I a), .v (I n)] (.v (I (wI (a + cl n (wI (m - a)))))) (cC m v) := by
  refine by_runE Ok1 Try.func22 rfl (by kernel_rfl) ?_
  kernel_rfl
def t2 : FuncId → List Arg → Option (Bool × Res)
  | 8, [] => some (true, .v (.bool true))
  | 13, [.v (.pointer none), .v (.int .i64 _)] => some (true, .v (I 0))
  | 14, [.v (.pointer none), .v (.int .i64 _)] => some (true, .v (.tuple #[]))
  | 17, [.v (.pointer none)] => some (true, .v (I 0))
  | 18, [.v (.pointer none)] => some (true, .v (I 0))
  | _, _ => none
theorem t2_ok (f : FuncId) (vs : List Arg) (r : Res) (h : t2 f vs = some (true, r)) : CallOk Try.prog f vs r := by
  unfold t2 at h
  split at h
  · injection h with h; injection h with _ h; subst h; exact call8
  · injection h with h; injection h with _ h; subst h; exact nil13 _
  · injection h with h; injection h with _ h; subst h; exact nil14 _
  · injection h with h; injection h with _ h; subst h; exact nil17
  · injection h with h; injection h with _ h; subst h; exact nil18
  · cases h
def x2 : FuncId → List Arg → Option (Bool × Res × List (List Value))
  | 9, [.v (.int .i64 n)] => some (true, .ptr [I (cl n 1000000), I 0], [])
  | 14, [.ptr [.int .i64 m, .int .i64 _] 0, .v (.int .i64 n)] => some (true, .v (.tuple #[]), cC m (cl n m))
  | _, _ => none
theorem x2_ok (f : FuncId) (vs : List Arg) (r : Res) (outs : List (List Value)) (h : x2 f vs = some (true, r, outs)) : EffOk Try.prog f vs r outs := by
  unfold x2 at h
  split at h
  · injection h with h; injection h with _ h; injection h with h1 h2; subst h1 h2; exact eff9 _
  · injection h with h; injection h with _ h; injection h with h1 h2; subst h1 h2; exact eff14 _ _ _
  · cases h
def d2 : FuncId → List Arg → Option (Bool × Value)
  | 17, [.ptr [.int .i64 _, .int .i64 v] 0] => some (true, I v)
  | 18, [.ptr [.int .i64 m, .int .i64 _] 0] => some (true, I m)
  | 22, [.ptr [.int .i64 m, .int .i64 _] 0, .v (.int .i64 a), .v (.int .i64 n)] => some (true, I (wI (a + cl n (wI (m - a)))))
  | _, _ => none
theorem d2_ok (f : FuncId) (vs : List Arg) (r : Value) (h : d2 f vs = some (true, r)) : EffOk Try.prog f vs (.v r) (ptrCells vs) := by
  unfold d2 at h
  split at h
  · injection h with h; injection h with _ h; subst h; exact rd17 _ _
  · injection h with h; injection h with _ h; subst h; exact rd18 _ _
  · injection h with h; injection h with _ h; subst h; exact rd22 _ _ _ _
  · cases h
noncomputable def Γ2 := addC t2 (addX x2 (addR d2 Γ1))
theorem Ok2 : Γ2.Ok Try.prog := addC_ok (addX_ok (addR_ok Ok1 d2_ok) x2_ok) t2_ok

/-! Add: its loop goes round once. -/
def keep13 : List Bool := maskOf 24 [0, 1]
def kx13 : List Bool := maskOf 24 [4]
noncomputable def body13 : Code := loopAt (Try.f13.body.getD .skip) 0
theorem loops13 : loopsOf (Try.f13.body.getD .skip) = [body13] := by kernel_rfl
theorem loops13a : loopsOf body13 = [] := by kernel_rfl
def K13 (e : Ex) (st : St) : Option (Ex × St) := some (e, cutG kx13 st)
def M13 (m v : Int) : Mem := ⟨[[.v (I m), .v (I v)]], [true], []⟩
def S13 (m v n : Int) : St := mk keep13 [.ptr 0 0, .v (I n)] (M13 m v)
theorem step13 (m v n : Int) (k : Nat) : evLoop Γ2 Try.prog L0 (cutG keep13) body13 (k + 1) (S13 m v n) K13 =
    bif v == v then some (.ret, mk kx13 [.v (I (nx m v n))] (M13 m (bif v == v then nx m v n else v)))
    else evLoop Γ2 Try.prog L0 (cutG keep13) body13 k (S13 m (bif v == v then nx m v n else v) n) K13 := by kernel_rfl
def G13 (vals : List SV) (m : Mem) : Option (Bool × Ex × St) :=
  match vals, m with
  | [.ptr 0 0, .v (.int .i64 n)], ⟨[[.v (.int .i64 m), .v (.int .i64 v)]], [true], []⟩ => some (true, .ret, mk kx13 [.v (I (nx m v n))] (M13 m (nx m v n)))
  | _, _ => none
noncomputable def Λ13 : LoopOrc := fun _ st => viaK keep13 G13 st
theorem loopOk13 (z : Base) : LoopOk Λ13 Try.prog z body13 := by
  refine loop_okK (kx := fun _ => kx13) Ok2 mixed (Λ := L0) (fun b hb => by rw [loops13a] at hb; cases hb) (fun st => rfl) (G := G13) ?_
  intro vals m e st' h
  unfold G13 at h
  split at h
  · rename_i n m v
    injection h with h
    injection h with _ h
    injection h with h1 h2
    subst h1 h2
    refine ⟨1, ?_⟩
    have := step13 m v n 0
    rw [beq_self_eq_true] at this
    exact this
  · cases h
theorem run13 (m v n : Int) : runE Γ2 Λ13 Try.prog Try.f13 [Ct m v, .v (I n)] = some (.v (I (nx m v n)), cC m (nx m v n)) := by kernel_rfl
theorem eff13 (m v n : Int) : EffOk Try.prog 13 [Ct m v, .v (I n)] (.v (I (nx m v n))) (cC m (nx m v n)) := by
  refine effOk_of_run Ok2 mixed names (Λ := Λ13) Try.func13 rfl (fun w b hb => ?_) (run13 m v n)
  have hb' : b ∈ loopsOf (Try.f13.body.getD .skip) := hb
  rw [loops13, List.mem_singleton] at hb'
  subst hb'; exact loopOk13 w
theorem nil16 : CallOk Try.prog 16 [.v nilV] (.v (.tuple #[])) := by
  refine by_runL (vs := [nilV]) Ok2 Try.func16 rfl ?_
  kernel_rfl
theorem nil11 : CallOk Try.prog 11 [.v nilV] (.v (I 0)) := by
  refine by_runL (vs := [nilV]) Ok2 Try.func11 rfl ?_
  kernel_rfl
theorem nil19 : CallOk Try.prog 19 [.v nilV] (.v (.bool true)) := by
  refine by_runL (vs := [nilV]) Ok2 Try.func19 rfl ?_
  kernel_rfl
theorem eff16 (m v : Int) : EffOk Try.prog 16 [Ct m v] (.v (.tuple #[])) (cC m (cl 0 m)) := by
  refine by_runE Ok2 Try.func16 rfl (by kernel_rfl) ?_
  kernel_rfl
theorem rd19 (m v : Int) : EffOk Try.prog 19 [Ct m v] (.v (.bool (v == m))) (cC m v) := by
  refine by_runE Ok2 Try.func19 rfl (by kernel_rfl) ?_
  kernel_rfl
def t3 : FuncId → List Arg → Option (Bool × Res)
  | 11, [.v (.pointer none)] => some (true, .v (I 0))
  | 16, [.v (.pointer none)] => some (true, .v (.tuple #[]))
  | 19, [.v (.pointer none)] => some (true, .v (.bool true))
  | _, _ => none
theorem t3_ok (f : FuncId) (vs : List Arg) (r : Res) (h : t3 f vs = some (true, r)) : CallOk Try.prog f vs r := by
  unfold t3 at h
  split at h
  · injection h with h; injection h with _ h; subst h; exact nil11
  · injection h with h; injection h with _ h; subst h; exact nil16
  · injection h with h; injection h with _ h; subst h; exact nil19
  · cases h
def x3 : FuncId → List Arg → Option (Bool × Res × List (List Value))
  | 13, [.ptr [.int .i64 m, .int .i64 v] 0, .v (.int .i64 n)] => some (true, .v (I (nx m v n)), cC m (nx m v n))
  | 16, [.ptr [.int .i64 m, .int .i64 _] 0] => some (true, .v (.tuple #[]), cC m (cl 0 m))
  | _, _ => none
theorem x3_ok (f : FuncId) (vs : List Arg) (r : Res) (outs : List (List Value)) (h : x3 f vs = some (true, r, outs)) : EffOk Try.prog f vs r outs := by
  unfold x3 at h
  split at h
  · injection h with h; injection h with _ h; injection h with h1 h2; subst h1 h2; exact eff13 _ _ _
  · injection h with h; injection h with _ h; injection h with h1 h2; subst h1 h2; exact eff16 _ _
  · cases h
def d3 : FuncId → List Arg → Option (Bool × Value)
  | 19, [.ptr [.int .i64 m, .int .i64 v] 0] => some (true, .bool (v == m))
  | _, _ => none
theorem d3_ok (f : FuncId) (vs : List Arg) (r : Value) (h : d3 f vs = some (true, r)) : EffOk Try.prog f vs (.v r) (ptrCells vs) := by
  unfold d3 at h
  split at h
  · injection h with h; injection h with _ h; subst h; exact rd19 _ _
  · cases h
noncomputable def Γ3 := addC t3 (addX x3 (addR d3 Γ2))
theorem Ok3 : Γ3.Ok Try.prog := addC_ok (addX_ok (addR_ok Ok2 d3_ok) x3_ok) t3_ok
theorem eff11 (m v : Int) : EffOk Try.prog 11 [Ct m v] (.v (I (nx m v 1))) (cC m (nx m v 1)) := by
  refine by_runE Ok3 Try.func11 rfl (by kernel_rfl) ?_
  kernel_rfl
def x4 : FuncId → List Arg → Option (Bool × Res × List (List Value))
  | 11, [.ptr [.int .i64 m, .int .i64 v] 0] => some (true, .v (I (nx m v 1)), cC m (nx m v 1))
  | _, _ => none
theorem x4_ok (f : FuncId) (vs : List Arg) (r : Res) (outs : List (List Value)) (h : x4 f vs = some (true, r, outs)) : EffOk Try.prog f vs r outs := by
  unfold x4 at h
  split at h
  · injection h with h; injection h with _ h; injection h with h1 h2; subst h1 h2; exact eff11 _ _
  · cases h
noncomputable def Γ4 := addX x4 Γ3
theorem Ok4 : Γ4.Ok Try.prog := addX_ok Ok3 x4_ok
end Go.Proofs.Ytdlhgjkcfchpnaa

namespace Go.Proofs.Ytdlhgjkcfchpnaa
open Go Go.Proofs Go.Sx
/-- A number of 64 bits. -/
def I64 (a : Int) : Prop := -9223372036854775808 ≤ a ∧ a < 9223372036854775808
theorem i64_wf {a : Int} (h : (Lit.int .i64 a).wf = true) : I64 a := by
  have e63 : (2 : Int) ^ 63 = 9223372036854775808 := by decide
  unfold I64
  simp [Lit.wf, IntKind.min, IntKind.max, IntKind.signed, IntKind.bits, e63] at h
  omega
theorem countNil (n : Int) (_ : I64 n) : runA Γ4 L0 Try.prog Try.f7 [.v (I n)] = some (.v (.bool true)) := by kernel_rfl
end Go.Proofs.Ytdlhgjkcfchpnaa

