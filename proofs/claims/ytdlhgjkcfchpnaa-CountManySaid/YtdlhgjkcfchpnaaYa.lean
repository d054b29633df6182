/-
  What is known of this program: the atomics, names; contracts of count's Load, CompareAndSwap, Store and clamp.
-/
import Derived.Test.YtdlhgjkcfchpnaaSy
import Derived.Test.YtdlhgjkcfchpnaaProg
namespace Go.Proofs.Ytdlhgjkcfchpnaa
open Go Go.Proofs Go.Sx
theorem mixed : Try.prog.follows .mixedOrders = true := by kernel_rfl
theorem names : namesOk Try.prog = true := by kernel_rfl
theorem x25 : Ext Try.prog 25 (Extern.Atomic.loadT (.int .i64)) := ⟨fun args w => run_callFunc_extern Try.func25 (by kernel_rfl) (by kernel_rfl) (by kernel_rfl) (by kernel_rfl) args w⟩
theorem x26 : Ext Try.prog 26 (Extern.Atomic.casT (.int .i64)) := ⟨fun args w => run_callFunc_extern Try.func26 (by kernel_rfl) (by kernel_rfl) (by kernel_rfl) (by kernel_rfl) args w⟩
theorem x27 : Ext Try.prog 27 Extern.Atomic.storeT := ⟨fun args w => run_callFunc_extern Try.func27 (by kernel_rfl) (by kernel_rfl) (by kernel_rfl) (by kernel_rfl) args w⟩
def noC : FuncId → List Arg → Option (Bool × Res) := fun _ _ => none
def noEq : TypeId → List Value → List Value → Option Bool := fun _ _ _ => none
def Γ0 : Orc := { call := noC, eqv := noEq, eff := atomicE 25 27 26 .i64, wr := fun f => Nat.beq f 24 }
theorem Ok0 : Γ0.Ok Try.prog := ⟨(fun _ _ _ h => by cases h), (fun _ _ _ h => by cases h), atomicE_ok x25 x27 x26, (fun _ _ _ _ h => by cases h)⟩
def addC (t : FuncId → List Arg → Option (Bool × Res)) (Γ : Orc) : Orc := { Γ with call := fun f vs => match t f vs with | some r => some r | none => Γ.call f vs }
def addX (t : FuncId → List Arg → Option (Bool × Res × List (List Value))) (Γ : Orc) : Orc := { Γ with eff := fun f vs => match t f vs with | some r => some r | none => Γ.eff f vs }
theorem addC_ok {t : FuncId → List Arg → Option (Bool × Res)} {Γ : Orc} {P : Program} (h : Γ.Ok P) (ht : ∀ f vs r, t f vs = some (true, r) → CallOk P f vs r) : (addC t Γ).Ok P := by
  refine ⟨fun f vs r hr => ?_, h.rd, h.eff, h.eqv⟩
  simp only [addC] at hr
  split at hr
  · rename_i q hq
    injection hr with hr
    subst hr
    exact ht f vs r hq
  · exact h.call f vs r hr
theorem addX_ok {t : FuncId → List Arg → Option (Bool × Res × List (List Value))} {Γ : Orc} {P : Program} (h : Γ.Ok P) (ht : ∀ f vs r outs, t f vs = some (true, r, outs) → EffOk P f vs r outs) : (addX t Γ).Ok P := by
  refine ⟨h.call, h.rd, fun f vs r outs hr => ?_, h.eqv⟩
  simp only [addX] at hr
  split at hr
  · rename_i q hq
    injection hr with hr
    subst hr
    exact ht f vs r outs hq
  · exact h.eff f vs r outs hr
def addR (t : FuncId → List Arg → Option (Bool × Value)) (Γ : Orc) : Orc := { Γ with rd := fun f vs => match t f vs with | some r => some r | none => Γ.rd f vs }
theorem addR_ok {t : FuncId → List Arg → Option (Bool × Value)} {Γ : Orc} {P : Program} (h : Γ.Ok P) (ht : ∀ f vs r, t f vs = some (true, r) → EffOk P f vs (.v r) (ptrCells vs)) : (addR t Γ).Ok P := by
  refine ⟨h.call, fun f vs r hr => ?_, h.eff, h.eqv⟩
  simp only [addR] at hr
  split at hr
  · rename_i q hq
    injection hr with hr
    subst hr
    exact ht f vs r hq
  · exact h.rd f vs r hr
def L0 : LoopOrc := fun _ _ => none
end Go.Proofs.Ytdlhgjkcfchpnaa

namespace Go.Proofs.Ytdlhgjkcfchpnaa
open Go Go.Proofs Go.Sx
abbrev I (n : Int) : Value := .int .i64 n
abbrev Ct (m v : Int) : Arg := .ptr [I m, I v] 0
abbrev cC (m v : Int) : List (List Value) := [[I m, I v]]
def wI (n : Int) : Int := IntKind.i64.wrap n
def cl (n m : Int) : Int := if (if m < n then m else n) > 0 then (if m < n then m else n) else 0
theorem by_run {Γ : Orc} (hΓ : Γ.Ok Try.prog) {f : FuncId} {fn : Func} {c : Code} (hf : Try.prog.funcs[f]? = some fn) (hb : fn.body = some c) (hl : loopsOf c = []) {vs : List Value} {r : Value} (h : run Γ L0 Try.prog fn vs = some r) : CallOk Try.prog f (vs.map .v) (.v r) :=
  callOk_of_runV hΓ mixed names hf hb (fun w b hm => by rw [hl] at hm; cases hm) h
theorem by_runE {Γ : Orc} (hΓ : Γ.Ok Try.prog) {f : FuncId} {fn : Func} {c : Code} (hf : Try.prog.funcs[f]? = some fn) (hb : fn.body = some c) (hl : loopsOf c = []) {vs : List Arg} {r : Res} {outs : List (List Value)} (h : runE Γ L0 Try.prog fn vs = some (r, outs)) : EffOk Try.prog f vs r outs :=
  effOk_of_run hΓ mixed names hf hb (fun w b hm => by rw [hl] at hm; cases hm) h

theorem call20 (n m : Int) : CallOk Try.prog 20 [.v (I n), .v (I m)] (.v (I (cl n m))) := by
  refine by_run (vs := [I n, I m]) Ok0 Try.func20 rfl (by kernel_rfl) ?_
  kernel_rfl
theorem eff21 (m v : Int) : EffOk Try.prog 21 [.ptr [I m, I v] 1] (.v (I v)) (cC m v) := by
  refine by_runE Ok0 Try.func21 rfl (by kernel_rfl) ?_
  kernel_rfl
theorem eff23 (m v a b : Int) : EffOk Try.prog 23 [.ptr [I m, I v] 1, .v (I a), .v (I b)] (.v (.bool (v == a))) [[I m, I (bif v == a then b else v)]] := by
  refine by_runE Ok0 Try.func23 rfl (by kernel_rfl) ?_
  kernel_rfl
theorem eff24 (m v a : Int) : EffOk Try.prog 24 [.ptr [I m, I v] 1, .v (I a)] (.v (.tuple #[])) (cC m a) := by
  refine by_runE Ok0 Try.func24 rfl (by kernel_rfl) ?_
  kernel_rfl
def t1 : FuncId → List Arg → Option (Bool × Res)
  | 20, [.v (.int .i64 n), .v (.int .i64 m)] => some (true, .v (I (cl n m)))
  | _, _ => none
theorem t1_ok (f : FuncId) (vs : List Arg) (r : Res) (h : t1 f vs = some (true, r)) : CallOk Try.prog f vs r := by
  unfold t1 at h
  split at h
  · injection h with h; injection h with _ h; subst h; exact call20 _ _
  · cases h
def x1 : FuncId → List Arg → Option (Bool × Res × List (List Value))
  | 21, [.ptr [.int .i64 m, .int .i64 v] 1] => some (true, .v (I v), cC m v)
  | 23, [.ptr [.int .i64 m, .int .i64 v] 1, .v (.int .i64 a), .v (.int .i64 b)] => some (true, .v (.bool (v == a)), [[I m, I (bif v == a then b else v)]])
  | 24, [.ptr [.int .i64 m, .int .i64 _] 1, .v (.int .i64 a)] => some (true, .v (.tuple #[]), cC m a)
  | _, _ => none
theorem x1_ok (f : FuncId) (vs : List Arg) (r : Res) (outs : List (List Value)) (h : x1 f vs = some (true, r, outs)) : EffOk Try.prog f vs r outs := by
  unfold x1 at h
  split at h
  · injection h with h; injection h with _ h; injection h with h1 h2; subst h1 h2; exact eff21 _ _
  · injection h with h; injection h with _ h; injection h with h1 h2; subst h1 h2; exact eff23 _ _ _ _
  · injection h with h; injection h with _ h; injection h with h1 h2; subst h1 h2; exact eff24 _ _ _
  · cases h
noncomputable def Γ1 := addC t1 (addX x1 Γ0)
theorem Ok1 : Γ1.Ok Try.prog := addC_ok (addX_ok Ok0 x1_ok) t1_ok
end Go.Proofs.Ytdlhgjkcfchpnaa

