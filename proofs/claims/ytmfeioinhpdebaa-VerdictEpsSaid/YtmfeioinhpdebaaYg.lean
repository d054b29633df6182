/-
  Verdicts joined, over values; their law package's own.
-/
import Derived.Test.YtmfeioinhpdebaaYc
import Derived.Test.YtmfeioinhpdebaaYd
namespace Go.Proofs.Ytmfeioinhpdebaa
open Go Go.Proofs Go.Sx
def wx19 (f : FuncId) : Bool := wr13 f || Nat.beq f 27 || Nat.beq f 31 || Nat.beq f 62 || Nat.beq f 60
noncomputable def Γx19 : Orc := execB Try.prog ΓA13.call ΓA13.rd ΓA13.eqv wx19 30 8
theorem Okx19 : Γx19.Ok Try.prog := execB_ok mixed names (ext := ΓA13.call) (rd := ΓA13.rd) (eqv := ΓA13.eqv) ⟨OkA13.call, OkA13.rd, OkA13.eqv⟩ 30 8
set_option maxRecDepth 100000 in
theorem runAwake19 : runG Γx19 (loopX Γx19 Try.prog 30 3) Try.prog Try.f28 [] M0 = some (.v (Bo true), M0) := by kernel_rfl
def gAwake19 (vs : List Value) : Option (Bool × Value) :=
  match vs with
  | [] => some (true, Bo true)
  | _ => none
theorem gAwake19_ok : ∀ vs r, gAwake19 vs = some (true, r) → ∀ m, CallOk Try.prog 28 (vs.map .v) m (.v r) m := by
  intro vs r h
  unfold gAwake19 at h
  split at h
  · obtain ⟨_, rfl⟩ := some_t h
    exact runV (vs := []) Okx19 Try.func28 rfl (fun z _ _ b hb => loopX_ok Okx19 mixed 30 3 b) runAwake19
  · cases h
noncomputable def ΓA19 : Orc := addVal 28 gAwake19 ΓA13
theorem OkA19 : ΓA19.Ok Try.prog := addVal_ok OkA13 gAwake19_ok
end Go.Proofs.Ytmfeioinhpdebaa

namespace Go.Proofs.Ytmfeioinhpdebaa
open Go Go.Proofs Go.Sx
set_option linter.unusedVariables false
/-! norm -/
/-! cast -/
def ivB (a : Int) : Bool := bif decide (a < 1) then true else decide (a > 3)
def jnB (a b : Int) : Int := bif a == 3 then 3 else bif b == 3 then 3 else bif (bif ivB a then ivB b else false) then 4 else bif a == 2 then 2 else bif b == 2 then 2 else 1
def na (x : Int) : Int := bif decide (x < 1) then 4 else bif decide (x > 4) then 4 else x
def jnR (a b : Int) : Int := bif na a == 3 then 3 else bif na b == 3 then 3 else bif (bif na a == 4 then na b == 4 else false) then 4 else bif na a == 2 then 2 else bif na b == 2 then 2 else 1
def suB (a : Int) : Bool := bif a == 1 then true else a == 3
set_option maxRecDepth 20000 in
theorem runViv (a : Int) : runG ΓA19 L0 Try.prog Try.f65 [.v (I a)] M0 = 
    (bif decide (a < (1 : Int)) then some (.v (Bo true), M0) else some (.v (Bo (decide (a > (3 : Int)))), M0)) := by kernel_rfl
def gViv (vs : List Value) : Option (Bool × Value) :=
  match vs with
  | [.int .i64 a] => some (true, Bo (ivB a))
  | _ => none
theorem gViv_ok : ∀ vs r, gViv vs = some (true, r) → ∀ m, CallOk Try.prog 65 (vs.map .v) m (.v r) m := by
  intro vs r h
  unfold gViv at h
  split at h
  · rename_i a
    obtain ⟨h1, rfl⟩ := some_t h
    refine runV (vs := [I a]) (Λ := L0) (m' := M0) OkA19 Try.func65 rfl (fun z _ _ => l0Ok' _ z) ?_
    exact (runViv a).trans (by unfold ivB; cases decide (a < 1) <;> rfl)
  · cases h
noncomputable def Γj1 : Orc := addVal 65 gViv ΓA19
theorem Okj1 : Γj1.Ok Try.prog := addVal_ok OkA19 gViv_ok
set_option maxRecDepth 20000 in
theorem runVjn (a : Int) (b : Int) : runG Γj1 L0 Try.prog Try.f32 [.v (I a), .v (I b)] M0 = 
    (bif a == (3 : Int) then some (.v (I 3), M0) else (bif b == (3 : Int) then some (.v (I 3), M0) else (bif ivB a then (bif ivB b then some (.v (I 4), M0) else (bif a == (2 : Int) then some (.v (I 2), M0) else (bif b == (2 : Int) then some (.v (I 2), M0) else some (.v (I 1), M0)))) else (bif a == (2 : Int) then some (.v (I 2), M0) else (bif b == (2 : Int) then some (.v (I 2), M0) else some (.v (I 1), M0)))))) := by kernel_rfl
def gVjn (vs : List Value) : Option (Bool × Value) :=
  match vs with
  | [.int .i64 a, .int .i64 b] => some (true, I (jnB a b))
  | _ => none
theorem gVjn_ok : ∀ vs r, gVjn vs = some (true, r) → ∀ m, CallOk Try.prog 32 (vs.map .v) m (.v r) m := by
  intro vs r h
  unfold gVjn at h
  split at h
  · rename_i a b
    obtain ⟨h1, rfl⟩ := some_t h
    refine runV (vs := [I a, I b]) (Λ := L0) (m' := M0) Okj1 Try.func32 rfl (fun z _ _ => l0Ok' _ z) ?_
    exact (runVjn a b).trans (by unfold jnB; cases a == 3 <;> first | rfl | (cases b == 3 <;> first | rfl | (cases ivB a <;> cases ivB b <;> cases a == 2 <;> cases b == 2 <;> rfl)))
  · cases h
noncomputable def Γj2 : Orc := addVal 32 gVjn Γj1
theorem Okj2 : Γj2.Ok Try.prog := addVal_ok Okj1 gVjn_ok
set_option maxRecDepth 20000 in
theorem runRjn (a : Int) (b : Int) : runG Γj2 L0 Try.prog Try.f33 [.v (I a), .v (I b)] M0 = 
    (bif decide (a < (1 : Int)) then (bif decide (b < (1 : Int)) then some (.v (I 4), M0) else (bif decide (b > (4 : Int)) then some (.v (I 4), M0) else (bif b == (3 : Int) then some (.v (I 3), M0) else (bif b == (4 : Int) then some (.v (I 4), M0) else (bif b == (2 : Int) then some (.v (I 2), M0) else some (.v (I 1), M0)))))) else (bif decide (a > (4 : Int)) then (bif decide (b < (1 : Int)) then some (.v (I 4), M0) else (bif decide (b > (4 : Int)) then some (.v (I 4), M0) else (bif b == (3 : Int) then some (.v (I 3), M0) else (bif b == (4 : Int) then some (.v (I 4), M0) else (bif b == (2 : Int) then some (.v (I 2), M0) else some (.v (I 1), M0)))))) else (bif decide (b < (1 : Int)) then (bif a == (3 : Int) then some (.v (I 3), M0) else (bif a == (4 : Int) then some (.v (I 4), M0) else (bif a == (2 : Int) then some (.v (I 2), M0) else some (.v (I 1), M0)))) else (bif decide (b > (4 : Int)) then (bif a == (3 : Int) then some (.v (I 3), M0) else (bif a == (4 : Int) then some (.v (I 4), M0) else (bif a == (2 : Int) then some (.v (I 2), M0) else some (.v (I 1), M0)))) else (bif a == (3 : Int) then some (.v (I 3), M0) else (bif b == (3 : Int) then some (.v (I 3), M0) else (bif a == (4 : Int) then (bif b == (4 : Int) then some (.v (I 4), M0) else (bif a == (2 : Int) then some (.v (I 2), M0) else (bif b == (2 : Int) then some (.v (I 2), M0) else some (.v (I 1), M0)))) else (bif a == (2 : Int) then some (.v (I 2), M0) else (bif b == (2 : Int) then some (.v (I 2), M0) else some (.v (I 1), M0)))))))))) := by kernel_rfl
def gRjn (vs : List Value) : Option (Bool × Value) :=
  match vs with
  | [.int .i64 a, .int .i64 b] => some (true, I (jnR a b))
  | _ => none
theorem gRjn_ok : ∀ vs r, gRjn vs = some (true, r) → ∀ m, CallOk Try.prog 33 (vs.map .v) m (.v r) m := by
  intro vs r h
  unfold gRjn at h
  split at h
  · rename_i a b
    obtain ⟨h1, rfl⟩ := some_t h
    refine runV (vs := [I a, I b]) (Λ := L0) (m' := M0) Okj2 Try.func33 rfl (fun z _ _ => l0Ok' _ z) ?_
    exact (runRjn a b).trans (by unfold jnR na; cases decide (a < 1) <;> cases decide (a > 4) <;> cases decide (b < 1) <;> cases decide (b > 4) <;> simp only [cond_false, cond_true] <;> first | rfl | (cases a == 3 <;> first | rfl | (cases b == 3 <;> first | rfl | (cases a == 4 <;> cases b == 4 <;> first | rfl | (cases a == 2 <;> cases b == 2 <;> rfl)))))
  · cases h
noncomputable def Γj3 : Orc := addVal 33 gRjn Γj2
theorem Okj3 : Γj3.Ok Try.prog := addVal_ok Okj2 gRjn_ok
set_option maxRecDepth 20000 in
theorem runVsu (a : Int) : runG Γj3 L0 Try.prog Try.f34 [.v (I a)] M0 = 
    (bif a == (1 : Int) then some (.v (Bo true), M0) else some (.v (Bo (a == (3 : Int))), M0)) := by kernel_rfl
def gVsu (vs : List Value) : Option (Bool × Value) :=
  match vs with
  | [.int .i64 a] => some (true, Bo (suB a))
  | _ => none
theorem gVsu_ok : ∀ vs r, gVsu vs = some (true, r) → ∀ m, CallOk Try.prog 34 (vs.map .v) m (.v r) m := by
  intro vs r h
  unfold gVsu at h
  split at h
  · rename_i a
    obtain ⟨h1, rfl⟩ := some_t h
    refine runV (vs := [I a]) (Λ := L0) (m' := M0) Okj3 Try.func34 rfl (fun z _ _ => l0Ok' _ z) ?_
    exact (runVsu a).trans (by unfold suB; cases a == 1 <;> rfl)
  · cases h
noncomputable def Γj4 : Orc := addVal 34 gVsu Γj3
theorem Okj4 : Γj4.Ok Try.prog := addVal_ok Okj3 gVsu_ok
set_option maxRecDepth 20000 in
theorem treeJoin (a b c : Int) : runG Γj4 L0 Try.prog Try.f9 [.v (I a), .v (I b), .v (I c)] M0 = 
    (bif jnB (wI ((1 : Int) + wI ((IntKind.u64.wrap a).tmod (4 : Int)))) (wI ((1 : Int) + wI ((IntKind.u64.wrap b).tmod (4 : Int)))) == jnR (wI ((1 : Int) + wI ((IntKind.u64.wrap a).tmod (4 : Int)))) (wI ((1 : Int) + wI ((IntKind.u64.wrap b).tmod (4 : Int)))) then (bif jnB (wI ((1 : Int) + wI ((IntKind.u64.wrap a).tmod (4 : Int)))) (wI ((1 : Int) + wI ((IntKind.u64.wrap b).tmod (4 : Int)))) == jnB (wI ((1 : Int) + wI ((IntKind.u64.wrap b).tmod (4 : Int)))) (wI ((1 : Int) + wI ((IntKind.u64.wrap a).tmod (4 : Int)))) then (bif jnB (wI ((1 : Int) + wI ((IntKind.u64.wrap a).tmod (4 : Int)))) (wI ((1 : Int) + wI ((IntKind.u64.wrap a).tmod (4 : Int)))) == wI ((1 : Int) + wI ((IntKind.u64.wrap a).tmod (4 : Int))) then (bif wI ((1 : Int) + wI ((IntKind.u64.wrap a).tmod (4 : Int))) != (3 : Int) then (bif jnB (jnB (wI ((1 : Int) + wI ((IntKind.u64.wrap a).tmod (4 : Int)))) (wI ((1 : Int) + wI ((IntKind.u64.wrap b).tmod (4 : Int))))) (wI ((1 : Int) + wI ((IntKind.u64.wrap c).tmod (4 : Int)))) == jnB (wI ((1 : Int) + wI ((IntKind.u64.wrap a).tmod (4 : Int)))) (jnB (wI ((1 : Int) + wI ((IntKind.u64.wrap b).tmod (4 : Int)))) (wI ((1 : Int) + wI ((IntKind.u64.wrap c).tmod (4 : Int))))) then (bif jnB (wI ((1 : Int) + wI ((IntKind.u64.wrap a).tmod (4 : Int)))) (0 : Int) == jnB (wI ((1 : Int) + wI ((IntKind.u64.wrap a).tmod (4 : Int)))) (4 : Int) then (bif wI ((1 : Int) + wI ((IntKind.u64.wrap a).tmod (4 : Int))) == (1 : Int) then some (.v (Bo (suB (wI ((1 : Int) + wI ((IntKind.u64.wrap a).tmod (4 : Int)))) == true)), M0) else some (.v (Bo (suB (wI ((1 : Int) + wI ((IntKind.u64.wrap a).tmod (4 : Int)))) == (wI ((1 : Int) + wI ((IntKind.u64.wrap a).tmod (4 : Int))) == (3 : Int)))), M0)) else some (.v (Bo false), M0)) else some (.v (Bo false), M0)) else (bif jnB (wI ((1 : Int) + wI ((IntKind.u64.wrap a).tmod (4 : Int)))) (wI ((1 : Int) + wI ((IntKind.u64.wrap b).tmod (4 : Int)))) == (3 : Int) then (bif jnB (jnB (wI ((1 : Int) + wI ((IntKind.u64.wrap a).tmod (4 : Int)))) (wI ((1 : Int) + wI ((IntKind.u64.wrap b).tmod (4 : Int))))) (wI ((1 : Int) + wI ((IntKind.u64.wrap c).tmod (4 : Int)))) == jnB (wI ((1 : Int) + wI ((IntKind.u64.wrap a).tmod (4 : Int)))) (jnB (wI ((1 : Int) + wI ((IntKind.u64.wrap b).tmod (4 : Int)))) (wI ((1 : Int) + wI ((IntKind.u64.wrap c).tmod (4 : Int))))) then (bif jnB (wI ((1 : Int) + wI ((IntKind.u64.wrap a).tmod (4 : Int)))) (0 : Int) == jnB (wI ((1 : Int) + wI ((IntKind.u64.wrap a).tmod (4 : Int)))) (4 : Int) then (bif wI ((1 : Int) + wI ((IntKind.u64.wrap a).tmod (4 : Int))) == (1 : Int) then some (.v (Bo (suB (wI ((1 : Int) + wI ((IntKind.u64.wrap a).tmod (4 : Int)))) == true)), M0) else some (.v (Bo (suB (wI ((1 : Int) + wI ((IntKind.u64.wrap a).tmod (4 : Int)))) == (wI ((1 : Int) + wI ((IntKind.u64.wrap a).tmod (4 : Int))) == (3 : Int)))), M0)) else some (.v (Bo false), M0)) else some (.v (Bo false), M0)) else some (.v (Bo false), M0))) else some (.v (Bo false), M0)) else some (.v (Bo false), M0)) else some (.v (Bo false), M0)) := by kernel_rfl
noncomputable def ΓVj : Orc := Γj4
theorem OkVj : ΓVj.Ok Try.prog := Okj4
end Go.Proofs.Ytmfeioinhpdebaa

namespace Go.Proofs.Ytmfeioinhpdebaa
open Go Go.Proofs Go.Sx
theorem four (n : Int) : ∃ t : Int, (t = 1 ∨ t = 2 ∨ t = 3 ∨ t = 4) ∧ wI (1 + wI ((IntKind.u64.wrap n).tmod 4)) = t := by
  have h := u_mod n (m := 4) (by omega)
  refine ⟨1 + (IntKind.u64.wrap n).tmod 4, by omega, ?_⟩
  rw [wI_id (n := (IntKind.u64.wrap n).tmod 4) (by omega), wI_id (by omega)]
theorem verdictJoin (a b c : Int) : runG ΓVj L0 Try.prog Try.f9 [.v (I a), .v (I b), .v (I c)] M0 = some (.v (Bo true), M0) := by
  refine (treeJoin a b c).trans ?_
  obtain ⟨x, hx, ex⟩ := four a
  obtain ⟨y, hy, ey⟩ := four b
  obtain ⟨z, hz, ez⟩ := four c
  rw [ex, ey, ez]
  rcases hx with rfl | rfl | rfl | rfl <;> rcases hy with rfl | rfl | rfl | rfl <;> rcases hz with rfl | rfl | rfl | rfl <;> rfl
theorem verdictJoinLaw (a0 a1 a2 : Int) (_ : (Lit.int .i64 a0).wf = true) (_ : (Lit.int .i64 a1).wf = true) (_ : (Lit.int .i64 a2).wf = true) : ∃ m', runG ΓVj L0 Try.prog Try.f9 (inArgs [.v (.int .i64 a0), .v (.int .i64 a1), .v (.int .i64 a2)] 0) (inMem [.v (.int .i64 a0), .v (.int .i64 a1), .v (.int .i64 a2)]) = some (.v (.bool true), m') := ⟨_, verdictJoin a0 a1 a2⟩
end Go.Proofs.Ytmfeioinhpdebaa

