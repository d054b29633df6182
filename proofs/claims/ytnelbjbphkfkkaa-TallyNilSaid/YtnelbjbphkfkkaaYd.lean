/-
  What is known of this program: contracts of tally, the law package's own; the three laws of tally over values.
-/
import Derived.Test.YtnelbjbphkfkkaaYa
import Derived.Test.YtnelbjbphkfkkaaSx
import Derived.Test.YtnelbjbphkfkkaaSw
namespace Go.Proofs.Ytnelbjbphkfkkaa
open Go Go.Proofs Go.Sx
set_option linter.unusedVariables false
/-! norm -/
/-! cast -/
/-! Tallies: three counters. -/
def TM (a u b v c w : Int) : Mem := ⟨[[.ptr 1 0, .ptr 2 0, .ptr 3 0], [.v (I a), .v (I u)], [.v (I b), .v (I v)], [.v (I c), .v (I w)]], [true, true, true, true], []⟩
def hrd (n : Int) : Bool := n == 1 || (n == 2 || n == 3)
def tV (p q a u : Int) : Int := bif hrd p || hrd q then (bif p != 3 && q != 3 then clampI 0 a else bif hrd p && (hrd q && p != q) then u else addN' a u 1) else u
def tD (p q b v : Int) : Int := bif hrd p || hrd q then (bif p != 3 && q != 3 then clampI 0 b else bif hrd p && (hrd q && p != q) then addN' b v 1 else v) else v
def tG (p q c w : Int) : Int := bif hrd p || hrd q then clampI 0 c else addN' c w 1
def whyI (x y z : Bool) : Int := (bif x then 1 else 0) + ((bif y then 2 else 0) + (bif z then 4 else 0))
theorem xStore64 : Ext Try.prog 96 Extern.Atomic.storeT := ⟨fun args w => run_callFunc_extern Try.func96 (by kernel_rfl) (by kernel_rfl) (by kernel_rfl) (by kernel_rfl) args w⟩
noncomputable def ΓD0 : Orc := addC (storeE 96 .i64) ΓC
theorem OkD0 : ΓD0.Ok Try.prog := addC_ok OkC (storeE_ok xStore64)

set_option maxRecDepth 20000 in
theorem runStore0 (n : Int) (a v : Int) : runG ΓD0 L0 Try.prog Try.f84 [.ptr 0 1, .v (I n)] (MC a v) = some (.v (.tuple #[]), MC a n) := by kernel_rfl
def gStore (xs : List SV) (m : Mem) : Option (Bool × SV × Mem) :=
  match xs, m with
  | [.ptr 0 1, .v (.int .i64 n)], ⟨[[.v (.int .i64 a), .v (.int .i64 v)]], [true], []⟩ => some (true, .v (.tuple #[]), MC a n)
  | _, _ => none
theorem gStore_ok : ∀ xs m r m', gStore xs m = some (true, r, m') → CallOk Try.prog 84 xs m r m' := by
  intro xs m r m' h
  unfold gStore at h
  split at h
  · rename_i n a v
    obtain ⟨h1, rfl, rfl⟩ := some_t2 h
    refine runOk (Λ := L0) OkD0 Try.func84 rfl (fun z _ _ => noLoops (by kernel_rfl) z) ?_
    exact (runStore0 n a v).trans (rfl)
  · cases h
noncomputable def ΓD1 : Orc := addCl 84 gStore ΓD0
theorem OkD1 : ΓD1.Ok Try.prog := addCl_ok OkD0 gStore_ok
noncomputable def ΓDw : Orc := { ΓD1 with wr := fun f => Nat.beq f 84 || makers f }
theorem OkDw : ΓDw.Ok Try.prog := ⟨OkD1.call, OkD1.rd, OkD1.eqv⟩
set_option maxRecDepth 20000 in
theorem runCUp0 (a v : Int) : runG ΓDw L0 Try.prog Try.f66 [.ptr 0 0] (MC a v) = some (.v (I (addN' a v 1)), MC a (addN' a v 1)) := by kernel_rfl
def gCUp (xs : List SV) (m : Mem) : Option (Bool × SV × Mem) :=
  match xs, m with
  | [.ptr 0 0], ⟨[[.v (.int .i64 a), .v (.int .i64 v)]], [true], []⟩ => some (true, .v (I (addN' a v 1)), MC a (addN' a v 1))
  | _, _ => none
theorem gCUp_ok : ∀ xs m r m', gCUp xs m = some (true, r, m') → CallOk Try.prog 66 xs m r m' := by
  intro xs m r m' h
  unfold gCUp at h
  split at h
  · rename_i a v
    obtain ⟨h1, rfl, rfl⟩ := some_t2 h
    refine runOk (Λ := L0) OkDw Try.func66 rfl (fun z _ _ => noLoops (by kernel_rfl) z) ?_
    exact (runCUp0 a v).trans (rfl)
  · cases h
noncomputable def ΓD2 : Orc := addCl 66 gCUp ΓDw
theorem OkD2 : ΓD2.Ok Try.prog := addCl_ok OkDw gCUp_ok
set_option maxRecDepth 20000 in
theorem runCSet0 (n : Int) (a v : Int) : runG ΓD2 L0 Try.prog Try.f69 [.ptr 0 0, .v (I n)] (MC a v) = some (.v (.tuple #[]), MC a (clampI n a)) := by kernel_rfl
def gCSet (xs : List SV) (m : Mem) : Option (Bool × SV × Mem) :=
  match xs, m with
  | [.ptr 0 0, .v (.int .i64 n)], ⟨[[.v (.int .i64 a), .v (.int .i64 v)]], [true], []⟩ => some (true, .v (.tuple #[]), MC a (clampI n a))
  | _, _ => none
theorem gCSet_ok : ∀ xs m r m', gCSet xs m = some (true, r, m') → CallOk Try.prog 69 xs m r m' := by
  intro xs m r m' h
  unfold gCSet at h
  split at h
  · rename_i n a v
    obtain ⟨h1, rfl, rfl⟩ := some_t2 h
    refine runOk (Λ := L0) OkD2 Try.func69 rfl (fun z _ _ => noLoops (by kernel_rfl) z) ?_
    exact (runCSet0 n a v).trans (rfl)
  · cases h
noncomputable def ΓD3 : Orc := addCl 69 gCSet ΓD2
theorem OkD3 : ΓD3.Ok Try.prog := addCl_ok OkD2 gCSet_ok
set_option maxRecDepth 20000 in
theorem runCReset0 (a v : Int) : runG ΓD3 L0 Try.prog Try.f67 [.ptr 0 0] (MC a v) = some (.v (.tuple #[]), MC a (clampI 0 a)) := by kernel_rfl
def gCReset (xs : List SV) (m : Mem) : Option (Bool × SV × Mem) :=
  match xs, m with
  | [.ptr 0 0], ⟨[[.v (.int .i64 a), .v (.int .i64 v)]], [true], []⟩ => some (true, .v (.tuple #[]), MC a (clampI 0 a))
  | _, _ => none
theorem gCReset_ok : ∀ xs m r m', gCReset xs m = some (true, r, m') → CallOk Try.prog 67 xs m r m' := by
  intro xs m r m' h
  unfold gCReset at h
  split at h
  · rename_i a v
    obtain ⟨h1, rfl, rfl⟩ := some_t2 h
    refine runOk (Λ := L0) OkD3 Try.func67 rfl (fun z _ _ => noLoops (by kernel_rfl) z) ?_
    exact (runCReset0 a v).trans (rfl)
  · cases h
noncomputable def ΓD4 : Orc := addCl 67 gCReset ΓD3
theorem OkD4 : ΓD4.Ok Try.prog := addCl_ok OkD3 gCReset_ok
set_option maxRecDepth 20000 in
theorem runCMost0 (a v : Int) : runG ΓD4 L0 Try.prog Try.f85 [.ptr 0 0] (MC a v) = some (.v (I a), MC a v) := by kernel_rfl
def gCMost (xs : List SV) (m : Mem) : Option (Bool × Value) :=
  match xs, m with
  | [.ptr 0 0], ⟨[[.v (.int .i64 a), .v (.int .i64 v)]], [true], []⟩ => some (true, I a)
  | _, _ => none
theorem gCMost_ok : ∀ xs m r, gCMost xs m = some (true, r) → CallOk Try.prog 85 xs m (.v r) m := by
  intro xs m r h
  unfold gCMost at h
  split at h
  · rename_i a v
    obtain ⟨h1, rfl⟩ := some_t h
    refine runOk (Λ := L0) OkD4 Try.func85 rfl (fun z _ _ => noLoops (by kernel_rfl) z) ?_
    exact (runCMost0 a v).trans (rfl)
  · cases h
noncomputable def ΓD5 : Orc := addRd 85 gCMost ΓD4
theorem OkD5 : ΓD5.Ok Try.prog := addRd_ok OkD4 gCMost_ok
set_option maxRecDepth 20000 in
theorem runCFull0 (a v : Int) : runG ΓD5 L0 Try.prog Try.f70 [.ptr 0 0] (MC a v) = some (.v (Bo (v == a)), MC a v) := by kernel_rfl
def gCFull (xs : List SV) (m : Mem) : Option (Bool × Value) :=
  match xs, m with
  | [.ptr 0 0], ⟨[[.v (.int .i64 a), .v (.int .i64 v)]], [true], []⟩ => some (true, Bo (v == a))
  | _, _ => none
theorem gCFull_ok : ∀ xs m r, gCFull xs m = some (true, r) → CallOk Try.prog 70 xs m (.v r) m := by
  intro xs m r h
  unfold gCFull at h
  split at h
  · rename_i a v
    obtain ⟨h1, rfl⟩ := some_t h
    refine runOk (Λ := L0) OkD5 Try.func70 rfl (fun z _ _ => noLoops (by kernel_rfl) z) ?_
    exact (runCFull0 a v).trans (rfl)
  · cases h
noncomputable def ΓD6 : Orc := addRd 70 gCFull ΓD5
theorem OkD6 : ΓD6.Ok Try.prog := addRd_ok OkD5 gCFull_ok
set_option maxRecDepth 20000 in
theorem runTHr (n : Int) : runG ΓD6 L0 Try.prog Try.f65 [.v (I n)] M0 = 
    (bif n == (1 : Int) then some (.v (Bo true), M0) else (bif n == (2 : Int) then some (.v (Bo true), M0) else some (.v (Bo (n == (3 : Int))), M0))) := by kernel_rfl
def gTHr (vs : List Value) : Option (Bool × Value) :=
  match vs with
  | [.int .i64 n] => some (true, Bo (hrd n))
  | _ => none
theorem gTHr_ok : ∀ vs r, gTHr vs = some (true, r) → ∀ m, CallOk Try.prog 65 (vs.map .v) m (.v r) m := by
  intro vs r h
  unfold gTHr at h
  split at h
  · rename_i n
    obtain ⟨h1, rfl⟩ := some_t h
    refine runV (vs := [I n]) (Λ := L0) (m' := M0) OkD6 Try.func65 rfl (fun z _ _ => noLoops (by kernel_rfl) z) ?_
    exact (runTHr n).trans (by unfold hrd; cases n == 1 <;> cases n == 2 <;> rfl)
  · cases h
noncomputable def ΓD7 : Orc := addVal 65 gTHr ΓD6
theorem OkD7 : ΓD7.Ok Try.prog := addVal_ok OkD6 gTHr_ok
set_option maxRecDepth 20000 in
theorem runTCyc0 (p q : Int) (a u b v c w : Int) : runG ΓD7 L0 Try.prog Try.f39 [.ptr 0 0, .v (I p), .v (I q)] (TM a u b v c w) = 
    (bif !hrd p then (bif !hrd q then some (.v (.tuple #[]), ⟨[[.ptr 1 0, .ptr 2 0, .ptr 3 0], [.v (I a), .v (I u)], [.v (I b), .v (I v)], [.v (I c), .v (I (addN' c w (1 : Int)))]], [true, true, true, true], []⟩) else (bif p != (3 : Int) then (bif q != (3 : Int) then some (.v (.tuple #[]), ⟨[[.ptr 1 0, .ptr 2 0, .ptr 3 0], [.v (I a), .v (I (clampI (0 : Int) a))], [.v (I b), .v (I (clampI (0 : Int) b))], [.v (I c), .v (I (clampI (0 : Int) c))]], [true, true, true, true], []⟩) else (bif hrd p then (bif hrd q then (bif p != q then some (.v (.tuple #[]), ⟨[[.ptr 1 0, .ptr 2 0, .ptr 3 0], [.v (I a), .v (I u)], [.v (I b), .v (I (addN' b v (1 : Int)))], [.v (I c), .v (I (clampI (0 : Int) c))]], [true, true, true, true], []⟩) else some (.v (.tuple #[]), ⟨[[.ptr 1 0, .ptr 2 0, .ptr 3 0], [.v (I a), .v (I (addN' a u (1 : Int)))], [.v (I b), .v (I v)], [.v (I c), .v (I (clampI (0 : Int) c))]], [true, true, true, true], []⟩)) else some (.v (.tuple #[]), ⟨[[.ptr 1 0, .ptr 2 0, .ptr 3 0], [.v (I a), .v (I (addN' a u (1 : Int)))], [.v (I b), .v (I v)], [.v (I c), .v (I (clampI (0 : Int) c))]], [true, true, true, true], []⟩)) else some (.v (.tuple #[]), ⟨[[.ptr 1 0, .ptr 2 0, .ptr 3 0], [.v (I a), .v (I (addN' a u (1 : Int)))], [.v (I b), .v (I v)], [.v (I c), .v (I (clampI (0 : Int) c))]], [true, true, true, true], []⟩))) else (bif hrd p then (bif hrd q then (bif p != q then some (.v (.tuple #[]), ⟨[[.ptr 1 0, .ptr 2 0, .ptr 3 0], [.v (I a), .v (I u)], [.v (I b), .v (I (addN' b v (1 : Int)))], [.v (I c), .v (I (clampI (0 : Int) c))]], [true, true, true, true], []⟩) else some (.v (.tuple #[]), ⟨[[.ptr 1 0, .ptr 2 0, .ptr 3 0], [.v (I a), .v (I (addN' a u (1 : Int)))], [.v (I b), .v (I v)], [.v (I c), .v (I (clampI (0 : Int) c))]], [true, true, true, true], []⟩)) else some (.v (.tuple #[]), ⟨[[.ptr 1 0, .ptr 2 0, .ptr 3 0], [.v (I a), .v (I (addN' a u (1 : Int)))], [.v (I b), .v (I v)], [.v (I c), .v (I (clampI (0 : Int) c))]], [true, true, true, true], []⟩)) else some (.v (.tuple #[]), ⟨[[.ptr 1 0, .ptr 2 0, .ptr 3 0], [.v (I a), .v (I (addN' a u (1 : Int)))], [.v (I b), .v (I v)], [.v (I c), .v (I (clampI (0 : Int) c))]], [true, true, true, true], []⟩)))) else (bif p != (3 : Int) then (bif q != (3 : Int) then some (.v (.tuple #[]), ⟨[[.ptr 1 0, .ptr 2 0, .ptr 3 0], [.v (I a), .v (I (clampI (0 : Int) a))], [.v (I b), .v (I (clampI (0 : Int) b))], [.v (I c), .v (I (clampI (0 : Int) c))]], [true, true, true, true], []⟩) else (bif hrd p then (bif hrd q then (bif p != q then some (.v (.tuple #[]), ⟨[[.ptr 1 0, .ptr 2 0, .ptr 3 0], [.v (I a), .v (I u)], [.v (I b), .v (I (addN' b v (1 : Int)))], [.v (I c), .v (I (clampI (0 : Int) c))]], [true, true, true, true], []⟩) else some (.v (.tuple #[]), ⟨[[.ptr 1 0, .ptr 2 0, .ptr 3 0], [.v (I a), .v (I (addN' a u (1 : Int)))], [.v (I b), .v (I v)], [.v (I c), .v (I (clampI (0 : Int) c))]], [true, true, true, true], []⟩)) else some (.v (.tuple #[]), ⟨[[.ptr 1 0, .ptr 2 0, .ptr 3 0], [.v (I a), .v (I (addN' a u (1 : Int)))], [.v (I b), .v (I v)], [.v (I c), .v (I (clampI (0 : Int) c))]], [true, true, true, true], []⟩)) else some (.v (.tuple #[]), ⟨[[.ptr 1 0, .ptr 2 0, .ptr 3 0], [.v (I a), .v (I (addN' a u (1 : Int)))], [.v (I b), .v (I v)], [.v (I c), .v (I (clampI (0 : Int) c))]], [true, true, true, true], []⟩))) else (bif hrd p then (bif hrd q then (bif p != q then some (.v (.tuple #[]), ⟨[[.ptr 1 0, .ptr 2 0, .ptr 3 0], [.v (I a), .v (I u)], [.v (I b), .v (I (addN' b v (1 : Int)))], [.v (I c), .v (I (clampI (0 : Int) c))]], [true, true, true, true], []⟩) else some (.v (.tuple #[]), ⟨[[.ptr 1 0, .ptr 2 0, .ptr 3 0], [.v (I a), .v (I (addN' a u (1 : Int)))], [.v (I b), .v (I v)], [.v (I c), .v (I (clampI (0 : Int) c))]], [true, true, true, true], []⟩)) else some (.v (.tuple #[]), ⟨[[.ptr 1 0, .ptr 2 0, .ptr 3 0], [.v (I a), .v (I (addN' a u (1 : Int)))], [.v (I b), .v (I v)], [.v (I c), .v (I (clampI (0 : Int) c))]], [true, true, true, true], []⟩)) else some (.v (.tuple #[]), ⟨[[.ptr 1 0, .ptr 2 0, .ptr 3 0], [.v (I a), .v (I (addN' a u (1 : Int)))], [.v (I b), .v (I v)], [.v (I c), .v (I (clampI (0 : Int) c))]], [true, true, true, true], []⟩)))) := by kernel_rfl
set_option maxRecDepth 20000 in
theorem runTCyc1 (p q : Int) : runG ΓD7 L0 Try.prog Try.f39 [.v (.pointer none), .v (I p), .v (I q)] M0 = some (.v (.tuple #[]), M0) := by kernel_rfl
def gTCyc (xs : List SV) (m : Mem) : Option (Bool × SV × Mem) :=
  match xs, m with
  | [.ptr 0 0, .v (.int .i64 p), .v (.int .i64 q)], ⟨[[.ptr 1 0, .ptr 2 0, .ptr 3 0], [.v (.int .i64 a), .v (.int .i64 u)], [.v (.int .i64 b), .v (.int .i64 v)], [.v (.int .i64 c), .v (.int .i64 w)]], [true, true, true, true], []⟩ => some (true, .v (.tuple #[]), TM a (tV p q a u) b (tD p q b v) c (tG p q c w))
  | [.v (.pointer none), .v (.int .i64 p), .v (.int .i64 q)], ⟨[], [], []⟩ => some (true, .v (.tuple #[]), M0)
  | _, _ => none
theorem gTCyc_ok : ∀ xs m r m', gTCyc xs m = some (true, r, m') → CallOk Try.prog 39 xs m r m' := by
  intro xs m r m' h
  unfold gTCyc at h
  split at h
  · rename_i p q a u b v c w
    obtain ⟨h1, rfl, rfl⟩ := some_t2 h
    refine runOk (Λ := L0) OkD7 Try.func39 rfl (fun z _ _ => noLoops (by kernel_rfl) z) ?_
    exact (runTCyc0 p q a u b v c w).trans (by unfold tV tD tG; cases hrd p <;> cases hrd q <;> cases p != 3 <;> cases q != 3 <;> cases p != q <;> rfl)
  · rename_i p q
    obtain ⟨h1, rfl, rfl⟩ := some_t2 h
    refine runOk (Λ := L0) OkD7 Try.func39 rfl (fun z _ _ => noLoops (by kernel_rfl) z) ?_
    exact (runTCyc1 p q).trans (rfl)
  · cases h
noncomputable def ΓD8 : Orc := addCl 39 gTCyc ΓD7
theorem OkD8 : ΓD8.Ok Try.prog := addCl_ok OkD7 gTCyc_ok
set_option maxRecDepth 20000 in
theorem runTCnt0 (a u b v c w : Int) : runG ΓD8 L0 Try.prog Try.f40 [.ptr 0 0] (TM a u b v c w) = some (.v (Value.tuple #[I u, I v, I w]), TM a u b v c w) := by kernel_rfl
set_option maxRecDepth 20000 in
theorem runTCnt1  : runG ΓD8 L0 Try.prog Try.f40 [.v (.pointer none)] M0 = some (.v (Value.tuple #[I 0, I 0, I 0]), M0) := by kernel_rfl
def gTCnt (xs : List SV) (m : Mem) : Option (Bool × Value) :=
  match xs, m with
  | [.ptr 0 0], ⟨[[.ptr 1 0, .ptr 2 0, .ptr 3 0], [.v (.int .i64 a), .v (.int .i64 u)], [.v (.int .i64 b), .v (.int .i64 v)], [.v (.int .i64 c), .v (.int .i64 w)]], [true, true, true, true], []⟩ => some (true, Value.tuple #[I u, I v, I w])
  | [.v (.pointer none)], ⟨[], [], []⟩ => some (true, Value.tuple #[I 0, I 0, I 0])
  | _, _ => none
theorem gTCnt_ok : ∀ xs m r, gTCnt xs m = some (true, r) → CallOk Try.prog 40 xs m (.v r) m := by
  intro xs m r h
  unfold gTCnt at h
  split at h
  · rename_i a u b v c w
    obtain ⟨h1, rfl⟩ := some_t h
    refine runOk (Λ := L0) OkD8 Try.func40 rfl (fun z _ _ => noLoops (by kernel_rfl) z) ?_
    exact (runTCnt0 a u b v c w).trans (rfl)
  · obtain ⟨h1, rfl⟩ := some_t h
    refine runOk (Λ := L0) OkD8 Try.func40 rfl (fun z _ _ => noLoops (by kernel_rfl) z) ?_
    exact (runTCnt1 ).trans (rfl)
  · cases h
noncomputable def ΓD9 : Orc := addRd 40 gTCnt ΓD8
theorem OkD9 : ΓD9.Ok Try.prog := addRd_ok OkD8 gTCnt_ok
set_option maxRecDepth 20000 in
theorem runTSet0 (p q r : Int) (a u b v c w : Int) : runG ΓD9 L0 Try.prog Try.f42 [.ptr 0 0, .v (I p), .v (I q), .v (I r)] (TM a u b v c w) = some (.v (.tuple #[]), TM a (clampI p a) b (clampI q b) c (clampI r c)) := by kernel_rfl
set_option maxRecDepth 20000 in
theorem runTSet1 (p q r : Int) : runG ΓD9 L0 Try.prog Try.f42 [.v (.pointer none), .v (I p), .v (I q), .v (I r)] M0 = some (.v (.tuple #[]), M0) := by kernel_rfl
def gTSet (xs : List SV) (m : Mem) : Option (Bool × SV × Mem) :=
  match xs, m with
  | [.ptr 0 0, .v (.int .i64 p), .v (.int .i64 q), .v (.int .i64 r)], ⟨[[.ptr 1 0, .ptr 2 0, .ptr 3 0], [.v (.int .i64 a), .v (.int .i64 u)], [.v (.int .i64 b), .v (.int .i64 v)], [.v (.int .i64 c), .v (.int .i64 w)]], [true, true, true, true], []⟩ => some (true, .v (.tuple #[]), TM a (clampI p a) b (clampI q b) c (clampI r c))
  | [.v (.pointer none), .v (.int .i64 p), .v (.int .i64 q), .v (.int .i64 r)], ⟨[], [], []⟩ => some (true, .v (.tuple #[]), M0)
  | _, _ => none
theorem gTSet_ok : ∀ xs m r m', gTSet xs m = some (true, r, m') → CallOk Try.prog 42 xs m r m' := by
  intro xs m r m' h
  unfold gTSet at h
  split at h
  · rename_i p q r a u b v c w
    obtain ⟨h1, rfl, rfl⟩ := some_t2 h
    refine runOk (Λ := L0) OkD9 Try.func42 rfl (fun z _ _ => noLoops (by kernel_rfl) z) ?_
    exact (runTSet0 p q r a u b v c w).trans (rfl)
  · rename_i p q r
    obtain ⟨h1, rfl, rfl⟩ := some_t2 h
    refine runOk (Λ := L0) OkD9 Try.func42 rfl (fun z _ _ => noLoops (by kernel_rfl) z) ?_
    exact (runTSet1 p q r).trans (rfl)
  · cases h
noncomputable def ΓD10 : Orc := addCl 42 gTSet ΓD9
theorem OkD10 : ΓD10.Ok Try.prog := addCl_ok OkD9 gTSet_ok
set_option maxRecDepth 20000 in
theorem runTWhy0 (a u b v c w : Int) : runG ΓD10 L0 Try.prog Try.f43 [.ptr 0 0] (TM a u b v c w) = 
    (bif u == a then (bif v == b then (bif w == c then some (.v (I 7), ⟨[[.ptr 1 0, .ptr 2 0, .ptr 3 0], [.v (I a), .v (I u)], [.v (I b), .v (I v)], [.v (I c), .v (I w)]], [true, true, true, true], []⟩) else some (.v (I 3), ⟨[[.ptr 1 0, .ptr 2 0, .ptr 3 0], [.v (I a), .v (I u)], [.v (I b), .v (I v)], [.v (I c), .v (I w)]], [true, true, true, true], []⟩)) else (bif w == c then some (.v (I 5), ⟨[[.ptr 1 0, .ptr 2 0, .ptr 3 0], [.v (I a), .v (I u)], [.v (I b), .v (I v)], [.v (I c), .v (I w)]], [true, true, true, true], []⟩) else some (.v (I 1), ⟨[[.ptr 1 0, .ptr 2 0, .ptr 3 0], [.v (I a), .v (I u)], [.v (I b), .v (I v)], [.v (I c), .v (I w)]], [true, true, true, true], []⟩))) else (bif v == b then (bif w == c then some (.v (I 6), ⟨[[.ptr 1 0, .ptr 2 0, .ptr 3 0], [.v (I a), .v (I u)], [.v (I b), .v (I v)], [.v (I c), .v (I w)]], [true, true, true, true], []⟩) else some (.v (I 2), ⟨[[.ptr 1 0, .ptr 2 0, .ptr 3 0], [.v (I a), .v (I u)], [.v (I b), .v (I v)], [.v (I c), .v (I w)]], [true, true, true, true], []⟩)) else (bif w == c then some (.v (I 4), ⟨[[.ptr 1 0, .ptr 2 0, .ptr 3 0], [.v (I a), .v (I u)], [.v (I b), .v (I v)], [.v (I c), .v (I w)]], [true, true, true, true], []⟩) else some (.v (I 0), ⟨[[.ptr 1 0, .ptr 2 0, .ptr 3 0], [.v (I a), .v (I u)], [.v (I b), .v (I v)], [.v (I c), .v (I w)]], [true, true, true, true], []⟩)))) := by kernel_rfl
set_option maxRecDepth 20000 in
theorem runTWhy1  : runG ΓD10 L0 Try.prog Try.f43 [.v (.pointer none)] M0 = some (.v (I 0), M0) := by kernel_rfl
def gTWhy (xs : List SV) (m : Mem) : Option (Bool × Value) :=
  match xs, m with
  | [.ptr 0 0], ⟨[[.ptr 1 0, .ptr 2 0, .ptr 3 0], [.v (.int .i64 a), .v (.int .i64 u)], [.v (.int .i64 b), .v (.int .i64 v)], [.v (.int .i64 c), .v (.int .i64 w)]], [true, true, true, true], []⟩ => some (true, I (whyI (u == a) (v == b) (w == c)))
  | [.v (.pointer none)], ⟨[], [], []⟩ => some (true, I 0)
  | _, _ => none
theorem gTWhy_ok : ∀ xs m r, gTWhy xs m = some (true, r) → CallOk Try.prog 43 xs m (.v r) m := by
  intro xs m r h
  unfold gTWhy at h
  split at h
  · rename_i a u b v c w
    obtain ⟨h1, rfl⟩ := some_t h
    refine runOk (Λ := L0) OkD10 Try.func43 rfl (fun z _ _ => noLoops (by kernel_rfl) z) ?_
    exact (runTWhy0 a u b v c w).trans (by cases u == a <;> cases v == b <;> cases w == c <;> rfl)
  · obtain ⟨h1, rfl⟩ := some_t h
    refine runOk (Λ := L0) OkD10 Try.func43 rfl (fun z _ _ => noLoops (by kernel_rfl) z) ?_
    exact (runTWhy1 ).trans (rfl)
  · cases h
noncomputable def ΓD11 : Orc := addRd 43 gTWhy ΓD10
theorem OkD11 : ΓD11.Ok Try.prog := addRd_ok OkD10 gTWhy_ok
set_option maxRecDepth 20000 in
theorem runTFir0 (a u b v c w : Int) : runG ΓD11 L0 Try.prog Try.f41 [.ptr 0 0] (TM a u b v c w) = some (.v (Bo (whyI (u == a) (v == b) (w == c) != 0)), TM a u b v c w) := by kernel_rfl
set_option maxRecDepth 20000 in
theorem runTFir1  : runG ΓD11 L0 Try.prog Try.f41 [.v (.pointer none)] M0 = some (.v (Bo true), M0) := by kernel_rfl
def gTFir (xs : List SV) (m : Mem) : Option (Bool × Value) :=
  match xs, m with
  | [.ptr 0 0], ⟨[[.ptr 1 0, .ptr 2 0, .ptr 3 0], [.v (.int .i64 a), .v (.int .i64 u)], [.v (.int .i64 b), .v (.int .i64 v)], [.v (.int .i64 c), .v (.int .i64 w)]], [true, true, true, true], []⟩ => some (true, Bo (whyI (u == a) (v == b) (w == c) != 0))
  | [.v (.pointer none)], ⟨[], [], []⟩ => some (true, Bo true)
  | _, _ => none
theorem gTFir_ok : ∀ xs m r, gTFir xs m = some (true, r) → CallOk Try.prog 41 xs m (.v r) m := by
  intro xs m r h
  unfold gTFir at h
  split at h
  · rename_i a u b v c w
    obtain ⟨h1, rfl⟩ := some_t h
    refine runOk (Λ := L0) OkD11 Try.func41 rfl (fun z _ _ => noLoops (by kernel_rfl) z) ?_
    exact (runTFir0 a u b v c w).trans (rfl)
  · obtain ⟨h1, rfl⟩ := some_t h
    refine runOk (Λ := L0) OkD11 Try.func41 rfl (fun z _ _ => noLoops (by kernel_rfl) z) ?_
    exact (runTFir1 ).trans (rfl)
  · cases h
noncomputable def ΓD12 : Orc := addRd 41 gTFir ΓD11
theorem OkD12 : ΓD12.Ok Try.prog := addRd_ok OkD11 gTFir_ok
noncomputable def ΓTl0 : Orc := ΓD12
theorem OkTl0 : ΓTl0.Ok Try.prog := OkD12
end Go.Proofs.Ytnelbjbphkfkkaa

namespace Go.Proofs.Ytnelbjbphkfkkaa
open Go Go.Proofs Go.Sx
set_option linter.unusedVariables false
/-! norm -/
/-! cast -/
noncomputable def ΓEw : Orc := { ΓTl0 with bs := true, wr := fun f => Nat.beq f 64 || ΓTl0.wr f }
theorem OkEw : ΓEw.Ok Try.prog := ⟨OkTl0.call, OkTl0.rd, OkTl0.eqv⟩
set_option maxRecDepth 20000 in
theorem runTNew (n d g x1 x2 x3 x4 x5 : Int) : runG ΓEw L0 Try.prog Try.f37 [.v (.agg #[.slice none 0 0, I n, I d, I g, I x1, I x2, I x3, I x4, I x5])] M0 = 
    (bif decide (n < (1 : Int)) then some (.v (Value.pointer none), M0) else (bif decide (d < (1 : Int)) then some (.v (Value.pointer none), M0) else (bif decide (g < (1 : Int)) then some (.v (Value.pointer none), M0) else (same ((same (some (.ptr 0 0, ⟨[[.ptr 1 0, .ptr 2 0, .ptr 3 0], [.v (I (clampI n (1000000 : Int))), .v (I 0)], [.v (I (clampI d (1000000 : Int))), .v (I 0)], [.v (I (clampI g (1000000 : Int))), .v (I 0)]], [true, true, true, true], []⟩)) ((same (some (.ptr 0 0, ⟨[[.ptr 1 0, .ptr 2 0, .ptr 3 0], [.v (I (clampI n (1000000 : Int))), .v (I 0)], [.v (I (clampI d (1000000 : Int))), .v (I 0)], [.v (I (clampI g (1000000 : Int))), .v (I 0)]], [true, true, true, true], []⟩)) (some (.ptr 0 0, ⟨[[.ptr 1 0, .ptr 2 0, .ptr 3 0], [.v (I (clampI n (1000000 : Int))), .v (I 0)], [.v (I (clampI d (1000000 : Int))), .v (I 0)], [.v (I (clampI g (1000000 : Int))), .v (I 0)]], [true, true, true, true], []⟩)))))) ((same ((same ((same (some (.ptr 0 0, ⟨[[.ptr 1 0, .ptr 2 0, .ptr 3 0], [.v (I (clampI n (1000000 : Int))), .v (I 0)], [.v (I (clampI d (1000000 : Int))), .v (I 0)], [.v (I (clampI g (1000000 : Int))), .v (I 0)]], [true, true, true, true], []⟩)) ((same (some (.ptr 0 0, ⟨[[.ptr 1 0, .ptr 2 0, .ptr 3 0], [.v (I (clampI n (1000000 : Int))), .v (I 0)], [.v (I (clampI d (1000000 : Int))), .v (I 0)], [.v (I (clampI g (1000000 : Int))), .v (I 0)]], [true, true, true, true], []⟩)) (some (.ptr 0 0, ⟨[[.ptr 1 0, .ptr 2 0, .ptr 3 0], [.v (I (clampI n (1000000 : Int))), .v (I 0)], [.v (I (clampI d (1000000 : Int))), .v (I 0)], [.v (I (clampI g (1000000 : Int))), .v (I 0)]], [true, true, true, true], []⟩)))))) ((same ((same ((same (some (.ptr 0 0, ⟨[[.ptr 1 0, .ptr 2 0, .ptr 3 0], [.v (I (clampI n (1000000 : Int))), .v (I 0)], [.v (I (clampI d (1000000 : Int))), .v (I 0)], [.v (I (clampI g (1000000 : Int))), .v (I 0)]], [true, true, true, true], []⟩)) ((same (some (.ptr 0 0, ⟨[[.ptr 1 0, .ptr 2 0, .ptr 3 0], [.v (I (clampI n (1000000 : Int))), .v (I 0)], [.v (I (clampI d (1000000 : Int))), .v (I 0)], [.v (I (clampI g (1000000 : Int))), .v (I 0)]], [true, true, true, true], []⟩)) (some (.ptr 0 0, ⟨[[.ptr 1 0, .ptr 2 0, .ptr 3 0], [.v (I (clampI n (1000000 : Int))), .v (I 0)], [.v (I (clampI d (1000000 : Int))), .v (I 0)], [.v (I (clampI g (1000000 : Int))), .v (I 0)]], [true, true, true, true], []⟩)))))) ((same ((same (some (.ptr 0 0, ⟨[[.ptr 1 0, .ptr 2 0, .ptr 3 0], [.v (I (clampI n (1000000 : Int))), .v (I 0)], [.v (I (clampI d (1000000 : Int))), .v (I 0)], [.v (I (clampI g (1000000 : Int))), .v (I 0)]], [true, true, true, true], []⟩)) (some (.ptr 0 0, ⟨[[.ptr 1 0, .ptr 2 0, .ptr 3 0], [.v (I (clampI n (1000000 : Int))), .v (I 0)], [.v (I (clampI d (1000000 : Int))), .v (I 0)], [.v (I (clampI g (1000000 : Int))), .v (I 0)]], [true, true, true, true], []⟩)))) (some (.ptr 0 0, ⟨[[.ptr 1 0, .ptr 2 0, .ptr 3 0], [.v (I (clampI n (1000000 : Int))), .v (I 0)], [.v (I (clampI d (1000000 : Int))), .v (I 0)], [.v (I (clampI g (1000000 : Int))), .v (I 0)]], [true, true, true, true], []⟩)))))) ((same ((same (some (.ptr 0 0, ⟨[[.ptr 1 0, .ptr 2 0, .ptr 3 0], [.v (I (clampI n (1000000 : Int))), .v (I 0)], [.v (I (clampI d (1000000 : Int))), .v (I 0)], [.v (I (clampI g (1000000 : Int))), .v (I 0)]], [true, true, true, true], []⟩)) (some (.ptr 0 0, ⟨[[.ptr 1 0, .ptr 2 0, .ptr 3 0], [.v (I (clampI n (1000000 : Int))), .v (I 0)], [.v (I (clampI d (1000000 : Int))), .v (I 0)], [.v (I (clampI g (1000000 : Int))), .v (I 0)]], [true, true, true, true], []⟩)))) ((same ((same ((same (some (.ptr 0 0, ⟨[[.ptr 1 0, .ptr 2 0, .ptr 3 0], [.v (I (clampI n (1000000 : Int))), .v (I 0)], [.v (I (clampI d (1000000 : Int))), .v (I 0)], [.v (I (clampI g (1000000 : Int))), .v (I 0)]], [true, true, true, true], []⟩)) (some (.ptr 0 0, ⟨[[.ptr 1 0, .ptr 2 0, .ptr 3 0], [.v (I (clampI n (1000000 : Int))), .v (I 0)], [.v (I (clampI d (1000000 : Int))), .v (I 0)], [.v (I (clampI g (1000000 : Int))), .v (I 0)]], [true, true, true, true], []⟩)))) (some (.ptr 0 0, ⟨[[.ptr 1 0, .ptr 2 0, .ptr 3 0], [.v (I (clampI n (1000000 : Int))), .v (I 0)], [.v (I (clampI d (1000000 : Int))), .v (I 0)], [.v (I (clampI g (1000000 : Int))), .v (I 0)]], [true, true, true, true], []⟩)))) ((same (some (.ptr 0 0, ⟨[[.ptr 1 0, .ptr 2 0, .ptr 3 0], [.v (I (clampI n (1000000 : Int))), .v (I 0)], [.v (I (clampI d (1000000 : Int))), .v (I 0)], [.v (I (clampI g (1000000 : Int))), .v (I 0)]], [true, true, true, true], []⟩)) (some (.ptr 0 0, ⟨[[.ptr 1 0, .ptr 2 0, .ptr 3 0], [.v (I (clampI n (1000000 : Int))), .v (I 0)], [.v (I (clampI d (1000000 : Int))), .v (I 0)], [.v (I (clampI g (1000000 : Int))), .v (I 0)]], [true, true, true, true], []⟩)))))))))))) ((same ((same (some (.ptr 0 0, ⟨[[.ptr 1 0, .ptr 2 0, .ptr 3 0], [.v (I (clampI n (1000000 : Int))), .v (I 0)], [.v (I (clampI d (1000000 : Int))), .v (I 0)], [.v (I (clampI g (1000000 : Int))), .v (I 0)]], [true, true, true, true], []⟩)) (some (.ptr 0 0, ⟨[[.ptr 1 0, .ptr 2 0, .ptr 3 0], [.v (I (clampI n (1000000 : Int))), .v (I 0)], [.v (I (clampI d (1000000 : Int))), .v (I 0)], [.v (I (clampI g (1000000 : Int))), .v (I 0)]], [true, true, true, true], []⟩)))) ((same ((same ((same (some (.ptr 0 0, ⟨[[.ptr 1 0, .ptr 2 0, .ptr 3 0], [.v (I (clampI n (1000000 : Int))), .v (I 0)], [.v (I (clampI d (1000000 : Int))), .v (I 0)], [.v (I (clampI g (1000000 : Int))), .v (I 0)]], [true, true, true, true], []⟩)) (some (.ptr 0 0, ⟨[[.ptr 1 0, .ptr 2 0, .ptr 3 0], [.v (I (clampI n (1000000 : Int))), .v (I 0)], [.v (I (clampI d (1000000 : Int))), .v (I 0)], [.v (I (clampI g (1000000 : Int))), .v (I 0)]], [true, true, true, true], []⟩)))) ((same ((same ((same (some (.ptr 0 0, ⟨[[.ptr 1 0, .ptr 2 0, .ptr 3 0], [.v (I (clampI n (1000000 : Int))), .v (I 0)], [.v (I (clampI d (1000000 : Int))), .v (I 0)], [.v (I (clampI g (1000000 : Int))), .v (I 0)]], [true, true, true, true], []⟩)) (some (.ptr 0 0, ⟨[[.ptr 1 0, .ptr 2 0, .ptr 3 0], [.v (I (clampI n (1000000 : Int))), .v (I 0)], [.v (I (clampI d (1000000 : Int))), .v (I 0)], [.v (I (clampI g (1000000 : Int))), .v (I 0)]], [true, true, true, true], []⟩)))) (some (.ptr 0 0, ⟨[[.ptr 1 0, .ptr 2 0, .ptr 3 0], [.v (I (clampI n (1000000 : Int))), .v (I 0)], [.v (I (clampI d (1000000 : Int))), .v (I 0)], [.v (I (clampI g (1000000 : Int))), .v (I 0)]], [true, true, true, true], []⟩)))) ((same (some (.ptr 0 0, ⟨[[.ptr 1 0, .ptr 2 0, .ptr 3 0], [.v (I (clampI n (1000000 : Int))), .v (I 0)], [.v (I (clampI d (1000000 : Int))), .v (I 0)], [.v (I (clampI g (1000000 : Int))), .v (I 0)]], [true, true, true, true], []⟩)) (some (.ptr 0 0, ⟨[[.ptr 1 0, .ptr 2 0, .ptr 3 0], [.v (I (clampI n (1000000 : Int))), .v (I 0)], [.v (I (clampI d (1000000 : Int))), .v (I 0)], [.v (I (clampI g (1000000 : Int))), .v (I 0)]], [true, true, true, true], []⟩)))))))) ((same (some (.ptr 0 0, ⟨[[.ptr 1 0, .ptr 2 0, .ptr 3 0], [.v (I (clampI n (1000000 : Int))), .v (I 0)], [.v (I (clampI d (1000000 : Int))), .v (I 0)], [.v (I (clampI g (1000000 : Int))), .v (I 0)]], [true, true, true, true], []⟩)) ((same (some (.ptr 0 0, ⟨[[.ptr 1 0, .ptr 2 0, .ptr 3 0], [.v (I (clampI n (1000000 : Int))), .v (I 0)], [.v (I (clampI d (1000000 : Int))), .v (I 0)], [.v (I (clampI g (1000000 : Int))), .v (I 0)]], [true, true, true, true], []⟩)) (some (.ptr 0 0, ⟨[[.ptr 1 0, .ptr 2 0, .ptr 3 0], [.v (I (clampI n (1000000 : Int))), .v (I 0)], [.v (I (clampI d (1000000 : Int))), .v (I 0)], [.v (I (clampI g (1000000 : Int))), .v (I 0)]], [true, true, true, true], []⟩)))))))))))))))) := by kernel_rfl
def newB (n d g : Int) : Bool := decide (1 ≤ n) && (decide (1 ≤ d) && decide (1 ≤ g))
def gTNew (xs : List SV) (m : Mem) : Option (Bool × SV × Mem) :=
  match xs, m with
  | [.v (.agg ⟨[.slice none 0 0, .int .i64 n, .int .i64 d, .int .i64 g, .int .i64 x1, .int .i64 x2, .int .i64 x3, .int .i64 x4, .int .i64 x5]⟩)], ⟨[], [], []⟩ => some (newB n d g, .ptr 0 0, TM (clampI n 1000000) 0 (clampI d 1000000) 0 (clampI g 1000000) 0)
  | _, _ => none
theorem tnew_ok {n d g x1 x2 x3 x4 x5 : Int} : CallOk Try.prog 37 [.v (.agg #[.slice none 0 0, I n, I d, I g, I x1, I x2, I x3, I x4, I x5])] M0 (bif newB n d g then .ptr 0 0 else .v (.pointer none)) (bif newB n d g then TM (clampI n 1000000) 0 (clampI d 1000000) 0 (clampI g 1000000) 0 else M0) := by
  refine runOk (Λ := L0) OkEw Try.func37 rfl (fun z _ _ => l0Ok' _ z) ?_
  refine (runTNew n d g x1 x2 x3 x4 x5).trans ?_
  unfold newB
  by_cases h1 : n < 1
  · rw [decide_eq_true h1, decide_eq_false (show ¬ 1 ≤ n by omega)]; rfl
  by_cases h2 : d < 1
  · rw [decide_eq_false h1, decide_eq_true (show 1 ≤ n by omega), decide_eq_true h2, decide_eq_false (show ¬ 1 ≤ d by omega)]; rfl
  by_cases h3 : g < 1
  · rw [decide_eq_false h1, decide_eq_true (show 1 ≤ n by omega), decide_eq_false h2, decide_eq_true (show 1 ≤ d by omega), decide_eq_true h3, decide_eq_false (show ¬ 1 ≤ g by omega)]; rfl
  rw [decide_eq_false h1, decide_eq_false h2, decide_eq_false h3, decide_eq_true (show 1 ≤ n by omega), decide_eq_true (show 1 ≤ d by omega), decide_eq_true (show 1 ≤ g by omega)]
  simp only [same_self, cond_false, Bool.and_self, cond_true]
  rfl
theorem gTNew_ok : ∀ xs m r m', gTNew xs m = some (true, r, m') → CallOk Try.prog 37 xs m r m' := by
  intro xs m r m' h
  unfold gTNew at h
  split at h
  · rename_i n d g x1 x2 x3 x4 x5
    obtain ⟨h1, rfl, rfl⟩ := some_t2 h
    have := @tnew_ok n d g x1 x2 x3 x4 x5
    rw [h1] at this
    exact this
  · cases h
/-- For numbers that are known. -/
def gTNewC (xs : List SV) (m : Mem) : Option (Bool × SV × Mem) :=
  match xs, m with
  | [.v (.agg ⟨[.slice none 0 0, .int .i64 n, .int .i64 d, .int .i64 g, .int .i64 x1, .int .i64 x2, .int .i64 x3, .int .i64 x4, .int .i64 x5]⟩)], ⟨[], [], []⟩ => some (true, bif newB n d g then .ptr 0 0 else .v (.pointer none), bif newB n d g then TM (clampI n 1000000) 0 (clampI d 1000000) 0 (clampI g 1000000) 0 else M0)
  | _, _ => none
theorem gTNewC_ok : ∀ xs m r m', gTNewC xs m = some (true, r, m') → CallOk Try.prog 37 xs m r m' := by
  intro xs m r m' h
  unfold gTNewC at h
  split at h
  · obtain ⟨_, rfl, rfl⟩ := some_t2 h
    exact tnew_ok
  · cases h
noncomputable def ΓTc : Orc := addCl 37 gTNewC ΓTl0
theorem OkTc : ΓTc.Ok Try.prog := addCl_ok OkTl0 gTNewC_ok
noncomputable def Γx20 : Orc := exec Try.prog ΓTc.call ΓTc.rd ΓTc.eqv (fun _ => false) 30 3
theorem Okx20 : Γx20.Ok Try.prog := exec_ok mixed names (ext := ΓTc.call) (rd := ΓTc.rd) (eqv := ΓTc.eqv) ⟨OkTc.call, OkTc.rd, OkTc.eqv⟩ 30 3
set_option maxRecDepth 100000 in
theorem runAwake20 : runG Γx20 (loopX Γx20 Try.prog 30 2) Try.prog Try.f36 [] M0 = some (.v (Bo true), M0) := by kernel_rfl
def gAwake20 (vs : List Value) : Option (Bool × Value) :=
  match vs with
  | [] => some (true, Bo true)
  | _ => none
theorem gAwake20_ok : ∀ vs r, gAwake20 vs = some (true, r) → ∀ m, CallOk Try.prog 36 (vs.map .v) m (.v r) m := by
  intro vs r h
  unfold gAwake20 at h
  split at h
  · obtain ⟨_, rfl⟩ := some_t h
    exact runV (vs := []) Okx20 Try.func36 rfl (fun z _ _ b hb => loopX_ok Okx20 mixed 30 2 b) runAwake20
  · cases h
noncomputable def ΓE0 : Orc := addVal 36 gAwake20 ΓTl0
theorem OkE0 : ΓE0.Ok Try.prog := addVal_ok OkTl0 gAwake20_ok
def gLim (vs : List Value) : Option (Bool × Value) :=
  match vs with
  | [.int .i64 n, .int .i64 d, .int .i64 g] => some (true, .agg #[.slice none 0 0, I n, I d, I g, I 0, I 0, I 0, I 0, I 0])
  | _ => none
theorem gLim_ok : ∀ vs r, gLim vs = some (true, r) → ∀ m, CallOk Try.prog 38 (vs.map .v) m (.v r) m := by
  intro vs r h
  unfold gLim at h
  split at h
  · rename_i n d g
    obtain ⟨_, rfl⟩ := some_t h
    exact runV (vs := [I n, I d, I g]) (Λ := L0) (m' := M0) OkE0 Try.func38 rfl (fun z _ _ => l0Ok' _ z) (by kernel_rfl)
  · cases h
noncomputable def ΓE2 : Orc := addVal 38 gLim ΓE0
theorem OkE2 : ΓE2.Ok Try.prog := addVal_ok OkE0 gLim_ok
noncomputable def ΓTl : Orc := addCl 37 gTNew ΓE2
theorem OkTl : ΓTl.Ok Try.prog := addCl_ok OkE2 gTNew_ok
end Go.Proofs.Ytnelbjbphkfkkaa

namespace Go.Proofs.Ytnelbjbphkfkkaa
open Go Go.Proofs Go.Sx
set_option linter.unusedVariables false
/-! norm -/
/-! cast -/
/-! rep ((L.getD k.toNat []).headD (Dat.n (0 : Int))).toI => (fst2 L k) -/
/-! rep ((L.getD k.toNat []).tail.headD (Dat.n (0 : Int))).toI => (snd2 L k) -/
def fst2 (L : List (List Dat)) (k : Int) : Int := ((L.getD k.toNat []).headD (Dat.n 0)).toI
def snd2 (L : List (List Dat)) (k : Int) : Int := ((L.getD k.toNat []).tail.headD (Dat.n 0)).toI
abbrev r2 (L : List (List Dat)) (own mark : Bool) : RowS := .live ⟨53, [.num .i64, .num .i64], L, own, mark⟩
set_option maxRecDepth 20000 in
theorem tallyNil (a b : Int) : runG ΓTl L0 Try.prog Try.f15 [.v (I a), .v (I b)] M0 = some (.v (.bool true), M0) := by kernel_rfl
/-! Quiet. -/
noncomputable def bdTq : Code := loopAt (Try.f13.body.getD .skip) 0
def TMr (a u b v c w : Int) (L : List (List Dat)) (own mark : Bool) : Mem := ⟨[[.ptr 1 0, .ptr 2 0, .ptr 3 0], [.v (I a), .v (I u)], [.v (I b), .v (I v)], [.v (I c), .v (I w)]], [true, true, true, true], [r2 L own mark]⟩
def kTq : List Bool := maskOf 98 [0, 5, 6, 30, 31, 32]
def xTq (e : Ex) : List Bool := match e with
  | .exit _ => maskOf 98 []
  | .ret => maskOf 98 [4]
  | .normal => maskOf 98 [0, 5, 6, 30, 31, 32]
def KTq (e : Ex) (st : St) : Option (Ex × St) := some (e, cutC 0 1 (xTq e) st)
set_option maxRecDepth 20000 in
theorem stepTq (g s k a u b v c w : Int) (L : List (List Dat)) (own mark : Bool) (n : Nat) : evLoop ΓTl Try.prog L0 (cutC 0 1 kTq) bdTq (n + 1) (mk kTq [.v (I g), .ptr 0 0, .v (I s), .row 0, .v (I (L.length : Int)), .v (I k)] (TMr a u b v c w L own mark)) KTq =
    (bif decide (k < (L.length : Int)) then (bif decide ((0 : Int) ≤ k) && decide (k < (L.length : Int)) then (bif (fst2 L k) == (3 : Int) then (bif (snd2 L k) == (3 : Int) then (bif decide ((0 : Int) ≥ g) then some (.ret, mk (xTq .ret) [.v (Bo true)] ⟨[], [], [.live ⟨53, [.num .i64, .num .i64], L, own, mark⟩]⟩) else (bif whyI (tV (2 : Int) (2 : Int) a u == a) (tD (2 : Int) (2 : Int) b v == b) (tG (2 : Int) (2 : Int) c w == c) != (0 : Int) then some (.ret, mk (xTq .ret) [.v (Bo false)] ⟨[], [], [.live ⟨53, [.num .i64, .num .i64], L, own, mark⟩]⟩) else (bif tV (2 : Int) (2 : Int) a u != (0 : Int) then some (.ret, mk (xTq .ret) [.v (Bo false)] ⟨[], [], [.live ⟨53, [.num .i64, .num .i64], L, own, mark⟩]⟩) else (bif tD (2 : Int) (2 : Int) b v != (0 : Int) then some (.ret, mk (xTq .ret) [.v (Bo false)] ⟨[], [], [.live ⟨53, [.num .i64, .num .i64], L, own, mark⟩]⟩) else (bif tG (2 : Int) (2 : Int) c w != (0 : Int) then some (.ret, mk (xTq .ret) [.v (Bo false)] ⟨[], [], [.live ⟨53, [.num .i64, .num .i64], L, own, mark⟩]⟩) else evLoop ΓTl Try.prog L0 (cutC 0 1 kTq) bdTq n (mk kTq [.v (I g), .ptr 0 0, .v (I 0), .row 0, .v (I (L.length : Int)), .v (I (wI (k + (1 : Int))))] ⟨[[.ptr 1 0, .ptr 2 0, .ptr 3 0], [.v (I a), .v (I (tV (2 : Int) (2 : Int) a u))], [.v (I b), .v (I (tD (2 : Int) (2 : Int) b v))], [.v (I c), .v (I (tG (2 : Int) (2 : Int) c w))]], [true, true, true, true], [.live ⟨53, [.num .i64, .num .i64], L, own, mark⟩]⟩) KTq))))) else (bif decide ((0 : Int) ≥ g) then some (.ret, mk (xTq .ret) [.v (Bo true)] ⟨[], [], [.live ⟨53, [.num .i64, .num .i64], L, own, mark⟩]⟩) else (bif whyI (tV (2 : Int) (snd2 L k) a u == a) (tD (2 : Int) (snd2 L k) b v == b) (tG (2 : Int) (snd2 L k) c w == c) != (0 : Int) then some (.ret, mk (xTq .ret) [.v (Bo false)] ⟨[], [], [.live ⟨53, [.num .i64, .num .i64], L, own, mark⟩]⟩) else (bif tV (2 : Int) (snd2 L k) a u != (0 : Int) then some (.ret, mk (xTq .ret) [.v (Bo false)] ⟨[], [], [.live ⟨53, [.num .i64, .num .i64], L, own, mark⟩]⟩) else (bif tD (2 : Int) (snd2 L k) b v != (0 : Int) then some (.ret, mk (xTq .ret) [.v (Bo false)] ⟨[], [], [.live ⟨53, [.num .i64, .num .i64], L, own, mark⟩]⟩) else (bif tG (2 : Int) (snd2 L k) c w != (0 : Int) then some (.ret, mk (xTq .ret) [.v (Bo false)] ⟨[], [], [.live ⟨53, [.num .i64, .num .i64], L, own, mark⟩]⟩) else evLoop ΓTl Try.prog L0 (cutC 0 1 kTq) bdTq n (mk kTq [.v (I g), .ptr 0 0, .v (I 0), .row 0, .v (I (L.length : Int)), .v (I (wI (k + (1 : Int))))] ⟨[[.ptr 1 0, .ptr 2 0, .ptr 3 0], [.v (I a), .v (I (tV (2 : Int) (snd2 L k) a u))], [.v (I b), .v (I (tD (2 : Int) (snd2 L k) b v))], [.v (I c), .v (I (tG (2 : Int) (snd2 L k) c w))]], [true, true, true, true], [.live ⟨53, [.num .i64, .num .i64], L, own, mark⟩]⟩) KTq)))))) else (bif (snd2 L k) == (3 : Int) then (bif decide ((fst2 L k) < (1 : Int)) then (bif decide ((0 : Int) ≥ g) then some (.ret, mk (xTq .ret) [.v (Bo true)] ⟨[], [], [.live ⟨53, [.num .i64, .num .i64], L, own, mark⟩]⟩) else (bif whyI (tV (fst2 L k) (2 : Int) a u == a) (tD (fst2 L k) (2 : Int) b v == b) (tG (fst2 L k) (2 : Int) c w == c) != (0 : Int) then some (.ret, mk (xTq .ret) [.v (Bo false)] ⟨[], [], [.live ⟨53, [.num .i64, .num .i64], L, own, mark⟩]⟩) else (bif tV (fst2 L k) (2 : Int) a u != (0 : Int) then some (.ret, mk (xTq .ret) [.v (Bo false)] ⟨[], [], [.live ⟨53, [.num .i64, .num .i64], L, own, mark⟩]⟩) else (bif tD (fst2 L k) (2 : Int) b v != (0 : Int) then some (.ret, mk (xTq .ret) [.v (Bo false)] ⟨[], [], [.live ⟨53, [.num .i64, .num .i64], L, own, mark⟩]⟩) else (bif tG (fst2 L k) (2 : Int) c w != (0 : Int) then some (.ret, mk (xTq .ret) [.v (Bo false)] ⟨[], [], [.live ⟨53, [.num .i64, .num .i64], L, own, mark⟩]⟩) else evLoop ΓTl Try.prog L0 (cutC 0 1 kTq) bdTq n (mk kTq [.v (I g), .ptr 0 0, .v (I 0), .row 0, .v (I (L.length : Int)), .v (I (wI (k + (1 : Int))))] ⟨[[.ptr 1 0, .ptr 2 0, .ptr 3 0], [.v (I a), .v (I (tV (fst2 L k) (2 : Int) a u))], [.v (I b), .v (I (tD (fst2 L k) (2 : Int) b v))], [.v (I c), .v (I (tG (fst2 L k) (2 : Int) c w))]], [true, true, true, true], [.live ⟨53, [.num .i64, .num .i64], L, own, mark⟩]⟩) KTq))))) else (bif decide ((fst2 L k) > (3 : Int)) then (bif decide ((0 : Int) ≥ g) then some (.ret, mk (xTq .ret) [.v (Bo true)] ⟨[], [], [.live ⟨53, [.num .i64, .num .i64], L, own, mark⟩]⟩) else (bif whyI (tV (fst2 L k) (2 : Int) a u == a) (tD (fst2 L k) (2 : Int) b v == b) (tG (fst2 L k) (2 : Int) c w == c) != (0 : Int) then some (.ret, mk (xTq .ret) [.v (Bo false)] ⟨[], [], [.live ⟨53, [.num .i64, .num .i64], L, own, mark⟩]⟩) else (bif tV (fst2 L k) (2 : Int) a u != (0 : Int) then some (.ret, mk (xTq .ret) [.v (Bo false)] ⟨[], [], [.live ⟨53, [.num .i64, .num .i64], L, own, mark⟩]⟩) else (bif tD (fst2 L k) (2 : Int) b v != (0 : Int) then some (.ret, mk (xTq .ret) [.v (Bo false)] ⟨[], [], [.live ⟨53, [.num .i64, .num .i64], L, own, mark⟩]⟩) else (bif tG (fst2 L k) (2 : Int) c w != (0 : Int) then some (.ret, mk (xTq .ret) [.v (Bo false)] ⟨[], [], [.live ⟨53, [.num .i64, .num .i64], L, own, mark⟩]⟩) else evLoop ΓTl Try.prog L0 (cutC 0 1 kTq) bdTq n (mk kTq [.v (I g), .ptr 0 0, .v (I 0), .row 0, .v (I (L.length : Int)), .v (I (wI (k + (1 : Int))))] ⟨[[.ptr 1 0, .ptr 2 0, .ptr 3 0], [.v (I a), .v (I (tV (fst2 L k) (2 : Int) a u))], [.v (I b), .v (I (tD (fst2 L k) (2 : Int) b v))], [.v (I c), .v (I (tG (fst2 L k) (2 : Int) c w))]], [true, true, true, true], [.live ⟨53, [.num .i64, .num .i64], L, own, mark⟩]⟩) KTq))))) else (bif decide ((0 : Int) ≥ g) then some (.ret, mk (xTq .ret) [.v (Bo true)] ⟨[], [], [.live ⟨53, [.num .i64, .num .i64], L, own, mark⟩]⟩) else (bif whyI (tV (fst2 L k) (2 : Int) a u == a) (tD (fst2 L k) (2 : Int) b v == b) (tG (fst2 L k) (2 : Int) c w == c) != (0 : Int) then some (.ret, mk (xTq .ret) [.v (Bo false)] ⟨[], [], [.live ⟨53, [.num .i64, .num .i64], L, own, mark⟩]⟩) else (bif tV (fst2 L k) (2 : Int) a u != (0 : Int) then some (.ret, mk (xTq .ret) [.v (Bo false)] ⟨[], [], [.live ⟨53, [.num .i64, .num .i64], L, own, mark⟩]⟩) else (bif tD (fst2 L k) (2 : Int) b v != (0 : Int) then some (.ret, mk (xTq .ret) [.v (Bo false)] ⟨[], [], [.live ⟨53, [.num .i64, .num .i64], L, own, mark⟩]⟩) else (bif tG (fst2 L k) (2 : Int) c w != (0 : Int) then some (.ret, mk (xTq .ret) [.v (Bo false)] ⟨[], [], [.live ⟨53, [.num .i64, .num .i64], L, own, mark⟩]⟩) else evLoop ΓTl Try.prog L0 (cutC 0 1 kTq) bdTq n (mk kTq [.v (I g), .ptr 0 0, .v (I 0), .row 0, .v (I (L.length : Int)), .v (I (wI (k + (1 : Int))))] ⟨[[.ptr 1 0, .ptr 2 0, .ptr 3 0], [.v (I a), .v (I (tV (fst2 L k) (2 : Int) a u))], [.v (I b), .v (I (tD (fst2 L k) (2 : Int) b v))], [.v (I c), .v (I (tG (fst2 L k) (2 : Int) c w))]], [true, true, true, true], [.live ⟨53, [.num .i64, .num .i64], L, own, mark⟩]⟩) KTq))))))) else (bif decide ((fst2 L k) < (1 : Int)) then (bif decide ((snd2 L k) < (1 : Int)) then (bif decide (wI (s + (1 : Int)) ≥ g) then some (.ret, mk (xTq .ret) [.v (Bo true)] ⟨[], [], [.live ⟨53, [.num .i64, .num .i64], L, own, mark⟩]⟩) else (bif whyI (tV (fst2 L k) (snd2 L k) a u == a) (tD (fst2 L k) (snd2 L k) b v == b) (tG (fst2 L k) (snd2 L k) c w == c) != (0 : Int) then some (.ret, mk (xTq .ret) [.v (Bo false)] ⟨[], [], [.live ⟨53, [.num .i64, .num .i64], L, own, mark⟩]⟩) else (bif tV (fst2 L k) (snd2 L k) a u != (0 : Int) then some (.ret, mk (xTq .ret) [.v (Bo false)] ⟨[], [], [.live ⟨53, [.num .i64, .num .i64], L, own, mark⟩]⟩) else (bif tD (fst2 L k) (snd2 L k) b v != (0 : Int) then some (.ret, mk (xTq .ret) [.v (Bo false)] ⟨[], [], [.live ⟨53, [.num .i64, .num .i64], L, own, mark⟩]⟩) else (bif tG (fst2 L k) (snd2 L k) c w != wI (s + (1 : Int)) then some (.ret, mk (xTq .ret) [.v (Bo false)] ⟨[], [], [.live ⟨53, [.num .i64, .num .i64], L, own, mark⟩]⟩) else evLoop ΓTl Try.prog L0 (cutC 0 1 kTq) bdTq n (mk kTq [.v (I g), .ptr 0 0, .v (I (wI (s + (1 : Int)))), .row 0, .v (I (L.length : Int)), .v (I (wI (k + (1 : Int))))] ⟨[[.ptr 1 0, .ptr 2 0, .ptr 3 0], [.v (I a), .v (I (tV (fst2 L k) (snd2 L k) a u))], [.v (I b), .v (I (tD (fst2 L k) (snd2 L k) b v))], [.v (I c), .v (I (tG (fst2 L k) (snd2 L k) c w))]], [true, true, true, true], [.live ⟨53, [.num .i64, .num .i64], L, own, mark⟩]⟩) KTq))))) else (bif decide ((snd2 L k) > (3 : Int)) then (bif decide (wI (s + (1 : Int)) ≥ g) then some (.ret, mk (xTq .ret) [.v (Bo true)] ⟨[], [], [.live ⟨53, [.num .i64, .num .i64], L, own, mark⟩]⟩) else (bif whyI (tV (fst2 L k) (snd2 L k) a u == a) (tD (fst2 L k) (snd2 L k) b v == b) (tG (fst2 L k) (snd2 L k) c w == c) != (0 : Int) then some (.ret, mk (xTq .ret) [.v (Bo false)] ⟨[], [], [.live ⟨53, [.num .i64, .num .i64], L, own, mark⟩]⟩) else (bif tV (fst2 L k) (snd2 L k) a u != (0 : Int) then some (.ret, mk (xTq .ret) [.v (Bo false)] ⟨[], [], [.live ⟨53, [.num .i64, .num .i64], L, own, mark⟩]⟩) else (bif tD (fst2 L k) (snd2 L k) b v != (0 : Int) then some (.ret, mk (xTq .ret) [.v (Bo false)] ⟨[], [], [.live ⟨53, [.num .i64, .num .i64], L, own, mark⟩]⟩) else (bif tG (fst2 L k) (snd2 L k) c w != wI (s + (1 : Int)) then some (.ret, mk (xTq .ret) [.v (Bo false)] ⟨[], [], [.live ⟨53, [.num .i64, .num .i64], L, own, mark⟩]⟩) else evLoop ΓTl Try.prog L0 (cutC 0 1 kTq) bdTq n (mk kTq [.v (I g), .ptr 0 0, .v (I (wI (s + (1 : Int)))), .row 0, .v (I (L.length : Int)), .v (I (wI (k + (1 : Int))))] ⟨[[.ptr 1 0, .ptr 2 0, .ptr 3 0], [.v (I a), .v (I (tV (fst2 L k) (snd2 L k) a u))], [.v (I b), .v (I (tD (fst2 L k) (snd2 L k) b v))], [.v (I c), .v (I (tG (fst2 L k) (snd2 L k) c w))]], [true, true, true, true], [.live ⟨53, [.num .i64, .num .i64], L, own, mark⟩]⟩) KTq))))) else (bif decide ((0 : Int) ≥ g) then some (.ret, mk (xTq .ret) [.v (Bo true)] ⟨[], [], [.live ⟨53, [.num .i64, .num .i64], L, own, mark⟩]⟩) else (bif whyI (tV (fst2 L k) (snd2 L k) a u == a) (tD (fst2 L k) (snd2 L k) b v == b) (tG (fst2 L k) (snd2 L k) c w == c) != (0 : Int) then some (.ret, mk (xTq .ret) [.v (Bo false)] ⟨[], [], [.live ⟨53, [.num .i64, .num .i64], L, own, mark⟩]⟩) else (bif tV (fst2 L k) (snd2 L k) a u != (0 : Int) then some (.ret, mk (xTq .ret) [.v (Bo false)] ⟨[], [], [.live ⟨53, [.num .i64, .num .i64], L, own, mark⟩]⟩) else (bif tD (fst2 L k) (snd2 L k) b v != (0 : Int) then some (.ret, mk (xTq .ret) [.v (Bo false)] ⟨[], [], [.live ⟨53, [.num .i64, .num .i64], L, own, mark⟩]⟩) else (bif tG (fst2 L k) (snd2 L k) c w != (0 : Int) then some (.ret, mk (xTq .ret) [.v (Bo false)] ⟨[], [], [.live ⟨53, [.num .i64, .num .i64], L, own, mark⟩]⟩) else evLoop ΓTl Try.prog L0 (cutC 0 1 kTq) bdTq n (mk kTq [.v (I g), .ptr 0 0, .v (I 0), .row 0, .v (I (L.length : Int)), .v (I (wI (k + (1 : Int))))] ⟨[[.ptr 1 0, .ptr 2 0, .ptr 3 0], [.v (I a), .v (I (tV (fst2 L k) (snd2 L k) a u))], [.v (I b), .v (I (tD (fst2 L k) (snd2 L k) b v))], [.v (I c), .v (I (tG (fst2 L k) (snd2 L k) c w))]], [true, true, true, true], [.live ⟨53, [.num .i64, .num .i64], L, own, mark⟩]⟩) KTq))))))) else (bif decide ((fst2 L k) > (3 : Int)) then (bif decide ((snd2 L k) < (1 : Int)) then (bif decide (wI (s + (1 : Int)) ≥ g) then some (.ret, mk (xTq .ret) [.v (Bo true)] ⟨[], [], [.live ⟨53, [.num .i64, .num .i64], L, own, mark⟩]⟩) else (bif whyI (tV (fst2 L k) (snd2 L k) a u == a) (tD (fst2 L k) (snd2 L k) b v == b) (tG (fst2 L k) (snd2 L k) c w == c) != (0 : Int) then some (.ret, mk (xTq .ret) [.v (Bo false)] ⟨[], [], [.live ⟨53, [.num .i64, .num .i64], L, own, mark⟩]⟩) else (bif tV (fst2 L k) (snd2 L k) a u != (0 : Int) then some (.ret, mk (xTq .ret) [.v (Bo false)] ⟨[], [], [.live ⟨53, [.num .i64, .num .i64], L, own, mark⟩]⟩) else (bif tD (fst2 L k) (snd2 L k) b v != (0 : Int) then some (.ret, mk (xTq .ret) [.v (Bo false)] ⟨[], [], [.live ⟨53, [.num .i64, .num .i64], L, own, mark⟩]⟩) else (bif tG (fst2 L k) (snd2 L k) c w != wI (s + (1 : Int)) then some (.ret, mk (xTq .ret) [.v (Bo false)] ⟨[], [], [.live ⟨53, [.num .i64, .num .i64], L, own, mark⟩]⟩) else evLoop ΓTl Try.prog L0 (cutC 0 1 kTq) bdTq n (mk kTq [.v (I g), .ptr 0 0, .v (I (wI (s + (1 : Int)))), .row 0, .v (I (L.length : Int)), .v (I (wI (k + (1 : Int))))] ⟨[[.ptr 1 0, .ptr 2 0, .ptr 3 0], [.v (I a), .v (I (tV (fst2 L k) (snd2 L k) a u))], [.v (I b), .v (I (tD (fst2 L k) (snd2 L k) b v))], [.v (I c), .v (I (tG (fst2 L k) (snd2 L k) c w))]], [true, true, true, true], [.live ⟨53, [.num .i64, .num .i64], L, own, mark⟩]⟩) KTq))))) else (bif decide ((snd2 L k) > (3 : Int)) then (bif decide (wI (s + (1 : Int)) ≥ g) then some (.ret, mk (xTq .ret) [.v (Bo true)] ⟨[], [], [.live ⟨53, [.num .i64, .num .i64], L, own, mark⟩]⟩) else (bif whyI (tV (fst2 L k) (snd2 L k) a u == a) (tD (fst2 L k) (snd2 L k) b v == b) (tG (fst2 L k) (snd2 L k) c w == c) != (0 : Int) then some (.ret, mk (xTq .ret) [.v (Bo false)] ⟨[], [], [.live ⟨53, [.num .i64, .num .i64], L, own, mark⟩]⟩) else (bif tV (fst2 L k) (snd2 L k) a u != (0 : Int) then some (.ret, mk (xTq .ret) [.v (Bo false)] ⟨[], [], [.live ⟨53, [.num .i64, .num .i64], L, own, mark⟩]⟩) else (bif tD (fst2 L k) (snd2 L k) b v != (0 : Int) then some (.ret, mk (xTq .ret) [.v (Bo false)] ⟨[], [], [.live ⟨53, [.num .i64, .num .i64], L, own, mark⟩]⟩) else (bif tG (fst2 L k) (snd2 L k) c w != wI (s + (1 : Int)) then some (.ret, mk (xTq .ret) [.v (Bo false)] ⟨[], [], [.live ⟨53, [.num .i64, .num .i64], L, own, mark⟩]⟩) else evLoop ΓTl Try.prog L0 (cutC 0 1 kTq) bdTq n (mk kTq [.v (I g), .ptr 0 0, .v (I (wI (s + (1 : Int)))), .row 0, .v (I (L.length : Int)), .v (I (wI (k + (1 : Int))))] ⟨[[.ptr 1 0, .ptr 2 0, .ptr 3 0], [.v (I a), .v (I (tV (fst2 L k) (snd2 L k) a u))], [.v (I b), .v (I (tD (fst2 L k) (snd2 L k) b v))], [.v (I c), .v (I (tG (fst2 L k) (snd2 L k) c w))]], [true, true, true, true], [.live ⟨53, [.num .i64, .num .i64], L, own, mark⟩]⟩) KTq))))) else (bif decide ((0 : Int) ≥ g) then some (.ret, mk (xTq .ret) [.v (Bo true)] ⟨[], [], [.live ⟨53, [.num .i64, .num .i64], L, own, mark⟩]⟩) else (bif whyI (tV (fst2 L k) (snd2 L k) a u == a) (tD (fst2 L k) (snd2 L k) b v == b) (tG (fst2 L k) (snd2 L k) c w == c) != (0 : Int) then some (.ret, mk (xTq .ret) [.v (Bo false)] ⟨[], [], [.live ⟨53, [.num .i64, .num .i64], L, own, mark⟩]⟩) else (bif tV (fst2 L k) (snd2 L k) a u != (0 : Int) then some (.ret, mk (xTq .ret) [.v (Bo false)] ⟨[], [], [.live ⟨53, [.num .i64, .num .i64], L, own, mark⟩]⟩) else (bif tD (fst2 L k) (snd2 L k) b v != (0 : Int) then some (.ret, mk (xTq .ret) [.v (Bo false)] ⟨[], [], [.live ⟨53, [.num .i64, .num .i64], L, own, mark⟩]⟩) else (bif tG (fst2 L k) (snd2 L k) c w != (0 : Int) then some (.ret, mk (xTq .ret) [.v (Bo false)] ⟨[], [], [.live ⟨53, [.num .i64, .num .i64], L, own, mark⟩]⟩) else evLoop ΓTl Try.prog L0 (cutC 0 1 kTq) bdTq n (mk kTq [.v (I g), .ptr 0 0, .v (I 0), .row 0, .v (I (L.length : Int)), .v (I (wI (k + (1 : Int))))] ⟨[[.ptr 1 0, .ptr 2 0, .ptr 3 0], [.v (I a), .v (I (tV (fst2 L k) (snd2 L k) a u))], [.v (I b), .v (I (tD (fst2 L k) (snd2 L k) b v))], [.v (I c), .v (I (tG (fst2 L k) (snd2 L k) c w))]], [true, true, true, true], [.live ⟨53, [.num .i64, .num .i64], L, own, mark⟩]⟩) KTq))))))) else (bif decide ((0 : Int) ≥ g) then some (.ret, mk (xTq .ret) [.v (Bo true)] ⟨[], [], [.live ⟨53, [.num .i64, .num .i64], L, own, mark⟩]⟩) else (bif whyI (tV (fst2 L k) (snd2 L k) a u == a) (tD (fst2 L k) (snd2 L k) b v == b) (tG (fst2 L k) (snd2 L k) c w == c) != (0 : Int) then some (.ret, mk (xTq .ret) [.v (Bo false)] ⟨[], [], [.live ⟨53, [.num .i64, .num .i64], L, own, mark⟩]⟩) else (bif tV (fst2 L k) (snd2 L k) a u != (0 : Int) then some (.ret, mk (xTq .ret) [.v (Bo false)] ⟨[], [], [.live ⟨53, [.num .i64, .num .i64], L, own, mark⟩]⟩) else (bif tD (fst2 L k) (snd2 L k) b v != (0 : Int) then some (.ret, mk (xTq .ret) [.v (Bo false)] ⟨[], [], [.live ⟨53, [.num .i64, .num .i64], L, own, mark⟩]⟩) else (bif tG (fst2 L k) (snd2 L k) c w != (0 : Int) then some (.ret, mk (xTq .ret) [.v (Bo false)] ⟨[], [], [.live ⟨53, [.num .i64, .num .i64], L, own, mark⟩]⟩) else evLoop ΓTl Try.prog L0 (cutC 0 1 kTq) bdTq n (mk kTq [.v (I g), .ptr 0 0, .v (I 0), .row 0, .v (I (L.length : Int)), .v (I (wI (k + (1 : Int))))] ⟨[[.ptr 1 0, .ptr 2 0, .ptr 3 0], [.v (I a), .v (I (tV (fst2 L k) (snd2 L k) a u))], [.v (I b), .v (I (tD (fst2 L k) (snd2 L k) b v))], [.v (I c), .v (I (tG (fst2 L k) (snd2 L k) c w))]], [true, true, true, true], [.live ⟨53, [.num .i64, .num .i64], L, own, mark⟩]⟩) KTq))))))))) else none) else some ((.exit 0), mk (xTq (.exit 0)) [] ⟨[], [], [.live ⟨53, [.num .i64, .num .i64], L, own, mark⟩]⟩)) := by kernel_rfl
end Go.Proofs.Ytnelbjbphkfkkaa

namespace Go.Proofs.Ytnelbjbphkfkkaa
open Go Go.Proofs Go.Sx
set_option linter.unusedVariables false
theorem clamp0 {a : Int} (h : 0 ≤ a) : clampI 0 a = 0 := by
  unfold clampI
  rw [if_neg (show ¬ a < 0 by omega)]
  rfl
theorem clampIn {x a : Int} (h0 : 0 ≤ x) (h : x ≤ a) : clampI x a = x := by
  unfold clampI
  rw [if_neg (show ¬ a < x by omega)]
  split <;> omega
theorem addN1 {a v : Int} (h0 : 0 ≤ v) (h1 : v ≤ a) (h2 : a ≤ 1000000) : addN' a v 1 = if v < a then v + 1 else v := by
  unfold addN' clampI
  rw [wI_id (n := a - v) (by omega)]
  by_cases h : v < a
  · rw [if_neg (show ¬ a - v < 1 by omega), if_pos h, if_pos (by decide), wI_id (by omega)]
  · rw [if_pos (show a - v < 1 by omega), if_neg h, if_neg (show ¬ a - v > 0 by omega), wI_id (by omega)]
    omega
theorem t3 {p : Int} (h : p ≠ 3) : (p != 3) = true := bne_iff_ne.2 h
theorem tV0 {p q : Int} (h : p ≠ 3) (h' : q ≠ 3) : tV p q 1 0 = 0 := by
  unfold tV
  rw [t3 h, t3 h']
  cases hrd p || hrd q <;> rfl
theorem tD0 {p q : Int} (h : p ≠ 3) (h' : q ≠ 3) : tD p q 1 0 = 0 := by
  unfold tD
  rw [t3 h, t3 h']
  cases hrd p || hrd q <;> rfl
theorem tGn {p q g s : Int} (h : hrd p = false) (h' : hrd q = false) (h0 : 0 ≤ s) (h1 : s < g) (h2 : g ≤ 1000000) : tG p q g s = s + 1 := by
  unfold tG
  rw [h, h']
  show addN' g s 1 = s + 1
  rw [addN1 h0 (by omega) h2, if_pos h1]
theorem tGy {p q g s : Int} (h : (hrd p || hrd q) = true) (h1 : 0 ≤ g) : tG p q g s = 0 := by
  unfold tG
  rw [h]
  exact clamp0 h1
theorem why0 {g w : Int} (h : w ≠ g) : (whyI ((0 : Int) == 1) ((0 : Int) == 1) (w == g) != 0) = false := by
  rw [beq_eq_false_iff_ne.2 h]; rfl
theorem hrd_iff (p : Int) : hrd p = decide (1 ≤ p ∧ p ≤ 3) := by
  unfold hrd
  rw [Bool.eq_iff_iff]
  simp only [Bool.or_eq_true, beq_iff_eq, decide_eq_true_eq]
  omega
def HTq (g s k : Int) (L : List (List Dat)) (own mark : Bool) : St := mk kTq [.v (I g), .ptr 0 0, .v (I s), .row 0, .v (I (L.length : Int)), .v (I k)] (TMr 1 0 1 0 g s L own mark)
def RTq (b : Bool) (L : List (List Dat)) (own mark : Bool) : St := mk (xTq .ret) [.v (Bo b)] ⟨[], [], [r2 L own mark]⟩
def XTq (L : List (List Dat)) (own mark : Bool) : St := mk (xTq (.exit 0)) [] ⟨[], [], [r2 L own mark]⟩
/-- Was nothing heard? -/
def mute (p q : Int) : Bool := !hrd p && !hrd q
def stl (p q s : Int) : Int := bif mute p q then s + 1 else 0
noncomputable def ETq (n : Nat) (g s k : Int) (L : List (List Dat)) (own mark : Bool) : Option (Ex × St) := evLoop ΓTl Try.prog L0 (cutC 0 1 kTq) bdTq n (HTq g s k L own mark) KTq
theorem endTq (g s k : Int) (L : List (List Dat)) (own mark : Bool) (n : Nat) (hk : ¬ k < (L.length : Int)) : ETq (n + 1) g s k L own mark = some (.exit 0, XTq L own mark) := by
  refine (stepTq g s k 1 0 1 0 g s L own mark n).trans ?_
  rw [decide_eq_false hk]
  rfl
theorem cls (P : Int) : P = 3 ∨ (P ≠ 3 ∧ (P == 3) = false ∧ decide (P < 1) = true ∧ decide (P > 3) = false ∧ hrd P = false) ∨ (P ≠ 3 ∧ (P == 3) = false ∧ decide (P < 1) = false ∧ decide (P > 3) = true ∧ hrd P = false) ∨ (P ≠ 3 ∧ (P == 3) = false ∧ decide (P < 1) = false ∧ decide (P > 3) = false ∧ hrd P = true) := by
  rw [hrd_iff]
  simp only [beq_eq_false_iff_ne, decide_eq_true_eq, decide_eq_false_iff_not]
  omega
set_option maxHeartbeats 1000000 in
theorem rndTq (g s k : Int) (L : List (List Dat)) (own mark : Bool) (n : Nat) (hg : 1 ≤ g ∧ g ≤ 20) (hs : 0 ≤ s ∧ s < g) (hk : 0 ≤ k ∧ k < (L.length : Int)) (hk2 : k < 1000) : ETq (n + 1) g s k L own mark =
    bif mute (fst2 L k) (snd2 L k) && decide (s + 1 ≥ g) then some (.ret, RTq true L own mark) else ETq n g (stl (fst2 L k) (snd2 L k) s) (k + 1) L own mark := by
  refine (stepTq g s k 1 0 1 0 g s L own mark n).trans ?_
  have k1 : decide (k < (L.length : Int)) = true := decide_eq_true hk.2
  have k2 : decide (0 ≤ k) = true := decide_eq_true hk.1
  have g0 : decide (0 ≥ g) = false := decide_eq_false (by omega)
  have w1 : wI (k + 1) = k + 1 := wI_id (by omega)
  have w2 : wI (s + 1) = s + 1 := wI_id (by omega)
  have gg : clampI 0 g = 0 := clamp0 (by omega)
  have y0 := why0 (g := g) (w := 0) (by omega)
  have z0 : ((0 : Int) != 0) = false := rfl
  rw [k1, k2, g0, w1, w2]
  generalize fst2 L k = P
  generalize snd2 L k = Q
  have why1 : s + 1 < g → (whyI ((0 : Int) == 1) ((0 : Int) == 1) (s + 1 == g) != 0) = false := fun h => why0 (by omega)
  unfold stl mute
  rcases cls P with ⟨rfl⟩ | ⟨p3, e0, e1, e2, eh⟩ | ⟨p3, e0, e1, e2, eh⟩ | ⟨p3, e0, e1, e2, eh⟩ <;> rcases cls Q with ⟨rfl⟩ | ⟨q3, f0, f1, f2, fh⟩ | ⟨q3, f0, f1, f2, fh⟩ | ⟨q3, f0, f1, f2, fh⟩
  · simp only [beq_self_eq_true, cond_true, cond_false, Bool.and_self, tV0 (p := 2) (q := 2) (by decide) (by decide), tD0 (p := 2) (q := 2) (by decide) (by decide), tGy (p := 2) (q := 2) (g := g) (s := s) rfl (by omega), y0, z0]
    rfl
  iterate 3
    · simp only [beq_self_eq_true, f0, f1, f2, fh, cond_true, cond_false, Bool.and_self, tV0 (p := 2) (q := Q) (by decide) q3, tD0 (p := 2) (q := Q) (by decide) q3, tGy (p := 2) (q := Q) (g := g) (s := s) rfl (by omega), y0, z0]
      rfl
  iterate 3
    · simp only [beq_self_eq_true, e0, e1, e2, eh, cond_true, cond_false, Bool.and_self, tV0 (p := P) (q := 2) p3 (by decide), tD0 (p := P) (q := 2) p3 (by decide), tGy (p := P) (q := 2) (g := g) (s := s) (by rw [eh]; rfl) (by omega), y0, z0]
      try rfl
    iterate 3
      · simp only [e0, e1, e2, eh, f0, f1, f2, fh, cond_true, cond_false, Bool.and_self, Bool.not_false, Bool.not_true, Bool.and_false, Bool.false_and, Bool.true_and, tV0 (p := P) (q := Q) p3 q3, tD0 (p := P) (q := Q) p3 q3, z0]
        first
        | (have yy := tGy (p := P) (q := Q) (g := g) (s := s) (by rw [eh, fh]; rfl) (by omega)
           simp only [yy, y0, z0, cond_false]
           rfl)
        | (have yy := tGn (p := P) (q := Q) (g := g) (s := s) eh fh hs.1 hs.2 (by omega)
           by_cases hge : s + 1 ≥ g
           · simp only [hge, decide_true, cond_true]
             rfl
           · simp only [hge, decide_false, cond_false, yy, why1 (by omega), bne_self_eq_false]
             rfl)
def qt (L : List (List Dat)) (g : Int) : Nat → Int → Int → Bool
  | 0, _, _ => true
  | m + 1, k, s => bif mute (fst2 L k) (snd2 L k) && decide (s + 1 ≥ g) then false else qt L g m (k + 1) (stl (fst2 L k) (snd2 L k) s)
theorem qLoop {α : Type} (g : Int) (L : List (List Dat)) (hg : 1 ≤ g) (E : Nat → Int → Int → Option α) (X Y : Option α)
    (he : ∀ n s k, ¬ k < (L.length : Int) → E (n + 1) s k = X)
    (hr : ∀ n s k, 0 ≤ s ∧ s < g → 0 ≤ k ∧ k < (L.length : Int) → E (n + 1) s k = bif mute (fst2 L k) (snd2 L k) && decide (s + 1 ≥ g) then Y else E n (stl (fst2 L k) (snd2 L k) s) (k + 1)) : ∀ (m : Nat) (k s : Int), 0 ≤ k → k + m = L.length → 0 ≤ s ∧ s < g →
    E (m + 1) s k = bif qt L g m k s then X else Y := by
  intro m
  induction m with
  | zero =>
    intro k s h0 h1 hs
    exact he 0 s k (by omega)
  | succ m ih =>
    intro k s h0 h1 hs
    rw [hr (m + 1) s k hs (by omega)]
    show _ = bif (bif mute (fst2 L k) (snd2 L k) && decide (s + 1 ≥ g) then false else qt L g m (k + 1) (stl (fst2 L k) (snd2 L k) s)) then _ else _
    cases hb : mute (fst2 L k) (snd2 L k) && decide (s + 1 ≥ g)
    · refine ih (k + 1) _ (by omega) (by omega) ?_
      unfold stl
      cases hm : mute (fst2 L k) (snd2 L k)
      · exact ⟨Int.le_refl 0, by show (0 : Int) < g; omega⟩
      · rw [hm] at hb
        simp only [Bool.true_and, decide_eq_false_iff_not] at hb
        exact ⟨by show (0 : Int) ≤ s + 1; omega, by show s + 1 < g; omega⟩
    · rfl
theorem loopTq (g : Int) (L : List (List Dat)) (own mark : Bool) (hg : 1 ≤ g ∧ g ≤ 20) (hl : L.length ≤ 300) :
    ETq (L.length + 1) g 0 0 L own mark = bif qt L g L.length 0 0 then some (.exit 0, XTq L own mark) else some (.ret, RTq true L own mark) :=
  qLoop g L hg.1 (fun n s k => ETq n g s k L own mark) _ _ (fun n s k h => endTq g s k L own mark n h) (fun n s k h1 h2 => rndTq g s k L own mark n hg h1 h2 (by omega)) L.length 0 0 (by decide) (by omega) (by omega)
theorem loopsTq : loopsOf (Try.f13.body.getD .skip) = [bdTq] := by kernel_rfl
def GTq (fin : Bool) (vals : List SV) (m : Mem) : Option (Bool × Ex × St) :=
  match vals, m with
  | [.v (.int .i64 g), .ptr 0 0, .v (.int .i64 s), .row 0, .v (.int .i64 n), .v (.int .i64 k)], ⟨[[.ptr 1 0, .ptr 2 0, .ptr 3 0], [.v (.int .i64 a), .v (.int .i64 u)], [.v (.int .i64 b), .v (.int .i64 v)], [.v (.int .i64 c), .v (.int .i64 w)]], [true, true, true, true], [.live ⟨53, [.num .i64, .num .i64], L, own, mark⟩]⟩ =>
    bif fin then some ((a == 1 && (u == 0 && (b == 1 && (v == 0 && (w == 0 && (s == 0 && k == 0)))))) && (c == g && (decide (1 ≤ g ∧ g ≤ 20) && (n == (L.length : Int) && (Nat.ble L.length 300 && qt L g L.length 0 0)))), .exit 0, XTq L own mark)
    else some ((a == 1 && (u == 0 && (b == 1 && (v == 0 && (w == 0 && (s == 0 && k == 0)))))) && (c == g && (decide (1 ≤ g ∧ g ≤ 20) && (n == (L.length : Int) && (Nat.ble L.length 300 && !qt L g L.length 0 0)))), .ret, RTq true L own mark)
  | _, _ => none
noncomputable def ΛTq (fin : Bool) : LoopOrc := fun _ st => viaC 0 1 kTq (GTq fin) st
theorem loopOkTq (fin : Bool) (z : Base) (z1 : z.L.length = 0) (z2 : z.U.length = 1) : LoopOk (ΛTq fin) Try.prog z bdTq := by
  refine loop_okC (Λ := L0) (kx := xTq) OkTl mixed z1 z2 (fun b hb st e st' h => by cases h) (G := GTq fin) (fun _ => rfl) ?_
  intro vals m e st' h
  unfold GTq at h
  split at h
  · rename_i g s n k a u b v c w L own mark
    cases fin
    · simp only [cond_false] at h
      obtain ⟨h1, rfl, rfl⟩ := some_t2 h
      simp only [Bool.and_eq_true, beq_iff_eq, decide_eq_true_eq, Bool.not_eq_true'] at h1
      obtain ⟨⟨rfl, rfl, rfl, rfl, rfl, rfl, rfl⟩, rfl, hg, rfl, hl, hq⟩ := h1
      have := loopTq c L own mark hg (Nat.le_of_ble_eq_true hl)
      rw [hq] at this
      exact ⟨L.length + 1, this⟩
    · simp only [cond_true] at h
      obtain ⟨h1, rfl, rfl⟩ := some_t2 h
      simp only [Bool.and_eq_true, beq_iff_eq, decide_eq_true_eq] at h1
      obtain ⟨⟨rfl, rfl, rfl, rfl, rfl, rfl, rfl⟩, rfl, hg, rfl, hl, hq⟩ := h1
      have := loopTq c L own mark hg (Nat.le_of_ble_eq_true hl)
      rw [hq] at this
      exact ⟨L.length + 1, this⟩
  · cases h
end Go.Proofs.Ytnelbjbphkfkkaa

namespace Go.Proofs.Ytnelbjbphkfkkaa
open Go Go.Proofs Go.Sx
set_option linter.unusedVariables false
/-! norm -/
/-! cast -/
/-! rep ((L.getD k.toNat []).headD (Dat.n (0 : Int))).toI => (fst2 L k) -/
/-! rep ((L.getD k.toNat []).tail.headD (Dat.n (0 : Int))).toI => (snd2 L k) -/
set_option maxRecDepth 20000 in
theorem treeQuietT (g : Int) (L : List (List Dat)) (own mark : Bool) : runG ΓTl (ΛTq true) Try.prog Try.f13 [.v (I g), .row 0] ⟨[], [], [r2 L own mark]⟩ = 
    (bif decide ((L.length : Int) > (300 : Int)) then some (.v (Bo true), ⟨[], [], [.live ⟨53, [.num .i64, .num .i64], L, own, mark⟩]⟩) else (bif newB (1 : Int) (1 : Int) (wI ((1 : Int) + wI ((IntKind.u64.wrap g).tmod (20 : Int)))) then (bif true && (clampI (wI ((1 : Int) + wI ((IntKind.u64.wrap g).tmod (20 : Int)))) (1000000 : Int) == wI ((1 : Int) + wI ((IntKind.u64.wrap g).tmod (20 : Int))) && (decide ((1 : Int) ≤ wI ((1 : Int) + wI ((IntKind.u64.wrap g).tmod (20 : Int))) ∧ wI ((1 : Int) + wI ((IntKind.u64.wrap g).tmod (20 : Int))) ≤ (20 : Int)) && ((L.length : Int) == (L.length : Int) && (L.length.ble (300) && qt L (wI ((1 : Int) + wI ((IntKind.u64.wrap g).tmod (20 : Int)))) L.length (0 : Int) (0 : Int))))) then some (.v (Bo true), ⟨[], [], [.live ⟨53, [.num .i64, .num .i64], L, own, mark⟩]⟩) else none) else none)) := by kernel_rfl
set_option maxRecDepth 20000 in
theorem treeQuietF (g : Int) (L : List (List Dat)) (own mark : Bool) : runG ΓTl (ΛTq false) Try.prog Try.f13 [.v (I g), .row 0] ⟨[], [], [r2 L own mark]⟩ = 
    (bif decide ((L.length : Int) > (300 : Int)) then some (.v (Bo true), ⟨[], [], [.live ⟨53, [.num .i64, .num .i64], L, own, mark⟩]⟩) else (bif newB (1 : Int) (1 : Int) (wI ((1 : Int) + wI ((IntKind.u64.wrap g).tmod (20 : Int)))) then (bif true && (clampI (wI ((1 : Int) + wI ((IntKind.u64.wrap g).tmod (20 : Int)))) (1000000 : Int) == wI ((1 : Int) + wI ((IntKind.u64.wrap g).tmod (20 : Int))) && (decide ((1 : Int) ≤ wI ((1 : Int) + wI ((IntKind.u64.wrap g).tmod (20 : Int))) ∧ wI ((1 : Int) + wI ((IntKind.u64.wrap g).tmod (20 : Int))) ≤ (20 : Int)) && ((L.length : Int) == (L.length : Int) && (L.length.ble (300) && !qt L (wI ((1 : Int) + wI ((IntKind.u64.wrap g).tmod (20 : Int)))) L.length (0 : Int) (0 : Int))))) then some (.v (Bo true), ⟨[], [], [.live ⟨53, [.num .i64, .num .i64], L, own, mark⟩]⟩) else none) else none)) := by kernel_rfl
/-! Sides. -/
noncomputable def bdTs : Code := loopAt (Try.f14.body.getD .skip) 0
def TMs (a b c u v w u1 v1 w1 u2 v2 w2 : Int) (L : List (List Dat)) (own mark : Bool) : Mem := ⟨[[.ptr 3 0, .ptr 4 0, .ptr 5 0], [.ptr 6 0, .ptr 7 0, .ptr 8 0], [.ptr 9 0, .ptr 10 0, .ptr 11 0], [.v (I a), .v (I u)], [.v (I b), .v (I v)], [.v (I c), .v (I w)], [.v (I a), .v (I u1)], [.v (I b), .v (I v1)], [.v (I c), .v (I w1)], [.v (I a), .v (I u2)], [.v (I b), .v (I v2)], [.v (I c), .v (I w2)]], [true, true, true, true, true, true, true, true, true, true, true, true], [r2 L own mark]⟩
def kTs : List Bool := maskOf 161 [4, 11, 12, 13, 71, 72, 73]
def xTs (e : Ex) : List Bool := match e with
  | .exit _ => maskOf 161 []
  | .ret => maskOf 161 [10]
  | .normal => maskOf 161 [4, 11, 12, 13, 71, 72, 73]
def KTs (e : Ex) (st : St) : Option (Ex × St) := some (e, cutC 0 1 (xTs e) st)
set_option maxRecDepth 20000 in
theorem stepTs (cut k a b c u v w u1 v1 w1 u2 v2 w2 : Int) (L : List (List Dat)) (own mark : Bool) (n : Nat) : evLoop ΓTl Try.prog L0 (cutC 0 1 kTs) bdTs (n + 1) (mk kTs [.v (I cut), .ptr 0 0, .ptr 1 0, .ptr 2 0, .row 0, .v (I (L.length : Int)), .v (I k)] (TMs a b c u v w u1 v1 w1 u2 v2 w2 L own mark)) KTs =
    (bif decide (k < (L.length : Int)) then (bif decide ((0 : Int) ≤ k) && decide (k < (L.length : Int)) then (bif k == cut then (bif decide (k ≥ cut) then (bif tV (fst2 L k) (snd2 L k) a u != tV (snd2 L k) (fst2 L k) a u1 then some (.ret, mk (xTs .ret) [.v (Bo false)] ⟨[], [], [.live ⟨53, [.num .i64, .num .i64], L, own, mark⟩]⟩) else (bif tD (fst2 L k) (snd2 L k) b v != tD (snd2 L k) (fst2 L k) b v1 then some (.ret, mk (xTs .ret) [.v (Bo false)] ⟨[], [], [.live ⟨53, [.num .i64, .num .i64], L, own, mark⟩]⟩) else (bif tG (fst2 L k) (snd2 L k) c w != tG (snd2 L k) (fst2 L k) c w1 then some (.ret, mk (xTs .ret) [.v (Bo false)] ⟨[], [], [.live ⟨53, [.num .i64, .num .i64], L, own, mark⟩]⟩) else (bif decide (k ≥ cut) then (bif tV (fst2 L k) (snd2 L k) a u != tV (fst2 L k) (snd2 L k) a (clampI u a) then some (.ret, mk (xTs .ret) [.v (Bo false)] ⟨[], [], [.live ⟨53, [.num .i64, .num .i64], L, own, mark⟩]⟩) else (bif tD (fst2 L k) (snd2 L k) b v != tD (fst2 L k) (snd2 L k) b (clampI v b) then some (.ret, mk (xTs .ret) [.v (Bo false)] ⟨[], [], [.live ⟨53, [.num .i64, .num .i64], L, own, mark⟩]⟩) else (bif tG (fst2 L k) (snd2 L k) c w != tG (fst2 L k) (snd2 L k) c (clampI w c) then some (.ret, mk (xTs .ret) [.v (Bo false)] ⟨[], [], [.live ⟨53, [.num .i64, .num .i64], L, own, mark⟩]⟩) else evLoop ΓTl Try.prog L0 (cutC 0 1 kTs) bdTs n (mk kTs [.v (I cut), .ptr 0 0, .ptr 1 0, .ptr 2 0, .row 0, .v (I (L.length : Int)), .v (I (wI (k + (1 : Int))))] ⟨[[.ptr 3 0, .ptr 4 0, .ptr 5 0], [.ptr 6 0, .ptr 7 0, .ptr 8 0], [.ptr 9 0, .ptr 10 0, .ptr 11 0], [.v (I a), .v (I (tV (fst2 L k) (snd2 L k) a u))], [.v (I b), .v (I (tD (fst2 L k) (snd2 L k) b v))], [.v (I c), .v (I (tG (fst2 L k) (snd2 L k) c w))], [.v (I a), .v (I (tV (snd2 L k) (fst2 L k) a u1))], [.v (I b), .v (I (tD (snd2 L k) (fst2 L k) b v1))], [.v (I c), .v (I (tG (snd2 L k) (fst2 L k) c w1))], [.v (I a), .v (I (tV (fst2 L k) (snd2 L k) a (clampI u a)))], [.v (I b), .v (I (tD (fst2 L k) (snd2 L k) b (clampI v b)))], [.v (I c), .v (I (tG (fst2 L k) (snd2 L k) c (clampI w c)))]], [true, true, true, true, true, true, true, true, true, true, true, true], [.live ⟨53, [.num .i64, .num .i64], L, own, mark⟩]⟩) KTs))) else evLoop ΓTl Try.prog L0 (cutC 0 1 kTs) bdTs n (mk kTs [.v (I cut), .ptr 0 0, .ptr 1 0, .ptr 2 0, .row 0, .v (I (L.length : Int)), .v (I (wI (k + (1 : Int))))] ⟨[[.ptr 3 0, .ptr 4 0, .ptr 5 0], [.ptr 6 0, .ptr 7 0, .ptr 8 0], [.ptr 9 0, .ptr 10 0, .ptr 11 0], [.v (I a), .v (I (tV (fst2 L k) (snd2 L k) a u))], [.v (I b), .v (I (tD (fst2 L k) (snd2 L k) b v))], [.v (I c), .v (I (tG (fst2 L k) (snd2 L k) c w))], [.v (I a), .v (I (tV (snd2 L k) (fst2 L k) a u1))], [.v (I b), .v (I (tD (snd2 L k) (fst2 L k) b v1))], [.v (I c), .v (I (tG (snd2 L k) (fst2 L k) c w1))], [.v (I a), .v (I (tV (fst2 L k) (snd2 L k) a (clampI u a)))], [.v (I b), .v (I (tD (fst2 L k) (snd2 L k) b (clampI v b)))], [.v (I c), .v (I (tG (fst2 L k) (snd2 L k) c (clampI w c)))]], [true, true, true, true, true, true, true, true, true, true, true, true], [.live ⟨53, [.num .i64, .num .i64], L, own, mark⟩]⟩) KTs)))) else (bif tV (fst2 L k) (snd2 L k) a u != tV (snd2 L k) (fst2 L k) a u1 then some (.ret, mk (xTs .ret) [.v (Bo false)] ⟨[], [], [.live ⟨53, [.num .i64, .num .i64], L, own, mark⟩]⟩) else (bif tD (fst2 L k) (snd2 L k) b v != tD (snd2 L k) (fst2 L k) b v1 then some (.ret, mk (xTs .ret) [.v (Bo false)] ⟨[], [], [.live ⟨53, [.num .i64, .num .i64], L, own, mark⟩]⟩) else (bif tG (fst2 L k) (snd2 L k) c w != tG (snd2 L k) (fst2 L k) c w1 then some (.ret, mk (xTs .ret) [.v (Bo false)] ⟨[], [], [.live ⟨53, [.num .i64, .num .i64], L, own, mark⟩]⟩) else (bif decide (k ≥ cut) then (bif tV (fst2 L k) (snd2 L k) a u != clampI u a then some (.ret, mk (xTs .ret) [.v (Bo false)] ⟨[], [], [.live ⟨53, [.num .i64, .num .i64], L, own, mark⟩]⟩) else (bif tD (fst2 L k) (snd2 L k) b v != clampI v b then some (.ret, mk (xTs .ret) [.v (Bo false)] ⟨[], [], [.live ⟨53, [.num .i64, .num .i64], L, own, mark⟩]⟩) else (bif tG (fst2 L k) (snd2 L k) c w != clampI w c then some (.ret, mk (xTs .ret) [.v (Bo false)] ⟨[], [], [.live ⟨53, [.num .i64, .num .i64], L, own, mark⟩]⟩) else evLoop ΓTl Try.prog L0 (cutC 0 1 kTs) bdTs n (mk kTs [.v (I cut), .ptr 0 0, .ptr 1 0, .ptr 2 0, .row 0, .v (I (L.length : Int)), .v (I (wI (k + (1 : Int))))] ⟨[[.ptr 3 0, .ptr 4 0, .ptr 5 0], [.ptr 6 0, .ptr 7 0, .ptr 8 0], [.ptr 9 0, .ptr 10 0, .ptr 11 0], [.v (I a), .v (I (tV (fst2 L k) (snd2 L k) a u))], [.v (I b), .v (I (tD (fst2 L k) (snd2 L k) b v))], [.v (I c), .v (I (tG (fst2 L k) (snd2 L k) c w))], [.v (I a), .v (I (tV (snd2 L k) (fst2 L k) a u1))], [.v (I b), .v (I (tD (snd2 L k) (fst2 L k) b v1))], [.v (I c), .v (I (tG (snd2 L k) (fst2 L k) c w1))], [.v (I a), .v (I (clampI u a))], [.v (I b), .v (I (clampI v b))], [.v (I c), .v (I (clampI w c))]], [true, true, true, true, true, true, true, true, true, true, true, true], [.live ⟨53, [.num .i64, .num .i64], L, own, mark⟩]⟩) KTs))) else evLoop ΓTl Try.prog L0 (cutC 0 1 kTs) bdTs n (mk kTs [.v (I cut), .ptr 0 0, .ptr 1 0, .ptr 2 0, .row 0, .v (I (L.length : Int)), .v (I (wI (k + (1 : Int))))] ⟨[[.ptr 3 0, .ptr 4 0, .ptr 5 0], [.ptr 6 0, .ptr 7 0, .ptr 8 0], [.ptr 9 0, .ptr 10 0, .ptr 11 0], [.v (I a), .v (I (tV (fst2 L k) (snd2 L k) a u))], [.v (I b), .v (I (tD (fst2 L k) (snd2 L k) b v))], [.v (I c), .v (I (tG (fst2 L k) (snd2 L k) c w))], [.v (I a), .v (I (tV (snd2 L k) (fst2 L k) a u1))], [.v (I b), .v (I (tD (snd2 L k) (fst2 L k) b v1))], [.v (I c), .v (I (tG (snd2 L k) (fst2 L k) c w1))], [.v (I a), .v (I (clampI u a))], [.v (I b), .v (I (clampI v b))], [.v (I c), .v (I (clampI w c))]], [true, true, true, true, true, true, true, true, true, true, true, true], [.live ⟨53, [.num .i64, .num .i64], L, own, mark⟩]⟩) KTs))))) else (bif decide (k ≥ cut) then (bif tV (fst2 L k) (snd2 L k) a u != tV (snd2 L k) (fst2 L k) a u1 then some (.ret, mk (xTs .ret) [.v (Bo false)] ⟨[], [], [.live ⟨53, [.num .i64, .num .i64], L, own, mark⟩]⟩) else (bif tD (fst2 L k) (snd2 L k) b v != tD (snd2 L k) (fst2 L k) b v1 then some (.ret, mk (xTs .ret) [.v (Bo false)] ⟨[], [], [.live ⟨53, [.num .i64, .num .i64], L, own, mark⟩]⟩) else (bif tG (fst2 L k) (snd2 L k) c w != tG (snd2 L k) (fst2 L k) c w1 then some (.ret, mk (xTs .ret) [.v (Bo false)] ⟨[], [], [.live ⟨53, [.num .i64, .num .i64], L, own, mark⟩]⟩) else (bif decide (k ≥ cut) then (bif tV (fst2 L k) (snd2 L k) a u != tV (fst2 L k) (snd2 L k) a u2 then some (.ret, mk (xTs .ret) [.v (Bo false)] ⟨[], [], [.live ⟨53, [.num .i64, .num .i64], L, own, mark⟩]⟩) else (bif tD (fst2 L k) (snd2 L k) b v != tD (fst2 L k) (snd2 L k) b v2 then some (.ret, mk (xTs .ret) [.v (Bo false)] ⟨[], [], [.live ⟨53, [.num .i64, .num .i64], L, own, mark⟩]⟩) else (bif tG (fst2 L k) (snd2 L k) c w != tG (fst2 L k) (snd2 L k) c w2 then some (.ret, mk (xTs .ret) [.v (Bo false)] ⟨[], [], [.live ⟨53, [.num .i64, .num .i64], L, own, mark⟩]⟩) else evLoop ΓTl Try.prog L0 (cutC 0 1 kTs) bdTs n (mk kTs [.v (I cut), .ptr 0 0, .ptr 1 0, .ptr 2 0, .row 0, .v (I (L.length : Int)), .v (I (wI (k + (1 : Int))))] ⟨[[.ptr 3 0, .ptr 4 0, .ptr 5 0], [.ptr 6 0, .ptr 7 0, .ptr 8 0], [.ptr 9 0, .ptr 10 0, .ptr 11 0], [.v (I a), .v (I (tV (fst2 L k) (snd2 L k) a u))], [.v (I b), .v (I (tD (fst2 L k) (snd2 L k) b v))], [.v (I c), .v (I (tG (fst2 L k) (snd2 L k) c w))], [.v (I a), .v (I (tV (snd2 L k) (fst2 L k) a u1))], [.v (I b), .v (I (tD (snd2 L k) (fst2 L k) b v1))], [.v (I c), .v (I (tG (snd2 L k) (fst2 L k) c w1))], [.v (I a), .v (I (tV (fst2 L k) (snd2 L k) a u2))], [.v (I b), .v (I (tD (fst2 L k) (snd2 L k) b v2))], [.v (I c), .v (I (tG (fst2 L k) (snd2 L k) c w2))]], [true, true, true, true, true, true, true, true, true, true, true, true], [.live ⟨53, [.num .i64, .num .i64], L, own, mark⟩]⟩) KTs))) else evLoop ΓTl Try.prog L0 (cutC 0 1 kTs) bdTs n (mk kTs [.v (I cut), .ptr 0 0, .ptr 1 0, .ptr 2 0, .row 0, .v (I (L.length : Int)), .v (I (wI (k + (1 : Int))))] ⟨[[.ptr 3 0, .ptr 4 0, .ptr 5 0], [.ptr 6 0, .ptr 7 0, .ptr 8 0], [.ptr 9 0, .ptr 10 0, .ptr 11 0], [.v (I a), .v (I (tV (fst2 L k) (snd2 L k) a u))], [.v (I b), .v (I (tD (fst2 L k) (snd2 L k) b v))], [.v (I c), .v (I (tG (fst2 L k) (snd2 L k) c w))], [.v (I a), .v (I (tV (snd2 L k) (fst2 L k) a u1))], [.v (I b), .v (I (tD (snd2 L k) (fst2 L k) b v1))], [.v (I c), .v (I (tG (snd2 L k) (fst2 L k) c w1))], [.v (I a), .v (I (tV (fst2 L k) (snd2 L k) a u2))], [.v (I b), .v (I (tD (fst2 L k) (snd2 L k) b v2))], [.v (I c), .v (I (tG (fst2 L k) (snd2 L k) c w2))]], [true, true, true, true, true, true, true, true, true, true, true, true], [.live ⟨53, [.num .i64, .num .i64], L, own, mark⟩]⟩) KTs)))) else (bif tV (fst2 L k) (snd2 L k) a u != tV (snd2 L k) (fst2 L k) a u1 then some (.ret, mk (xTs .ret) [.v (Bo false)] ⟨[], [], [.live ⟨53, [.num .i64, .num .i64], L, own, mark⟩]⟩) else (bif tD (fst2 L k) (snd2 L k) b v != tD (snd2 L k) (fst2 L k) b v1 then some (.ret, mk (xTs .ret) [.v (Bo false)] ⟨[], [], [.live ⟨53, [.num .i64, .num .i64], L, own, mark⟩]⟩) else (bif tG (fst2 L k) (snd2 L k) c w != tG (snd2 L k) (fst2 L k) c w1 then some (.ret, mk (xTs .ret) [.v (Bo false)] ⟨[], [], [.live ⟨53, [.num .i64, .num .i64], L, own, mark⟩]⟩) else (bif decide (k ≥ cut) then (bif tV (fst2 L k) (snd2 L k) a u != u2 then some (.ret, mk (xTs .ret) [.v (Bo false)] ⟨[], [], [.live ⟨53, [.num .i64, .num .i64], L, own, mark⟩]⟩) else (bif tD (fst2 L k) (snd2 L k) b v != v2 then some (.ret, mk (xTs .ret) [.v (Bo false)] ⟨[], [], [.live ⟨53, [.num .i64, .num .i64], L, own, mark⟩]⟩) else (bif tG (fst2 L k) (snd2 L k) c w != w2 then some (.ret, mk (xTs .ret) [.v (Bo false)] ⟨[], [], [.live ⟨53, [.num .i64, .num .i64], L, own, mark⟩]⟩) else evLoop ΓTl Try.prog L0 (cutC 0 1 kTs) bdTs n (mk kTs [.v (I cut), .ptr 0 0, .ptr 1 0, .ptr 2 0, .row 0, .v (I (L.length : Int)), .v (I (wI (k + (1 : Int))))] ⟨[[.ptr 3 0, .ptr 4 0, .ptr 5 0], [.ptr 6 0, .ptr 7 0, .ptr 8 0], [.ptr 9 0, .ptr 10 0, .ptr 11 0], [.v (I a), .v (I (tV (fst2 L k) (snd2 L k) a u))], [.v (I b), .v (I (tD (fst2 L k) (snd2 L k) b v))], [.v (I c), .v (I (tG (fst2 L k) (snd2 L k) c w))], [.v (I a), .v (I (tV (snd2 L k) (fst2 L k) a u1))], [.v (I b), .v (I (tD (snd2 L k) (fst2 L k) b v1))], [.v (I c), .v (I (tG (snd2 L k) (fst2 L k) c w1))], [.v (I a), .v (I u2)], [.v (I b), .v (I v2)], [.v (I c), .v (I w2)]], [true, true, true, true, true, true, true, true, true, true, true, true], [.live ⟨53, [.num .i64, .num .i64], L, own, mark⟩]⟩) KTs))) else evLoop ΓTl Try.prog L0 (cutC 0 1 kTs) bdTs n (mk kTs [.v (I cut), .ptr 0 0, .ptr 1 0, .ptr 2 0, .row 0, .v (I (L.length : Int)), .v (I (wI (k + (1 : Int))))] ⟨[[.ptr 3 0, .ptr 4 0, .ptr 5 0], [.ptr 6 0, .ptr 7 0, .ptr 8 0], [.ptr 9 0, .ptr 10 0, .ptr 11 0], [.v (I a), .v (I (tV (fst2 L k) (snd2 L k) a u))], [.v (I b), .v (I (tD (fst2 L k) (snd2 L k) b v))], [.v (I c), .v (I (tG (fst2 L k) (snd2 L k) c w))], [.v (I a), .v (I (tV (snd2 L k) (fst2 L k) a u1))], [.v (I b), .v (I (tD (snd2 L k) (fst2 L k) b v1))], [.v (I c), .v (I (tG (snd2 L k) (fst2 L k) c w1))], [.v (I a), .v (I u2)], [.v (I b), .v (I v2)], [.v (I c), .v (I w2)]], [true, true, true, true, true, true, true, true, true, true, true, true], [.live ⟨53, [.num .i64, .num .i64], L, own, mark⟩]⟩) KTs)))))) else none) else some ((.exit 0), mk (xTs (.exit 0)) [] ⟨[], [], [.live ⟨53, [.num .i64, .num .i64], L, own, mark⟩]⟩)) := by kernel_rfl
end Go.Proofs.Ytnelbjbphkfkkaa

namespace Go.Proofs.Ytnelbjbphkfkkaa
open Go Go.Proofs Go.Sx
set_option linter.unusedVariables false
theorem hrd_comm (p q : Int) : (hrd p || hrd q) = (hrd q || hrd p) := Bool.or_comm _ _
theorem bne_comm3 (p q : Int) : (hrd p && (hrd q && p != q)) = (hrd q && (hrd p && q != p)) := by
  rw [show (p != q) = (q != p) from by rw [Bool.eq_iff_iff, bne_iff_ne, bne_iff_ne]; exact ⟨Ne.symm, Ne.symm⟩]
  cases hrd p <;> cases hrd q <;> rfl
theorem tV_comm (p q a u : Int) : tV q p a u = tV p q a u := by
  unfold tV
  rw [hrd_comm q p, Bool.and_comm (q != 3), bne_comm3 q p]
theorem tD_comm (p q b v : Int) : tD q p b v = tD p q b v := by
  unfold tD
  rw [hrd_comm q p, Bool.and_comm (q != 3), bne_comm3 q p]
theorem tG_comm (p q c w : Int) : tG q p c w = tG p q c w := by
  unfold tG
  rw [hrd_comm q p]
theorem addN_in {a v : Int} (h : 0 ≤ v ∧ v ≤ a) (h2 : a ≤ 1000000) : 0 ≤ addN' a v 1 ∧ addN' a v 1 ≤ a := by
  rw [addN1 h.1 h.2 h2]
  split <;> omega
theorem tV_in {p q a u : Int} (h : 0 ≤ u ∧ u ≤ a) (h2 : a ≤ 1000000) : 0 ≤ tV p q a u ∧ tV p q a u ≤ a := by
  unfold tV
  have c0 : clampI 0 a = 0 := clamp0 (by omega)
  have := addN_in h h2
  rw [c0]
  cases hrd p || hrd q <;> cases p != 3 && q != 3 <;> cases hrd p && (hrd q && p != q) <;> simp only [cond_true, cond_false] <;> omega
theorem tD_in {p q a u : Int} (h : 0 ≤ u ∧ u ≤ a) (h2 : a ≤ 1000000) : 0 ≤ tD p q a u ∧ tD p q a u ≤ a := by
  unfold tD
  have c0 : clampI 0 a = 0 := clamp0 (by omega)
  have := addN_in h h2
  rw [c0]
  cases hrd p || hrd q <;> cases p != 3 && q != 3 <;> cases hrd p && (hrd q && p != q) <;> simp only [cond_true, cond_false] <;> omega
theorem tG_in {p q a u : Int} (h : 0 ≤ u ∧ u ≤ a) (h2 : a ≤ 1000000) : 0 ≤ tG p q a u ∧ tG p q a u ≤ a := by
  unfold tG
  have c0 : clampI 0 a = 0 := clamp0 (by omega)
  have := addN_in h h2
  rw [c0]
  cases hrd p || hrd q <;> simp only [cond_true, cond_false] <;> omega
noncomputable def ETs (cut a b c : Int) (L : List (List Dat)) (own mark : Bool) (n : Nat) (k u v w u2 v2 w2 : Int) : Option (Ex × St) :=
  evLoop ΓTl Try.prog L0 (cutC 0 1 kTs) bdTs n (mk kTs [.v (I cut), .ptr 0 0, .ptr 1 0, .ptr 2 0, .row 0, .v (I (L.length : Int)), .v (I k)] (TMs a b c u v w u v w u2 v2 w2 L own mark)) KTs
def XTs (L : List (List Dat)) (own mark : Bool) : St := mk (xTs (.exit 0)) [] ⟨[], [], [r2 L own mark]⟩
/-- Counts that may be, and behind the cut the third ones are the first. -/
structure Cn (cut a b c k u v w u2 v2 w2 : Int) : Prop where
  hu : 0 ≤ u ∧ u ≤ a
  hv : 0 ≤ v ∧ v ≤ b
  hw : 0 ≤ w ∧ w ≤ c
  hs : cut < k → u2 = u ∧ v2 = v ∧ w2 = w
theorem endTs (cut a b c k u v w u2 v2 w2 : Int) (L : List (List Dat)) (own mark : Bool) (n : Nat) (hk : ¬ k < (L.length : Int)) : ETs cut a b c L own mark (n + 1) k u v w u2 v2 w2 = some (.exit 0, XTs L own mark) := by
  refine (stepTs cut k a b c u v w u v w u2 v2 w2 L own mark n).trans ?_
  rw [decide_eq_false hk]
  rfl
theorem rndTs (cut a b c k u v w u2 v2 w2 : Int) (L : List (List Dat)) (own mark : Bool) (n : Nat) (h : Cn cut a b c k u v w u2 v2 w2) (hk : 0 ≤ k ∧ k < (L.length : Int)) (hk2 : k < 1000) :
    ETs cut a b c L own mark (n + 1) k u v w u2 v2 w2 = ETs cut a b c L own mark n (k + 1) (tV (fst2 L k) (snd2 L k) a u) (tD (fst2 L k) (snd2 L k) b v) (tG (fst2 L k) (snd2 L k) c w)
      (bif decide (k ≥ cut) then tV (fst2 L k) (snd2 L k) a u else u2) (bif decide (k ≥ cut) then tD (fst2 L k) (snd2 L k) b v else v2) (bif decide (k ≥ cut) then tG (fst2 L k) (snd2 L k) c w else w2) := by
  refine (stepTs cut k a b c u v w u v w u2 v2 w2 L own mark n).trans ?_
  generalize fst2 L k = P
  generalize snd2 L k = Q
  rw [tV_comm P Q, tD_comm P Q, tG_comm P Q, decide_eq_true hk.1, decide_eq_true hk.2, wI_id (n := k + 1) (by omega), clampIn h.hu.1 h.hu.2, clampIn h.hv.1 h.hv.2, clampIn h.hw.1 h.hw.2]
  by_cases h1 : k = cut
  · subst h1
    simp only [beq_self_eq_true, bne_self_eq_false, cond_true, cond_false, Bool.and_self, decide_eq_true (show k ≥ k from Int.le_refl k)]
    rfl
  · rw [beq_eq_false_iff_ne.2 h1]
    by_cases h2 : k ≥ cut
    · obtain ⟨rfl, rfl, rfl⟩ := h.hs (by omega)
      rw [decide_eq_true h2]
      simp only [bne_self_eq_false, cond_true, cond_false, Bool.and_self]
      rfl
    · rw [decide_eq_false h2]
      simp only [bne_self_eq_false, cond_true, cond_false, Bool.and_self]
      rfl
theorem sLoop {α : Type} (cut a b c : Int) (L : List (List Dat)) (ha : a ≤ 1000000) (hb : b ≤ 1000000) (hc : c ≤ 1000000) (E : Nat → Int → Int → Int → Int → Int → Int → Int → Option α) (X : Option α)
    (he : ∀ n k u v w u2 v2 w2, ¬ k < (L.length : Int) → E (n + 1) k u v w u2 v2 w2 = X)
    (hr : ∀ n k u v w u2 v2 w2, Cn cut a b c k u v w u2 v2 w2 → 0 ≤ k ∧ k < (L.length : Int) → E (n + 1) k u v w u2 v2 w2 = E n (k + 1) (tV (fst2 L k) (snd2 L k) a u) (tD (fst2 L k) (snd2 L k) b v) (tG (fst2 L k) (snd2 L k) c w)
      (bif decide (k ≥ cut) then tV (fst2 L k) (snd2 L k) a u else u2) (bif decide (k ≥ cut) then tD (fst2 L k) (snd2 L k) b v else v2) (bif decide (k ≥ cut) then tG (fst2 L k) (snd2 L k) c w else w2)) :
    ∀ (m : Nat) (k u v w u2 v2 w2 : Int), 0 ≤ k → k + m = L.length → Cn cut a b c k u v w u2 v2 w2 → E (m + 1) k u v w u2 v2 w2 = X := by
  intro m
  induction m with
  | zero =>
    intro k u v w u2 v2 w2 h0 h1 h
    exact he 0 k u v w u2 v2 w2 (by omega)
  | succ m ih =>
    intro k u v w u2 v2 w2 h0 h1 h
    rw [hr (m + 1) k u v w u2 v2 w2 h (by omega)]
    refine ih _ _ _ _ _ _ _ (by omega) (by omega) ⟨tV_in h.hu ha, tD_in h.hv hb, tG_in h.hw hc, fun hlt => ?_⟩
    rw [decide_eq_true (show k ≥ cut by omega)]
    exact ⟨rfl, rfl, rfl⟩
theorem loopTs (cut a b c : Int) (L : List (List Dat)) (own mark : Bool) (ha : 0 ≤ a ∧ a ≤ 1000000) (hb : 0 ≤ b ∧ b ≤ 1000000) (hc : 0 ≤ c ∧ c ≤ 1000000) (h0 : 0 ≤ cut) (hl : L.length ≤ 300) :
    ETs cut a b c L own mark (L.length + 1) 0 0 0 0 0 0 0 = some (.exit 0, XTs L own mark) :=
  sLoop cut a b c L ha.2 hb.2 hc.2 (fun n k u v w u2 v2 w2 => ETs cut a b c L own mark n k u v w u2 v2 w2) _ (fun n k u v w u2 v2 w2 h => endTs cut a b c k u v w u2 v2 w2 L own mark n h) (fun n k u v w u2 v2 w2 h hk => rndTs cut a b c k u v w u2 v2 w2 L own mark n h hk (by omega)) L.length 0 0 0 0 0 0 0 (by decide) (by omega) ⟨by omega, by omega, by omega, fun h => by omega⟩
theorem loopsTs : loopsOf (Try.f14.body.getD .skip) = [bdTs] := by kernel_rfl
def okC (a : Int) : Bool := decide (0 ≤ a ∧ a ≤ 1000000)
set_option maxHeartbeats 4000000 in
noncomputable def GTs (vals : List SV) (m : Mem) : Option (Bool × Ex × St) :=
  match vals, m with
  | [.v (.int .i64 cut), .ptr 0 0, .ptr 1 0, .ptr 2 0, .row 0, .v (.int .i64 n), .v (.int .i64 k)], ⟨[[.ptr 3 0, .ptr 4 0, .ptr 5 0], [.ptr 6 0, .ptr 7 0, .ptr 8 0], [.ptr 9 0, .ptr 10 0, .ptr 11 0], [.v (.int .i64 a), .v (.int .i64 u)], [.v (.int .i64 b), .v (.int .i64 v)], [.v (.int .i64 c), .v (.int .i64 w)], [.v (.int .i64 a1), .v (.int .i64 u1)], [.v (.int .i64 b1), .v (.int .i64 v1)], [.v (.int .i64 c1), .v (.int .i64 w1)], [.v (.int .i64 a2), .v (.int .i64 u2)], [.v (.int .i64 b2), .v (.int .i64 v2)], [.v (.int .i64 c2), .v (.int .i64 w2)]], [true, true, true, true, true, true, true, true, true, true, true, true], [.live ⟨53, [.num .i64, .num .i64], L, own, mark⟩]⟩ =>
    some ((u == 0 && (v == 0 && (w == 0 && (u1 == 0 && (v1 == 0 && (w1 == 0 && (u2 == 0 && (v2 == 0 && (w2 == 0 && k == 0))))))))) && (a1 == a && (b1 == b && (c1 == c && (a2 == a && (b2 == b && (c2 == c && (okC a && (okC b && (okC c && (decide (0 ≤ cut) && (n == (L.length : Int) && Nat.ble L.length 300))))))))))), .exit 0, XTs L own mark)
  | _, _ => none
noncomputable def ΛTs : LoopOrc := fun _ st => viaC 0 1 kTs GTs st
theorem loopOkTs (z : Base) (z1 : z.L.length = 0) (z2 : z.U.length = 1) : LoopOk ΛTs Try.prog z bdTs := by
  refine loop_okC (Λ := L0) (kx := xTs) OkTl mixed z1 z2 (fun b hb st e st' h => by cases h) (G := GTs) (fun _ => rfl) ?_
  intro vals m e st' h
  unfold GTs at h
  split at h
  · rename_i cut n k a u b v c w a1 u1 b1 v1 c1 w1 a2 u2 b2 v2 c2 w2 L own mark
    obtain ⟨h1, rfl, rfl⟩ := some_t2 h
    simp only [Bool.and_eq_true, beq_iff_eq, decide_eq_true_eq, okC] at h1
    obtain ⟨⟨rfl, rfl, rfl, rfl, rfl, rfl, rfl, rfl, rfl, rfl⟩, rfl, rfl, rfl, rfl, rfl, rfl, ha, hb, hc, h0, rfl, hl⟩ := h1
    exact ⟨L.length + 1, loopTs cut _ _ _ L own mark ha hb hc h0 (Nat.le_of_ble_eq_true hl)⟩
  · cases h
end Go.Proofs.Ytnelbjbphkfkkaa

namespace Go.Proofs.Ytnelbjbphkfkkaa
open Go Go.Proofs Go.Sx
set_option linter.unusedVariables false
/-! norm -/
/-! cast -/
set_option maxRecDepth 20000 in
theorem treeSides (n d g cut : Int) (L : List (List Dat)) (own mark : Bool) : runG ΓTl ΛTs Try.prog Try.f14 [.v (I n), .v (I d), .v (I g), .row 0, .v (I cut)] ⟨[], [], [r2 L own mark]⟩ = 
    (bif decide ((L.length : Int) > (300 : Int)) then some (.v (Bo true), ⟨[], [], [.live ⟨53, [.num .i64, .num .i64], L, own, mark⟩]⟩) else (bif newB (wI ((1 : Int) + wI ((IntKind.u64.wrap n).tmod (20 : Int)))) (wI ((1 : Int) + wI ((IntKind.u64.wrap d).tmod (20 : Int)))) (wI ((1 : Int) + wI ((IntKind.u64.wrap g).tmod (20 : Int)))) then (bif newB (wI ((1 : Int) + wI ((IntKind.u64.wrap n).tmod (20 : Int)))) (wI ((1 : Int) + wI ((IntKind.u64.wrap d).tmod (20 : Int)))) (wI ((1 : Int) + wI ((IntKind.u64.wrap g).tmod (20 : Int)))) then (bif newB (wI ((1 : Int) + wI ((IntKind.u64.wrap n).tmod (20 : Int)))) (wI ((1 : Int) + wI ((IntKind.u64.wrap d).tmod (20 : Int)))) (wI ((1 : Int) + wI ((IntKind.u64.wrap g).tmod (20 : Int)))) then (bif IntKind.u64.wrap (wI ((L.length : Int) + (1 : Int))) == (0 : Int) then none else (bif true && (clampI (wI ((1 : Int) + wI ((IntKind.u64.wrap n).tmod (20 : Int)))) (1000000 : Int) == clampI (wI ((1 : Int) + wI ((IntKind.u64.wrap n).tmod (20 : Int)))) (1000000 : Int) && (clampI (wI ((1 : Int) + wI ((IntKind.u64.wrap d).tmod (20 : Int)))) (1000000 : Int) == clampI (wI ((1 : Int) + wI ((IntKind.u64.wrap d).tmod (20 : Int)))) (1000000 : Int) && (clampI (wI ((1 : Int) + wI ((IntKind.u64.wrap g).tmod (20 : Int)))) (1000000 : Int) == clampI (wI ((1 : Int) + wI ((IntKind.u64.wrap g).tmod (20 : Int)))) (1000000 : Int) && (clampI (wI ((1 : Int) + wI ((IntKind.u64.wrap n).tmod (20 : Int)))) (1000000 : Int) == clampI (wI ((1 : Int) + wI ((IntKind.u64.wrap n).tmod (20 : Int)))) (1000000 : Int) && (clampI (wI ((1 : Int) + wI ((IntKind.u64.wrap d).tmod (20 : Int)))) (1000000 : Int) == clampI (wI ((1 : Int) + wI ((IntKind.u64.wrap d).tmod (20 : Int)))) (1000000 : Int) && (clampI (wI ((1 : Int) + wI ((IntKind.u64.wrap g).tmod (20 : Int)))) (1000000 : Int) == clampI (wI ((1 : Int) + wI ((IntKind.u64.wrap g).tmod (20 : Int)))) (1000000 : Int) && (okC (clampI (wI ((1 : Int) + wI ((IntKind.u64.wrap n).tmod (20 : Int)))) (1000000 : Int)) && (okC (clampI (wI ((1 : Int) + wI ((IntKind.u64.wrap d).tmod (20 : Int)))) (1000000 : Int)) && (okC (clampI (wI ((1 : Int) + wI ((IntKind.u64.wrap g).tmod (20 : Int)))) (1000000 : Int)) && (decide ((0 : Int) ≤ wI ((IntKind.u64.wrap cut).tmod (IntKind.u64.wrap (wI ((L.length : Int) + (1 : Int)))))) && ((L.length : Int) == (L.length : Int) && L.length.ble (300)))))))))))) then some (.v (Bo true), ⟨[], [], [.live ⟨53, [.num .i64, .num .i64], L, own, mark⟩]⟩) else none)) else none) else none) else none)) := by kernel_rfl
end Go.Proofs.Ytnelbjbphkfkkaa

namespace Go.Proofs.Ytnelbjbphkfkkaa
open Go Go.Proofs Go.Sx
set_option linter.unusedVariables false
theorem clampMost {g : Int} (h : 1 ≤ g ∧ g ≤ 20) : clampI g 1000000 = g := clampIn (by omega) (by omega)
theorem newB_of {n d g : Int} (h : 1 ≤ n) (h1 : 1 ≤ d) (h2 : 1 ≤ g) : newB n d g = true := by
  unfold newB
  rw [decide_eq_true h, decide_eq_true h1, decide_eq_true h2]
  rfl
theorem tallyNilLaw (a0 a1 : Int) (u0 : (Lit.int .i64 a0).wf = true) (u1 : (Lit.int .i64 a1).wf = true) : ∃ m', runG ΓTl L0 Try.prog Try.f15 (inArgs [.v (.int .i64 a0), .v (.int .i64 a1)] 0) (inMem [.v (.int .i64 a0), .v (.int .i64 a1)]) = some (.v (.bool true), m') := ⟨_, tallyNil a0 a1⟩
theorem tallyQuietLaw (a0 : Int) (l1 : List (List Dat)) (u0 : (Lit.int .i64 a0).wf = true) (w1 : ∀ o ∈ l1, WfL [.num .i64, .num .i64] o) (n1 : l1.length ≤ 281474976710656) :
    ∃ Λ m', (∀ z : Base, z.L.length = 0 → z.U.length = 1 → ∀ b ∈ loopsOf (Try.f13.body.getD .skip), LoopOk Λ Try.prog z b) ∧ runG ΓTl Λ Try.prog Try.f13 (inArgs [.v (.int .i64 a0), .row 53 [.num .i64, .num .i64] l1] 0) (inMem [.v (.int .i64 a0), .row 53 [.num .i64, .num .i64] l1]) = some (.v (.bool true), m') := by
  have hG := gB a0 20 (by decide) (by decide)
  cases hq : qt l1 (wI (1 + wI ((IntKind.u64.wrap a0).tmod 20))) l1.length 0 0
  · refine ⟨ΛTq false, ⟨[], [], [r2 l1 false false]⟩, fun z z1 z2 => oneLoop loopsTq (loopOkTq false z z1 z2), (treeQuietF a0 l1 false false).trans ?_⟩
    rw [hq]
    generalize wI (1 + wI ((IntKind.u64.wrap a0).tmod 20)) = G at *
    by_cases hl : (l1.length : Int) > 300
    · rw [decide_eq_true hl]; rfl
    · rw [decide_eq_false hl, newB_of (by decide) (by decide) hG.1, clampMost hG, decide_eq_true hG, Nat.ble_eq_true_of_le (show l1.length ≤ 300 by omega)]
      simp only [beq_self_eq_true, Bool.not_false, Bool.and_self, cond_true, cond_false]
      rfl
  · refine ⟨ΛTq true, ⟨[], [], [r2 l1 false false]⟩, fun z z1 z2 => oneLoop loopsTq (loopOkTq true z z1 z2), (treeQuietT a0 l1 false false).trans ?_⟩
    rw [hq]
    generalize wI (1 + wI ((IntKind.u64.wrap a0).tmod 20)) = G at *
    by_cases hl : (l1.length : Int) > 300
    · rw [decide_eq_true hl]; rfl
    · rw [decide_eq_false hl, newB_of (by decide) (by decide) hG.1, clampMost hG, decide_eq_true hG, Nat.ble_eq_true_of_le (show l1.length ≤ 300 by omega)]
      simp only [beq_self_eq_true, Bool.and_self, cond_true, cond_false]
      rfl
theorem loopsAllTs (z : Base) (z1 : z.L.length = 0) (z2 : z.U.length = 1) : ∀ b ∈ loopsOf (Try.f14.body.getD .skip), LoopOk ΛTs Try.prog z b := oneLoop loopsTs (loopOkTs z z1 z2)
theorem okC_of {g : Int} (h : 1 ≤ g ∧ g ≤ 20) : okC g = true := decide_eq_true (by omega)
theorem tallySidesLaw (a0 a1 a2 : Int) (l3 : List (List Dat)) (a4 : Int) (u0 : (Lit.int .i64 a0).wf = true) (u1 : (Lit.int .i64 a1).wf = true) (u2 : (Lit.int .i64 a2).wf = true) (w3 : ∀ o ∈ l3, WfL [.num .i64, .num .i64] o) (n3 : l3.length ≤ 281474976710656) (u4 : (Lit.int .i64 a4).wf = true) :
    ∃ m', runG ΓTl ΛTs Try.prog Try.f14 (inArgs [.v (.int .i64 a0), .v (.int .i64 a1), .v (.int .i64 a2), .row 53 [.num .i64, .num .i64] l3, .v (.int .i64 a4)] 0) (inMem [.v (.int .i64 a0), .v (.int .i64 a1), .v (.int .i64 a2), .row 53 [.num .i64, .num .i64] l3, .v (.int .i64 a4)]) = some (.v (.bool true), m') := by
  refine ⟨⟨[], [], [r2 l3 false false]⟩, (treeSides a0 a1 a2 a4 l3 false false).trans ?_⟩
  have hN := gB a0 20 (by decide) (by decide)
  have hD := gB a1 20 (by decide) (by decide)
  have hG := gB a2 20 (by decide) (by decide)
  generalize wI (1 + wI ((IntKind.u64.wrap a0).tmod 20)) = N at *
  generalize wI (1 + wI ((IntKind.u64.wrap a1).tmod 20)) = D at *
  generalize wI (1 + wI ((IntKind.u64.wrap a2).tmod 20)) = G at *
  by_cases hl : (l3.length : Int) > 300
  · rw [decide_eq_true hl]; rfl
  · have hu := inU_iff.1 (inU_wrap a4)
    have hc : 0 ≤ wI ((IntKind.u64.wrap a4).tmod ((l3.length : Int) + 1)) := by
      rw [Int.tmod_eq_emod_of_nonneg hu.1]
      have c1 := Int.emod_nonneg (IntKind.u64.wrap a4) (show (l3.length : Int) + 1 ≠ 0 by omega)
      have c2 := Int.emod_lt_of_pos (IntKind.u64.wrap a4) (show 0 < (l3.length : Int) + 1 by omega)
      rw [wI_id (by omega)]
      exact c1
    rw [decide_eq_false hl, newB_of hN.1 hD.1 hG.1, clampMost hN, clampMost hD, clampMost hG, okC_of hN, okC_of hD, okC_of hG, wI_id (n := (l3.length : Int) + 1) (by omega), wrU_id (n := (l3.length : Int) + 1) (by omega), beq_eq_false_iff_ne.2 (show (l3.length : Int) + 1 ≠ 0 by omega), decide_eq_true hc, Nat.ble_eq_true_of_le (show l3.length ≤ 300 by omega)]
    simp only [beq_self_eq_true, Bool.and_self, cond_true, cond_false]
    rfl
end Go.Proofs.Ytnelbjbphkfkkaa

