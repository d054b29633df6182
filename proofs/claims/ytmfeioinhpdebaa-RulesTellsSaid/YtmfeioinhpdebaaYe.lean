/-
  What is known of this program: counters, phase's machine and the document's, their law package's own.
-/
import Derived.Test.YtmfeioinhpdebaaYa
import Derived.Test.YtmfeioinhpdebaaYc
namespace Go.Proofs.Ytmfeioinhpdebaa
open Go Go.Proofs Go.Sx
set_option linter.unusedVariables false
/-! norm -/
/-! cast -/
/-! Tallies: three counters. -/
def TM (a u b v c w : Int) : Mem := ⟨[[.ptr 1 0, .ptr 2 0, .ptr 3 0], [.v (I a), .v (I u)], [.v (I b), .v (I v)], [.v (I c), .v (I w)]], [true, true, true, true], []⟩
def hrd (n : Int) : Bool := n == 1 || (n == 2 || n == 3)
def tV (p q a u : Int) : Int := bif hrd p || hrd q then (bif p != 3 && q != 3 then clampI 0 a else bif hrd p && (hrd q && p != q) then u else addN' a u 1) else u
def tD (p q b v : Int) : Int := bif hrd p || hrd q then (bif p != 3 && q != 3 then clampI 0 b else bif hrd p && (hrd q && p != q) then addN' b v 1 else v) else v
def tG (p q c w : Int) : Int := bif hrd p || hrd q then clampI 0 c else addN' c w 1
def whyI (x y z : Bool) : Int := (bif x then 1 else 0) + ((bif y then 2 else 0) + (bif z then 4 else 0))
theorem xStore64 : Ext Try.prog 117 Extern.Atomic.storeT := ⟨fun args w => run_callFunc_extern Try.func117 (by kernel_rfl) (by kernel_rfl) (by kernel_rfl) (by kernel_rfl) args w⟩
noncomputable def ΓD0 : Orc := addC (storeE 117 .i64) ΓC
theorem OkD0 : ΓD0.Ok Try.prog := addC_ok OkC (storeE_ok xStore64)

set_option maxRecDepth 20000 in
theorem runStore0 (n : Int) (a v : Int) : runG ΓD0 L0 Try.prog Try.f93 [.ptr 0 1, .v (I n)] (MC a v) = some (.v (.tuple #[]), MC a n) := by kernel_rfl
def gStore (xs : List SV) (m : Mem) : Option (Bool × SV × Mem) :=
  match xs, m with
  | [.ptr 0 1, .v (.int .i64 n)], ⟨[[.v (.int .i64 a), .v (.int .i64 v)]], [true], []⟩ => some (true, .v (.tuple #[]), MC a n)
  | _, _ => none
theorem gStore_ok : ∀ xs m r m', gStore xs m = some (true, r, m') → CallOk Try.prog 93 xs m r m' := by
  intro xs m r m' h
  unfold gStore at h
  split at h
  · rename_i n a v
    obtain ⟨h1, rfl, rfl⟩ := some_t2 h
    refine runOk (Λ := L0) OkD0 Try.func93 rfl (fun z _ _ => noLoops (by kernel_rfl) z) ?_
    exact (runStore0 n a v).trans (rfl)
  · cases h
noncomputable def ΓD1 : Orc := addCl 93 gStore ΓD0
theorem OkD1 : ΓD1.Ok Try.prog := addCl_ok OkD0 gStore_ok
noncomputable def ΓDw : Orc := { ΓD1 with wr := fun f => Nat.beq f 93 || makers f }
theorem OkDw : ΓDw.Ok Try.prog := ⟨OkD1.call, OkD1.rd, OkD1.eqv⟩
set_option maxRecDepth 20000 in
theorem runCUp0 (a v : Int) : runG ΓDw L0 Try.prog Try.f68 [.ptr 0 0] (MC a v) = some (.v (I (addN' a v 1)), MC a (addN' a v 1)) := by kernel_rfl
def gCUp (xs : List SV) (m : Mem) : Option (Bool × SV × Mem) :=
  match xs, m with
  | [.ptr 0 0], ⟨[[.v (.int .i64 a), .v (.int .i64 v)]], [true], []⟩ => some (true, .v (I (addN' a v 1)), MC a (addN' a v 1))
  | _, _ => none
theorem gCUp_ok : ∀ xs m r m', gCUp xs m = some (true, r, m') → CallOk Try.prog 68 xs m r m' := by
  intro xs m r m' h
  unfold gCUp at h
  split at h
  · rename_i a v
    obtain ⟨h1, rfl, rfl⟩ := some_t2 h
    refine runOk (Λ := L0) OkDw Try.func68 rfl (fun z _ _ => noLoops (by kernel_rfl) z) ?_
    exact (runCUp0 a v).trans (rfl)
  · cases h
noncomputable def ΓD2 : Orc := addCl 68 gCUp ΓDw
theorem OkD2 : ΓD2.Ok Try.prog := addCl_ok OkDw gCUp_ok
set_option maxRecDepth 20000 in
theorem runCSet0 (n : Int) (a v : Int) : runG ΓD2 L0 Try.prog Try.f70 [.ptr 0 0, .v (I n)] (MC a v) = some (.v (.tuple #[]), MC a (clampI n a)) := by kernel_rfl
def gCSet (xs : List SV) (m : Mem) : Option (Bool × SV × Mem) :=
  match xs, m with
  | [.ptr 0 0, .v (.int .i64 n)], ⟨[[.v (.int .i64 a), .v (.int .i64 v)]], [true], []⟩ => some (true, .v (.tuple #[]), MC a (clampI n a))
  | _, _ => none
theorem gCSet_ok : ∀ xs m r m', gCSet xs m = some (true, r, m') → CallOk Try.prog 70 xs m r m' := by
  intro xs m r m' h
  unfold gCSet at h
  split at h
  · rename_i n a v
    obtain ⟨h1, rfl, rfl⟩ := some_t2 h
    refine runOk (Λ := L0) OkD2 Try.func70 rfl (fun z _ _ => noLoops (by kernel_rfl) z) ?_
    exact (runCSet0 n a v).trans (rfl)
  · cases h
noncomputable def ΓD3 : Orc := addCl 70 gCSet ΓD2
theorem OkD3 : ΓD3.Ok Try.prog := addCl_ok OkD2 gCSet_ok
set_option maxRecDepth 20000 in
theorem runCReset0 (a v : Int) : runG ΓD3 L0 Try.prog Try.f69 [.ptr 0 0] (MC a v) = some (.v (.tuple #[]), MC a (clampI 0 a)) := by kernel_rfl
def gCReset (xs : List SV) (m : Mem) : Option (Bool × SV × Mem) :=
  match xs, m with
  | [.ptr 0 0], ⟨[[.v (.int .i64 a), .v (.int .i64 v)]], [true], []⟩ => some (true, .v (.tuple #[]), MC a (clampI 0 a))
  | _, _ => none
theorem gCReset_ok : ∀ xs m r m', gCReset xs m = some (true, r, m') → CallOk Try.prog 69 xs m r m' := by
  intro xs m r m' h
  unfold gCReset at h
  split at h
  · rename_i a v
    obtain ⟨h1, rfl, rfl⟩ := some_t2 h
    refine runOk (Λ := L0) OkD3 Try.func69 rfl (fun z _ _ => noLoops (by kernel_rfl) z) ?_
    exact (runCReset0 a v).trans (rfl)
  · cases h
noncomputable def ΓD4 : Orc := addCl 69 gCReset ΓD3
theorem OkD4 : ΓD4.Ok Try.prog := addCl_ok OkD3 gCReset_ok
noncomputable def ΓD5 : Orc := ΓD4
theorem OkD5 : ΓD5.Ok Try.prog := OkD4
noncomputable def ΓD6 : Orc := ΓD5
theorem OkD6 : ΓD6.Ok Try.prog := OkD5
noncomputable def ΓD7 : Orc := ΓD6
theorem OkD7 : ΓD7.Ok Try.prog := OkD6
noncomputable def ΓD8 : Orc := ΓD7
theorem OkD8 : ΓD8.Ok Try.prog := OkD7
noncomputable def ΓD9 : Orc := ΓD8
theorem OkD9 : ΓD9.Ok Try.prog := OkD8
noncomputable def ΓD10 : Orc := ΓD9
theorem OkD10 : ΓD10.Ok Try.prog := OkD9
noncomputable def ΓD11 : Orc := ΓD10
theorem OkD11 : ΓD11.Ok Try.prog := OkD10
noncomputable def ΓD12 : Orc := ΓD11
theorem OkD12 : ΓD12.Ok Try.prog := OkD11
noncomputable def ΓTl0 : Orc := ΓD12
theorem OkTl0 : ΓTl0.Ok Try.prog := OkD12
end Go.Proofs.Ytmfeioinhpdebaa

namespace Go.Proofs.Ytmfeioinhpdebaa
open Go Go.Proofs Go.Sx
noncomputable def Γv1 : Orc := addCl 93 gStore ΓA13
theorem Okv1 : Γv1.Ok Try.prog := addCl_ok OkA13 gStore_ok
noncomputable def Γv2 : Orc := addCl 68 gCUp Γv1
theorem Okv2 : Γv2.Ok Try.prog := addCl_ok Okv1 gCUp_ok
noncomputable def Γv3 : Orc := addCl 70 gCSet Γv2
theorem Okv3 : Γv3.Ok Try.prog := addCl_ok Okv2 gCSet_ok
noncomputable def Γv4 : Orc := addCl 69 gCReset Γv3
theorem Okv4 : Γv4.Ok Try.prog := addCl_ok Okv3 gCReset_ok

end Go.Proofs.Ytmfeioinhpdebaa

namespace Go.Proofs.Ytmfeioinhpdebaa
open Go Go.Proofs Go.Sx
set_option linter.unusedVariables false
/-! norm -/
/-! cast -/
/-! rep [CK.sl 39 [CK0.num IntKind.i64, CK0.num IntKind.i64], .num .i64, .num .i64, .num .i64, .num .i64] => kPh -/
/-! rep (dropT (0 : Nat) (L.getD k.toNat [])) => (L.getD k.toNat []) -/
/-! rep (dropT (0 : Nat) (L2.getD k.toNat [])) => (L2.getD k.toNat []) -/
/-! rep (dropT (0 : Nat) (L.getD i.toNat [])) => (L.getD i.toNat []) -/
/-! rep (dropT (0 : Nat) (M.getD k.toNat [])) => (M.getD k.toNat []) -/
/-! repp (List.brecOn.go (motive := fun x => Nat → List Dat → List (List Dat)) M List.set._f).1 k.toNat ==> M.set k.toNat -/
/-! rep (((L.getD i.toNat []).headD (Dat.n (0 : Int))).toL) => (phA L i) -/
/-! rep ((L.getD i.toNat []).headD (Dat.n (0 : Int))).toL => (phA L i) -/
/-! rep (((L.getD i.toNat []).tail.headD (Dat.n (0 : Int))).toI) => (phG L i) -/
/-! rep ((L.getD i.toNat []).tail.headD (Dat.n (0 : Int))).toI => (phG L i) -/
/-! rep (((L.getD i.toNat []).tail.tail.headD (Dat.n (0 : Int))).toI) => (phV L i) -/
/-! rep ((L.getD i.toNat []).tail.tail.headD (Dat.n (0 : Int))).toI => (phV L i) -/
/-! rep (((L.getD i.toNat []).tail.tail.tail.headD (Dat.n (0 : Int))).toI) => (phM L i) -/
/-! rep ((L.getD i.toNat []).tail.tail.tail.headD (Dat.n (0 : Int))).toI => (phM L i) -/
/-! rep (((L.getD i.toNat []).tail.tail.tail.tail.headD (Dat.n (0 : Int))).toI) => (phU L i) -/
/-! rep ((L.getD i.toNat []).tail.tail.tail.tail.headD (Dat.n (0 : Int))).toI => (phU L i) -/
/-! rep (((L2.getD i.toNat []).headD (Dat.n (0 : Int))).toL) => (phA L2 i) -/
/-! rep ((L2.getD i.toNat []).headD (Dat.n (0 : Int))).toL => (phA L2 i) -/
/-! rep (((L2.getD i.toNat []).tail.headD (Dat.n (0 : Int))).toI) => (phG L2 i) -/
/-! rep ((L2.getD i.toNat []).tail.headD (Dat.n (0 : Int))).toI => (phG L2 i) -/
/-! rep (((L2.getD i.toNat []).tail.tail.headD (Dat.n (0 : Int))).toI) => (phV L2 i) -/
/-! rep ((L2.getD i.toNat []).tail.tail.headD (Dat.n (0 : Int))).toI => (phV L2 i) -/
/-! rep (((L2.getD i.toNat []).tail.tail.tail.headD (Dat.n (0 : Int))).toI) => (phM L2 i) -/
/-! rep ((L2.getD i.toNat []).tail.tail.tail.headD (Dat.n (0 : Int))).toI => (phM L2 i) -/
/-! rep (((L2.getD i.toNat []).tail.tail.tail.tail.headD (Dat.n (0 : Int))).toI) => (phU L2 i) -/
/-! rep ((L2.getD i.toNat []).tail.tail.tail.tail.headD (Dat.n (0 : Int))).toI => (phU L2 i) -/
/-! rep (((M.getD i.toNat []).headD (Dat.n (0 : Int))).toL) => (phA M i) -/
/-! rep ((M.getD i.toNat []).headD (Dat.n (0 : Int))).toL => (phA M i) -/
/-! rep (((M.getD i.toNat []).tail.headD (Dat.n (0 : Int))).toI) => (phG M i) -/
/-! rep ((M.getD i.toNat []).tail.headD (Dat.n (0 : Int))).toI => (phG M i) -/
/-! rep (((M.getD i.toNat []).tail.tail.headD (Dat.n (0 : Int))).toI) => (phV M i) -/
/-! rep ((M.getD i.toNat []).tail.tail.headD (Dat.n (0 : Int))).toI => (phV M i) -/
/-! rep (((M.getD i.toNat []).tail.tail.tail.headD (Dat.n (0 : Int))).toI) => (phM M i) -/
/-! rep ((M.getD i.toNat []).tail.tail.tail.headD (Dat.n (0 : Int))).toI => (phM M i) -/
/-! rep (((M.getD i.toNat []).tail.tail.tail.tail.headD (Dat.n (0 : Int))).toI) => (phU M i) -/
/-! rep ((M.getD i.toNat []).tail.tail.tail.tail.headD (Dat.n (0 : Int))).toI => (phU M i) -/
/-! rep (((L.getD k.toNat []).headD (Dat.n (0 : Int))).toL) => (phA L k) -/
/-! rep ((L.getD k.toNat []).headD (Dat.n (0 : Int))).toL => (phA L k) -/
/-! rep (((L.getD k.toNat []).tail.headD (Dat.n (0 : Int))).toI) => (phG L k) -/
/-! rep ((L.getD k.toNat []).tail.headD (Dat.n (0 : Int))).toI => (phG L k) -/
/-! rep (((L.getD k.toNat []).tail.tail.headD (Dat.n (0 : Int))).toI) => (phV L k) -/
/-! rep ((L.getD k.toNat []).tail.tail.headD (Dat.n (0 : Int))).toI => (phV L k) -/
/-! rep (((L.getD k.toNat []).tail.tail.tail.headD (Dat.n (0 : Int))).toI) => (phM L k) -/
/-! rep ((L.getD k.toNat []).tail.tail.tail.headD (Dat.n (0 : Int))).toI => (phM L k) -/
/-! rep (((L.getD k.toNat []).tail.tail.tail.tail.headD (Dat.n (0 : Int))).toI) => (phU L k) -/
/-! rep ((L.getD k.toNat []).tail.tail.tail.tail.headD (Dat.n (0 : Int))).toI => (phU L k) -/
/-! rep (((L2.getD k.toNat []).headD (Dat.n (0 : Int))).toL) => (phA L2 k) -/
/-! rep ((L2.getD k.toNat []).headD (Dat.n (0 : Int))).toL => (phA L2 k) -/
/-! rep (((L2.getD k.toNat []).tail.headD (Dat.n (0 : Int))).toI) => (phG L2 k) -/
/-! rep ((L2.getD k.toNat []).tail.headD (Dat.n (0 : Int))).toI => (phG L2 k) -/
/-! rep (((L2.getD k.toNat []).tail.tail.headD (Dat.n (0 : Int))).toI) => (phV L2 k) -/
/-! rep ((L2.getD k.toNat []).tail.tail.headD (Dat.n (0 : Int))).toI => (phV L2 k) -/
/-! rep (((L2.getD k.toNat []).tail.tail.tail.headD (Dat.n (0 : Int))).toI) => (phM L2 k) -/
/-! rep ((L2.getD k.toNat []).tail.tail.tail.headD (Dat.n (0 : Int))).toI => (phM L2 k) -/
/-! rep (((L2.getD k.toNat []).tail.tail.tail.tail.headD (Dat.n (0 : Int))).toI) => (phU L2 k) -/
/-! rep ((L2.getD k.toNat []).tail.tail.tail.tail.headD (Dat.n (0 : Int))).toI => (phU L2 k) -/
/-! rep (((M.getD k.toNat []).headD (Dat.n (0 : Int))).toL) => (phA M k) -/
/-! rep ((M.getD k.toNat []).headD (Dat.n (0 : Int))).toL => (phA M k) -/
/-! rep (((M.getD k.toNat []).tail.headD (Dat.n (0 : Int))).toI) => (phG M k) -/
/-! rep ((M.getD k.toNat []).tail.headD (Dat.n (0 : Int))).toI => (phG M k) -/
/-! rep (((M.getD k.toNat []).tail.tail.headD (Dat.n (0 : Int))).toI) => (phV M k) -/
/-! rep ((M.getD k.toNat []).tail.tail.headD (Dat.n (0 : Int))).toI => (phV M k) -/
/-! rep (((M.getD k.toNat []).tail.tail.tail.headD (Dat.n (0 : Int))).toI) => (phM M k) -/
/-! rep ((M.getD k.toNat []).tail.tail.tail.headD (Dat.n (0 : Int))).toI => (phM M k) -/
/-! rep (((M.getD k.toNat []).tail.tail.tail.tail.headD (Dat.n (0 : Int))).toI) => (phU M k) -/
/-! rep ((M.getD k.toNat []).tail.tail.tail.tail.headD (Dat.n (0 : Int))).toI => (phU M k) -/
/-! rep (dropT (0 : Nat) (L.getD p.toNat [])) => (L.getD p.toNat []) -/
/-! rep ((L.getD p.toNat []).headD (Dat.n (0 : Int))).toL => (phA L p) -/
/-! rep ((L.getD p.toNat []).tail.headD (Dat.n (0 : Int))).toI => (phG L p) -/
/-! rep ((L.getD p.toNat []).tail.tail.headD (Dat.n (0 : Int))).toI => (phV L p) -/
/-! rep ((L.getD p.toNat []).tail.tail.tail.headD (Dat.n (0 : Int))).toI => (phM L p) -/
/-! rep ((L.getD p.toNat []).tail.tail.tail.tail.headD (Dat.n (0 : Int))).toI => (phU L p) -/
def wrP (f : FuncId) : Bool := wr13 f || (Nat.beq f 18 || Nat.beq f 46 || Nat.beq f 37 || Nat.beq f 40 || Nat.beq f 42 || Nat.beq f 41)
noncomputable def Γp0 : Orc := { Γv4 with wr := wrP, sb := true, bs := true }
theorem Okp0 : Γp0.Ok Try.prog := ⟨Okv4.call, Okv4.rd, Okv4.eqv⟩
set_option maxRecDepth 20000 in
theorem runPla (r1 : Int) (r2 : Int) (r3 : Int) (r4 : Int) (r5 : Int) (r6 : Int) (r7 : Int) (r8 : Int) (p : Int) (a : Int) (v : Int) (L : List (List Dat)) (own : Bool) (mark : Bool) : runG Γp0 L0 Try.prog Try.f45 [.ptr 0 0] ⟨[[.row 0, .v (I r1), .v (I r2), .v (I r3), .v (I r4), .v (I r5), .v (I r6), .v (I r7), .v (I r8), .v (I p), .ptr 1 0], [.v (I a), .v (I v)]], [true, true], [rH L own mark]⟩ = 
    some (.v (Bo (decide (p ≥ wI ((L.length : Int) - (1 : Int))))), ⟨[[.row 0, .v (I r1), .v (I r2), .v (I r3), .v (I r4), .v (I r5), .v (I r6), .v (I r7), .v (I r8), .v (I p), .ptr 1 0], [.v (I a), .v (I v)]], [true, true], [.live ⟨30, kPh, L, own, mark⟩]⟩) := by kernel_rfl
def gPla (xs : List SV) (m : Mem) : Option (Bool × Value) :=
  match xs, m with
  | [.ptr 0 0], ⟨[[.row 0, .v (.int .i64 r1), .v (.int .i64 r2), .v (.int .i64 r3), .v (.int .i64 r4), .v (.int .i64 r5), .v (.int .i64 r6), .v (.int .i64 r7), .v (.int .i64 r8), .v (.int .i64 p), .ptr 1 0], [.v (.int .i64 a), .v (.int .i64 v)]], [true, true], [.live ⟨30, [.sl 39 [.num .i64, .num .i64], .num .i64, .num .i64, .num .i64, .num .i64], L, own, mark⟩]⟩ => some (true, Bo (decide (p ≥ wI ((L.length : Int) - 1))))
  | _, _ => none
theorem gPla_ok : ∀ xs m r, gPla xs m = some (true, r) → CallOk Try.prog 45 xs m (.v r) m := by
  intro xs m r h
  unfold gPla at h
  split at h
  · rename_i r1 r2 r3 r4 r5 r6 r7 r8 p a v L own mark
    obtain ⟨h1, rfl⟩ := some_t h
    refine runOk (Λ := L0) Okp0 Try.func45 rfl (fun z _ _ => l0Ok' _ z) ?_
    refine (runPla r1 r2 r3 r4 r5 r6 r7 r8 p a v L own mark).trans ?_
    rfl
  · cases h
noncomputable def Γp1 : Orc := addRd 45 gPla Γp0
theorem Okp1 : Γp1.Ok Try.prog := addRd_ok Okp0 gPla_ok
set_option maxRecDepth 20000 in
theorem runPin (r1 : Int) (r2 : Int) (r3 : Int) (r4 : Int) (r5 : Int) (r6 : Int) (r7 : Int) (r8 : Int) (p : Int) (a : Int) (v : Int) (L : List (List Dat)) (own : Bool) (mark : Bool) : runG Γp1 L0 Try.prog Try.f44 [.ptr 0 0] ⟨[[.row 0, .v (I r1), .v (I r2), .v (I r3), .v (I r4), .v (I r5), .v (I r6), .v (I r7), .v (I r8), .v (I p), .ptr 1 0], [.v (I a), .v (I v)]], [true, true], [rH L own mark]⟩ = 
    some (.v (I v), ⟨[[.row 0, .v (I r1), .v (I r2), .v (I r3), .v (I r4), .v (I r5), .v (I r6), .v (I r7), .v (I r8), .v (I p), .ptr 1 0], [.v (I a), .v (I v)]], [true, true], [.live ⟨30, kPh, L, own, mark⟩]⟩) := by kernel_rfl
def gPin (xs : List SV) (m : Mem) : Option (Bool × Value) :=
  match xs, m with
  | [.ptr 0 0], ⟨[[.row 0, .v (.int .i64 r1), .v (.int .i64 r2), .v (.int .i64 r3), .v (.int .i64 r4), .v (.int .i64 r5), .v (.int .i64 r6), .v (.int .i64 r7), .v (.int .i64 r8), .v (.int .i64 p), .ptr 1 0], [.v (.int .i64 a), .v (.int .i64 v)]], [true, true], [.live ⟨30, [.sl 39 [.num .i64, .num .i64], .num .i64, .num .i64, .num .i64, .num .i64], L, own, mark⟩]⟩ => some (true, I v)
  | _, _ => none
theorem gPin_ok : ∀ xs m r, gPin xs m = some (true, r) → CallOk Try.prog 44 xs m (.v r) m := by
  intro xs m r h
  unfold gPin at h
  split at h
  · rename_i r1 r2 r3 r4 r5 r6 r7 r8 p a v L own mark
    obtain ⟨h1, rfl⟩ := some_t h
    refine runOk (Λ := L0) Okp1 Try.func44 rfl (fun z _ _ => l0Ok' _ z) ?_
    refine (runPin r1 r2 r3 r4 r5 r6 r7 r8 p a v L own mark).trans ?_
    rfl
  · cases h
noncomputable def Γp2 : Orc := addRd 44 gPin Γp1
theorem Okp2 : Γp2.Ok Try.prog := addRd_ok Okp1 gPin_ok
set_option maxRecDepth 20000 in
theorem runPph (r1 : Int) (r2 : Int) (r3 : Int) (r4 : Int) (r5 : Int) (r6 : Int) (r7 : Int) (r8 : Int) (p : Int) (a : Int) (v : Int) (L : List (List Dat)) (own : Bool) (mark : Bool) : runG Γp2 L0 Try.prog Try.f43 [.ptr 0 0] ⟨[[.row 0, .v (I r1), .v (I r2), .v (I r3), .v (I r4), .v (I r5), .v (I r6), .v (I r7), .v (I r8), .v (I p), .ptr 1 0], [.v (I a), .v (I v)]], [true, true], [rH L own mark]⟩ = 
    some (.v (I p), ⟨[[.row 0, .v (I r1), .v (I r2), .v (I r3), .v (I r4), .v (I r5), .v (I r6), .v (I r7), .v (I r8), .v (I p), .ptr 1 0], [.v (I a), .v (I v)]], [true, true], [.live ⟨30, kPh, L, own, mark⟩]⟩) := by kernel_rfl
def gPph (xs : List SV) (m : Mem) : Option (Bool × Value) :=
  match xs, m with
  | [.ptr 0 0], ⟨[[.row 0, .v (.int .i64 r1), .v (.int .i64 r2), .v (.int .i64 r3), .v (.int .i64 r4), .v (.int .i64 r5), .v (.int .i64 r6), .v (.int .i64 r7), .v (.int .i64 r8), .v (.int .i64 p), .ptr 1 0], [.v (.int .i64 a), .v (.int .i64 v)]], [true, true], [.live ⟨30, [.sl 39 [.num .i64, .num .i64], .num .i64, .num .i64, .num .i64, .num .i64], L, own, mark⟩]⟩ => some (true, I p)
  | _, _ => none
theorem gPph_ok : ∀ xs m r, gPph xs m = some (true, r) → CallOk Try.prog 43 xs m (.v r) m := by
  intro xs m r h
  unfold gPph at h
  split at h
  · rename_i r1 r2 r3 r4 r5 r6 r7 r8 p a v L own mark
    obtain ⟨h1, rfl⟩ := some_t h
    refine runOk (Λ := L0) Okp2 Try.func43 rfl (fun z _ _ => l0Ok' _ z) ?_
    refine (runPph r1 r2 r3 r4 r5 r6 r7 r8 p a v L own mark).trans ?_
    rfl
  · cases h
noncomputable def Γp3 : Orc := addRd 43 gPph Γp2
theorem Okp3 : Γp3.Ok Try.prog := addRd_ok Okp2 gPph_ok
def wishB (L : List (List Dat)) (p v h : Int) (kn : Bool) : Bool := bif decide (p ≥ wI ((L.length : Int) - 1)) then false else bif !kn then false else bif decide (v ≥ phM L p) then decide (h ≥ phU L p) else false
set_option maxRecDepth 20000 in
theorem runPwi (ht : Int) (kn : Bool) (r1 : Int) (r2 : Int) (r3 : Int) (r4 : Int) (r5 : Int) (r6 : Int) (r7 : Int) (r8 : Int) (p : Int) (a : Int) (v : Int) (L : List (List Dat)) (own : Bool) (mark : Bool) : runG Γp3 L0 Try.prog Try.f38 [.ptr 0 0, .v (I ht), .v (Bo kn)] ⟨[[.row 0, .v (I r1), .v (I r2), .v (I r3), .v (I r4), .v (I r5), .v (I r6), .v (I r7), .v (I r8), .v (I p), .ptr 1 0], [.v (I a), .v (I v)]], [true, true], [rH L own mark]⟩ = 
    (bif decide (p ≥ wI ((L.length : Int) - (1 : Int))) then some (.v (Bo false), ⟨[[.row 0, .v (I r1), .v (I r2), .v (I r3), .v (I r4), .v (I r5), .v (I r6), .v (I r7), .v (I r8), .v (I p), .ptr 1 0], [.v (I a), .v (I v)]], [true, true], [.live ⟨30, kPh, L, own, mark⟩]⟩) else (bif !kn then some (.v (Bo false), ⟨[[.row 0, .v (I r1), .v (I r2), .v (I r3), .v (I r4), .v (I r5), .v (I r6), .v (I r7), .v (I r8), .v (I p), .ptr 1 0], [.v (I a), .v (I v)]], [true, true], [.live ⟨30, kPh, L, own, mark⟩]⟩) else (bif decide ((0 : Int) ≤ p) && decide (p < (L.length : Int)) then (same ((bif decide (v ≥ (phM L p)) then some (.v (Bo (decide (ht ≥ (phU L p)))), ⟨[[.row 0, .v (I r1), .v (I r2), .v (I r3), .v (I r4), .v (I r5), .v (I r6), .v (I r7), .v (I r8), .v (I p), .ptr 1 0], [.v (I a), .v (I v)]], [true, true], [.live ⟨30, kPh, L, own, mark⟩]⟩) else some (.v (Bo false), ⟨[[.row 0, .v (I r1), .v (I r2), .v (I r3), .v (I r4), .v (I r5), .v (I r6), .v (I r7), .v (I r8), .v (I p), .ptr 1 0], [.v (I a), .v (I v)]], [true, true], [.live ⟨30, kPh, L, own, mark⟩]⟩))) ((bif decide (v ≥ (phM L p)) then some (.v (Bo (decide (ht ≥ (phU L p)))), ⟨[[.row 0, .v (I r1), .v (I r2), .v (I r3), .v (I r4), .v (I r5), .v (I r6), .v (I r7), .v (I r8), .v (I p), .ptr 1 0], [.v (I a), .v (I v)]], [true, true], [.live ⟨30, kPh, L, own, mark⟩]⟩) else some (.v (Bo false), ⟨[[.row 0, .v (I r1), .v (I r2), .v (I r3), .v (I r4), .v (I r5), .v (I r6), .v (I r7), .v (I r8), .v (I p), .ptr 1 0], [.v (I a), .v (I v)]], [true, true], [.live ⟨30, kPh, L, own, mark⟩]⟩)))) else none))) := by kernel_rfl
def gPwi (xs : List SV) (m : Mem) : Option (Bool × Value) :=
  match xs, m with
  | [.ptr 0 0, .v (.int .i64 ht), .v (.bool kn)], ⟨[[.row 0, .v (.int .i64 r1), .v (.int .i64 r2), .v (.int .i64 r3), .v (.int .i64 r4), .v (.int .i64 r5), .v (.int .i64 r6), .v (.int .i64 r7), .v (.int .i64 r8), .v (.int .i64 p), .ptr 1 0], [.v (.int .i64 a), .v (.int .i64 v)]], [true, true], [.live ⟨30, [.sl 39 [.num .i64, .num .i64], .num .i64, .num .i64, .num .i64, .num .i64], L, own, mark⟩]⟩ => some (decide (0 ≤ p) && decide (p < (L.length : Int)), Bo (wishB L p v ht kn))
  | _, _ => none
theorem gPwi_ok : ∀ xs m r, gPwi xs m = some (true, r) → CallOk Try.prog 38 xs m (.v r) m := by
  intro xs m r h
  unfold gPwi at h
  split at h
  · rename_i ht kn r1 r2 r3 r4 r5 r6 r7 r8 p a v L own mark
    obtain ⟨h1, rfl⟩ := some_t h
    refine runOk (Λ := L0) Okp3 Try.func38 rfl (fun z _ _ => l0Ok' _ z) ?_
    refine (runPwi ht kn r1 r2 r3 r4 r5 r6 r7 r8 p a v L own mark).trans ?_
    rw [h1, same_self]
    unfold wishB
    cases decide (p ≥ wI ((L.length : Int) - 1)) <;> first | rfl | (cases kn <;> first | rfl | (cases decide (v ≥ phM L p) <;> rfl))
  · cases h
noncomputable def Γp4 : Orc := addRd 38 gPwi Γp3
theorem Okp4 : Γp4.Ok Try.prog := addRd_ok Okp3 gPwi_ok
def cyB (L : List (List Dat)) (p : Int) (mi th : Bool) : Bool := bif decide (p ≥ wI ((L.length : Int) - 1)) then false else bif !mi then false else th
set_option maxRecDepth 20000 in
theorem runPcy (mi : Bool) (th : Bool) (r1 : Int) (r2 : Int) (r3 : Int) (r4 : Int) (r5 : Int) (r6 : Int) (r7 : Int) (r8 : Int) (p : Int) (a : Int) (v : Int) (L : List (List Dat)) (own : Bool) (mark : Bool) : runG Γp4 L0 Try.prog Try.f40 [.ptr 0 0, .v (Bo mi), .v (Bo th)] ⟨[[.row 0, .v (I r1), .v (I r2), .v (I r3), .v (I r4), .v (I r5), .v (I r6), .v (I r7), .v (I r8), .v (I p), .ptr 1 0], [.v (I a), .v (I v)]], [true, true], [rH L own mark]⟩ = 
    (bif decide (p ≥ wI ((L.length : Int) - (1 : Int))) then some (.v (Bo false), ⟨[[.row 0, .v (I r1), .v (I r2), .v (I r3), .v (I r4), .v (I r5), .v (I r6), .v (I r7), .v (I r8), .v (I p), .ptr 1 0], [.v (I a), .v (I (addN' a v (1 : Int)))]], [true, true], [.live ⟨30, kPh, L, own, mark⟩]⟩) else (bif !mi then some (.v (Bo false), ⟨[[.row 0, .v (I r1), .v (I r2), .v (I r3), .v (I r4), .v (I r5), .v (I r6), .v (I r7), .v (I r8), .v (I p), .ptr 1 0], [.v (I a), .v (I (addN' a v (1 : Int)))]], [true, true], [.live ⟨30, kPh, L, own, mark⟩]⟩) else (bif !th then some (.v (Bo false), ⟨[[.row 0, .v (I r1), .v (I r2), .v (I r3), .v (I r4), .v (I r5), .v (I r6), .v (I r7), .v (I r8), .v (I p), .ptr 1 0], [.v (I a), .v (I (addN' a v (1 : Int)))]], [true, true], [.live ⟨30, kPh, L, own, mark⟩]⟩) else some (.v (Bo true), ⟨[[.row 0, .v (I r1), .v (I r2), .v (I r3), .v (I r4), .v (I r5), .v (I r6), .v (I r7), .v (I r8), .v (I (wI (p + (1 : Int)))), .ptr 1 0], [.v (I a), .v (I (clampI (0 : Int) a))]], [true, true], [.live ⟨30, kPh, L, own, mark⟩]⟩)))) := by kernel_rfl
def gPcy (xs : List SV) (m : Mem) : Option (Bool × SV × Mem) :=
  match xs, m with
  | [.ptr 0 0, .v (.bool mi), .v (.bool th)], ⟨[[.row 0, .v (.int .i64 r1), .v (.int .i64 r2), .v (.int .i64 r3), .v (.int .i64 r4), .v (.int .i64 r5), .v (.int .i64 r6), .v (.int .i64 r7), .v (.int .i64 r8), .v (.int .i64 p), .ptr 1 0], [.v (.int .i64 a), .v (.int .i64 v)]], [true, true], [.live ⟨30, [.sl 39 [.num .i64, .num .i64], .num .i64, .num .i64, .num .i64, .num .i64], L, own, mark⟩]⟩ => some (true, .v (Bo (cyB L p mi th)), ⟨[[.row 0, .v (I r1), .v (I r2), .v (I r3), .v (I r4), .v (I r5), .v (I r6), .v (I r7), .v (I r8), .v (I (bif cyB L p mi th then wI (p + 1) else p)), .ptr 1 0], [.v (I a), .v (I (bif cyB L p mi th then clampI 0 a else addN' a v 1))]], [true, true], [rH L own mark]⟩)
  | _, _ => none
theorem gPcy_ok : ∀ xs m r m', gPcy xs m = some (true, r, m') → CallOk Try.prog 40 xs m r m' := by
  intro xs m r m' h
  unfold gPcy at h
  split at h
  · rename_i mi th r1 r2 r3 r4 r5 r6 r7 r8 p a v L own mark
    obtain ⟨h1, rfl, rfl⟩ := some_t2 h
    refine runOk (Λ := L0) Okp4 Try.func40 rfl (fun z _ _ => l0Ok' _ z) ?_
    refine (runPcy mi th r1 r2 r3 r4 r5 r6 r7 r8 p a v L own mark).trans ?_
    unfold cyB
    cases decide (p ≥ wI ((L.length : Int) - 1)) <;> cases mi <;> cases th <;> rfl
  · cases h
noncomputable def Γp5 : Orc := addCl 40 gPcy Γp4
theorem Okp5 : Γp5.Ok Try.prog := addCl_ok Okp4 gPcy_ok
def seB (L : List (List Dat)) (q i : Int) : Bool := bif decide (q < 0) then false else bif decide (q ≥ (L.length : Int)) then false else bif decide (i < 0) then false else bif decide (i > 1000000) then false else true
set_option maxRecDepth 20000 in
theorem runPse (q : Int) (i : Int) (r1 : Int) (r2 : Int) (r3 : Int) (r4 : Int) (r5 : Int) (r6 : Int) (r7 : Int) (r8 : Int) (p : Int) (a : Int) (v : Int) (L : List (List Dat)) (own : Bool) (mark : Bool) : runG Γp5 L0 Try.prog Try.f42 [.ptr 0 0, .v (I q), .v (I i)] ⟨[[.row 0, .v (I r1), .v (I r2), .v (I r3), .v (I r4), .v (I r5), .v (I r6), .v (I r7), .v (I r8), .v (I p), .ptr 1 0], [.v (I a), .v (I v)]], [true, true], [rH L own mark]⟩ = 
    (bif decide (q < (0 : Int)) then some (.v (Bo false), ⟨[[.row 0, .v (I r1), .v (I r2), .v (I r3), .v (I r4), .v (I r5), .v (I r6), .v (I r7), .v (I r8), .v (I p), .ptr 1 0], [.v (I a), .v (I v)]], [true, true], [.live ⟨30, kPh, L, own, mark⟩]⟩) else (bif decide (q ≥ (L.length : Int)) then some (.v (Bo false), ⟨[[.row 0, .v (I r1), .v (I r2), .v (I r3), .v (I r4), .v (I r5), .v (I r6), .v (I r7), .v (I r8), .v (I p), .ptr 1 0], [.v (I a), .v (I v)]], [true, true], [.live ⟨30, kPh, L, own, mark⟩]⟩) else (bif decide (i < (0 : Int)) then some (.v (Bo false), ⟨[[.row 0, .v (I r1), .v (I r2), .v (I r3), .v (I r4), .v (I r5), .v (I r6), .v (I r7), .v (I r8), .v (I p), .ptr 1 0], [.v (I a), .v (I v)]], [true, true], [.live ⟨30, kPh, L, own, mark⟩]⟩) else (bif decide (i > (1000000 : Int)) then some (.v (Bo false), ⟨[[.row 0, .v (I r1), .v (I r2), .v (I r3), .v (I r4), .v (I r5), .v (I r6), .v (I r7), .v (I r8), .v (I p), .ptr 1 0], [.v (I a), .v (I v)]], [true, true], [.live ⟨30, kPh, L, own, mark⟩]⟩) else some (.v (Bo true), ⟨[[.row 0, .v (I r1), .v (I r2), .v (I r3), .v (I r4), .v (I r5), .v (I r6), .v (I r7), .v (I r8), .v (I q), .ptr 1 0], [.v (I a), .v (I (clampI i a))]], [true, true], [.live ⟨30, kPh, L, own, mark⟩]⟩))))) := by kernel_rfl
def gPse (xs : List SV) (m : Mem) : Option (Bool × SV × Mem) :=
  match xs, m with
  | [.ptr 0 0, .v (.int .i64 q), .v (.int .i64 i)], ⟨[[.row 0, .v (.int .i64 r1), .v (.int .i64 r2), .v (.int .i64 r3), .v (.int .i64 r4), .v (.int .i64 r5), .v (.int .i64 r6), .v (.int .i64 r7), .v (.int .i64 r8), .v (.int .i64 p), .ptr 1 0], [.v (.int .i64 a), .v (.int .i64 v)]], [true, true], [.live ⟨30, [.sl 39 [.num .i64, .num .i64], .num .i64, .num .i64, .num .i64, .num .i64], L, own, mark⟩]⟩ => some (true, .v (Bo (seB L q i)), ⟨[[.row 0, .v (I r1), .v (I r2), .v (I r3), .v (I r4), .v (I r5), .v (I r6), .v (I r7), .v (I r8), .v (I (bif seB L q i then q else p)), .ptr 1 0], [.v (I a), .v (I (bif seB L q i then clampI i a else v))]], [true, true], [rH L own mark]⟩)
  | _, _ => none
theorem gPse_ok : ∀ xs m r m', gPse xs m = some (true, r, m') → CallOk Try.prog 42 xs m r m' := by
  intro xs m r m' h
  unfold gPse at h
  split at h
  · rename_i q i r1 r2 r3 r4 r5 r6 r7 r8 p a v L own mark
    obtain ⟨h1, rfl, rfl⟩ := some_t2 h
    refine runOk (Λ := L0) Okp5 Try.func42 rfl (fun z _ _ => l0Ok' _ z) ?_
    refine (runPse q i r1 r2 r3 r4 r5 r6 r7 r8 p a v L own mark).trans ?_
    unfold seB
    cases decide (q < 0) <;> cases decide (q ≥ (L.length : Int)) <;> cases decide (i < 0) <;> cases decide (i > 1000000) <;> rfl
  · cases h
noncomputable def Γp6 : Orc := addCl 42 gPse Γp5
theorem Okp6 : Γp6.Ok Try.prog := addCl_ok Okp5 gPse_ok
set_option maxRecDepth 20000 in
theorem runPrp (r1 : Int) (r2 : Int) (r3 : Int) (r4 : Int) (r5 : Int) (r6 : Int) (r7 : Int) (r8 : Int) (p : Int) (L : List (List Dat)) (own : Bool) (mark : Bool) : runG Γp6 L0 Try.prog Try.f18 [.ag [.row 0, .v (I r1), .v (I r2), .v (I r3), .v (I r4), .v (I r5), .v (I r6), .v (I r7), .v (I r8)], .v (I p)] ⟨[], [], [rH L own mark]⟩ = 
    (bif decide (p < (0 : Int)) then some (.v (.tuple #[(.agg #[(Value.slice none (0 : Nat) (0 : Nat)), (I 0), (I 0), (I 0), (I 0)]), (Bo false)]), ⟨[], [], [.live ⟨30, kPh, L, own, mark⟩]⟩) else (bif decide (p ≥ (L.length : Int)) then some (.v (.tuple #[(.agg #[(Value.slice none (0 : Nat) (0 : Nat)), (I 0), (I 0), (I 0), (I 0)]), (Bo false)]), ⟨[], [], [.live ⟨30, kPh, L, own, mark⟩]⟩) else (bif decide ((0 : Int) ≤ p) && decide (p < (L.length : Int)) then (bif Nat.blt (0 : Nat) (phA L p).length && (phA L p).length.ble (1000000) then some (.tup [.ag [.row 1, .v (I ((phG L p))), .v (I ((phV L p))), .v (I ((phM L p))), .v (I ((phU L p)))], .one (.v (Bo true))], ⟨[], [], [.live ⟨30, kPh, L, own, mark⟩, .live ⟨39, [.num .i64, .num .i64], (phA L p), true, false⟩]⟩) else none) else none))) := by kernel_rfl
def gPrp (xs : List SV) (m : Mem) : Option (Bool × SV × Mem) :=
  match xs, m with
  | [.ag [.row 0, .v (.int .i64 r1), .v (.int .i64 r2), .v (.int .i64 r3), .v (.int .i64 r4), .v (.int .i64 r5), .v (.int .i64 r6), .v (.int .i64 r7), .v (.int .i64 r8)], .v (.int .i64 p)], ⟨[], [], [.live ⟨30, [.sl 39 [.num .i64, .num .i64], .num .i64, .num .i64, .num .i64, .num .i64], L, own, mark⟩]⟩ => some (phOk L && (phNe L && (decide (0 ≤ p) && decide (p < (L.length : Int)))), .tup [.ag [.row 1, .v (I (phG L p)), .v (I (phV L p)), .v (I (phM L p)), .v (I (phU L p))], .one (.v (Bo true))], ⟨[], [], [rH L own mark, rP (phA L p) true false]⟩)
  | _, _ => none
theorem gPrp_ok : ∀ xs m r m', gPrp xs m = some (true, r, m') → CallOk Try.prog 18 xs m r m' := by
  intro xs m r m' h
  unfold gPrp at h
  split at h
  · rename_i r1 r2 r3 r4 r5 r6 r7 r8 p L own mark
    obtain ⟨h1, rfl, rfl⟩ := some_t2 h
    refine runOk (Λ := L0) Okp6 Try.func18 rfl (fun z _ _ => l0Ok' _ z) ?_
    refine (runPrp r1 r2 r3 r4 r5 r6 r7 r8 p L own mark).trans ?_
    simp only [Bool.and_eq_true, decide_eq_true_eq] at h1
    obtain ⟨h1, h2, h3, h4⟩ := h1
    rw [decide_eq_false (show ¬ p < 0 by omega), decide_eq_false (show ¬ p ≥ (L.length : Int) by omega), decide_eq_true h3, decide_eq_true h4, (phOk_get h1 h3 h4).2, phNe_get h2 h3 h4]
    rfl
  · cases h
noncomputable def Γp7 : Orc := addCl 18 gPrp Γp6
theorem Okp7 : Γp7.Ok Try.prog := addCl_ok Okp6 gPrp_ok
set_option maxRecDepth 20000 in
theorem runPno (r1 : Int) (r2 : Int) (r3 : Int) (r4 : Int) (r5 : Int) (r6 : Int) (r7 : Int) (r8 : Int) (p : Int) (a : Int) (v : Int) (L : List (List Dat)) (own : Bool) (mark : Bool) : runG Γp7 L0 Try.prog Try.f46 [.ptr 0 0] ⟨[[.row 0, .v (I r1), .v (I r2), .v (I r3), .v (I r4), .v (I r5), .v (I r6), .v (I r7), .v (I r8), .v (I p), .ptr 1 0], [.v (I a), .v (I v)]], [true, true], [rH L own mark]⟩ = 
    (same ((bif phOk L && (phNe L && (decide ((0 : Int) ≤ p) && decide (p < (L.length : Int)))) then (same (some (.ag [.row 1, .v (I (phG L p)), .v (I (phV L p)), .v (I (phM L p)), .v (I (phU L p))], ⟨[[.row 0, .v (I r1), .v (I r2), .v (I r3), .v (I r4), .v (I r5), .v (I r6), .v (I r7), .v (I r8), .v (I p), .ptr 1 0], [.v (I a), .v (I v)]], [true, true], [.live ⟨30, kPh, L, own, mark⟩, .live ⟨39, [.num .i64, .num .i64], phA L p, true, false⟩]⟩)) (some (.ag [.row 1, .v (I (phG L p)), .v (I (phV L p)), .v (I (phM L p)), .v (I (phU L p))], ⟨[[.row 0, .v (I r1), .v (I r2), .v (I r3), .v (I r4), .v (I r5), .v (I r6), .v (I r7), .v (I r8), .v (I p), .ptr 1 0], [.v (I a), .v (I v)]], [true, true], [.live ⟨30, kPh, L, own, mark⟩, .live ⟨39, [.num .i64, .num .i64], phA L p, true, false⟩]⟩))) else none)) ((bif phOk L && (phNe L && (decide ((0 : Int) ≤ p) && decide (p < (L.length : Int)))) then (same (some (.ag [.row 1, .v (I (phG L p)), .v (I (phV L p)), .v (I (phM L p)), .v (I (phU L p))], ⟨[[.row 0, .v (I r1), .v (I r2), .v (I r3), .v (I r4), .v (I r5), .v (I r6), .v (I r7), .v (I r8), .v (I p), .ptr 1 0], [.v (I a), .v (I v)]], [true, true], [.live ⟨30, kPh, L, own, mark⟩, .live ⟨39, [.num .i64, .num .i64], phA L p, true, false⟩]⟩)) (some (.ag [.row 1, .v (I (phG L p)), .v (I (phV L p)), .v (I (phM L p)), .v (I (phU L p))], ⟨[[.row 0, .v (I r1), .v (I r2), .v (I r3), .v (I r4), .v (I r5), .v (I r6), .v (I r7), .v (I r8), .v (I p), .ptr 1 0], [.v (I a), .v (I v)]], [true, true], [.live ⟨30, kPh, L, own, mark⟩, .live ⟨39, [.num .i64, .num .i64], phA L p, true, false⟩]⟩))) else none))) := by kernel_rfl
def gPno (xs : List SV) (m : Mem) : Option (Bool × SV × Mem) :=
  match xs, m with
  | [.ptr 0 0], ⟨[[.row 0, .v (.int .i64 r1), .v (.int .i64 r2), .v (.int .i64 r3), .v (.int .i64 r4), .v (.int .i64 r5), .v (.int .i64 r6), .v (.int .i64 r7), .v (.int .i64 r8), .v (.int .i64 p), .ptr 1 0], [.v (.int .i64 a), .v (.int .i64 v)]], [true, true], [.live ⟨30, [.sl 39 [.num .i64, .num .i64], .num .i64, .num .i64, .num .i64, .num .i64], L, own, mark⟩]⟩ => some (phOk L && (phNe L && (decide (0 ≤ p) && decide (p < (L.length : Int)))), .ag [.row 1, .v (I (phG L p)), .v (I (phV L p)), .v (I (phM L p)), .v (I (phU L p))], ⟨[[.row 0, .v (I r1), .v (I r2), .v (I r3), .v (I r4), .v (I r5), .v (I r6), .v (I r7), .v (I r8), .v (I (p)), .ptr 1 0], [.v (I a), .v (I (v))]], [true, true], [rH L own mark, rP (phA L p) true false]⟩)
  | _, _ => none
theorem gPno_ok : ∀ xs m r m', gPno xs m = some (true, r, m') → CallOk Try.prog 46 xs m r m' := by
  intro xs m r m' h
  unfold gPno at h
  split at h
  · rename_i r1 r2 r3 r4 r5 r6 r7 r8 p a v L own mark
    obtain ⟨h1, rfl, rfl⟩ := some_t2 h
    refine runOk (Λ := L0) Okp7 Try.func46 rfl (fun z _ _ => l0Ok' _ z) ?_
    refine (runPno r1 r2 r3 r4 r5 r6 r7 r8 p a v L own mark).trans ?_
    rw [h1]
    simp only [same_self, cond_true]
  · cases h
noncomputable def Γp8 : Orc := addCl 46 gPno Γp7
theorem Okp8 : Γp8.Ok Try.prog := addCl_ok Okp7 gPno_ok
set_option maxRecDepth 20000 in
theorem runPnw (r1 : Int) (r2 : Int) (r3 : Int) (r4 : Int) (r5 : Int) (r6 : Int) (r7 : Int) (r8 : Int) (L : List (List Dat)) (own : Bool) (mark : Bool) : runG Γp8 L0 Try.prog Try.f37 [.ag [.row 0, .v (I r1), .v (I r2), .v (I r3), .v (I r4), .v (I r5), .v (I r6), .v (I r7), .v (I r8)]] ⟨[], [], [rH L own mark]⟩ = 
    (bif phOk L then (bif !wrB L r1 r2 r3 r4 r5 r6 r7 r8 == (0 : Int) then some (.v (Value.pointer none), ⟨[], [], [.live ⟨30, kPh, L, own, mark⟩]⟩) else (bif phOk L && (phNe L && Nat.blt (0 : Nat) L.length) then some (.ptr 0 0, ⟨[[.row 1, .v (I r1), .v (I r2), .v (I r3), .v (I r4), .v (I r5), .v (I r6), .v (I r7), .v (I r8), .v (I 0), .ptr 1 0], [.v (I 1000000), .v (I 0)]], [true, true], [.live ⟨30, kPh, L, own, mark⟩, .live ⟨30, kPh, L, true, false⟩]⟩) else none)) else none) := by kernel_rfl
def gPnw (xs : List SV) (m : Mem) : Option (Bool × SV × Mem) :=
  match xs, m with
  | [.ag [.row 0, .v (.int .i64 r1), .v (.int .i64 r2), .v (.int .i64 r3), .v (.int .i64 r4), .v (.int .i64 r5), .v (.int .i64 r6), .v (.int .i64 r7), .v (.int .i64 r8)]], ⟨[], [], [.live ⟨30, [.sl 39 [.num .i64, .num .i64], .num .i64, .num .i64, .num .i64, .num .i64], L, own, mark⟩]⟩ => some (phOk L && (phNe L && (wrB L r1 r2 r3 r4 r5 r6 r7 r8 == 0 && Nat.blt 0 L.length)), .ptr 0 0, ⟨[[.row 1, .v (I r1), .v (I r2), .v (I r3), .v (I r4), .v (I r5), .v (I r6), .v (I r7), .v (I r8), .v (I 0), .ptr 1 0], [.v (I 1000000), .v (I 0)]], [true, true], [rH L own mark, rH L true false]⟩)
  | _, _ => none
theorem gPnw_ok : ∀ xs m r m', gPnw xs m = some (true, r, m') → CallOk Try.prog 37 xs m r m' := by
  intro xs m r m' h
  unfold gPnw at h
  split at h
  · rename_i r1 r2 r3 r4 r5 r6 r7 r8 L own mark
    obtain ⟨h1, rfl, rfl⟩ := some_t2 h
    refine runOk (Λ := L0) Okp8 Try.func37 rfl (fun z _ _ => l0Ok' _ z) ?_
    refine (runPnw r1 r2 r3 r4 r5 r6 r7 r8 L own mark).trans ?_
    simp only [Bool.and_eq_true] at h1
    obtain ⟨h1, h2, h3, h4⟩ := h1
    rw [h1, h2, h3, h4]
    rfl
  · cases h
noncomputable def Γp9 : Orc := addCl 37 gPnw Γp8
theorem Okp9 : Γp9.Ok Try.prog := addCl_ok Okp8 gPnw_ok
def wishR (L : List (List Dat)) (p v h : Int) (kn : Bool) : Bool := bif kn then (bif decide (wI (p + 1) < (L.length : Int)) then (bif decide (v ≥ phM L p) then decide (h ≥ phU L p) else false) else false) else false
set_option maxRecDepth 20000 in
theorem runRwi (ht : Int) (kn : Bool) (r1 : Int) (r2 : Int) (r3 : Int) (r4 : Int) (r5 : Int) (r6 : Int) (r7 : Int) (r8 : Int) (p : Int) (v : Int) (L : List (List Dat)) (own : Bool) (mark : Bool) : runG Γp9 L0 Try.prog Try.f39 [.ptr 0 0, .v (I ht), .v (Bo kn)] ⟨[[.row 0, .v (I r1), .v (I r2), .v (I r3), .v (I r4), .v (I r5), .v (I r6), .v (I r7), .v (I r8), .v (I p), .v (I v)]], [true], [rH L own mark]⟩ = 
    (bif decide ((0 : Int) ≤ p) && decide (p < (L.length : Int)) then (same ((bif kn then (bif decide (wI (p + (1 : Int)) < (L.length : Int)) then (bif decide (v ≥ (phM L p)) then some (.v (Bo (decide (ht ≥ (phU L p)))), ⟨[[.row 0, .v (I r1), .v (I r2), .v (I r3), .v (I r4), .v (I r5), .v (I r6), .v (I r7), .v (I r8), .v (I p), .v (I v)]], [true], [.live ⟨30, kPh, L, own, mark⟩]⟩) else some (.v (Bo false), ⟨[[.row 0, .v (I r1), .v (I r2), .v (I r3), .v (I r4), .v (I r5), .v (I r6), .v (I r7), .v (I r8), .v (I p), .v (I v)]], [true], [.live ⟨30, kPh, L, own, mark⟩]⟩)) else some (.v (Bo false), ⟨[[.row 0, .v (I r1), .v (I r2), .v (I r3), .v (I r4), .v (I r5), .v (I r6), .v (I r7), .v (I r8), .v (I p), .v (I v)]], [true], [.live ⟨30, kPh, L, own, mark⟩]⟩)) else some (.v (Bo false), ⟨[[.row 0, .v (I r1), .v (I r2), .v (I r3), .v (I r4), .v (I r5), .v (I r6), .v (I r7), .v (I r8), .v (I p), .v (I v)]], [true], [.live ⟨30, kPh, L, own, mark⟩]⟩))) ((bif kn then (bif decide (wI (p + (1 : Int)) < (L.length : Int)) then (bif decide (v ≥ (phM L p)) then some (.v (Bo (decide (ht ≥ (phU L p)))), ⟨[[.row 0, .v (I r1), .v (I r2), .v (I r3), .v (I r4), .v (I r5), .v (I r6), .v (I r7), .v (I r8), .v (I p), .v (I v)]], [true], [.live ⟨30, kPh, L, own, mark⟩]⟩) else some (.v (Bo false), ⟨[[.row 0, .v (I r1), .v (I r2), .v (I r3), .v (I r4), .v (I r5), .v (I r6), .v (I r7), .v (I r8), .v (I p), .v (I v)]], [true], [.live ⟨30, kPh, L, own, mark⟩]⟩)) else some (.v (Bo false), ⟨[[.row 0, .v (I r1), .v (I r2), .v (I r3), .v (I r4), .v (I r5), .v (I r6), .v (I r7), .v (I r8), .v (I p), .v (I v)]], [true], [.live ⟨30, kPh, L, own, mark⟩]⟩)) else some (.v (Bo false), ⟨[[.row 0, .v (I r1), .v (I r2), .v (I r3), .v (I r4), .v (I r5), .v (I r6), .v (I r7), .v (I r8), .v (I p), .v (I v)]], [true], [.live ⟨30, kPh, L, own, mark⟩]⟩)))) else none) := by kernel_rfl
def gRwi (xs : List SV) (m : Mem) : Option (Bool × Value) :=
  match xs, m with
  | [.ptr 0 0, .v (.int .i64 ht), .v (.bool kn)], ⟨[[.row 0, .v (.int .i64 r1), .v (.int .i64 r2), .v (.int .i64 r3), .v (.int .i64 r4), .v (.int .i64 r5), .v (.int .i64 r6), .v (.int .i64 r7), .v (.int .i64 r8), .v (.int .i64 p), .v (.int .i64 v)]], [true], [.live ⟨30, [.sl 39 [.num .i64, .num .i64], .num .i64, .num .i64, .num .i64, .num .i64], L, own, mark⟩]⟩ => some (decide (0 ≤ p) && decide (p < (L.length : Int)), Bo (wishR L p v ht kn))
  | _, _ => none
theorem gRwi_ok : ∀ xs m r, gRwi xs m = some (true, r) → CallOk Try.prog 39 xs m (.v r) m := by
  intro xs m r h
  unfold gRwi at h
  split at h
  · rename_i ht kn r1 r2 r3 r4 r5 r6 r7 r8 p v L own mark
    obtain ⟨h1, rfl⟩ := some_t h
    refine runOk (Λ := L0) Okp9 Try.func39 rfl (fun z _ _ => l0Ok' _ z) ?_
    refine (runRwi ht kn r1 r2 r3 r4 r5 r6 r7 r8 p v L own mark).trans ?_
    rw [h1, same_self]
    unfold wishR
    cases kn <;> first | rfl | (cases decide (wI (p + 1) < (L.length : Int)) <;> first | rfl | (cases decide (v ≥ phM L p) <;> rfl))
  · cases h
noncomputable def Γp10 : Orc := addRd 39 gRwi Γp9
theorem Okp10 : Γp10.Ok Try.prog := addRd_ok Okp9 gRwi_ok
def cyR (L : List (List Dat)) (p : Int) (mi th : Bool) : Bool := bif mi then (bif th then decide (wI (p + 1) < (L.length : Int)) else false) else false
set_option maxRecDepth 20000 in
theorem runRcy (mi : Bool) (th : Bool) (r1 : Int) (r2 : Int) (r3 : Int) (r4 : Int) (r5 : Int) (r6 : Int) (r7 : Int) (r8 : Int) (p : Int) (v : Int) (L : List (List Dat)) (own : Bool) (mark : Bool) : runG Γp10 L0 Try.prog Try.f41 [.ptr 0 0, .v (Bo mi), .v (Bo th)] ⟨[[.row 0, .v (I r1), .v (I r2), .v (I r3), .v (I r4), .v (I r5), .v (I r6), .v (I r7), .v (I r8), .v (I p), .v (I v)]], [true], [rH L own mark]⟩ = 
    (bif mi then (bif th then (bif decide (wI (p + (1 : Int)) < (L.length : Int)) then some (.v (Bo true), ⟨[[.row 0, .v (I r1), .v (I r2), .v (I r3), .v (I r4), .v (I r5), .v (I r6), .v (I r7), .v (I r8), .v (I (wI (p + (1 : Int)))), .v (I 0)]], [true], [.live ⟨30, kPh, L, own, mark⟩]⟩) else some (.v (Bo false), ⟨[[.row 0, .v (I r1), .v (I r2), .v (I r3), .v (I r4), .v (I r5), .v (I r6), .v (I r7), .v (I r8), .v (I p), .v (I (if (1000000 : Int) < wI (v + (1 : Int)) then (1000000 : Int) else wI (v + (1 : Int))))]], [true], [.live ⟨30, kPh, L, own, mark⟩]⟩)) else some (.v (Bo false), ⟨[[.row 0, .v (I r1), .v (I r2), .v (I r3), .v (I r4), .v (I r5), .v (I r6), .v (I r7), .v (I r8), .v (I p), .v (I (if (1000000 : Int) < wI (v + (1 : Int)) then (1000000 : Int) else wI (v + (1 : Int))))]], [true], [.live ⟨30, kPh, L, own, mark⟩]⟩)) else some (.v (Bo false), ⟨[[.row 0, .v (I r1), .v (I r2), .v (I r3), .v (I r4), .v (I r5), .v (I r6), .v (I r7), .v (I r8), .v (I p), .v (I (if (1000000 : Int) < wI (v + (1 : Int)) then (1000000 : Int) else wI (v + (1 : Int))))]], [true], [.live ⟨30, kPh, L, own, mark⟩]⟩)) := by kernel_rfl
def gRcy (xs : List SV) (m : Mem) : Option (Bool × SV × Mem) :=
  match xs, m with
  | [.ptr 0 0, .v (.bool mi), .v (.bool th)], ⟨[[.row 0, .v (.int .i64 r1), .v (.int .i64 r2), .v (.int .i64 r3), .v (.int .i64 r4), .v (.int .i64 r5), .v (.int .i64 r6), .v (.int .i64 r7), .v (.int .i64 r8), .v (.int .i64 p), .v (.int .i64 v)]], [true], [.live ⟨30, [.sl 39 [.num .i64, .num .i64], .num .i64, .num .i64, .num .i64, .num .i64], L, own, mark⟩]⟩ => some (true, .v (Bo (cyR L p mi th)), ⟨[[.row 0, .v (I r1), .v (I r2), .v (I r3), .v (I r4), .v (I r5), .v (I r6), .v (I r7), .v (I r8), .v (I (bif cyR L p mi th then wI (p + 1) else p)), .v (I (bif cyR L p mi th then 0 else (if (1000000 : Int) < wI (v + 1) then 1000000 else wI (v + 1))))]], [true], [rH L own mark]⟩)
  | _, _ => none
theorem gRcy_ok : ∀ xs m r m', gRcy xs m = some (true, r, m') → CallOk Try.prog 41 xs m r m' := by
  intro xs m r m' h
  unfold gRcy at h
  split at h
  · rename_i mi th r1 r2 r3 r4 r5 r6 r7 r8 p v L own mark
    obtain ⟨h1, rfl, rfl⟩ := some_t2 h
    refine runOk (Λ := L0) Okp10 Try.func41 rfl (fun z _ _ => l0Ok' _ z) ?_
    refine (runRcy mi th r1 r2 r3 r4 r5 r6 r7 r8 p v L own mark).trans ?_
    unfold cyR
    cases mi <;> cases th <;> cases decide (wI (p + 1) < (L.length : Int)) <;> rfl
  · cases h
noncomputable def Γp11 : Orc := addCl 41 gRcy Γp10
theorem Okp11 : Γp11.Ok Try.prog := addCl_ok Okp10 gRcy_ok
noncomputable def ΓPh : Orc := Γp11
theorem OkPh : ΓPh.Ok Try.prog := Okp11
end Go.Proofs.Ytmfeioinhpdebaa

namespace Go.Proofs.Ytmfeioinhpdebaa
open Go Go.Proofs Go.Sx
def wx21 (f : FuncId) : Bool := wrP f || Nat.beq f 27
noncomputable def Γx21 : Orc := execB Try.prog ΓPh.call ΓPh.rd ΓPh.eqv wx21 30 6
theorem Okx21 : Γx21.Ok Try.prog := execB_ok mixed names (ext := ΓPh.call) (rd := ΓPh.rd) (eqv := ΓPh.eqv) ⟨OkPh.call, OkPh.rd, OkPh.eqv⟩ 30 6
set_option maxRecDepth 100000 in
theorem runAwake21 : runG Γx21 (loopX Γx21 Try.prog 30 3) Try.prog Try.f36 [] M0 = some (.v (Bo true), M0) := by kernel_rfl
def gAwake21 (vs : List Value) : Option (Bool × Value) :=
  match vs with
  | [] => some (true, Bo true)
  | _ => none
theorem gAwake21_ok : ∀ vs r, gAwake21 vs = some (true, r) → ∀ m, CallOk Try.prog 36 (vs.map .v) m (.v r) m := by
  intro vs r h
  unfold gAwake21 at h
  split at h
  · obtain ⟨_, rfl⟩ := some_t h
    exact runV (vs := []) Okx21 Try.func36 rfl (fun z _ _ b hb => loopX_ok Okx21 mixed 30 3 b) runAwake21
  · cases h
noncomputable def ΓA21 : Orc := addVal 36 gAwake21 ΓPh
theorem OkA21 : ΓA21.Ok Try.prog := addVal_ok OkPh gAwake21_ok
end Go.Proofs.Ytmfeioinhpdebaa

namespace Go.Proofs.Ytmfeioinhpdebaa
open Go Go.Proofs Go.Sx
set_option linter.unusedVariables false
/-! norm -/
/-! cast -/
abbrev zPh : Value := .agg #[.slice none 0 0, I 0, I 0, I 0, I 0]
set_option maxRecDepth 20000 in
theorem runSP0 : runG Γx21 (loopX Γx21 Try.prog 30 3) Try.prog Try.f22 [.v zPh, .v zPh] M0 = some (.v (Bo true), M0) := by kernel_rfl
def gSP0 (vs : List Value) : Option (Bool × Value) :=
  match vs with
  | [.agg ⟨[.slice none 0 0, .int .i64 0, .int .i64 0, .int .i64 0, .int .i64 0]⟩, .agg ⟨[.slice none 0 0, .int .i64 0, .int .i64 0, .int .i64 0, .int .i64 0]⟩] => some (true, Bo true)
  | _ => none
theorem gSP0_ok : ∀ vs r, gSP0 vs = some (true, r) → ∀ m, CallOk Try.prog 22 (vs.map .v) m (.v r) m := by
  intro vs r h
  unfold gSP0 at h
  split at h
  · obtain ⟨_, rfl⟩ := some_t h
    exact runV (vs := [zPh, zPh]) Okx21 Try.func22 rfl (fun z _ _ b hb => loopX_ok Okx21 mixed 30 3 b) runSP0
  · cases h
noncomputable def Γn0 : Orc := addVal 22 gSP0 ΓA21
theorem Okn0 : Γn0.Ok Try.prog := addVal_ok OkA21 gSP0_ok
set_option maxRecDepth 20000 in
theorem runNla : runG Γn0 L0 Try.prog Try.f45 [.v (.pointer none)] M0 = some (.v (Bo true), M0) := by kernel_rfl
def gNla (vs : List Value) : Option (Bool × Value) :=
  match vs with
  | [.pointer none] => some (true, Bo true)
  | _ => none
theorem gNla_ok : ∀ vs r, gNla vs = some (true, r) → ∀ m, CallOk Try.prog 45 (vs.map .v) m (.v r) m := by
  intro vs r h
  unfold gNla at h
  split at h
  · obtain ⟨_, rfl⟩ := some_t h
    exact runV (vs := [.pointer none]) (Λ := L0) (m' := M0) Okn0 Try.func45 rfl (fun z _ _ => l0Ok' _ z) runNla
  · cases h
noncomputable def Γn1 : Orc := addVal 45 gNla Γn0
theorem Okn1 : Γn1.Ok Try.prog := addVal_ok Okn0 gNla_ok
set_option maxRecDepth 20000 in
theorem runNwi (ht : Int) (kn : Bool) : runG Γn1 L0 Try.prog Try.f38 [.v (.pointer none), .v (I ht), .v (Bo kn)] M0 = 
    some (.v (Bo false), M0) := by kernel_rfl
def gNwi (vs : List Value) : Option (Bool × Value) :=
  match vs with
  | [.pointer none, .int .i64 ht, .bool kn] => some (true, Bo false)
  | _ => none
theorem gNwi_ok : ∀ vs r, gNwi vs = some (true, r) → ∀ m, CallOk Try.prog 38 (vs.map .v) m (.v r) m := by
  intro vs r h
  unfold gNwi at h
  split at h
  · rename_i ht kn
    obtain ⟨h1, rfl⟩ := some_t h
    refine runV (vs := [.pointer none, I ht, Bo kn]) (Λ := L0) (m' := M0) Okn1 Try.func38 rfl (fun z _ _ => l0Ok' _ z) ?_
    exact (runNwi ht kn).trans (rfl)
  · cases h
noncomputable def Γn2 : Orc := addVal 38 gNwi Γn1
theorem Okn2 : Γn2.Ok Try.prog := addVal_ok Okn1 gNwi_ok
set_option maxRecDepth 20000 in
theorem runNcy (mi : Bool) (th : Bool) : runG Γn2 L0 Try.prog Try.f40 [.v (.pointer none), .v (Bo mi), .v (Bo th)] M0 = 
    some (.v (Bo false), M0) := by kernel_rfl
def gNcy (vs : List Value) : Option (Bool × Value) :=
  match vs with
  | [.pointer none, .bool mi, .bool th] => some (true, Bo false)
  | _ => none
theorem gNcy_ok : ∀ vs r, gNcy vs = some (true, r) → ∀ m, CallOk Try.prog 40 (vs.map .v) m (.v r) m := by
  intro vs r h
  unfold gNcy at h
  split at h
  · rename_i mi th
    obtain ⟨h1, rfl⟩ := some_t h
    refine runV (vs := [.pointer none, Bo mi, Bo th]) (Λ := L0) (m' := M0) Okn2 Try.func40 rfl (fun z _ _ => l0Ok' _ z) ?_
    exact (runNcy mi th).trans (rfl)
  · cases h
noncomputable def Γn3 : Orc := addVal 40 gNcy Γn2
theorem Okn3 : Γn3.Ok Try.prog := addVal_ok Okn2 gNcy_ok
set_option maxRecDepth 20000 in
theorem runNno : runG Γn3 L0 Try.prog Try.f46 [.v (.pointer none)] M0 = some (.v (zPh), M0) := by kernel_rfl
def gNno (vs : List Value) : Option (Bool × Value) :=
  match vs with
  | [.pointer none] => some (true, zPh)
  | _ => none
theorem gNno_ok : ∀ vs r, gNno vs = some (true, r) → ∀ m, CallOk Try.prog 46 (vs.map .v) m (.v r) m := by
  intro vs r h
  unfold gNno at h
  split at h
  · obtain ⟨_, rfl⟩ := some_t h
    exact runV (vs := [.pointer none]) (Λ := L0) (m' := M0) Okn3 Try.func46 rfl (fun z _ _ => l0Ok' _ z) runNno
  · cases h
noncomputable def Γn4 : Orc := addVal 46 gNno Γn3
theorem Okn4 : Γn4.Ok Try.prog := addVal_ok Okn3 gNno_ok
set_option maxRecDepth 20000 in
theorem runNph : runG Γn4 L0 Try.prog Try.f43 [.v (.pointer none)] M0 = some (.v (I 0), M0) := by kernel_rfl
def gNph (vs : List Value) : Option (Bool × Value) :=
  match vs with
  | [.pointer none] => some (true, I 0)
  | _ => none
theorem gNph_ok : ∀ vs r, gNph vs = some (true, r) → ∀ m, CallOk Try.prog 43 (vs.map .v) m (.v r) m := by
  intro vs r h
  unfold gNph at h
  split at h
  · obtain ⟨_, rfl⟩ := some_t h
    exact runV (vs := [.pointer none]) (Λ := L0) (m' := M0) Okn4 Try.func43 rfl (fun z _ _ => l0Ok' _ z) runNph
  · cases h
noncomputable def Γn5 : Orc := addVal 43 gNph Γn4
theorem Okn5 : Γn5.Ok Try.prog := addVal_ok Okn4 gNph_ok
set_option maxRecDepth 20000 in
theorem runNin : runG Γn5 L0 Try.prog Try.f44 [.v (.pointer none)] M0 = some (.v (I 0), M0) := by kernel_rfl
def gNin (vs : List Value) : Option (Bool × Value) :=
  match vs with
  | [.pointer none] => some (true, I 0)
  | _ => none
theorem gNin_ok : ∀ vs r, gNin vs = some (true, r) → ∀ m, CallOk Try.prog 44 (vs.map .v) m (.v r) m := by
  intro vs r h
  unfold gNin at h
  split at h
  · obtain ⟨_, rfl⟩ := some_t h
    exact runV (vs := [.pointer none]) (Λ := L0) (m' := M0) Okn5 Try.func44 rfl (fun z _ _ => l0Ok' _ z) runNin
  · cases h
noncomputable def Γn6 : Orc := addVal 44 gNin Γn5
theorem Okn6 : Γn6.Ok Try.prog := addVal_ok Okn5 gNin_ok
set_option maxRecDepth 20000 in
theorem runNse (q : Int) (i : Int) : runG Γn6 L0 Try.prog Try.f42 [.v (.pointer none), .v (I q), .v (I i)] M0 = 
    some (.v (Bo false), M0) := by kernel_rfl
def gNse (vs : List Value) : Option (Bool × Value) :=
  match vs with
  | [.pointer none, .int .i64 q, .int .i64 i] => some (true, Bo false)
  | _ => none
theorem gNse_ok : ∀ vs r, gNse vs = some (true, r) → ∀ m, CallOk Try.prog 42 (vs.map .v) m (.v r) m := by
  intro vs r h
  unfold gNse at h
  split at h
  · rename_i q i
    obtain ⟨h1, rfl⟩ := some_t h
    refine runV (vs := [.pointer none, I q, I i]) (Λ := L0) (m' := M0) Okn6 Try.func42 rfl (fun z _ _ => l0Ok' _ z) ?_
    exact (runNse q i).trans (rfl)
  · cases h
noncomputable def Γn7 : Orc := addVal 42 gNse Γn6
theorem Okn7 : Γn7.Ok Try.prog := addVal_ok Okn6 gNse_ok
set_option maxRecDepth 20000 in
theorem phaseNil (h i : Int) : runG Γn7 L0 Try.prog Try.f14 [.v (I h), .v (I i)] M0 = some (.v (Bo true), M0) := by kernel_rfl
theorem phaseNilLaw (a0 a1 : Int) (u0 : (Lit.int .i64 a0).wf = true) (u1 : (Lit.int .i64 a1).wf = true) : ∃ m', runG Γn7 L0 Try.prog Try.f14 (inArgs [.v (.int .i64 a0), .v (.int .i64 a1)] 0) (inMem [.v (.int .i64 a0), .v (.int .i64 a1)]) = some (.v (.bool true), m') := ⟨_, phaseNil a0 a1⟩
def smP (A : List (List Dat)) (g v m u : Int) (B : List (List Dat)) (g2 v2 m2 u2 : Int) : Bool := sameB A B && (g == g2 && (v == v2 && (m == m2 && u == u2)))
set_option maxRecDepth 20000 in
theorem runSsp (g : Int) (v : Int) (m : Int) (u : Int) (g2 : Int) (v2 : Int) (m2 : Int) (u2 : Int) (L : List (List Dat)) (own : Bool) (mark : Bool) (L2 : List (List Dat)) (own2 : Bool) (mark2 : Bool) : runG Γn7 L0 Try.prog Try.f22 [.ag [.row 0, .v (I g), .v (I v), .v (I m), .v (I u)], .ag [.row 1, .v (I g2), .v (I v2), .v (I m2), .v (I u2)]] ⟨[], [], [rP L own mark, rP L2 own2 mark2]⟩ = 
    (bif L.length.ble (1000000) then (bif sameB L L2 then (bif g == g2 then (bif v == v2 then (bif m == m2 then some (.v (Bo (u == u2)), ⟨[], [], [.live ⟨39, [.num .i64, .num .i64], L, own, mark⟩, .live ⟨39, [.num .i64, .num .i64], L2, own2, mark2⟩]⟩) else some (.v (Bo false), ⟨[], [], [.live ⟨39, [.num .i64, .num .i64], L, own, mark⟩, .live ⟨39, [.num .i64, .num .i64], L2, own2, mark2⟩]⟩)) else some (.v (Bo false), ⟨[], [], [.live ⟨39, [.num .i64, .num .i64], L, own, mark⟩, .live ⟨39, [.num .i64, .num .i64], L2, own2, mark2⟩]⟩)) else some (.v (Bo false), ⟨[], [], [.live ⟨39, [.num .i64, .num .i64], L, own, mark⟩, .live ⟨39, [.num .i64, .num .i64], L2, own2, mark2⟩]⟩)) else some (.v (Bo false), ⟨[], [], [.live ⟨39, [.num .i64, .num .i64], L, own, mark⟩, .live ⟨39, [.num .i64, .num .i64], L2, own2, mark2⟩]⟩)) else none) := by kernel_rfl
def gSsp (xs : List SV) (m : Mem) : Option (Bool × Value) :=
  match xs, m with
  | [.ag [.row 0, .v (.int .i64 g), .v (.int .i64 v), .v (.int .i64 m), .v (.int .i64 u)], .ag [.row 1, .v (.int .i64 g2), .v (.int .i64 v2), .v (.int .i64 m2), .v (.int .i64 u2)]], ⟨[], [], [.live ⟨39, [.num .i64, .num .i64], L, own, mark⟩, .live ⟨39, [.num .i64, .num .i64], L2, own2, mark2⟩]⟩ => some (Nat.ble L.length 1000000, Bo (smP L g v m u L2 g2 v2 m2 u2))
  | _, _ => none
theorem gSsp_ok : ∀ xs m r, gSsp xs m = some (true, r) → CallOk Try.prog 22 xs m (.v r) m := by
  intro xs m r h
  unfold gSsp at h
  split at h
  · rename_i g v m u g2 v2 m2 u2 L own mark L2 own2 mark2
    obtain ⟨h1, rfl⟩ := some_t h
    refine runOk (Λ := L0) Okn7 Try.func22 rfl (fun z _ _ => l0Ok' _ z) ?_
    refine (runSsp g v m u g2 v2 m2 u2 L own mark L2 own2 mark2).trans ?_
    rw [h1]
    unfold smP
    cases sameB L L2 <;> cases g == g2 <;> cases v == v2 <;> cases m == m2 <;> cases u == u2 <;> rfl
  · cases h
noncomputable def Γn8 : Orc := addRd 22 gSsp Γn7
theorem Okn8 : Γn8.Ok Try.prog := addRd_ok Okn7 gSsp_ok
noncomputable def ΓNi : Orc := Γn8
theorem OkNi : ΓNi.Ok Try.prog := Okn8
end Go.Proofs.Ytmfeioinhpdebaa

