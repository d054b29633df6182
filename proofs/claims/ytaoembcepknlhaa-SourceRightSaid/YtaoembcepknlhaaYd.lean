/-
  Three laws of sources over values.
-/
import Derived.Test.YtaoembcepknlhaaYc
import Derived.Test.YtaoembcepknlhaaSw
namespace Go.Proofs.Ytaoembcepknlhaa
open Go Go.Proofs Go.Sx
set_option linter.unusedVariables false
/-! norm -/
/-! cast -/
/-! rep [CK.sl 32 [CK0.num IntKind.i64, CK0.num IntKind.i64, CK0.num IntKind.i64, CK0.num IntKind.i64, CK0.num IntKind.i64, CK0.num IntKind.i64, CK0.num IntKind.i64, CK0.num IntKind.i64]] => kAv -/
/-! rep [.num .i64, .num .i64, .num .i64, .num .i64, .num .i64, .num .i64, .num .i64, .num .i64] => kNv -/
/-! rep (dropT (0 : Nat) (LL.getD k.toNat [])) => (LL.getD k.toNat []) -/
/-! rep (((LL.getD k.toNat []).headD (Dat.n (0 : Int))).toL) => (elL LL k) -/
/-! rep ((LL.getD k.toNat []).headD (Dat.n (0 : Int))).toL => (elL LL k) -/
/-! rep (((elL LL k).getD (wI (((elL LL k).length : Int) - (1 : Int))).toNat []).headD (Dat.n (0 : Int))).toI => (nv0 (elL LL k)) -/
/-! rep (((elL LL k).getD (wI (((elL LL k).length : Int) - (1 : Int))).toNat []).tail.headD (Dat.n (0 : Int))).toI => (nv1 (elL LL k)) -/
/-! rep (((elL LL k).getD (wI (((elL LL k).length : Int) - (1 : Int))).toNat []).tail.tail.headD (Dat.n (0 : Int))).toI => (nv2 (elL LL k)) -/
/-! rep (((elL LL k).getD (wI (((elL LL k).length : Int) - (1 : Int))).toNat []).tail.tail.tail.headD (Dat.n (0 : Int))).toI => (nv3 (elL LL k)) -/
/-! rep (((elL LL k).getD (wI (((elL LL k).length : Int) - (1 : Int))).toNat []).tail.tail.tail.tail.headD (Dat.n (0 : Int))).toI => (nv4 (elL LL k)) -/
/-! rep (((elL LL k).getD (wI (((elL LL k).length : Int) - (1 : Int))).toNat []).tail.tail.tail.tail.tail.headD (Dat.n (0 : Int))).toI => (nv5 (elL LL k)) -/
/-! rep (((elL LL k).getD (wI (((elL LL k).length : Int) - (1 : Int))).toNat []).tail.tail.tail.tail.tail.tail.headD (Dat.n (0 : Int))).toI => (nv6 (elL LL k)) -/
/-! rep (((elL LL k).getD (wI (((elL LL k).length : Int) - (1 : Int))).toNat []).tail.tail.tail.tail.tail.tail.tail.headD (Dat.n (0 : Int))).toI => (nv7 (elL LL k)) -/
/-! rep ([] ++ (elL LL k)) => (elL LL k) -/
/-! rep ((A.getD (wI ((A.length : Int) - (1 : Int))).toNat []).headD (Dat.n (0 : Int))).toI => (nv0 A) -/
/-! rep ((A.getD (wI ((A.length : Int) - (1 : Int))).toNat []).tail.headD (Dat.n (0 : Int))).toI => (nv1 A) -/
/-! rep ((A.getD (wI ((A.length : Int) - (1 : Int))).toNat []).tail.tail.headD (Dat.n (0 : Int))).toI => (nv2 A) -/
/-! rep ((A.getD (wI ((A.length : Int) - (1 : Int))).toNat []).tail.tail.tail.headD (Dat.n (0 : Int))).toI => (nv3 A) -/
/-! rep ((A.getD (wI ((A.length : Int) - (1 : Int))).toNat []).tail.tail.tail.tail.headD (Dat.n (0 : Int))).toI => (nv4 A) -/
/-! rep ((A.getD (wI ((A.length : Int) - (1 : Int))).toNat []).tail.tail.tail.tail.tail.headD (Dat.n (0 : Int))).toI => (nv5 A) -/
/-! rep ((A.getD (wI ((A.length : Int) - (1 : Int))).toNat []).tail.tail.tail.tail.tail.tail.headD (Dat.n (0 : Int))).toI => (nv6 A) -/
/-! rep ((A.getD (wI ((A.length : Int) - (1 : Int))).toNat []).tail.tail.tail.tail.tail.tail.tail.headD (Dat.n (0 : Int))).toI => (nv7 A) -/
noncomputable def Γm0 : Orc := ΓSA
theorem Okm0 : Γm0.Ok Try.prog := OkSA
/-- A mission's phase. -/
def msR : List Dat := [Dat.l (Value.slice none 0 0) [[.n (-1000), .n (-1000)], [.n 1000, .n (-1000)], [.n 1000, .n 1000], [.n (-1000), .n 1000]], .n 1, .n 200, .n 5, .n 100]
set_option maxRecDepth 100000 in
theorem runMi1 : runG Γx15 (loopX Γx15 Try.prog 30 3) Try.prog Try.f14 [.v (I 1)] M0 = some (.ag [.row 0, .v (I 2), .v (I 3), .v (I 4), .v (I 2), .v (I 50), .v (I 2), .v (I 10), .v (I 1)], ⟨[], [], [.live ⟨63, kPh, [msR], true, false⟩]⟩) := by kernel_rfl
set_option maxRecDepth 100000 in
theorem runMi2 : runG Γx15 (loopX Γx15 Try.prog 30 3) Try.prog Try.f14 [.v (I 2)] M0 = some (.ag [.row 0, .v (I 2), .v (I 3), .v (I 4), .v (I 2), .v (I 50), .v (I 2), .v (I 10), .v (I 2)], ⟨[], [], [.live ⟨63, kPh, [msR, msR], true, false⟩]⟩) := by kernel_rfl
def gMi (xs : List SV) (m : Mem) : Option (Bool × SV × Mem) :=
  match xs, m with
  | [.v (.int .i64 n)], ⟨[], [], []⟩ => some (n == 1 || n == 2, .ag [.row 0, .v (I 2), .v (I 3), .v (I 4), .v (I 2), .v (I 50), .v (I 2), .v (I 10), .v (I n)], ⟨[], [], [.live ⟨63, kPh, List.replicate n.toNat msR, true, false⟩]⟩)
  | _, _ => none
theorem gMi_ok : ∀ xs m r m', gMi xs m = some (true, r, m') → CallOk Try.prog 14 xs m r m' := by
  intro xs m r m' h
  unfold gMi at h
  split at h
  · rename_i n
    obtain ⟨h1, rfl, rfl⟩ := some_t2 h
    rw [Bool.or_eq_true, beq_iff_eq, beq_iff_eq] at h1
    rcases h1 with rfl | rfl
    · exact runOk Okx15 Try.func14 rfl (fun z _ _ b hb => loopX_ok Okx15 mixed 30 3 b) runMi1
    · exact runOk Okx15 Try.func14 rfl (fun z _ _ b hb => loopX_ok Okx15 mixed 30 3 b) runMi2
  · cases h
noncomputable def Γm : Orc := addCl 14 gMi Γm0
theorem Okm : Γm.Ok Try.prog := addCl_ok Okm0 gMi_ok

set_option maxRecDepth 20000 in
theorem runNla : runG Γm L0 Try.prog Try.f12 [.v (.pointer none)] M0 = 
    some (.v (.tuple #[(.agg #[(I 0), (I 0), (I 0), (I 0), (I 0), (I 0), (I 0), (I 0)]), (Bo false)]), M0) := by kernel_rfl
def gNla (xs : List SV) (m : Mem) : Option (Bool × Value) :=
  match xs, m with
  | [.v (.pointer none)], ⟨[], [], []⟩ => some (true, .tuple #[.agg #[I 0, I 0, I 0, I 0, I 0, I 0, I 0, I 0], Bo false])
  | _, _ => none
theorem gNla_ok : ∀ xs m r, gNla xs m = some (true, r) → CallOk Try.prog 12 xs m (.v r) m := by
  intro xs m r h
  unfold gNla at h
  split at h
  · obtain ⟨h1, rfl⟩ := some_t h
    refine runOk (Λ := L0) Okm Try.func12 rfl (fun z _ _ => l0Ok' _ z) ?_
    refine (runNla ).trans ?_
    first | rfl | (rw [same_self]; rfl)
  · cases h
noncomputable def Γq1 : Orc := addRd 12 gNla Γm
theorem Okq1 : Γq1.Ok Try.prog := addRd_ok Okm gNla_ok
set_option maxRecDepth 20000 in
theorem runNag : runG Γq1 L0 Try.prog Try.f13 [.v (.pointer none)] M0 = 
    some (.v (I 0), M0) := by kernel_rfl
def gNag (xs : List SV) (m : Mem) : Option (Bool × Value) :=
  match xs, m with
  | [.v (.pointer none)], ⟨[], [], []⟩ => some (true, I 0)
  | _, _ => none
theorem gNag_ok : ∀ xs m r, gNag xs m = some (true, r) → CallOk Try.prog 13 xs m (.v r) m := by
  intro xs m r h
  unfold gNag at h
  split at h
  · obtain ⟨h1, rfl⟩ := some_t h
    refine runOk (Λ := L0) Okq1 Try.func13 rfl (fun z _ _ => l0Ok' _ z) ?_
    refine (runNag ).trans ?_
    rfl
  · cases h
noncomputable def Γq2 : Orc := addRd 13 gNag Γq1
theorem Okq2 : Γq2.Ok Try.prog := addRd_ok Okq1 gNag_ok
set_option maxRecDepth 20000 in
theorem runNre : runG Γq2 L0 Try.prog Try.f15 [.v (.pointer none)] M0 = 
    some (.v (.tuple #[]), M0) := by kernel_rfl
def gNre (xs : List SV) (m : Mem) : Option (Bool × SV × Mem) :=
  match xs, m with
  | [.v (.pointer none)], ⟨[], [], []⟩ => some (true, .v (.tuple #[]), M0)
  | _, _ => none
theorem gNre_ok : ∀ xs m r m', gNre xs m = some (true, r, m') → CallOk Try.prog 15 xs m r m' := by
  intro xs m r m' h
  unfold gNre at h
  split at h
  · obtain ⟨h1, rfl, rfl⟩ := some_t2 h
    refine runOk (Λ := L0) Okq2 Try.func15 rfl (fun z _ _ => l0Ok' _ z) ?_
    refine (runNre ).trans ?_
    rfl
  · cases h
noncomputable def Γq3 : Orc := addCl 15 gNre Γq2
theorem Okq3 : Γq3.Ok Try.prog := addCl_ok Okq2 gNre_ok
set_option maxRecDepth 20000 in
theorem runNcy : runG Γq3 L0 Try.prog Try.f10 [.v (.pointer none), .v (.slice none 0 0)] M0 = 
    some (.v (.tuple #[(.agg #[(I 0), (I 0), (I 0), (I 0), (I 0), (I 0), (I 0), (I 0)]), (I 1)]), M0) := by kernel_rfl
def gNcy (xs : List SV) (m : Mem) : Option (Bool × SV × Mem) :=
  match xs, m with
  | [.v (.pointer none), .v (.slice none 0 0)], ⟨[], [], []⟩ => some (true, .v (.tuple #[.agg #[I 0, I 0, I 0, I 0, I 0, I 0, I 0, I 0], I 1]), M0)
  | _, _ => none
theorem gNcy_ok : ∀ xs m r m', gNcy xs m = some (true, r, m') → CallOk Try.prog 10 xs m r m' := by
  intro xs m r m' h
  unfold gNcy at h
  split at h
  · obtain ⟨h1, rfl, rfl⟩ := some_t2 h
    refine runOk (Λ := L0) Okq3 Try.func10 rfl (fun z _ _ => l0Ok' _ z) ?_
    refine (runNcy ).trans ?_
    rfl
  · cases h
noncomputable def Γq4 : Orc := addCl 10 gNcy Γq3
theorem Okq4 : Γq4.Ok Try.prog := addCl_ok Okq3 gNcy_ok
/-! rep (faI (elL LL k) hs l1 l6 l7 l8 ((50 : Int) * (t + (1 : Int))) == (0 : Int)) => (okR LL k hs l1 l6 l7 l8 t) -/
/-! rep faI (elL LL k) hs l1 l6 l7 l8 ((50 : Int) * (t + (1 : Int))) == (0 : Int) => (okR LL k hs l1 l6 l7 l8 t) -/
/-! rep if wI ((0 : Int) - pk (okR LL k hs l1 l6 l7 l8 t) (nv4 (elL LL k)) (0 : Int)) > if pk (okR LL k hs l1 l6 l7 l8 t) (nv4 (elL LL k)) (0 : Int) > if wI ((0 : Int) - pk (okR LL k hs l1 l6 l7 l8 t) (nv3 (elL LL k)) (0 : Int)) > if pk (okR LL k hs l1 l6 l7 l8 t) (nv3 (elL LL k)) (0 : Int) > if wI ((0 : Int) - pk (okR LL k hs l1 l6 l7 l8 t) (nv2 (elL LL k)) (0 : Int)) > pk (okR LL k hs l1 l6 l7 l8 t) (nv2 (elL LL k)) (0 : Int) then wI ((0 : Int) - pk (okR LL k hs l1 l6 l7 l8 t) (nv2 (elL LL k)) (0 : Int)) else pk (okR LL k hs l1 l6 l7 l8 t) (nv2 (elL LL k)) (0 : Int) then pk (okR LL k hs l1 l6 l7 l8 t) (nv3 (elL LL k)) (0 : Int) else if wI ((0 : Int) - pk (okR LL k hs l1 l6 l7 l8 t) (nv2 (elL LL k)) (0 : Int)) > pk (okR LL k hs l1 l6 l7 l8 t) (nv2 (elL LL k)) (0 : Int) then wI ((0 : Int) - pk (okR LL k hs l1 l6 l7 l8 t) (nv2 (elL LL k)) (0 : Int)) else pk (okR LL k hs l1 l6 l7 l8 t) (nv2 (elL LL k)) (0 : Int) then wI ((0 : Int) - pk (okR LL k hs l1 l6 l7 l8 t) (nv3 (elL LL k)) (0 : Int)) else if pk (okR LL k hs l1 l6 l7 l8 t) (nv3 (elL LL k)) (0 : Int) > if wI ((0 : Int) - pk (okR LL k hs l1 l6 l7 l8 t) (nv2 (elL LL k)) (0 : Int)) > pk (okR LL k hs l1 l6 l7 l8 t) (nv2 (elL LL k)) (0 : Int) then wI ((0 : Int) - pk (okR LL k hs l1 l6 l7 l8 t) (nv2 (elL LL k)) (0 : Int)) else pk (okR LL k hs l1 l6 l7 l8 t) (nv2 (elL LL k)) (0 : Int) then pk (okR LL k hs l1 l6 l7 l8 t) (nv3 (elL LL k)) (0 : Int) else if wI ((0 : Int) - pk (okR LL k hs l1 l6 l7 l8 t) (nv2 (elL LL k)) (0 : Int)) > pk (okR LL k hs l1 l6 l7 l8 t) (nv2 (elL LL k)) (0 : Int) then wI ((0 : Int) - pk (okR LL k hs l1 l6 l7 l8 t) (nv2 (elL LL k)) (0 : Int)) else pk (okR LL k hs l1 l6 l7 l8 t) (nv2 (elL LL k)) (0 : Int) then pk (okR LL k hs l1 l6 l7 l8 t) (nv4 (elL LL k)) (0 : Int) else if wI ((0 : Int) - pk (okR LL k hs l1 l6 l7 l8 t) (nv3 (elL LL k)) (0 : Int)) > if pk (okR LL k hs l1 l6 l7 l8 t) (nv3 (elL LL k)) (0 : Int) > if wI ((0 : Int) - pk (okR LL k hs l1 l6 l7 l8 t) (nv2 (elL LL k)) (0 : Int)) > pk (okR LL k hs l1 l6 l7 l8 t) (nv2 (elL LL k)) (0 : Int) then wI ((0 : Int) - pk (okR LL k hs l1 l6 l7 l8 t) (nv2 (elL LL k)) (0 : Int)) else pk (okR LL k hs l1 l6 l7 l8 t) (nv2 (elL LL k)) (0 : Int) then pk (okR LL k hs l1 l6 l7 l8 t) (nv3 (elL LL k)) (0 : Int) else if wI ((0 : Int) - pk (okR LL k hs l1 l6 l7 l8 t) (nv2 (elL LL k)) (0 : Int)) > pk (okR LL k hs l1 l6 l7 l8 t) (nv2 (elL LL k)) (0 : Int) then wI ((0 : Int) - pk (okR LL k hs l1 l6 l7 l8 t) (nv2 (elL LL k)) (0 : Int)) else pk (okR LL k hs l1 l6 l7 l8 t) (nv2 (elL LL k)) (0 : Int) then wI ((0 : Int) - pk (okR LL k hs l1 l6 l7 l8 t) (nv3 (elL LL k)) (0 : Int)) else if pk (okR LL k hs l1 l6 l7 l8 t) (nv3 (elL LL k)) (0 : Int) > if wI ((0 : Int) - pk (okR LL k hs l1 l6 l7 l8 t) (nv2 (elL LL k)) (0 : Int)) > pk (okR LL k hs l1 l6 l7 l8 t) (nv2 (elL LL k)) (0 : Int) then wI ((0 : Int) - pk (okR LL k hs l1 l6 l7 l8 t) (nv2 (elL LL k)) (0 : Int)) else pk (okR LL k hs l1 l6 l7 l8 t) (nv2 (elL LL k)) (0 : Int) then pk (okR LL k hs l1 l6 l7 l8 t) (nv3 (elL LL k)) (0 : Int) else if wI ((0 : Int) - pk (okR LL k hs l1 l6 l7 l8 t) (nv2 (elL LL k)) (0 : Int)) > pk (okR LL k hs l1 l6 l7 l8 t) (nv2 (elL LL k)) (0 : Int) then wI ((0 : Int) - pk (okR LL k hs l1 l6 l7 l8 t) (nv2 (elL LL k)) (0 : Int)) else pk (okR LL k hs l1 l6 l7 l8 t) (nv2 (elL LL k)) (0 : Int) then wI ((0 : Int) - pk (okR LL k hs l1 l6 l7 l8 t) (nv4 (elL LL k)) (0 : Int)) else if pk (okR LL k hs l1 l6 l7 l8 t) (nv4 (elL LL k)) (0 : Int) > if wI ((0 : Int) - pk (okR LL k hs l1 l6 l7 l8 t) (nv3 (elL LL k)) (0 : Int)) > if pk (okR LL k hs l1 l6 l7 l8 t) (nv3 (elL LL k)) (0 : Int) > if wI ((0 : Int) - pk (okR LL k hs l1 l6 l7 l8 t) (nv2 (elL LL k)) (0 : Int)) > pk (okR LL k hs l1 l6 l7 l8 t) (nv2 (elL LL k)) (0 : Int) then wI ((0 : Int) - pk (okR LL k hs l1 l6 l7 l8 t) (nv2 (elL LL k)) (0 : Int)) else pk (okR LL k hs l1 l6 l7 l8 t) (nv2 (elL LL k)) (0 : Int) then pk (okR LL k hs l1 l6 l7 l8 t) (nv3 (elL LL k)) (0 : Int) else if wI ((0 : Int) - pk (okR LL k hs l1 l6 l7 l8 t) (nv2 (elL LL k)) (0 : Int)) > pk (okR LL k hs l1 l6 l7 l8 t) (nv2 (elL LL k)) (0 : Int) then wI ((0 : Int) - pk (okR LL k hs l1 l6 l7 l8 t) (nv2 (elL LL k)) (0 : Int)) else pk (okR LL k hs l1 l6 l7 l8 t) (nv2 (elL LL k)) (0 : Int) then wI ((0 : Int) - pk (okR LL k hs l1 l6 l7 l8 t) (nv3 (elL LL k)) (0 : Int)) else if pk (okR LL k hs l1 l6 l7 l8 t) (nv3 (elL LL k)) (0 : Int) > if wI ((0 : Int) - pk (okR LL k hs l1 l6 l7 l8 t) (nv2 (elL LL k)) (0 : Int)) > pk (okR LL k hs l1 l6 l7 l8 t) (nv2 (elL LL k)) (0 : Int) then wI ((0 : Int) - pk (okR LL k hs l1 l6 l7 l8 t) (nv2 (elL LL k)) (0 : Int)) else pk (okR LL k hs l1 l6 l7 l8 t) (nv2 (elL LL k)) (0 : Int) then pk (okR LL k hs l1 l6 l7 l8 t) (nv3 (elL LL k)) (0 : Int) else if wI ((0 : Int) - pk (okR LL k hs l1 l6 l7 l8 t) (nv2 (elL LL k)) (0 : Int)) > pk (okR LL k hs l1 l6 l7 l8 t) (nv2 (elL LL k)) (0 : Int) then wI ((0 : Int) - pk (okR LL k hs l1 l6 l7 l8 t) (nv2 (elL LL k)) (0 : Int)) else pk (okR LL k hs l1 l6 l7 l8 t) (nv2 (elL LL k)) (0 : Int) then pk (okR LL k hs l1 l6 l7 l8 t) (nv4 (elL LL k)) (0 : Int) else if wI ((0 : Int) - pk (okR LL k hs l1 l6 l7 l8 t) (nv3 (elL LL k)) (0 : Int)) > if pk (okR LL k hs l1 l6 l7 l8 t) (nv3 (elL LL k)) (0 : Int) > if wI ((0 : Int) - pk (okR LL k hs l1 l6 l7 l8 t) (nv2 (elL LL k)) (0 : Int)) > pk (okR LL k hs l1 l6 l7 l8 t) (nv2 (elL LL k)) (0 : Int) then wI ((0 : Int) - pk (okR LL k hs l1 l6 l7 l8 t) (nv2 (elL LL k)) (0 : Int)) else pk (okR LL k hs l1 l6 l7 l8 t) (nv2 (elL LL k)) (0 : Int) then pk (okR LL k hs l1 l6 l7 l8 t) (nv3 (elL LL k)) (0 : Int) else if wI ((0 : Int) - pk (okR LL k hs l1 l6 l7 l8 t) (nv2 (elL LL k)) (0 : Int)) > pk (okR LL k hs l1 l6 l7 l8 t) (nv2 (elL LL k)) (0 : Int) then wI ((0 : Int) - pk (okR LL k hs l1 l6 l7 l8 t) (nv2 (elL LL k)) (0 : Int)) else pk (okR LL k hs l1 l6 l7 l8 t) (nv2 (elL LL k)) (0 : Int) then wI ((0 : Int) - pk (okR LL k hs l1 l6 l7 l8 t) (nv3 (elL LL k)) (0 : Int)) else if pk (okR LL k hs l1 l6 l7 l8 t) (nv3 (elL LL k)) (0 : Int) > if wI ((0 : Int) - pk (okR LL k hs l1 l6 l7 l8 t) (nv2 (elL LL k)) (0 : Int)) > pk (okR LL k hs l1 l6 l7 l8 t) (nv2 (elL LL k)) (0 : Int) then wI ((0 : Int) - pk (okR LL k hs l1 l6 l7 l8 t) (nv2 (elL LL k)) (0 : Int)) else pk (okR LL k hs l1 l6 l7 l8 t) (nv2 (elL LL k)) (0 : Int) then pk (okR LL k hs l1 l6 l7 l8 t) (nv3 (elL LL k)) (0 : Int) else if wI ((0 : Int) - pk (okR LL k hs l1 l6 l7 l8 t) (nv2 (elL LL k)) (0 : Int)) > pk (okR LL k hs l1 l6 l7 l8 t) (nv2 (elL LL k)) (0 : Int) then wI ((0 : Int) - pk (okR LL k hs l1 l6 l7 l8 t) (nv2 (elL LL k)) (0 : Int)) else pk (okR LL k hs l1 l6 l7 l8 t) (nv2 (elL LL k)) (0 : Int) => m6 (pk (okR LL k hs l1 l6 l7 l8 t) (nv2 (elL LL k)) (0 : Int)) (pk (okR LL k hs l1 l6 l7 l8 t) (nv3 (elL LL k)) (0 : Int)) (pk (okR LL k hs l1 l6 l7 l8 t) (nv4 (elL LL k)) (0 : Int)) -/
/-! rep if wI ((0 : Int) - pk (okR LL k hs l1 l6 l7 l8 t) (nv7 (elL LL k)) (0 : Int)) > if pk (okR LL k hs l1 l6 l7 l8 t) (nv7 (elL LL k)) (0 : Int) > if wI ((0 : Int) - pk (okR LL k hs l1 l6 l7 l8 t) (nv6 (elL LL k)) (0 : Int)) > if pk (okR LL k hs l1 l6 l7 l8 t) (nv6 (elL LL k)) (0 : Int) > if wI ((0 : Int) - pk (okR LL k hs l1 l6 l7 l8 t) (nv5 (elL LL k)) (0 : Int)) > pk (okR LL k hs l1 l6 l7 l8 t) (nv5 (elL LL k)) (0 : Int) then wI ((0 : Int) - pk (okR LL k hs l1 l6 l7 l8 t) (nv5 (elL LL k)) (0 : Int)) else pk (okR LL k hs l1 l6 l7 l8 t) (nv5 (elL LL k)) (0 : Int) then pk (okR LL k hs l1 l6 l7 l8 t) (nv6 (elL LL k)) (0 : Int) else if wI ((0 : Int) - pk (okR LL k hs l1 l6 l7 l8 t) (nv5 (elL LL k)) (0 : Int)) > pk (okR LL k hs l1 l6 l7 l8 t) (nv5 (elL LL k)) (0 : Int) then wI ((0 : Int) - pk (okR LL k hs l1 l6 l7 l8 t) (nv5 (elL LL k)) (0 : Int)) else pk (okR LL k hs l1 l6 l7 l8 t) (nv5 (elL LL k)) (0 : Int) then wI ((0 : Int) - pk (okR LL k hs l1 l6 l7 l8 t) (nv6 (elL LL k)) (0 : Int)) else if pk (okR LL k hs l1 l6 l7 l8 t) (nv6 (elL LL k)) (0 : Int) > if wI ((0 : Int) - pk (okR LL k hs l1 l6 l7 l8 t) (nv5 (elL LL k)) (0 : Int)) > pk (okR LL k hs l1 l6 l7 l8 t) (nv5 (elL LL k)) (0 : Int) then wI ((0 : Int) - pk (okR LL k hs l1 l6 l7 l8 t) (nv5 (elL LL k)) (0 : Int)) else pk (okR LL k hs l1 l6 l7 l8 t) (nv5 (elL LL k)) (0 : Int) then pk (okR LL k hs l1 l6 l7 l8 t) (nv6 (elL LL k)) (0 : Int) else if wI ((0 : Int) - pk (okR LL k hs l1 l6 l7 l8 t) (nv5 (elL LL k)) (0 : Int)) > pk (okR LL k hs l1 l6 l7 l8 t) (nv5 (elL LL k)) (0 : Int) then wI ((0 : Int) - pk (okR LL k hs l1 l6 l7 l8 t) (nv5 (elL LL k)) (0 : Int)) else pk (okR LL k hs l1 l6 l7 l8 t) (nv5 (elL LL k)) (0 : Int) then pk (okR LL k hs l1 l6 l7 l8 t) (nv7 (elL LL k)) (0 : Int) else if wI ((0 : Int) - pk (okR LL k hs l1 l6 l7 l8 t) (nv6 (elL LL k)) (0 : Int)) > if pk (okR LL k hs l1 l6 l7 l8 t) (nv6 (elL LL k)) (0 : Int) > if wI ((0 : Int) - pk (okR LL k hs l1 l6 l7 l8 t) (nv5 (elL LL k)) (0 : Int)) > pk (okR LL k hs l1 l6 l7 l8 t) (nv5 (elL LL k)) (0 : Int) then wI ((0 : Int) - pk (okR LL k hs l1 l6 l7 l8 t) (nv5 (elL LL k)) (0 : Int)) else pk (okR LL k hs l1 l6 l7 l8 t) (nv5 (elL LL k)) (0 : Int) then pk (okR LL k hs l1 l6 l7 l8 t) (nv6 (elL LL k)) (0 : Int) else if wI ((0 : Int) - pk (okR LL k hs l1 l6 l7 l8 t) (nv5 (elL LL k)) (0 : Int)) > pk (okR LL k hs l1 l6 l7 l8 t) (nv5 (elL LL k)) (0 : Int) then wI ((0 : Int) - pk (okR LL k hs l1 l6 l7 l8 t) (nv5 (elL LL k)) (0 : Int)) else pk (okR LL k hs l1 l6 l7 l8 t) (nv5 (elL LL k)) (0 : Int) then wI ((0 : Int) - pk (okR LL k hs l1 l6 l7 l8 t) (nv6 (elL LL k)) (0 : Int)) else if pk (okR LL k hs l1 l6 l7 l8 t) (nv6 (elL LL k)) (0 : Int) > if wI ((0 : Int) - pk (okR LL k hs l1 l6 l7 l8 t) (nv5 (elL LL k)) (0 : Int)) > pk (okR LL k hs l1 l6 l7 l8 t) (nv5 (elL LL k)) (0 : Int) then wI ((0 : Int) - pk (okR LL k hs l1 l6 l7 l8 t) (nv5 (elL LL k)) (0 : Int)) else pk (okR LL k hs l1 l6 l7 l8 t) (nv5 (elL LL k)) (0 : Int) then pk (okR LL k hs l1 l6 l7 l8 t) (nv6 (elL LL k)) (0 : Int) else if wI ((0 : Int) - pk (okR LL k hs l1 l6 l7 l8 t) (nv5 (elL LL k)) (0 : Int)) > pk (okR LL k hs l1 l6 l7 l8 t) (nv5 (elL LL k)) (0 : Int) then wI ((0 : Int) - pk (okR LL k hs l1 l6 l7 l8 t) (nv5 (elL LL k)) (0 : Int)) else pk (okR LL k hs l1 l6 l7 l8 t) (nv5 (elL LL k)) (0 : Int) then wI ((0 : Int) - pk (okR LL k hs l1 l6 l7 l8 t) (nv7 (elL LL k)) (0 : Int)) else if pk (okR LL k hs l1 l6 l7 l8 t) (nv7 (elL LL k)) (0 : Int) > if wI ((0 : Int) - pk (okR LL k hs l1 l6 l7 l8 t) (nv6 (elL LL k)) (0 : Int)) > if pk (okR LL k hs l1 l6 l7 l8 t) (nv6 (elL LL k)) (0 : Int) > if wI ((0 : Int) - pk (okR LL k hs l1 l6 l7 l8 t) (nv5 (elL LL k)) (0 : Int)) > pk (okR LL k hs l1 l6 l7 l8 t) (nv5 (elL LL k)) (0 : Int) then wI ((0 : Int) - pk (okR LL k hs l1 l6 l7 l8 t) (nv5 (elL LL k)) (0 : Int)) else pk (okR LL k hs l1 l6 l7 l8 t) (nv5 (elL LL k)) (0 : Int) then pk (okR LL k hs l1 l6 l7 l8 t) (nv6 (elL LL k)) (0 : Int) else if wI ((0 : Int) - pk (okR LL k hs l1 l6 l7 l8 t) (nv5 (elL LL k)) (0 : Int)) > pk (okR LL k hs l1 l6 l7 l8 t) (nv5 (elL LL k)) (0 : Int) then wI ((0 : Int) - pk (okR LL k hs l1 l6 l7 l8 t) (nv5 (elL LL k)) (0 : Int)) else pk (okR LL k hs l1 l6 l7 l8 t) (nv5 (elL LL k)) (0 : Int) then wI ((0 : Int) - pk (okR LL k hs l1 l6 l7 l8 t) (nv6 (elL LL k)) (0 : Int)) else if pk (okR LL k hs l1 l6 l7 l8 t) (nv6 (elL LL k)) (0 : Int) > if wI ((0 : Int) - pk (okR LL k hs l1 l6 l7 l8 t) (nv5 (elL LL k)) (0 : Int)) > pk (okR LL k hs l1 l6 l7 l8 t) (nv5 (elL LL k)) (0 : Int) then wI ((0 : Int) - pk (okR LL k hs l1 l6 l7 l8 t) (nv5 (elL LL k)) (0 : Int)) else pk (okR LL k hs l1 l6 l7 l8 t) (nv5 (elL LL k)) (0 : Int) then pk (okR LL k hs l1 l6 l7 l8 t) (nv6 (elL LL k)) (0 : Int) else if wI ((0 : Int) - pk (okR LL k hs l1 l6 l7 l8 t) (nv5 (elL LL k)) (0 : Int)) > pk (okR LL k hs l1 l6 l7 l8 t) (nv5 (elL LL k)) (0 : Int) then wI ((0 : Int) - pk (okR LL k hs l1 l6 l7 l8 t) (nv5 (elL LL k)) (0 : Int)) else pk (okR LL k hs l1 l6 l7 l8 t) (nv5 (elL LL k)) (0 : Int) then pk (okR LL k hs l1 l6 l7 l8 t) (nv7 (elL LL k)) (0 : Int) else if wI ((0 : Int) - pk (okR LL k hs l1 l6 l7 l8 t) (nv6 (elL LL k)) (0 : Int)) > if pk (okR LL k hs l1 l6 l7 l8 t) (nv6 (elL LL k)) (0 : Int) > if wI ((0 : Int) - pk (okR LL k hs l1 l6 l7 l8 t) (nv5 (elL LL k)) (0 : Int)) > pk (okR LL k hs l1 l6 l7 l8 t) (nv5 (elL LL k)) (0 : Int) then wI ((0 : Int) - pk (okR LL k hs l1 l6 l7 l8 t) (nv5 (elL LL k)) (0 : Int)) else pk (okR LL k hs l1 l6 l7 l8 t) (nv5 (elL LL k)) (0 : Int) then pk (okR LL k hs l1 l6 l7 l8 t) (nv6 (elL LL k)) (0 : Int) else if wI ((0 : Int) - pk (okR LL k hs l1 l6 l7 l8 t) (nv5 (elL LL k)) (0 : Int)) > pk (okR LL k hs l1 l6 l7 l8 t) (nv5 (elL LL k)) (0 : Int) then wI ((0 : Int) - pk (okR LL k hs l1 l6 l7 l8 t) (nv5 (elL LL k)) (0 : Int)) else pk (okR LL k hs l1 l6 l7 l8 t) (nv5 (elL LL k)) (0 : Int) then wI ((0 : Int) - pk (okR LL k hs l1 l6 l7 l8 t) (nv6 (elL LL k)) (0 : Int)) else if pk (okR LL k hs l1 l6 l7 l8 t) (nv6 (elL LL k)) (0 : Int) > if wI ((0 : Int) - pk (okR LL k hs l1 l6 l7 l8 t) (nv5 (elL LL k)) (0 : Int)) > pk (okR LL k hs l1 l6 l7 l8 t) (nv5 (elL LL k)) (0 : Int) then wI ((0 : Int) - pk (okR LL k hs l1 l6 l7 l8 t) (nv5 (elL LL k)) (0 : Int)) else pk (okR LL k hs l1 l6 l7 l8 t) (nv5 (elL LL k)) (0 : Int) then pk (okR LL k hs l1 l6 l7 l8 t) (nv6 (elL LL k)) (0 : Int) else if wI ((0 : Int) - pk (okR LL k hs l1 l6 l7 l8 t) (nv5 (elL LL k)) (0 : Int)) > pk (okR LL k hs l1 l6 l7 l8 t) (nv5 (elL LL k)) (0 : Int) then wI ((0 : Int) - pk (okR LL k hs l1 l6 l7 l8 t) (nv5 (elL LL k)) (0 : Int)) else pk (okR LL k hs l1 l6 l7 l8 t) (nv5 (elL LL k)) (0 : Int) => m6 (pk (okR LL k hs l1 l6 l7 l8 t) (nv5 (elL LL k)) (0 : Int)) (pk (okR LL k hs l1 l6 l7 l8 t) (nv6 (elL LL k)) (0 : Int)) (pk (okR LL k hs l1 l6 l7 l8 t) (nv7 (elL LL k)) (0 : Int)) -/
/-! rep (wI ((BitVec.ofInt (64 : Nat) (wI (c + (1 : Int))) &&& BitVec.ofInt (64 : Nat) (65535 : Int)).toNat : Int)) => (cN c) -/
/-! rep wI ((BitVec.ofInt (64 : Nat) (wI (c + (1 : Int))) &&& BitVec.ofInt (64 : Nat) (65535 : Int)).toNat : Int) => cN c -/
/-! rep (wI ((Q.getD k.toNat []).headD (Dat.n (0 : Int))).toI).tmod (51 : Int) => (dI0 Q k) -/
/-! rep (wI ((Q.getD k.toNat []).tail.headD (Dat.n (0 : Int))).toI).tmod (51 : Int) => (dI1 Q k) -/
/-! rep (wI ((Q.getD k.toNat []).tail.tail.headD (Dat.n (0 : Int))).toI).tmod (51 : Int) => (dI2 Q k) -/
/-! rep [[Dat.n (cN c), Dat.n (0 : Int), Dat.n (wI (x + wI (vx + (dI0 Q k)))), Dat.n (wI (y + wI (vy + (dI1 Q k)))), Dat.n (wI (z + wI (vz + (dI2 Q k)))), Dat.n (wI (vx + (dI0 Q k))), Dat.n (wI (vy + (dI1 Q k))), Dat.n (wI (vz + (dI2 Q k)))]] => (nwL c (wI (x + wI (vx + (dI0 Q k)))) (wI (y + wI (vy + (dI1 Q k)))) (wI (z + wI (vz + (dI2 Q k)))) (wI (vx + (dI0 Q k))) (wI (vy + (dI1 Q k))) (wI (vz + (dI2 Q k)))) -/
def okR (LL : List (List Dat)) (k : Int) (hs : Bool) (l1 l6 l7 l8 t : Int) : Bool := faI (elL LL k) hs l1 l6 l7 l8 (50 * (t + 1)) == 0
def m6 (x y z : Int) : Int := if wI (0 - z) > (if z > (if wI (0 - y) > (if y > (if wI (0 - x) > x then wI (0 - x) else x) then y else (if wI (0 - x) > x then wI (0 - x) else x)) then wI (0 - y) else (if y > (if wI (0 - x) > x then wI (0 - x) else x) then y else (if wI (0 - x) > x then wI (0 - x) else x))) then z else (if wI (0 - y) > (if y > (if wI (0 - x) > x then wI (0 - x) else x) then y else (if wI (0 - x) > x then wI (0 - x) else x)) then wI (0 - y) else (if y > (if wI (0 - x) > x then wI (0 - x) else x) then y else (if wI (0 - x) > x then wI (0 - x) else x)))) then wI (0 - z) else (if z > (if wI (0 - y) > (if y > (if wI (0 - x) > x then wI (0 - x) else x) then y else (if wI (0 - x) > x then wI (0 - x) else x)) then wI (0 - y) else (if y > (if wI (0 - x) > x then wI (0 - x) else x) then y else (if wI (0 - x) > x then wI (0 - x) else x))) then z else (if wI (0 - y) > (if y > (if wI (0 - x) > x then wI (0 - x) else x) then y else (if wI (0 - x) > x then wI (0 - x) else x)) then wI (0 - y) else (if y > (if wI (0 - x) > x then wI (0 - x) else x) then y else (if wI (0 - x) > x then wI (0 - x) else x))))
def gx (n o : Int) : Int := if n > o then n else o
theorem gx_le {n o M : Int} (h1 : n ≤ M) (h2 : o ≤ M) : gx n o ≤ M := by unfold gx; split <;> assumption
theorem m6_le {x y z M : Int} (hM : 0 ≤ M ∧ M ≤ 1073741824) (h1 : -M ≤ x ∧ x ≤ M) (h2 : -M ≤ y ∧ y ≤ M) (h3 : -M ≤ z ∧ z ≤ M) : m6 x y z ≤ M := by
  have n : ∀ a, -M ≤ a ∧ a ≤ M → wI (0 - a) ≤ M := fun a ha => by rw [wI_id (by omega)]; omega
  exact gx_le (n z h3) (gx_le h3.2 (gx_le (n y h2) (gx_le h2.2 (gx_le (n x h1) h1.2))))
def cN (c : Int) : Int := wI ((BitVec.ofInt 64 (wI (c + 1)) &&& BitVec.ofInt 64 65535).toNat : Int)
def dI0 (Q : List (List Dat)) (k : Int) : Int := (wI ((Q.getD k.toNat []).headD (.n 0)).toI).tmod 51
def dI1 (Q : List (List Dat)) (k : Int) : Int := (wI ((Q.getD k.toNat []).tail.headD (.n 0)).toI).tmod 51
def dI2 (Q : List (List Dat)) (k : Int) : Int := (wI ((Q.getD k.toNat []).tail.tail.headD (.n 0)).toI).tmod 51
def nwL (c x y z vx vy vz : Int) : List (List Dat) := [[.n (cN c), .n 0, .n x, .n y, .n z, .n vx, .n vy, .n vz]]
noncomputable def bdSr : Code := loopAt (Try.f6.body.getD .skip) 0
def kSr : List Bool := maskOf 131 [3,4,5,26,27,28]
def xSr (e : Ex) : List Bool := match e with
  | .exit _ => maskOf 131 []
  | .ret => maskOf 131 [2]
  | .normal => maskOf 131 [3,4,5,26,27,28]
def KSr (e : Ex) (st : St) : Option (Ex × St) := some (e, cutC 0 1 (xSr e) st)
set_option maxRecDepth 20000 in
theorem stepSr (l1 : Int) (l2 : Int) (l3 : Int) (l4 : Int) (l5 : Int) (l6 : Int) (l7 : Int) (l8 : Int) (hs : Bool) (t : Int) (nn : Int) (k : Int) (LL : List (List Dat)) (n : Nat) : evLoop Γq4 Try.prog L0 (cutC 0 1 kSr) bdSr (n + 1) (mk kSr [.ptr 0 0, .ptr 1 0, .v (Bo hs), .row 0, .v (I nn), .v (I k)] ⟨[[.v (I 50), .v (I 2), .ptr 2 0, .v (I l1), .v (I l2), .v (I l3), .v (I l4), .v (I l5), .v (I l6), .v (I l7), .v (I l8), .v (Bo hs)], [.v (I l1), .v (I l2), .v (I l3), .v (I l4), .v (I l5), .v (I l6), .v (I l7), .v (I l8)], [.v (I 1000000), .v (I t)]], [true, true, true], [rA LL false false]⟩) KSr =
    (bif decide (k < nn) then (bif decide ((0 : Int) ≤ k) && decide (k < (LL.length : Int)) then (bif decide (((0 : Nat) + (elL LL k).length) * (64 : Nat) ≤ (140737488355328 : Nat) ∧ (0 : Nat) + (elL LL k).length ≤ (9223372036854775807 : Nat)) then (bif (elL LL k).length.ble (1000000) && (i64B (nv5 (elL LL k)) && (i64B (nv6 (elL LL k)) && (i64B (nv7 (elL LL k)) && (i64B l6 && (i64B l7 && (i64B l8 && (true && decide ((0 : Int) ≤ t ∧ t ≤ (1000000 : Int))))))))) then (bif faI (elL LL k) hs l1 l6 l7 l8 ((50 : Int) * (t + (1 : Int))) != (0 : Int) then (bif !(pk (okR LL k hs l1 l6 l7 l8 t) (nv0 (elL LL k)) (0 : Int) == (0 : Int) && (pk (okR LL k hs l1 l6 l7 l8 t) (nv1 (elL LL k)) (0 : Int) == (0 : Int) && (pk (okR LL k hs l1 l6 l7 l8 t) (nv2 (elL LL k)) (0 : Int) == (0 : Int) && (pk (okR LL k hs l1 l6 l7 l8 t) (nv3 (elL LL k)) (0 : Int) == (0 : Int) && (pk (okR LL k hs l1 l6 l7 l8 t) (nv4 (elL LL k)) (0 : Int) == (0 : Int) && (pk (okR LL k hs l1 l6 l7 l8 t) (nv5 (elL LL k)) (0 : Int) == (0 : Int) && (pk (okR LL k hs l1 l6 l7 l8 t) (nv6 (elL LL k)) (0 : Int) == (0 : Int) && (pk (okR LL k hs l1 l6 l7 l8 t) (nv7 (elL LL k)) (0 : Int) == (0 : Int) && true)))))))) then some (.ret, mk (xSr .ret) [.v (Bo false)] ⟨[], [], [.live ⟨35, kAv, LL, false, false⟩]⟩) else evLoop Γq4 Try.prog L0 (cutC 0 1 kSr) bdSr n (mk kSr [.ptr 0 0, .ptr 1 0, .v (Bo (bif (okR LL k hs l1 l6 l7 l8 t) then true else gB' (decide (addN' (1000000 : Int) t (1 : Int) > (2 : Int))) hs)), .row 0, .v (I nn), .v (I (wI (k + (1 : Int))))] ⟨[[.v (I 50), .v (I 2), .ptr 2 0, .v (I (pk (okR LL k hs l1 l6 l7 l8 t) (nv0 (elL LL k)) (gN (decide (addN' (1000000 : Int) t (1 : Int) > (2 : Int))) l1))), .v (I (pk (okR LL k hs l1 l6 l7 l8 t) (nv1 (elL LL k)) (gN (decide (addN' (1000000 : Int) t (1 : Int) > (2 : Int))) l2))), .v (I (pk (okR LL k hs l1 l6 l7 l8 t) (nv2 (elL LL k)) (gN (decide (addN' (1000000 : Int) t (1 : Int) > (2 : Int))) l3))), .v (I (pk (okR LL k hs l1 l6 l7 l8 t) (nv3 (elL LL k)) (gN (decide (addN' (1000000 : Int) t (1 : Int) > (2 : Int))) l4))), .v (I (pk (okR LL k hs l1 l6 l7 l8 t) (nv4 (elL LL k)) (gN (decide (addN' (1000000 : Int) t (1 : Int) > (2 : Int))) l5))), .v (I (pk (okR LL k hs l1 l6 l7 l8 t) (nv5 (elL LL k)) (gN (decide (addN' (1000000 : Int) t (1 : Int) > (2 : Int))) l6))), .v (I (pk (okR LL k hs l1 l6 l7 l8 t) (nv6 (elL LL k)) (gN (decide (addN' (1000000 : Int) t (1 : Int) > (2 : Int))) l7))), .v (I (pk (okR LL k hs l1 l6 l7 l8 t) (nv7 (elL LL k)) (gN (decide (addN' (1000000 : Int) t (1 : Int) > (2 : Int))) l8))), .v (Bo (bif (okR LL k hs l1 l6 l7 l8 t) then true else gB' (decide (addN' (1000000 : Int) t (1 : Int) > (2 : Int))) hs))], [.v (I (pk (okR LL k hs l1 l6 l7 l8 t) (nv0 (elL LL k)) (gN (decide (addN' (1000000 : Int) t (1 : Int) > (2 : Int))) l1))), .v (I (pk (okR LL k hs l1 l6 l7 l8 t) (nv1 (elL LL k)) (gN (decide (addN' (1000000 : Int) t (1 : Int) > (2 : Int))) l2))), .v (I (pk (okR LL k hs l1 l6 l7 l8 t) (nv2 (elL LL k)) (gN (decide (addN' (1000000 : Int) t (1 : Int) > (2 : Int))) l3))), .v (I (pk (okR LL k hs l1 l6 l7 l8 t) (nv3 (elL LL k)) (gN (decide (addN' (1000000 : Int) t (1 : Int) > (2 : Int))) l4))), .v (I (pk (okR LL k hs l1 l6 l7 l8 t) (nv4 (elL LL k)) (gN (decide (addN' (1000000 : Int) t (1 : Int) > (2 : Int))) l5))), .v (I (pk (okR LL k hs l1 l6 l7 l8 t) (nv5 (elL LL k)) (gN (decide (addN' (1000000 : Int) t (1 : Int) > (2 : Int))) l6))), .v (I (pk (okR LL k hs l1 l6 l7 l8 t) (nv6 (elL LL k)) (gN (decide (addN' (1000000 : Int) t (1 : Int) > (2 : Int))) l7))), .v (I (pk (okR LL k hs l1 l6 l7 l8 t) (nv7 (elL LL k)) (gN (decide (addN' (1000000 : Int) t (1 : Int) > (2 : Int))) l8)))], [.v (I 1000000), .v (I (pk (okR LL k hs l1 l6 l7 l8 t) (0 : Int) (addN' (1000000 : Int) t (1 : Int))))]], [true, true, true], [.live ⟨35, kAv, LL, false, false⟩]⟩) KSr) else (bif pk (okR LL k hs l1 l6 l7 l8 t) (nv1 (elL LL k)) (0 : Int) != (0 : Int) then some (.ret, mk (xSr .ret) [.v (Bo false)] ⟨[], [], [.live ⟨35, kAv, LL, false, false⟩]⟩) else (bif decide ((m6 (pk (okR LL k hs l1 l6 l7 l8 t) (nv2 (elL LL k)) (0 : Int)) (pk (okR LL k hs l1 l6 l7 l8 t) (nv3 (elL LL k)) (0 : Int)) (pk (okR LL k hs l1 l6 l7 l8 t) (nv4 (elL LL k)) (0 : Int))) > (1073741824 : Int)) then some (.ret, mk (xSr .ret) [.v (Bo false)] ⟨[], [], [.live ⟨35, kAv, LL, false, false⟩]⟩) else (bif decide ((m6 (pk (okR LL k hs l1 l6 l7 l8 t) (nv5 (elL LL k)) (0 : Int)) (pk (okR LL k hs l1 l6 l7 l8 t) (nv6 (elL LL k)) (0 : Int)) (pk (okR LL k hs l1 l6 l7 l8 t) (nv7 (elL LL k)) (0 : Int))) > (65536 : Int)) then some (.ret, mk (xSr .ret) [.v (Bo false)] ⟨[], [], [.live ⟨35, kAv, LL, false, false⟩]⟩) else (bif hs then (bif pk (okR LL k hs l1 l6 l7 l8 t) (nv0 (elL LL k)) (0 : Int) == l1 then some (.ret, mk (xSr .ret) [.v (Bo false)] ⟨[], [], [.live ⟨35, kAv, LL, false, false⟩]⟩) else evLoop Γq4 Try.prog L0 (cutC 0 1 kSr) bdSr n (mk kSr [.ptr 0 0, .ptr 1 0, .v (Bo true), .row 0, .v (I nn), .v (I (wI (k + (1 : Int))))] ⟨[[.v (I 50), .v (I 2), .ptr 2 0, .v (I (pk (okR LL k hs l1 l6 l7 l8 t) (nv0 (elL LL k)) (gN (decide (addN' (1000000 : Int) t (1 : Int) > (2 : Int))) l1))), .v (I (pk (okR LL k hs l1 l6 l7 l8 t) (nv1 (elL LL k)) (gN (decide (addN' (1000000 : Int) t (1 : Int) > (2 : Int))) l2))), .v (I (pk (okR LL k hs l1 l6 l7 l8 t) (nv2 (elL LL k)) (gN (decide (addN' (1000000 : Int) t (1 : Int) > (2 : Int))) l3))), .v (I (pk (okR LL k hs l1 l6 l7 l8 t) (nv3 (elL LL k)) (gN (decide (addN' (1000000 : Int) t (1 : Int) > (2 : Int))) l4))), .v (I (pk (okR LL k hs l1 l6 l7 l8 t) (nv4 (elL LL k)) (gN (decide (addN' (1000000 : Int) t (1 : Int) > (2 : Int))) l5))), .v (I (pk (okR LL k hs l1 l6 l7 l8 t) (nv5 (elL LL k)) (gN (decide (addN' (1000000 : Int) t (1 : Int) > (2 : Int))) l6))), .v (I (pk (okR LL k hs l1 l6 l7 l8 t) (nv6 (elL LL k)) (gN (decide (addN' (1000000 : Int) t (1 : Int) > (2 : Int))) l7))), .v (I (pk (okR LL k hs l1 l6 l7 l8 t) (nv7 (elL LL k)) (gN (decide (addN' (1000000 : Int) t (1 : Int) > (2 : Int))) l8))), .v (Bo (bif (okR LL k hs l1 l6 l7 l8 t) then true else gB' (decide (addN' (1000000 : Int) t (1 : Int) > (2 : Int))) hs))], [.v (I (pk (okR LL k hs l1 l6 l7 l8 t) (nv0 (elL LL k)) (0 : Int))), .v (I (pk (okR LL k hs l1 l6 l7 l8 t) (nv1 (elL LL k)) (0 : Int))), .v (I (pk (okR LL k hs l1 l6 l7 l8 t) (nv2 (elL LL k)) (0 : Int))), .v (I (pk (okR LL k hs l1 l6 l7 l8 t) (nv3 (elL LL k)) (0 : Int))), .v (I (pk (okR LL k hs l1 l6 l7 l8 t) (nv4 (elL LL k)) (0 : Int))), .v (I (pk (okR LL k hs l1 l6 l7 l8 t) (nv5 (elL LL k)) (0 : Int))), .v (I (pk (okR LL k hs l1 l6 l7 l8 t) (nv6 (elL LL k)) (0 : Int))), .v (I (pk (okR LL k hs l1 l6 l7 l8 t) (nv7 (elL LL k)) (0 : Int)))], [.v (I 1000000), .v (I (pk (okR LL k hs l1 l6 l7 l8 t) (0 : Int) (addN' (1000000 : Int) t (1 : Int))))]], [true, true, true], [.live ⟨35, kAv, LL, false, false⟩]⟩) KSr) else evLoop Γq4 Try.prog L0 (cutC 0 1 kSr) bdSr n (mk kSr [.ptr 0 0, .ptr 1 0, .v (Bo true), .row 0, .v (I nn), .v (I (wI (k + (1 : Int))))] ⟨[[.v (I 50), .v (I 2), .ptr 2 0, .v (I (pk (okR LL k hs l1 l6 l7 l8 t) (nv0 (elL LL k)) (gN (decide (addN' (1000000 : Int) t (1 : Int) > (2 : Int))) l1))), .v (I (pk (okR LL k hs l1 l6 l7 l8 t) (nv1 (elL LL k)) (gN (decide (addN' (1000000 : Int) t (1 : Int) > (2 : Int))) l2))), .v (I (pk (okR LL k hs l1 l6 l7 l8 t) (nv2 (elL LL k)) (gN (decide (addN' (1000000 : Int) t (1 : Int) > (2 : Int))) l3))), .v (I (pk (okR LL k hs l1 l6 l7 l8 t) (nv3 (elL LL k)) (gN (decide (addN' (1000000 : Int) t (1 : Int) > (2 : Int))) l4))), .v (I (pk (okR LL k hs l1 l6 l7 l8 t) (nv4 (elL LL k)) (gN (decide (addN' (1000000 : Int) t (1 : Int) > (2 : Int))) l5))), .v (I (pk (okR LL k hs l1 l6 l7 l8 t) (nv5 (elL LL k)) (gN (decide (addN' (1000000 : Int) t (1 : Int) > (2 : Int))) l6))), .v (I (pk (okR LL k hs l1 l6 l7 l8 t) (nv6 (elL LL k)) (gN (decide (addN' (1000000 : Int) t (1 : Int) > (2 : Int))) l7))), .v (I (pk (okR LL k hs l1 l6 l7 l8 t) (nv7 (elL LL k)) (gN (decide (addN' (1000000 : Int) t (1 : Int) > (2 : Int))) l8))), .v (Bo (bif (okR LL k hs l1 l6 l7 l8 t) then true else gB' (decide (addN' (1000000 : Int) t (1 : Int) > (2 : Int))) hs))], [.v (I (pk (okR LL k hs l1 l6 l7 l8 t) (nv0 (elL LL k)) (0 : Int))), .v (I (pk (okR LL k hs l1 l6 l7 l8 t) (nv1 (elL LL k)) (0 : Int))), .v (I (pk (okR LL k hs l1 l6 l7 l8 t) (nv2 (elL LL k)) (0 : Int))), .v (I (pk (okR LL k hs l1 l6 l7 l8 t) (nv3 (elL LL k)) (0 : Int))), .v (I (pk (okR LL k hs l1 l6 l7 l8 t) (nv4 (elL LL k)) (0 : Int))), .v (I (pk (okR LL k hs l1 l6 l7 l8 t) (nv5 (elL LL k)) (0 : Int))), .v (I (pk (okR LL k hs l1 l6 l7 l8 t) (nv6 (elL LL k)) (0 : Int))), .v (I (pk (okR LL k hs l1 l6 l7 l8 t) (nv7 (elL LL k)) (0 : Int)))], [.v (I 1000000), .v (I (pk (okR LL k hs l1 l6 l7 l8 t) (0 : Int) (addN' (1000000 : Int) t (1 : Int))))]], [true, true, true], [.live ⟨35, kAv, LL, false, false⟩]⟩) KSr))))) else none) else none) else none) else some ((.exit 0), mk (xSr (.exit 0)) [] ⟨[], [], [.live ⟨35, kAv, LL, false, false⟩]⟩)) := by kernel_rfl
noncomputable def ESr (n : Nat) (l1 : Int) (l2 : Int) (l3 : Int) (l4 : Int) (l5 : Int) (l6 : Int) (l7 : Int) (l8 : Int) (hs : Bool) (t : Int) (nn : Int) (k : Int) (LL : List (List Dat)) : Option (Ex × St) :=
  evLoop Γq4 Try.prog L0 (cutC 0 1 kSr) bdSr n (mk kSr [.ptr 0 0, .ptr 1 0, .v (Bo hs), .row 0, .v (I nn), .v (I k)] ⟨[[.v (I 50), .v (I 2), .ptr 2 0, .v (I l1), .v (I l2), .v (I l3), .v (I l4), .v (I l5), .v (I l6), .v (I l7), .v (I l8), .v (Bo hs)], [.v (I l1), .v (I l2), .v (I l3), .v (I l4), .v (I l5), .v (I l6), .v (I l7), .v (I l8)], [.v (I 1000000), .v (I t)]], [true, true, true], [rA LL false false]⟩) KSr
abbrev k8 : List CK := [.num .i8, .num .i8, .num .i8]
abbrev r8R (Q : List (List Dat)) : RowS := .live ⟨48, k8, Q, false, false⟩
noncomputable def bdSt : Code := loopAt (Try.f4.body.getD .skip) 0
def kSt : List Bool := maskOf 116 [5,6,43,44,45]
def xSt (e : Ex) : List Bool := match e with
  | .exit _ => maskOf 116 []
  | .ret => maskOf 116 [4]
  | .normal => maskOf 116 [5,6,43,44,45]
def KSt (e : Ex) (st : St) : Option (Ex × St) := some (e, cutC 0 1 (xSt e) st)
set_option maxRecDepth 20000 in
theorem stepSt (l1 : Int) (l2 : Int) (l3 : Int) (l4 : Int) (l5 : Int) (l6 : Int) (l7 : Int) (l8 : Int) (hs : Bool) (c : Int) (x : Int) (y : Int) (z : Int) (vx : Int) (vy : Int) (vz : Int) (nn : Int) (k : Int) (Q : List (List Dat)) (n : Nat) : evLoop Γq4 Try.prog L0 (cutC 0 1 kSt) bdSt (n + 1) (mk kSt [.ptr 0 0, .ptr 1 0, .row 0, .v (I nn), .v (I k)] ⟨[[.v (I 50), .v (I 2), .ptr 2 0, .v (I l1), .v (I l2), .v (I l3), .v (I l4), .v (I l5), .v (I l6), .v (I l7), .v (I l8), .v (Bo hs)], [.v (I c), .v (I 0), .v (I x), .v (I y), .v (I z), .v (I vx), .v (I vy), .v (I vz)], [.v (I 1000000), .v (I 0)]], [true, true, true], [r8R Q]⟩) KSt =
    (bif decide (k < nn) then (bif decide ((0 : Int) ≤ k) && decide (k < (Q.length : Int)) then (bif (nwL c (wI (x + wI (vx + (dI0 Q k)))) (wI (y + wI (vy + (dI1 Q k)))) (wI (z + wI (vz + (dI2 Q k)))) (wI (vx + (dI0 Q k))) (wI (vy + (dI1 Q k))) (wI (vz + (dI2 Q k)))).length.ble (1000000) && (i64B (nv5 (nwL c (wI (x + wI (vx + (dI0 Q k)))) (wI (y + wI (vy + (dI1 Q k)))) (wI (z + wI (vz + (dI2 Q k)))) (wI (vx + (dI0 Q k))) (wI (vy + (dI1 Q k))) (wI (vz + (dI2 Q k))))) && (i64B (nv6 (nwL c (wI (x + wI (vx + (dI0 Q k)))) (wI (y + wI (vy + (dI1 Q k)))) (wI (z + wI (vz + (dI2 Q k)))) (wI (vx + (dI0 Q k))) (wI (vy + (dI1 Q k))) (wI (vz + (dI2 Q k))))) && (i64B (nv7 (nwL c (wI (x + wI (vx + (dI0 Q k)))) (wI (y + wI (vy + (dI1 Q k)))) (wI (z + wI (vz + (dI2 Q k)))) (wI (vx + (dI0 Q k))) (wI (vy + (dI1 Q k))) (wI (vz + (dI2 Q k))))) && (i64B l6 && (i64B l7 && (i64B l8 && true)))))) then (bif faI (nwL c (wI (x + wI (vx + (dI0 Q k)))) (wI (y + wI (vy + (dI1 Q k)))) (wI (z + wI (vz + (dI2 Q k)))) (wI (vx + (dI0 Q k))) (wI (vy + (dI1 Q k))) (wI (vz + (dI2 Q k)))) hs l1 l6 l7 l8 (50 : Int) != (0 : Int) then some (.ret, mk (xSt .ret) [.v (Bo false)] ⟨[], [], [.live ⟨48, [.num .i8, .num .i8, .num .i8], Q, false, false⟩]⟩) else (bif !(pk (faI (nwL c (wI (x + wI (vx + (dI0 Q k)))) (wI (y + wI (vy + (dI1 Q k)))) (wI (z + wI (vz + (dI2 Q k)))) (wI (vx + (dI0 Q k))) (wI (vy + (dI1 Q k))) (wI (vz + (dI2 Q k)))) hs l1 l6 l7 l8 (50 : Int) == (0 : Int)) (nv0 (nwL c (wI (x + wI (vx + (dI0 Q k)))) (wI (y + wI (vy + (dI1 Q k)))) (wI (z + wI (vz + (dI2 Q k)))) (wI (vx + (dI0 Q k))) (wI (vy + (dI1 Q k))) (wI (vz + (dI2 Q k))))) (0 : Int) == cN c && (pk (faI (nwL c (wI (x + wI (vx + (dI0 Q k)))) (wI (y + wI (vy + (dI1 Q k)))) (wI (z + wI (vz + (dI2 Q k)))) (wI (vx + (dI0 Q k))) (wI (vy + (dI1 Q k))) (wI (vz + (dI2 Q k)))) hs l1 l6 l7 l8 (50 : Int) == (0 : Int)) (nv1 (nwL c (wI (x + wI (vx + (dI0 Q k)))) (wI (y + wI (vy + (dI1 Q k)))) (wI (z + wI (vz + (dI2 Q k)))) (wI (vx + (dI0 Q k))) (wI (vy + (dI1 Q k))) (wI (vz + (dI2 Q k))))) (0 : Int) == (0 : Int) && (pk (faI (nwL c (wI (x + wI (vx + (dI0 Q k)))) (wI (y + wI (vy + (dI1 Q k)))) (wI (z + wI (vz + (dI2 Q k)))) (wI (vx + (dI0 Q k))) (wI (vy + (dI1 Q k))) (wI (vz + (dI2 Q k)))) hs l1 l6 l7 l8 (50 : Int) == (0 : Int)) (nv2 (nwL c (wI (x + wI (vx + (dI0 Q k)))) (wI (y + wI (vy + (dI1 Q k)))) (wI (z + wI (vz + (dI2 Q k)))) (wI (vx + (dI0 Q k))) (wI (vy + (dI1 Q k))) (wI (vz + (dI2 Q k))))) (0 : Int) == wI (x + wI (vx + (dI0 Q k))) && (pk (faI (nwL c (wI (x + wI (vx + (dI0 Q k)))) (wI (y + wI (vy + (dI1 Q k)))) (wI (z + wI (vz + (dI2 Q k)))) (wI (vx + (dI0 Q k))) (wI (vy + (dI1 Q k))) (wI (vz + (dI2 Q k)))) hs l1 l6 l7 l8 (50 : Int) == (0 : Int)) (nv3 (nwL c (wI (x + wI (vx + (dI0 Q k)))) (wI (y + wI (vy + (dI1 Q k)))) (wI (z + wI (vz + (dI2 Q k)))) (wI (vx + (dI0 Q k))) (wI (vy + (dI1 Q k))) (wI (vz + (dI2 Q k))))) (0 : Int) == wI (y + wI (vy + (dI1 Q k))) && (pk (faI (nwL c (wI (x + wI (vx + (dI0 Q k)))) (wI (y + wI (vy + (dI1 Q k)))) (wI (z + wI (vz + (dI2 Q k)))) (wI (vx + (dI0 Q k))) (wI (vy + (dI1 Q k))) (wI (vz + (dI2 Q k)))) hs l1 l6 l7 l8 (50 : Int) == (0 : Int)) (nv4 (nwL c (wI (x + wI (vx + (dI0 Q k)))) (wI (y + wI (vy + (dI1 Q k)))) (wI (z + wI (vz + (dI2 Q k)))) (wI (vx + (dI0 Q k))) (wI (vy + (dI1 Q k))) (wI (vz + (dI2 Q k))))) (0 : Int) == wI (z + wI (vz + (dI2 Q k))) && (pk (faI (nwL c (wI (x + wI (vx + (dI0 Q k)))) (wI (y + wI (vy + (dI1 Q k)))) (wI (z + wI (vz + (dI2 Q k)))) (wI (vx + (dI0 Q k))) (wI (vy + (dI1 Q k))) (wI (vz + (dI2 Q k)))) hs l1 l6 l7 l8 (50 : Int) == (0 : Int)) (nv5 (nwL c (wI (x + wI (vx + (dI0 Q k)))) (wI (y + wI (vy + (dI1 Q k)))) (wI (z + wI (vz + (dI2 Q k)))) (wI (vx + (dI0 Q k))) (wI (vy + (dI1 Q k))) (wI (vz + (dI2 Q k))))) (0 : Int) == wI (vx + (dI0 Q k)) && (pk (faI (nwL c (wI (x + wI (vx + (dI0 Q k)))) (wI (y + wI (vy + (dI1 Q k)))) (wI (z + wI (vz + (dI2 Q k)))) (wI (vx + (dI0 Q k))) (wI (vy + (dI1 Q k))) (wI (vz + (dI2 Q k)))) hs l1 l6 l7 l8 (50 : Int) == (0 : Int)) (nv6 (nwL c (wI (x + wI (vx + (dI0 Q k)))) (wI (y + wI (vy + (dI1 Q k)))) (wI (z + wI (vz + (dI2 Q k)))) (wI (vx + (dI0 Q k))) (wI (vy + (dI1 Q k))) (wI (vz + (dI2 Q k))))) (0 : Int) == wI (vy + (dI1 Q k)) && (pk (faI (nwL c (wI (x + wI (vx + (dI0 Q k)))) (wI (y + wI (vy + (dI1 Q k)))) (wI (z + wI (vz + (dI2 Q k)))) (wI (vx + (dI0 Q k))) (wI (vy + (dI1 Q k))) (wI (vz + (dI2 Q k)))) hs l1 l6 l7 l8 (50 : Int) == (0 : Int)) (nv7 (nwL c (wI (x + wI (vx + (dI0 Q k)))) (wI (y + wI (vy + (dI1 Q k)))) (wI (z + wI (vz + (dI2 Q k)))) (wI (vx + (dI0 Q k))) (wI (vy + (dI1 Q k))) (wI (vz + (dI2 Q k))))) (0 : Int) == wI (vz + (dI2 Q k)) && true)))))))) then some (.ret, mk (xSt .ret) [.v (Bo false)] ⟨[], [], [.live ⟨48, [.num .i8, .num .i8, .num .i8], Q, false, false⟩]⟩) else (bif pk (faI (nwL c (wI (x + wI (vx + (dI0 Q k)))) (wI (y + wI (vy + (dI1 Q k)))) (wI (z + wI (vz + (dI2 Q k)))) (wI (vx + (dI0 Q k))) (wI (vy + (dI1 Q k))) (wI (vz + (dI2 Q k)))) hs l1 l6 l7 l8 (50 : Int) == (0 : Int)) (0 : Int) (1 : Int) != (0 : Int) then some (.ret, mk (xSt .ret) [.v (Bo false)] ⟨[], [], [.live ⟨48, [.num .i8, .num .i8, .num .i8], Q, false, false⟩]⟩) else evLoop Γq4 Try.prog L0 (cutC 0 1 kSt) bdSt n (mk kSt [.ptr 0 0, .ptr 1 0, .row 0, .v (I nn), .v (I (wI (k + (1 : Int))))] ⟨[[.v (I 50), .v (I 2), .ptr 2 0, .v (I (pk (faI (nwL c (wI (x + wI (vx + (dI0 Q k)))) (wI (y + wI (vy + (dI1 Q k)))) (wI (z + wI (vz + (dI2 Q k)))) (wI (vx + (dI0 Q k))) (wI (vy + (dI1 Q k))) (wI (vz + (dI2 Q k)))) hs l1 l6 l7 l8 (50 : Int) == (0 : Int)) (nv0 (nwL c (wI (x + wI (vx + (dI0 Q k)))) (wI (y + wI (vy + (dI1 Q k)))) (wI (z + wI (vz + (dI2 Q k)))) (wI (vx + (dI0 Q k))) (wI (vy + (dI1 Q k))) (wI (vz + (dI2 Q k))))) (gN false l1))), .v (I (pk (faI (nwL c (wI (x + wI (vx + (dI0 Q k)))) (wI (y + wI (vy + (dI1 Q k)))) (wI (z + wI (vz + (dI2 Q k)))) (wI (vx + (dI0 Q k))) (wI (vy + (dI1 Q k))) (wI (vz + (dI2 Q k)))) hs l1 l6 l7 l8 (50 : Int) == (0 : Int)) (nv1 (nwL c (wI (x + wI (vx + (dI0 Q k)))) (wI (y + wI (vy + (dI1 Q k)))) (wI (z + wI (vz + (dI2 Q k)))) (wI (vx + (dI0 Q k))) (wI (vy + (dI1 Q k))) (wI (vz + (dI2 Q k))))) (gN false l2))), .v (I (pk (faI (nwL c (wI (x + wI (vx + (dI0 Q k)))) (wI (y + wI (vy + (dI1 Q k)))) (wI (z + wI (vz + (dI2 Q k)))) (wI (vx + (dI0 Q k))) (wI (vy + (dI1 Q k))) (wI (vz + (dI2 Q k)))) hs l1 l6 l7 l8 (50 : Int) == (0 : Int)) (nv2 (nwL c (wI (x + wI (vx + (dI0 Q k)))) (wI (y + wI (vy + (dI1 Q k)))) (wI (z + wI (vz + (dI2 Q k)))) (wI (vx + (dI0 Q k))) (wI (vy + (dI1 Q k))) (wI (vz + (dI2 Q k))))) (gN false l3))), .v (I (pk (faI (nwL c (wI (x + wI (vx + (dI0 Q k)))) (wI (y + wI (vy + (dI1 Q k)))) (wI (z + wI (vz + (dI2 Q k)))) (wI (vx + (dI0 Q k))) (wI (vy + (dI1 Q k))) (wI (vz + (dI2 Q k)))) hs l1 l6 l7 l8 (50 : Int) == (0 : Int)) (nv3 (nwL c (wI (x + wI (vx + (dI0 Q k)))) (wI (y + wI (vy + (dI1 Q k)))) (wI (z + wI (vz + (dI2 Q k)))) (wI (vx + (dI0 Q k))) (wI (vy + (dI1 Q k))) (wI (vz + (dI2 Q k))))) (gN false l4))), .v (I (pk (faI (nwL c (wI (x + wI (vx + (dI0 Q k)))) (wI (y + wI (vy + (dI1 Q k)))) (wI (z + wI (vz + (dI2 Q k)))) (wI (vx + (dI0 Q k))) (wI (vy + (dI1 Q k))) (wI (vz + (dI2 Q k)))) hs l1 l6 l7 l8 (50 : Int) == (0 : Int)) (nv4 (nwL c (wI (x + wI (vx + (dI0 Q k)))) (wI (y + wI (vy + (dI1 Q k)))) (wI (z + wI (vz + (dI2 Q k)))) (wI (vx + (dI0 Q k))) (wI (vy + (dI1 Q k))) (wI (vz + (dI2 Q k))))) (gN false l5))), .v (I (pk (faI (nwL c (wI (x + wI (vx + (dI0 Q k)))) (wI (y + wI (vy + (dI1 Q k)))) (wI (z + wI (vz + (dI2 Q k)))) (wI (vx + (dI0 Q k))) (wI (vy + (dI1 Q k))) (wI (vz + (dI2 Q k)))) hs l1 l6 l7 l8 (50 : Int) == (0 : Int)) (nv5 (nwL c (wI (x + wI (vx + (dI0 Q k)))) (wI (y + wI (vy + (dI1 Q k)))) (wI (z + wI (vz + (dI2 Q k)))) (wI (vx + (dI0 Q k))) (wI (vy + (dI1 Q k))) (wI (vz + (dI2 Q k))))) (gN false l6))), .v (I (pk (faI (nwL c (wI (x + wI (vx + (dI0 Q k)))) (wI (y + wI (vy + (dI1 Q k)))) (wI (z + wI (vz + (dI2 Q k)))) (wI (vx + (dI0 Q k))) (wI (vy + (dI1 Q k))) (wI (vz + (dI2 Q k)))) hs l1 l6 l7 l8 (50 : Int) == (0 : Int)) (nv6 (nwL c (wI (x + wI (vx + (dI0 Q k)))) (wI (y + wI (vy + (dI1 Q k)))) (wI (z + wI (vz + (dI2 Q k)))) (wI (vx + (dI0 Q k))) (wI (vy + (dI1 Q k))) (wI (vz + (dI2 Q k))))) (gN false l7))), .v (I (pk (faI (nwL c (wI (x + wI (vx + (dI0 Q k)))) (wI (y + wI (vy + (dI1 Q k)))) (wI (z + wI (vz + (dI2 Q k)))) (wI (vx + (dI0 Q k))) (wI (vy + (dI1 Q k))) (wI (vz + (dI2 Q k)))) hs l1 l6 l7 l8 (50 : Int) == (0 : Int)) (nv7 (nwL c (wI (x + wI (vx + (dI0 Q k)))) (wI (y + wI (vy + (dI1 Q k)))) (wI (z + wI (vz + (dI2 Q k)))) (wI (vx + (dI0 Q k))) (wI (vy + (dI1 Q k))) (wI (vz + (dI2 Q k))))) (gN false l8))), .v (Bo (bif faI (nwL c (wI (x + wI (vx + (dI0 Q k)))) (wI (y + wI (vy + (dI1 Q k)))) (wI (z + wI (vz + (dI2 Q k)))) (wI (vx + (dI0 Q k))) (wI (vy + (dI1 Q k))) (wI (vz + (dI2 Q k)))) hs l1 l6 l7 l8 (50 : Int) == (0 : Int) then true else gB' false hs))], [.v (I (cN c)), .v (I 0), .v (I (wI (x + wI (vx + (dI0 Q k))))), .v (I (wI (y + wI (vy + (dI1 Q k))))), .v (I (wI (z + wI (vz + (dI2 Q k))))), .v (I (wI (vx + (dI0 Q k)))), .v (I (wI (vy + (dI1 Q k)))), .v (I (wI (vz + (dI2 Q k))))], [.v (I 1000000), .v (I (pk (faI (nwL c (wI (x + wI (vx + (dI0 Q k)))) (wI (y + wI (vy + (dI1 Q k)))) (wI (z + wI (vz + (dI2 Q k)))) (wI (vx + (dI0 Q k))) (wI (vy + (dI1 Q k))) (wI (vz + (dI2 Q k)))) hs l1 l6 l7 l8 (50 : Int) == (0 : Int)) (0 : Int) (1 : Int)))]], [true, true, true], [.live ⟨48, [.num .i8, .num .i8, .num .i8], Q, false, false⟩]⟩) KSt))) else none) else none) else some ((.exit 0), mk (xSt (.exit 0)) [] ⟨[], [], [.live ⟨48, [.num .i8, .num .i8, .num .i8], Q, false, false⟩]⟩)) := by kernel_rfl
noncomputable def ESt (n : Nat) (l1 : Int) (l2 : Int) (l3 : Int) (l4 : Int) (l5 : Int) (l6 : Int) (l7 : Int) (l8 : Int) (hs : Bool) (c : Int) (x : Int) (y : Int) (z : Int) (vx : Int) (vy : Int) (vz : Int) (nn : Int) (k : Int) (Q : List (List Dat)) : Option (Ex × St) :=
  evLoop Γq4 Try.prog L0 (cutC 0 1 kSt) bdSt n (mk kSt [.ptr 0 0, .ptr 1 0, .row 0, .v (I nn), .v (I k)] ⟨[[.v (I 50), .v (I 2), .ptr 2 0, .v (I l1), .v (I l2), .v (I l3), .v (I l4), .v (I l5), .v (I l6), .v (I l7), .v (I l8), .v (Bo hs)], [.v (I c), .v (I 0), .v (I x), .v (I y), .v (I z), .v (I vx), .v (I vy), .v (I vz)], [.v (I 1000000), .v (I 0)]], [true, true, true], [r8R Q]⟩) KSt
noncomputable def bdSo : Code := loopAt (Try.f5.body.getD .skip) 0
def kSo : List Bool := maskOf 89 [0,1,5,8,42,43]
def xSo (e : Ex) : List Bool := match e with
  | .exit _ => maskOf 89 [0,1,5,8]
  | .ret => maskOf 89 [6]
  | .normal => maskOf 89 [0,1,5,8,42,43]
def KSo (e : Ex) (st : St) : Option (Ex × St) := some (e, cutC 0 0 (xSo e) st)
set_option maxRecDepth 20000 in
theorem stepSo (ag : Int) (cy : Int) (n0 : Int) (n1 : Int) (n2 : Int) (n3 : Int) (n4 : Int) (n5 : Int) (n6 : Int) (n7 : Int) (l1 : Int) (l2 : Int) (l3 : Int) (l4 : Int) (l5 : Int) (l6 : Int) (l7 : Int) (l8 : Int) (hs : Bool) (t : Int) (nn : Int) (k : Int) (n : Nat) : evLoop Γq4 Try.prog L0 (cutC 0 0 kSo) bdSo (n + 1) (mk kSo [.v (I ag), .v (I cy), .ptr 0 0, .ptr 1 0, .v (I nn), .v (I k)] ⟨[[.v (I n0), .v (I n1), .v (I n2), .v (I n3), .v (I n4), .v (I n5), .v (I n6), .v (I n7)], [.v (I 50), .v (I ag), .ptr 2 0, .v (I l1), .v (I l2), .v (I l3), .v (I l4), .v (I l5), .v (I l6), .v (I l7), .v (I l8), .v (Bo hs)], [.v (I 1000000), .v (I t)]], [true, true, true], []⟩) KSo =
    (bif decide (k < nn) then evLoop Γq4 Try.prog L0 (cutC 0 0 kSo) bdSo n (mk kSo [.v (I ag), .v (I cy), .ptr 0 0, .ptr 1 0, .v (I nn), .v (I (wI (k + (1 : Int))))] ⟨[[.v (I n0), .v (I n1), .v (I n2), .v (I n3), .v (I n4), .v (I n5), .v (I n6), .v (I n7)], [.v (I 50), .v (I ag), .ptr 2 0, .v (I (gN (decide (addN' (1000000 : Int) t (1 : Int) > ag)) l1)), .v (I (gN (decide (addN' (1000000 : Int) t (1 : Int) > ag)) l2)), .v (I (gN (decide (addN' (1000000 : Int) t (1 : Int) > ag)) l3)), .v (I (gN (decide (addN' (1000000 : Int) t (1 : Int) > ag)) l4)), .v (I (gN (decide (addN' (1000000 : Int) t (1 : Int) > ag)) l5)), .v (I (gN (decide (addN' (1000000 : Int) t (1 : Int) > ag)) l6)), .v (I (gN (decide (addN' (1000000 : Int) t (1 : Int) > ag)) l7)), .v (I (gN (decide (addN' (1000000 : Int) t (1 : Int) > ag)) l8)), .v (Bo (gB' (decide (addN' (1000000 : Int) t (1 : Int) > ag)) hs))], [.v (I 1000000), .v (I (addN' (1000000 : Int) t (1 : Int)))]], [true, true, true], []⟩) KSo else some ((.exit 0), mk (xSo (.exit 0)) [.v (I ag), .v (I cy), .ptr 0 0, .ptr 1 0] ⟨[[.v (I n0), .v (I n1), .v (I n2), .v (I n3), .v (I n4), .v (I n5), .v (I n6), .v (I n7)], [.v (I 50), .v (I ag), .ptr 2 0, .v (I l1), .v (I l2), .v (I l3), .v (I l4), .v (I l5), .v (I l6), .v (I l7), .v (I l8), .v (Bo hs)], [.v (I 1000000), .v (I t)]], [true, true, true], []⟩)) := by kernel_rfl
noncomputable def ESo (n : Nat) (ag : Int) (cy : Int) (n0 : Int) (n1 : Int) (n2 : Int) (n3 : Int) (n4 : Int) (n5 : Int) (n6 : Int) (n7 : Int) (l1 : Int) (l2 : Int) (l3 : Int) (l4 : Int) (l5 : Int) (l6 : Int) (l7 : Int) (l8 : Int) (hs : Bool) (t : Int) (nn : Int) (k : Int) : Option (Ex × St) :=
  evLoop Γq4 Try.prog L0 (cutC 0 0 kSo) bdSo n (mk kSo [.v (I ag), .v (I cy), .ptr 0 0, .ptr 1 0, .v (I nn), .v (I k)] ⟨[[.v (I n0), .v (I n1), .v (I n2), .v (I n3), .v (I n4), .v (I n5), .v (I n6), .v (I n7)], [.v (I 50), .v (I ag), .ptr 2 0, .v (I l1), .v (I l2), .v (I l3), .v (I l4), .v (I l5), .v (I l6), .v (I l7), .v (I l8), .v (Bo hs)], [.v (I 1000000), .v (I t)]], [true, true, true], []⟩) KSo
/-! SourceRight -/
def lfSr (LL : List (List Dat)) : LT := .leaf (.exit 0) (mk (xSr (.exit 0)) [] ⟨[], [], [rA LL false false]⟩)
theorem okR_F {LL : List (List Dat)} {k : Int} {s : SS} : okR LL k s.hs s.l1 s.l6 s.l7 s.l8 s.t = okF 50 LL k s := rfl
theorem far_no6 {x y z a b c : Int} (h : farB x y z a b c = false) : (-1073741824 ≤ x ∧ x ≤ 1073741824) ∧ (-1073741824 ≤ y ∧ y ≤ 1073741824) ∧ (-1073741824 ≤ z ∧ z ≤ 1073741824) := by
  unfold farB at h
  simp only [Bool.or_eq_false_iff] at h
  exact ⟨bey_no (by omega) h.1, bey_no (by omega) h.2.1, bey_no (by omega) h.2.2.1⟩
theorem loopSr (LL : List (List Dat)) (hf : fwB LL = true) (hw : ∀ o ∈ LL, WfN kAv o) : ESr (LL.length + 1) 0 0 0 0 0 0 0 0 false 0 (LL.length : Int) 0 LL = some (lfSr LL).pick := by
  obtain ⟨hn, he⟩ := few_el hf
  refine (foldAll (stS 50 2 LL) (fun _ s => stI s) (LL.length : Int) (fun n k (s : SS) => ESr n s.l1 s.l2 s.l3 s.l4 s.l5 s.l6 s.l7 s.l8 s.hs s.t (LL.length : Int) k LL) (fun _ => some (.exit 0, mk (xSr (.exit 0)) [] ⟨[], [], [rA LL false false]⟩)) (fun n k s hk _ => ?_) (fun k s _ hi => stI_next hi) (fun n k s hk hi => ?_) LL.length 0 ⟨0, 0, 0, 0, 0, 0, 0, 0, false, 0⟩ (by omega) (by omega) ⟨by show (0 : Int) ≤ 0 ∧ (0 : Int) ≤ 1000000; omega, by unfold bd6; show -65536 ≤ (0 : Int) ∧ (0 : Int) ≤ 65536; omega, by unfold bd6; show -65536 ≤ (0 : Int) ∧ (0 : Int) ≤ 65536; omega, by unfold bd6; show -65536 ≤ (0 : Int) ∧ (0 : Int) ≤ 65536; omega⟩).trans rfl
  · refine (stepSr _ _ _ _ _ _ _ _ _ _ (LL.length : Int) k LL n).trans ?_
    rw [decide_eq_false hk]
    rfl
  · have hl := he k hk.1 hk.2
    obtain ⟨w5, w6, w7⟩ := nv_wf (el_wf hw k)
    obtain ⟨⟨t0, t1⟩, b6, b7, b8⟩ := hi
    have i6 : i64B s.l6 = true := decide_eq_true (by unfold bd6 at b6; omega)
    have i7 : i64B s.l7 = true := decide_eq_true (by unfold bd6 at b7; omega)
    have i8 : i64B s.l8 = true := decide_eq_true (by unfold bd6 at b8; omega)
    refine (stepSr _ _ _ _ _ _ _ _ _ _ (LL.length : Int) k LL n).trans ?_
    rw [decide_eq_true hk.2, decide_eq_true hk.1, decide_eq_true (show (0 + (elL LL k).length) * 64 ≤ 140737488355328 ∧ 0 + (elL LL k).length ≤ 9223372036854775807 by omega), Nat.ble_eq_true_of_le (show (elL LL k).length ≤ 1000000 by omega), w5, w6, w7, i6, i7, i8, decide_eq_true (show 0 ≤ s.t ∧ s.t ≤ 1000000 from ⟨t0, t1⟩), wI_id (n := k + 1) (by omega), okR_F]
    show (bif true then bif true && true then bif true then bif _ then bif faI (elL LL k) s.hs s.l1 s.l6 s.l7 s.l8 (50 * (s.t + 1)) != 0 then _ else _ else _ else _ else _ else _) = ESr n (stS 50 2 LL k s).l1 (stS 50 2 LL k s).l2 (stS 50 2 LL k s).l3 (stS 50 2 LL k s).l4 (stS 50 2 LL k s).l5 (stS 50 2 LL k s).l6 (stS 50 2 LL k s).l7 (stS 50 2 LL k s).l8 (stS 50 2 LL k s).hs (stS 50 2 LL k s).t (LL.length : Int) (k + 1) LL
    cases hF : okF 50 LL k s
    · have e : (faI (elL LL k) s.hs s.l1 s.l6 s.l7 s.l8 (50 * (s.t + 1)) != 0) = true := by rw [bne, show (faI (elL LL k) s.hs s.l1 s.l6 s.l7 s.l8 (50 * (s.t + 1)) == 0) = false from hF]; rfl
      rw [e]
      unfold stS
      rw [hF]
      rfl
    · have hz : faI (elL LL k) s.hs s.l1 s.l6 s.l7 s.l8 (50 * (s.t + 1)) = 0 := beq_iff_eq.1 hF
      obtain ⟨z1, z2, z3, z4, z5⟩ := fa_no hz
      obtain ⟨f1, f2, f3⟩ := far_no6 z4
      obtain ⟨g1, g2, g3⟩ := far_no z4
      have p : ∀ a b, pk true a b = a := fun _ _ => rfl
      rw [hz]
      unfold stS
      rw [hF]
      simp only [p]
      rw [z3, decide_eq_false (show ¬ m6 (nv2 (elL LL k)) (nv3 (elL LL k)) (nv4 (elL LL k)) > 1073741824 from Int.not_lt.2 (m6_le (by omega) f1 f2 f3)), decide_eq_false (show ¬ m6 (nv5 (elL LL k)) (nv6 (elL LL k)) (nv7 (elL LL k)) > 65536 from Int.not_lt.2 (m6_le (by omega) g1 g2 g3))]
      generalize hs' : s.hs = hs at *
      cases hs
      · rfl
      · rw [Bool.true_and] at z2
        rw [z2]
        rfl
/-! SourceTrue -/
theorem cN_is {c : Int} (h : 0 ≤ c ∧ c ≤ 65535) : 0 ≤ cN c ∧ cN c ≤ 65535 ∧ cN c ≠ c := by
  have a := andB (wI (c + 1)) 65535 (by omega) (by omega)
  refine ⟨a.1, a.2, ?_⟩
  unfold cN
  rw [wI_id (n := c + 1) (by omega)]
  obtain ⟨n, hn⟩ := Int.eq_ofNat_of_zero_le (show 0 ≤ c + 1 by omega)
  rw [hn]
  have e : (BitVec.ofInt 64 65535) = BitVec.ofNat 64 (2 ^ 16 - 1) := by decide
  rw [e, BitVec.toNat_and, BitVec.ofInt_natCast, BitVec.toNat_ofNat, BitVec.toNat_ofNat]
  rw [Nat.mod_eq_of_lt (a := 2 ^ 16 - 1) (by decide), Nat.and_two_pow_sub_one_eq_mod, wI_id (by omega)]
  omega
structure ST where
  c : Int
  x : Int
  y : Int
  z : Int
  vx : Int
  vy : Int
  vz : Int
  hs : Bool
def stT (Q : List (List Dat)) (k : Int) (s : ST) : ST := ⟨cN s.c, s.x + (s.vx + dI0 Q k), s.y + (s.vy + dI1 Q k), s.z + (s.vz + dI2 Q k), s.vx + dI0 Q k, s.vy + dI1 Q k, s.vz + dI2 Q k, true⟩
def wi (b a : Int) : Prop := -b ≤ a ∧ a ≤ b
def ivT (N k : Int) (s : ST) : Prop := (0 ≤ k ∧ k ≤ N) ∧ (0 ≤ s.c ∧ s.c ≤ 65535) ∧ (wi (65535 + 6100 * k) s.x ∧ wi (65535 + 6100 * k) s.y ∧ wi (65535 + 6100 * k) s.z) ∧ wi (1023 + 50 * k) s.vx ∧ wi (1023 + 50 * k) s.vy ∧ wi (1023 + 50 * k) s.vz
theorem dI_b (Q : List (List Dat)) (k : Int) : (-50 ≤ dI0 Q k ∧ dI0 Q k ≤ 50) ∧ (-50 ≤ dI1 Q k ∧ dI1 Q k ≤ 50) ∧ (-50 ≤ dI2 Q k ∧ dI2 Q k ≤ 50) := by
  have a := tmB (wI ((Q.getD k.toNat []).headD (Dat.n 0)).toI) 51 (by omega)
  have b := tmB (wI ((Q.getD k.toNat []).tail.headD (Dat.n 0)).toI) 51 (by omega)
  have c := tmB (wI ((Q.getD k.toNat []).tail.tail.headD (Dat.n 0)).toI) 51 (by omega)
  unfold dI0 dI1 dI2
  omega
theorem ivT_next {N : Int} (hN : N ≤ 100) {Q : List (List Dat)} {k : Int} (hk : 0 ≤ k ∧ k < N) {s : ST} (h : ivT N k s) : ivT N (k + 1) (stT Q k s) := by
  obtain ⟨h0, h1, ⟨h2, h3, h4⟩, h5, h6, h7⟩ := h
  obtain ⟨d0, d1, d2⟩ := dI_b Q k
  have hc := cN_is h1
  unfold wi at *
  exact ⟨by omega, ⟨hc.1, hc.2.1⟩, ⟨by show _ ≤ s.x + (s.vx + dI0 Q k) ∧ s.x + (s.vx + dI0 Q k) ≤ _; omega, by show _ ≤ s.y + (s.vy + dI1 Q k) ∧ s.y + (s.vy + dI1 Q k) ≤ _; omega, by show _ ≤ s.z + (s.vz + dI2 Q k) ∧ s.z + (s.vz + dI2 Q k) ≤ _; omega⟩, by show _ ≤ s.vx + dI0 Q k ∧ s.vx + dI0 Q k ≤ _; omega, by show _ ≤ s.vy + dI1 Q k ∧ s.vy + dI1 Q k ≤ _; omega, by show _ ≤ s.vz + dI2 Q k ∧ s.vz + dI2 Q k ≤ _; omega⟩
theorem bey_of {n m : Int} (hm : 0 ≤ m ∧ m ≤ 1073741824) (h : -m ≤ n ∧ n ≤ m) : beyB n m = false := by
  unfold beyB
  rw [wI_id (n := 0 - m) (by omega), decide_eq_false (show ¬ n < 0 - m by omega), decide_eq_false (show ¬ n > m by omega)]
  rfl
theorem nw_nv (c x y z a b d : Int) : nv0 (nwL c x y z a b d) = cN c ∧ nv1 (nwL c x y z a b d) = 0 ∧ nv2 (nwL c x y z a b d) = x ∧ nv3 (nwL c x y z a b d) = y ∧ nv4 (nwL c x y z a b d) = z ∧ nv5 (nwL c x y z a b d) = a ∧ nv6 (nwL c x y z a b d) = b ∧ nv7 (nwL c x y z a b d) = d := ⟨by kernel_rfl, by kernel_rfl, by kernel_rfl, by kernel_rfl, by kernel_rfl, by kernel_rfl, by kernel_rfl, by kernel_rfl⟩
theorem mor_no {a b P : Int} (h1 : a - b ≤ P) (h2 : b - a ≤ P) : morB a b P = false := by
  unfold morB
  rw [decide_eq_false (show ¬ a - b > P by omega), decide_eq_false (show ¬ b - a > P by omega)]
  rfl
theorem fa_nw {c x y z a b d : Int} {hs : Bool} {l1 l6 l7 l8 : Int} (hc : hs = true → cN c ≠ l1) (hx : wi 1073741824 x) (hy : wi 1073741824 y) (hz : wi 1073741824 z) (ha : wi 65536 a) (hb : wi 65536 b) (hd : wi 65536 d)
    (h6 : hs = true → a - l6 ≤ 50 ∧ l6 - a ≤ 50) (h7 : hs = true → b - l7 ≤ 50 ∧ l7 - b ≤ 50) (h8 : hs = true → d - l8 ≤ 50 ∧ l8 - d ≤ 50) : faI (nwL c x y z a b d) hs l1 l6 l7 l8 50 = 0 := by
  obtain ⟨e0, e1, e2, e3, e4, e5, e6, e7⟩ := nw_nv c x y z a b d
  unfold wi at *
  unfold faI
  rw [e0, e1, e2, e3, e4, e5, e6, e7, show ((nwL c x y z a b d).length : Int) = 1 from rfl]
  have f : farB x y z a b d = false := by
    unfold farB
    rw [bey_of (by omega) hx, bey_of (by omega) hy, bey_of (by omega) hz, bey_of (by omega) ha, bey_of (by omega) hb, bey_of (by omega) hd]
    rfl
  rw [f]
  cases hs
  · rfl
  · have q6 := h6 rfl
    have q7 := h7 rfl
    have q8 := h8 rfl
    unfold jmB
    rw [beq_eq_false_iff_ne.2 (hc rfl), mor_no q6.1 q6.2, mor_no q7.1 q7.2, mor_no q8.1 q8.2]
    rfl
def lfSt (Q : List (List Dat)) : LT := .leaf (.exit 0) (mk (xSt (.exit 0)) [] ⟨[], [], [r8R Q]⟩)
theorem loopSt (c x y z vx vy vz : Int) (Q : List (List Dat)) (hn : (Q.length : Int) ≤ 100) (h0 : ivT (Q.length : Int) 0 ⟨c, x, y, z, vx, vy, vz, false⟩) : ESt (Q.length + 1) 0 0 0 0 0 0 0 0 false c x y z vx vy vz (Q.length : Int) 0 Q = some (lfSt Q).pick := by
  refine (foldAll (stT Q) (fun k s => ivT (Q.length : Int) k s) (Q.length : Int) (fun n k (s : ST) => ESt n (pk s.hs s.c 0) 0 (pk s.hs s.x 0) (pk s.hs s.y 0) (pk s.hs s.z 0) (pk s.hs s.vx 0) (pk s.hs s.vy 0) (pk s.hs s.vz 0) s.hs s.c s.x s.y s.z s.vx s.vy s.vz (Q.length : Int) k Q) (fun _ => some (.exit 0, mk (xSt (.exit 0)) [] ⟨[], [], [r8R Q]⟩)) (fun n k s hk _ => ?_) (fun k s hk hi => ivT_next hn hk hi) (fun n k s hk hi => ?_) Q.length 0 ⟨c, x, y, z, vx, vy, vz, false⟩ (by omega) (by omega) h0).trans rfl
  · refine (stepSt _ _ _ _ _ _ _ _ _ _ _ _ _ _ _ _ (Q.length : Int) k Q n).trans ?_
    rw [decide_eq_false hk]
    rfl
  · obtain ⟨k0, h1, ⟨h2, h3, h4⟩, h5, h6, h7⟩ := hi
    obtain ⟨d0, d1, d2⟩ := dI_b Q k
    have hc := cN_is h1
    refine (stepSt _ _ _ _ _ _ _ _ _ _ _ _ _ _ _ _ (Q.length : Int) k Q n).trans ?_
    have hb : ∀ b v : Int, wi (1023 + 50 * k) v → i64B (pk s.hs v 0) = true := fun _ v hv => by
      unfold wi at hv
      cases s.hs
      · rfl
      · show i64B v = true
        exact decide_eq_true (by omega)
    have F := fa_nw (c := s.c) (x := s.x + (s.vx + dI0 Q k)) (y := s.y + (s.vy + dI1 Q k)) (z := s.z + (s.vz + dI2 Q k)) (a := s.vx + dI0 Q k) (b := s.vy + dI1 Q k) (d := s.vz + dI2 Q k) (hs := s.hs) (l1 := pk s.hs s.c 0) (l6 := pk s.hs s.vx 0) (l7 := pk s.hs s.vy 0) (l8 := pk s.hs s.vz 0) (fun e => by rw [e]; exact hc.2.2) (by unfold wi at *; omega) (by unfold wi at *; omega) (by unfold wi at *; omega) (by unfold wi at *; omega) (by unfold wi at *; omega) (by unfold wi at *; omega) (fun e => by rw [e]; show s.vx + dI0 Q k - s.vx ≤ 50 ∧ s.vx - (s.vx + dI0 Q k) ≤ 50; omega) (fun e => by rw [e]; show s.vy + dI1 Q k - s.vy ≤ 50 ∧ s.vy - (s.vy + dI1 Q k) ≤ 50; omega) (fun e => by rw [e]; show s.vz + dI2 Q k - s.vz ≤ 50 ∧ s.vz - (s.vz + dI2 Q k) ≤ 50; omega)
    have i5 := hb 0 s.vx h5
    have i6 := hb 0 s.vy h6
    have i7 := hb 0 s.vz h7
    obtain ⟨e0, e1, e2, e3, e4, e5, e6, e7⟩ := nw_nv s.c (s.x + (s.vx + dI0 Q k)) (s.y + (s.vy + dI1 Q k)) (s.z + (s.vz + dI2 Q k)) (s.vx + dI0 Q k) (s.vy + dI1 Q k) (s.vz + dI2 Q k)
    unfold wi at *
    rw [decide_eq_true hk.2, decide_eq_true hk.1, wI_id (n := k + 1) (by omega), wI_id (n := s.vx + dI0 Q k) (by omega), wI_id (n := s.vy + dI1 Q k) (by omega), wI_id (n := s.vz + dI2 Q k) (by omega), wI_id (n := s.x + (s.vx + dI0 Q k)) (by omega), wI_id (n := s.y + (s.vy + dI1 Q k)) (by omega), wI_id (n := s.z + (s.vz + dI2 Q k)) (by omega), F, e0, e1, e2, e3, e4, e5, e6, e7, i5, i6, i7, show i64B (s.vx + dI0 Q k) = true from decide_eq_true (by omega), show i64B (s.vy + dI1 Q k) = true from decide_eq_true (by omega), show i64B (s.vz + dI2 Q k) = true from decide_eq_true (by omega), show Nat.ble (nwL s.c (s.x + (s.vx + dI0 Q k)) (s.y + (s.vy + dI1 Q k)) (s.z + (s.vz + dI2 Q k)) (s.vx + dI0 Q k) (s.vy + dI1 Q k) (s.vz + dI2 Q k)).length 1000000 = true from rfl]
    have p : ∀ a b, pk true a b = a := fun _ _ => rfl
    simp only [p, beq_self_eq_true, bne_self_eq_false, Bool.and_self, Bool.not_true, cond_true, cond_false]
    rfl

/-! SourceOld -/
def oB (ag k : Int) : Bool := decide (k ≤ ag)
def lfSo (ag cy n0 n1 n2 n3 n4 n5 n6 n7 : Int) : LT := .leaf (.exit 0) (mk (xSo (.exit 0)) [.v (I ag), .v (I cy), .ptr 0 0, .ptr 1 0] ⟨[[.v (I n0), .v (I n1), .v (I n2), .v (I n3), .v (I n4), .v (I n5), .v (I n6), .v (I n7)], [.v (I 50), .v (I ag), .ptr 2 0, .v (I (bif oB ag cy then 70000 else 0)), .v (I 0), .v (I 0), .v (I 0), .v (I 0), .v (I 0), .v (I 0), .v (I 0), .v (Bo (oB ag cy))], [.v (I 1000000), .v (I cy)]], [true, true, true], []⟩)
theorem loopSo (ag cy n0 n1 n2 n3 n4 n5 n6 n7 : Int) (ha : 1 ≤ ag ∧ ag ≤ 50) (m : Nat) (hc : cy = (m : Int)) (hm : m ≤ 79) : ESo (m + 1) ag cy n0 n1 n2 n3 n4 n5 n6 n7 70000 0 0 0 0 0 0 0 true 0 cy 0 = some (lfSo ag cy n0 n1 n2 n3 n4 n5 n6 n7).pick := by
  refine Eq.trans ?_ (foldAll (fun _ (s : Unit) => s) (fun k _ => 0 ≤ k ∧ k ≤ cy) cy (fun n k (_ : Unit) => ESo n ag cy n0 n1 n2 n3 n4 n5 n6 n7 (bif oB ag k then 70000 else 0) 0 0 0 0 0 0 0 (oB ag k) k cy k) (fun _ => some (.exit 0, mk (xSo (.exit 0)) [.v (I ag), .v (I cy), .ptr 0 0, .ptr 1 0] ⟨[[.v (I n0), .v (I n1), .v (I n2), .v (I n3), .v (I n4), .v (I n5), .v (I n6), .v (I n7)], [.v (I 50), .v (I ag), .ptr 2 0, .v (I (bif oB ag cy then 70000 else 0)), .v (I 0), .v (I 0), .v (I 0), .v (I 0), .v (I 0), .v (I 0), .v (I 0), .v (Bo (oB ag cy))], [.v (I 1000000), .v (I cy)]], [true, true, true], []⟩)) (fun n k s hk hi => ?_) (fun k s hk hi => ⟨by omega, by omega⟩) (fun n k s hk hi => ?_) m 0 () (by omega) (by omega) ⟨by omega, by omega⟩)
  · show _ = ESo (m + 1) ag cy n0 n1 n2 n3 n4 n5 n6 n7 (bif oB ag 0 then 70000 else 0) 0 0 0 0 0 0 0 (oB ag 0) 0 cy 0
    rw [show oB ag 0 = true from decide_eq_true (by omega)]
    rfl
  · obtain rfl : k = cy := by omega
    refine (stepSo _ _ _ _ _ _ _ _ _ _ _ _ _ _ _ _ _ _ _ _ _ _ n).trans ?_
    rw [decide_eq_false hk]
    rfl
  · refine (stepSo _ _ _ _ _ _ _ _ _ _ _ _ _ _ _ _ _ _ _ _ _ _ n).trans ?_
    rw [decide_eq_true hk.2, wI_id (n := k + 1) (by omega), addT (by omega) (by omega), if_neg (show ¬ (1000000 : Int) < k + 1 by omega)]
    have z : ∀ b, gN b 0 = 0 := fun b => by cases b <;> rfl
    have e1 : gN (decide (k + 1 > ag)) (bif oB ag k then 70000 else 0) = (bif oB ag (k + 1) then 70000 else 0) := by
      unfold oB
      by_cases h : k + 1 ≤ ag
      · rw [decide_eq_true h, decide_eq_false (show ¬ k + 1 > ag by omega), decide_eq_true (show k ≤ ag by omega)]; rfl
      · rw [decide_eq_false h, decide_eq_true (show k + 1 > ag by omega)]; rfl
    have e2 : gB' (decide (k + 1 > ag)) (oB ag k) = oB ag (k + 1) := by
      unfold oB
      by_cases h : k + 1 ≤ ag
      · rw [decide_eq_true h, decide_eq_false (show ¬ k + 1 > ag by omega), decide_eq_true (show k ≤ ag by omega)]; rfl
      · rw [decide_eq_false h, decide_eq_true (show k + 1 > ag by omega)]; rfl
    rw [e1, e2]
    simp only [z]
    rfl

noncomputable def GSr (vals : List SV) (m : Mem) : Option (Bool × LT) :=
  match vals, m with
  | [.ptr 0 0, .ptr 1 0, .v (.bool hs), .row 0, .v (.int .i64 nn), .v (.int .i64 k)], ⟨B, lv, [.live ⟨e2, k2, LL, o2, m2⟩]⟩ => some (isT ((hs = false ∧ nn = (LL.length : Int) ∧ k = 0) ∧ (B = [[.v (I 50), .v (I 2), .ptr 2 0, .v (I 0), .v (I 0), .v (I 0), .v (I 0), .v (I 0), .v (I 0), .v (I 0), .v (I 0), .v (Bo false)], [.v (I 0), .v (I 0), .v (I 0), .v (I 0), .v (I 0), .v (I 0), .v (I 0), .v (I 0)], [.v (I 1000000), .v (I 0)]] ∧ lv = [true, true, true] ∧ RowS.live ⟨e2, k2, LL, o2, m2⟩ = rA LL false false) ∧ fwB LL = true ∧ ∀ o ∈ LL, WfN kAv o), lfSr LL)
  | _, _ => none
noncomputable def ΛSr : LoopOrc := fun _ st => viaT 0 1 kSr GSr st
theorem loopOkSr (z : Base) (z1 : z.L.length = 0) (z2 : z.U.length = 1) : LoopOk ΛSr Try.prog z bdSr := by
  refine loop_okT (Λ := L0) (kx := xSr) Okq4 mixed z1 z2 (fun b hb st t h => by cases h) (G := GSr) (fun _ => rfl) ?_
  intro vals m t h
  unfold GSr at h
  split at h
  · rename_i hs nn k B lv e2 k2 LL o2 m2
    obtain ⟨h1, rfl⟩ := some_t h
    rw [isT_iff] at h1
    obtain ⟨⟨rfl, rfl, rfl⟩, ⟨rfl, rfl, hr⟩, h2, h3⟩ := h1
    rw [hr]
    exact ⟨_, loopSr LL h2 h3⟩
  · cases h
theorem loopsSr : loopsOf (Try.f6.body.getD .skip) = [bdSr] := by kernel_rfl
noncomputable def GSt (vals : List SV) (m : Mem) : Option (Bool × LT) :=
  match vals, m with
  | [.ptr 0 0, .ptr 1 0, .row 0, .v (.int .i64 nn), .v (.int .i64 k)], ⟨[b0, [.v (.int .i64 c), .v (.int .i64 q), .v (.int .i64 x), .v (.int .i64 y), .v (.int .i64 z), .v (.int .i64 vx), .v (.int .i64 vy), .v (.int .i64 vz)], b2], lv, [.live ⟨e2, k2, Q, o2, m2⟩]⟩ => some (isT ((nn = (Q.length : Int) ∧ k = 0 ∧ q = 0) ∧ (b0 = [.v (I 50), .v (I 2), .ptr 2 0, .v (I 0), .v (I 0), .v (I 0), .v (I 0), .v (I 0), .v (I 0), .v (I 0), .v (I 0), .v (Bo false)] ∧ b2 = [.v (I 1000000), .v (I 0)] ∧ lv = [true, true, true] ∧ RowS.live ⟨e2, k2, Q, o2, m2⟩ = r8R Q) ∧ (Q.length : Int) ≤ 100 ∧ ivT (Q.length : Int) 0 ⟨c, x, y, z, vx, vy, vz, false⟩), lfSt Q)
  | _, _ => none
noncomputable def ΛSt : LoopOrc := fun _ st => viaT 0 1 kSt GSt st
theorem loopOkSt (z : Base) (z1 : z.L.length = 0) (z2 : z.U.length = 1) : LoopOk ΛSt Try.prog z bdSt := by
  refine loop_okT (Λ := L0) (kx := xSt) Okq4 mixed z1 z2 (fun b hb st t h => by cases h) (G := GSt) (fun _ => rfl) ?_
  intro vals m t h
  unfold GSt at h
  split at h
  · rename_i nn k b0 c q x y z vx vy vz b2 lv e2 k2 Q o2 m2
    obtain ⟨h1, rfl⟩ := some_t h
    rw [isT_iff] at h1
    obtain ⟨⟨rfl, rfl, rfl⟩, ⟨rfl, rfl, rfl, hr⟩, h2, h3⟩ := h1
    rw [hr]
    exact ⟨_, loopSt c x y z vx vy vz Q h2 h3⟩
  · cases h
theorem loopsSt : loopsOf (Try.f4.body.getD .skip) = [bdSt] := by kernel_rfl
noncomputable def GSo (vals : List SV) (m : Mem) : Option (Bool × LT) :=
  match vals, m with
  | [.v (.int .i64 ag), .v (.int .i64 cy), .ptr 0 0, .ptr 1 0, .v (.int .i64 nn), .v (.int .i64 k)], ⟨[.v (.int .i64 n0), .v (.int .i64 n1), .v (.int .i64 n2), .v (.int .i64 n3), .v (.int .i64 n4), .v (.int .i64 n5), .v (.int .i64 n6), .v (.int .i64 n7)] :: B, lv, []⟩ => some (isT ((nn = cy ∧ k = 0) ∧ (B = [[.v (I 50), .v (I ag), .ptr 2 0, .v (I 70000), .v (I 0), .v (I 0), .v (I 0), .v (I 0), .v (I 0), .v (I 0), .v (I 0), .v (Bo true)], [.v (I 1000000), .v (I 0)]] ∧ lv = [true, true, true]) ∧ (1 ≤ ag ∧ ag ≤ 50) ∧ (0 ≤ cy ∧ cy ≤ 79)), lfSo ag cy n0 n1 n2 n3 n4 n5 n6 n7)
  | _, _ => none
noncomputable def ΛSo : LoopOrc := fun _ st => viaT 0 0 kSo GSo st
theorem loopOkSo (z : Base) (z1 : z.L.length = 0) (z2 : z.U.length = 0) : LoopOk ΛSo Try.prog z bdSo := by
  refine loop_okT (Λ := L0) (kx := xSo) Okq4 mixed z1 z2 (fun b hb st t h => by cases h) (G := GSo) (fun _ => rfl) ?_
  intro vals m t h
  unfold GSo at h
  split at h
  · rename_i ag cy nn k n0 n1 n2 n3 n4 n5 n6 n7 B lv
    obtain ⟨h1, rfl⟩ := some_t h
    rw [isT_iff] at h1
    obtain ⟨⟨rfl, rfl⟩, ⟨rfl, rfl⟩, h2, h3⟩ := h1
    exact ⟨_, loopSo ag nn n0 n1 n2 n3 n4 n5 n6 n7 h2 nn.toNat (by omega) (by omega)⟩
  · cases h
theorem loopsSo : loopsOf (Try.f5.body.getD .skip) = [bdSo] := by kernel_rfl
/-! rep wI ((BitVec.ofInt (64 : Nat) p &&& BitVec.ofInt (64 : Nat) (65535 : Int)).toNat : Int) => aM p 65535 -/
/-! rep (wI ((BitVec.ofInt (64 : Nat) p &&& BitVec.ofInt (64 : Nat) (65535 : Int)).toNat : Int)) => (aM p 65535) -/
/-! rep (wI ((BitVec.ofInt (64 : Nat) p &&& BitVec.ofInt (64 : Nat) (1023 : Int)).toNat : Int)) => (aM p 1023) -/
/-! rep wI ((BitVec.ofInt (64 : Nat) p &&& BitVec.ofInt (64 : Nat) (65535 : Int)).toNat : Int) => aM p 65535 -/
/-! rep wI ((BitVec.ofInt (64 : Nat) p &&& BitVec.ofInt (64 : Nat) (1023 : Int)).toNat : Int) => aM p 1023 -/
/-! rep (wI ((BitVec.ofInt (64 : Nat) x &&& BitVec.ofInt (64 : Nat) (65535 : Int)).toNat : Int)) => (aM x 65535) -/
/-! rep (wI ((BitVec.ofInt (64 : Nat) x &&& BitVec.ofInt (64 : Nat) (1023 : Int)).toNat : Int)) => (aM x 1023) -/
/-! rep wI ((BitVec.ofInt (64 : Nat) x &&& BitVec.ofInt (64 : Nat) (65535 : Int)).toNat : Int) => aM x 65535 -/
/-! rep wI ((BitVec.ofInt (64 : Nat) x &&& BitVec.ofInt (64 : Nat) (1023 : Int)).toNat : Int) => aM x 1023 -/
/-! rep (wI ((BitVec.ofInt (64 : Nat) y &&& BitVec.ofInt (64 : Nat) (65535 : Int)).toNat : Int)) => (aM y 65535) -/
/-! rep (wI ((BitVec.ofInt (64 : Nat) y &&& BitVec.ofInt (64 : Nat) (1023 : Int)).toNat : Int)) => (aM y 1023) -/
/-! rep wI ((BitVec.ofInt (64 : Nat) y &&& BitVec.ofInt (64 : Nat) (65535 : Int)).toNat : Int) => aM y 65535 -/
/-! rep wI ((BitVec.ofInt (64 : Nat) y &&& BitVec.ofInt (64 : Nat) (1023 : Int)).toNat : Int) => aM y 1023 -/
/-! rep (wI ((BitVec.ofInt (64 : Nat) z &&& BitVec.ofInt (64 : Nat) (65535 : Int)).toNat : Int)) => (aM z 65535) -/
/-! rep (wI ((BitVec.ofInt (64 : Nat) z &&& BitVec.ofInt (64 : Nat) (1023 : Int)).toNat : Int)) => (aM z 1023) -/
/-! rep wI ((BitVec.ofInt (64 : Nat) z &&& BitVec.ofInt (64 : Nat) (65535 : Int)).toNat : Int) => aM z 65535 -/
/-! rep wI ((BitVec.ofInt (64 : Nat) z &&& BitVec.ofInt (64 : Nat) (1023 : Int)).toNat : Int) => aM z 1023 -/
/-! rep (wI ((BitVec.ofInt (64 : Nat) vx &&& BitVec.ofInt (64 : Nat) (65535 : Int)).toNat : Int)) => (aM vx 65535) -/
/-! rep (wI ((BitVec.ofInt (64 : Nat) vx &&& BitVec.ofInt (64 : Nat) (1023 : Int)).toNat : Int)) => (aM vx 1023) -/
/-! rep wI ((BitVec.ofInt (64 : Nat) vx &&& BitVec.ofInt (64 : Nat) (65535 : Int)).toNat : Int) => aM vx 65535 -/
/-! rep wI ((BitVec.ofInt (64 : Nat) vx &&& BitVec.ofInt (64 : Nat) (1023 : Int)).toNat : Int) => aM vx 1023 -/
/-! rep (wI ((BitVec.ofInt (64 : Nat) vy &&& BitVec.ofInt (64 : Nat) (65535 : Int)).toNat : Int)) => (aM vy 65535) -/
/-! rep (wI ((BitVec.ofInt (64 : Nat) vy &&& BitVec.ofInt (64 : Nat) (1023 : Int)).toNat : Int)) => (aM vy 1023) -/
/-! rep wI ((BitVec.ofInt (64 : Nat) vy &&& BitVec.ofInt (64 : Nat) (65535 : Int)).toNat : Int) => aM vy 65535 -/
/-! rep wI ((BitVec.ofInt (64 : Nat) vy &&& BitVec.ofInt (64 : Nat) (1023 : Int)).toNat : Int) => aM vy 1023 -/
/-! rep (wI ((BitVec.ofInt (64 : Nat) vz &&& BitVec.ofInt (64 : Nat) (65535 : Int)).toNat : Int)) => (aM vz 65535) -/
/-! rep (wI ((BitVec.ofInt (64 : Nat) vz &&& BitVec.ofInt (64 : Nat) (1023 : Int)).toNat : Int)) => (aM vz 1023) -/
/-! rep wI ((BitVec.ofInt (64 : Nat) vz &&& BitVec.ofInt (64 : Nat) (65535 : Int)).toNat : Int) => aM vz 65535 -/
/-! rep wI ((BitVec.ofInt (64 : Nat) vz &&& BitVec.ofInt (64 : Nat) (1023 : Int)).toNat : Int) => aM vz 1023 -/
def aM (p m : Int) : Int := wI ((BitVec.ofInt 64 p &&& BitVec.ofInt 64 m).toNat : Int)
set_option maxRecDepth 20000 in
theorem treeSr (LL : List (List Dat)) : runG Γq4 ΛSr Try.prog Try.f6 [.row 0] ⟨[], [], [rA LL false false]⟩ = 
    (bif LL.length.ble (9223372036854775807) then (bif !fwB LL then some (.v (Bo true), ⟨[], [], [.live ⟨35, kAv, LL, false, false⟩]⟩) else (bif isT ((false = false ∧ (LL.length : Int) = (LL.length : Int) ∧ (0 : Int) = (0 : Int)) ∧ ([[SA.v (Value.int IntKind.i64 (50 : Int)), SA.v (Value.int IntKind.i64 (2 : Int)), SA.ptr (2 : Nat) (0 : Nat), SA.v (Value.int IntKind.i64 (0 : Int)), SA.v (Value.int IntKind.i64 (0 : Int)), SA.v (Value.int IntKind.i64 (0 : Int)), SA.v (Value.int IntKind.i64 (0 : Int)), SA.v (Value.int IntKind.i64 (0 : Int)), SA.v (Value.int IntKind.i64 (0 : Int)), SA.v (Value.int IntKind.i64 (0 : Int)), SA.v (Value.int IntKind.i64 (0 : Int)), SA.v (Value.bool false)], [SA.v (Value.int IntKind.i64 (0 : Int)), SA.v (Value.int IntKind.i64 (0 : Int)), SA.v (Value.int IntKind.i64 (0 : Int)), SA.v (Value.int IntKind.i64 (0 : Int)), SA.v (Value.int IntKind.i64 (0 : Int)), SA.v (Value.int IntKind.i64 (0 : Int)), SA.v (Value.int IntKind.i64 (0 : Int)), SA.v (Value.int IntKind.i64 (0 : Int))], [SA.v (Value.int IntKind.i64 (1000000 : Int)), SA.v (Value.int IntKind.i64 (0 : Int))]] = [[SA.v (I (50 : Int)), SA.v (I (2 : Int)), SA.ptr (2 : Nat) (0 : Nat), SA.v (I (0 : Int)), SA.v (I (0 : Int)), SA.v (I (0 : Int)), SA.v (I (0 : Int)), SA.v (I (0 : Int)), SA.v (I (0 : Int)), SA.v (I (0 : Int)), SA.v (I (0 : Int)), SA.v (Bo false)], [SA.v (I (0 : Int)), SA.v (I (0 : Int)), SA.v (I (0 : Int)), SA.v (I (0 : Int)), SA.v (I (0 : Int)), SA.v (I (0 : Int)), SA.v (I (0 : Int)), SA.v (I (0 : Int))], [SA.v (I (1000000 : Int)), SA.v (I (0 : Int))]] ∧ List.map (fun x => true) [[SA.v (Value.int IntKind.i64 (50 : Int)), SA.v (Value.int IntKind.i64 (2 : Int)), SA.ptr (2 : Nat) (0 : Nat), SA.v (Value.int IntKind.i64 (0 : Int)), SA.v (Value.int IntKind.i64 (0 : Int)), SA.v (Value.int IntKind.i64 (0 : Int)), SA.v (Value.int IntKind.i64 (0 : Int)), SA.v (Value.int IntKind.i64 (0 : Int)), SA.v (Value.int IntKind.i64 (0 : Int)), SA.v (Value.int IntKind.i64 (0 : Int)), SA.v (Value.int IntKind.i64 (0 : Int)), SA.v (Value.bool false)], [SA.v (Value.int IntKind.i64 (0 : Int)), SA.v (Value.int IntKind.i64 (0 : Int)), SA.v (Value.int IntKind.i64 (0 : Int)), SA.v (Value.int IntKind.i64 (0 : Int)), SA.v (Value.int IntKind.i64 (0 : Int)), SA.v (Value.int IntKind.i64 (0 : Int)), SA.v (Value.int IntKind.i64 (0 : Int)), SA.v (Value.int IntKind.i64 (0 : Int))], [SA.v (Value.int IntKind.i64 (1000000 : Int)), SA.v (Value.int IntKind.i64 (0 : Int))]] = [true, true, true] ∧ RowS.live { e := 35, ks := kAv, L := LL, own := false, mark := false : RowC } = rA LL false false) ∧ fwB LL = true ∧ ∀ (o : List Dat), o ∈ LL → WfN kAv o) then some (.v (Bo true), ⟨[], [], [.live ⟨35, kAv, LL, false, false⟩]⟩) else none)) else none) := by kernel_rfl
set_option maxRecDepth 20000 in
theorem treeSt (p : Int) (q : Int) (x : Int) (y : Int) (z : Int) (vx : Int) (vy : Int) (vz : Int) (Q : List (List Dat)) : runG Γq4 ΛSt Try.prog Try.f4 [.row 0, .v (.agg #[I p, I q, I x, I y, I z, I vx, I vy, I vz])] ⟨[], [], [r8R Q]⟩ = 
    (bif decide ((Q.length : Int) > (100 : Int)) then some (.v (Bo true), ⟨[], [], [.live ⟨48, [.num .i8, .num .i8, .num .i8], Q, false, false⟩]⟩) else (bif isT (((Q.length : Int) = (Q.length : Int) ∧ (0 : Int) = (0 : Int) ∧ (0 : Int) = (0 : Int)) ∧ ([SA.v (Value.int IntKind.i64 (50 : Int)), SA.v (Value.int IntKind.i64 (2 : Int)), SA.ptr (2 : Nat) (0 : Nat), SA.v (Value.int IntKind.i64 (0 : Int)), SA.v (Value.int IntKind.i64 (0 : Int)), SA.v (Value.int IntKind.i64 (0 : Int)), SA.v (Value.int IntKind.i64 (0 : Int)), SA.v (Value.int IntKind.i64 (0 : Int)), SA.v (Value.int IntKind.i64 (0 : Int)), SA.v (Value.int IntKind.i64 (0 : Int)), SA.v (Value.int IntKind.i64 (0 : Int)), SA.v (Value.bool false)] = [SA.v (I (50 : Int)), SA.v (I (2 : Int)), SA.ptr (2 : Nat) (0 : Nat), SA.v (I (0 : Int)), SA.v (I (0 : Int)), SA.v (I (0 : Int)), SA.v (I (0 : Int)), SA.v (I (0 : Int)), SA.v (I (0 : Int)), SA.v (I (0 : Int)), SA.v (I (0 : Int)), SA.v (Bo false)] ∧ [SA.v (Value.int IntKind.i64 (1000000 : Int)), SA.v (Value.int IntKind.i64 (0 : Int))] = [SA.v (I (1000000 : Int)), SA.v (I (0 : Int))] ∧ List.map (fun x => true) [[SA.v (Value.int IntKind.i64 (50 : Int)), SA.v (Value.int IntKind.i64 (2 : Int)), SA.ptr (2 : Nat) (0 : Nat), SA.v (Value.int IntKind.i64 (0 : Int)), SA.v (Value.int IntKind.i64 (0 : Int)), SA.v (Value.int IntKind.i64 (0 : Int)), SA.v (Value.int IntKind.i64 (0 : Int)), SA.v (Value.int IntKind.i64 (0 : Int)), SA.v (Value.int IntKind.i64 (0 : Int)), SA.v (Value.int IntKind.i64 (0 : Int)), SA.v (Value.int IntKind.i64 (0 : Int)), SA.v (Value.bool false)], [SA.v (Value.int IntKind.i64 (aM p 65535)), SA.v (Value.int IntKind.i64 (0 : Int)), SA.v (Value.int IntKind.i64 (aM x 65535)), SA.v (Value.int IntKind.i64 (aM y 65535)), SA.v (Value.int IntKind.i64 (aM z 65535)), SA.v (Value.int IntKind.i64 (aM vx 1023)), SA.v (Value.int IntKind.i64 (aM vy 1023)), SA.v (Value.int IntKind.i64 (aM vz 1023))], [SA.v (Value.int IntKind.i64 (1000000 : Int)), SA.v (Value.int IntKind.i64 (0 : Int))]] = [true, true, true] ∧ RowS.live { e := 48, ks := k8, L := Q, own := false, mark := false : RowC } = r8R Q) ∧ (Q.length : Int) ≤ (100 : Int) ∧ ivT (Q.length : Int) (0 : Int) { c := aM p 65535, x := aM x 65535, y := aM y 65535, z := aM z 65535, vx := aM vx 1023, vy := aM vy 1023, vz := aM vz 1023, hs := false : ST }) then some (.v (Bo true), ⟨[], [], [.live ⟨48, [.num .i8, .num .i8, .num .i8], Q, false, false⟩]⟩) else none)) := by kernel_rfl
set_option maxRecDepth 20000 in
theorem treeSo (a : Int) (b : Int) (p : Int) (q : Int) (x : Int) (y : Int) (z : Int) (vx : Int) (vy : Int) (vz : Int) : runG Γq4 ΛSo Try.prog Try.f5 [.v (I a), .v (I b), .v (.agg #[I p, I q, I x, I y, I z, I vx, I vy, I vz])] M0 = 
    (bif true && decide ((1 : Int) ≤ wI ((1 : Int) + wI ((IntKind.u64.wrap a).tmod (50 : Int)))) then (bif isT ((wI ((IntKind.u64.wrap b).tmod (80 : Int)) = wI ((IntKind.u64.wrap b).tmod (80 : Int)) ∧ (0 : Int) = (0 : Int)) ∧ ([[SA.v (Value.int IntKind.i64 (50 : Int)), SA.v (Value.int IntKind.i64 (wI ((1 : Int) + wI ((IntKind.u64.wrap a).tmod (50 : Int))))), SA.ptr (2 : Nat) (0 : Nat), SA.v (Value.int IntKind.i64 (pk true (70000 : Int) (gN (decide ((1 : Int) > wI ((1 : Int) + wI ((IntKind.u64.wrap a).tmod (50 : Int))))) (0 : Int)))), SA.v (Value.int IntKind.i64 (pk true (0 : Int) (gN (decide ((1 : Int) > wI ((1 : Int) + wI ((IntKind.u64.wrap a).tmod (50 : Int))))) (0 : Int)))), SA.v (Value.int IntKind.i64 (pk true (0 : Int) (gN (decide ((1 : Int) > wI ((1 : Int) + wI ((IntKind.u64.wrap a).tmod (50 : Int))))) (0 : Int)))), SA.v (Value.int IntKind.i64 (pk true (0 : Int) (gN (decide ((1 : Int) > wI ((1 : Int) + wI ((IntKind.u64.wrap a).tmod (50 : Int))))) (0 : Int)))), SA.v (Value.int IntKind.i64 (pk true (0 : Int) (gN (decide ((1 : Int) > wI ((1 : Int) + wI ((IntKind.u64.wrap a).tmod (50 : Int))))) (0 : Int)))), SA.v (Value.int IntKind.i64 (pk true (0 : Int) (gN (decide ((1 : Int) > wI ((1 : Int) + wI ((IntKind.u64.wrap a).tmod (50 : Int))))) (0 : Int)))), SA.v (Value.int IntKind.i64 (pk true (0 : Int) (gN (decide ((1 : Int) > wI ((1 : Int) + wI ((IntKind.u64.wrap a).tmod (50 : Int))))) (0 : Int)))), SA.v (Value.int IntKind.i64 (pk true (0 : Int) (gN (decide ((1 : Int) > wI ((1 : Int) + wI ((IntKind.u64.wrap a).tmod (50 : Int))))) (0 : Int)))), SA.v (Value.bool (bif true then true else gB' (decide ((1 : Int) > wI ((1 : Int) + wI ((IntKind.u64.wrap a).tmod (50 : Int))))) false))], [SA.v (Value.int IntKind.i64 (1000000 : Int)), SA.v (Value.int IntKind.i64 (0 : Int))]] = [[SA.v (I (50 : Int)), SA.v (I (wI ((1 : Int) + wI ((IntKind.u64.wrap a).tmod (50 : Int))))), SA.ptr (2 : Nat) (0 : Nat), SA.v (I (70000 : Int)), SA.v (I (0 : Int)), SA.v (I (0 : Int)), SA.v (I (0 : Int)), SA.v (I (0 : Int)), SA.v (I (0 : Int)), SA.v (I (0 : Int)), SA.v (I (0 : Int)), SA.v (Bo true)], [SA.v (I (1000000 : Int)), SA.v (I (0 : Int))]] ∧ List.map (fun x => true) [[SA.v (Value.int IntKind.i64 p), SA.v (Value.int IntKind.i64 q), SA.v (Value.int IntKind.i64 x), SA.v (Value.int IntKind.i64 y), SA.v (Value.int IntKind.i64 z), SA.v (Value.int IntKind.i64 vx), SA.v (Value.int IntKind.i64 vy), SA.v (Value.int IntKind.i64 vz)], [SA.v (Value.int IntKind.i64 (50 : Int)), SA.v (Value.int IntKind.i64 (wI ((1 : Int) + wI ((IntKind.u64.wrap a).tmod (50 : Int))))), SA.ptr (2 : Nat) (0 : Nat), SA.v (Value.int IntKind.i64 (pk true (70000 : Int) (gN (decide ((1 : Int) > wI ((1 : Int) + wI ((IntKind.u64.wrap a).tmod (50 : Int))))) (0 : Int)))), SA.v (Value.int IntKind.i64 (pk true (0 : Int) (gN (decide ((1 : Int) > wI ((1 : Int) + wI ((IntKind.u64.wrap a).tmod (50 : Int))))) (0 : Int)))), SA.v (Value.int IntKind.i64 (pk true (0 : Int) (gN (decide ((1 : Int) > wI ((1 : Int) + wI ((IntKind.u64.wrap a).tmod (50 : Int))))) (0 : Int)))), SA.v (Value.int IntKind.i64 (pk true (0 : Int) (gN (decide ((1 : Int) > wI ((1 : Int) + wI ((IntKind.u64.wrap a).tmod (50 : Int))))) (0 : Int)))), SA.v (Value.int IntKind.i64 (pk true (0 : Int) (gN (decide ((1 : Int) > wI ((1 : Int) + wI ((IntKind.u64.wrap a).tmod (50 : Int))))) (0 : Int)))), SA.v (Value.int IntKind.i64 (pk true (0 : Int) (gN (decide ((1 : Int) > wI ((1 : Int) + wI ((IntKind.u64.wrap a).tmod (50 : Int))))) (0 : Int)))), SA.v (Value.int IntKind.i64 (pk true (0 : Int) (gN (decide ((1 : Int) > wI ((1 : Int) + wI ((IntKind.u64.wrap a).tmod (50 : Int))))) (0 : Int)))), SA.v (Value.int IntKind.i64 (pk true (0 : Int) (gN (decide ((1 : Int) > wI ((1 : Int) + wI ((IntKind.u64.wrap a).tmod (50 : Int))))) (0 : Int)))), SA.v (Value.bool (bif true then true else gB' (decide ((1 : Int) > wI ((1 : Int) + wI ((IntKind.u64.wrap a).tmod (50 : Int))))) false))], [SA.v (Value.int IntKind.i64 (1000000 : Int)), SA.v (Value.int IntKind.i64 (0 : Int))]] = [true, true, true]) ∧ ((1 : Int) ≤ wI ((1 : Int) + wI ((IntKind.u64.wrap a).tmod (50 : Int))) ∧ wI ((1 : Int) + wI ((IntKind.u64.wrap a).tmod (50 : Int))) ≤ (50 : Int)) ∧ (0 : Int) ≤ wI ((IntKind.u64.wrap b).tmod (80 : Int)) ∧ wI ((IntKind.u64.wrap b).tmod (80 : Int)) ≤ (79 : Int)) then (bif !oB (wI ((1 : Int) + wI ((IntKind.u64.wrap a).tmod (50 : Int)))) (wI ((IntKind.u64.wrap b).tmod (80 : Int))) == decide (wI ((IntKind.u64.wrap b).tmod (80 : Int)) ≤ wI ((1 : Int) + wI ((IntKind.u64.wrap a).tmod (50 : Int)))) then some (.v (Bo false), M0) else (bif wI ((IntKind.u64.wrap b).tmod (80 : Int)) != wI ((IntKind.u64.wrap b).tmod (80 : Int)) then some (.v (Bo false), M0) else (bif [[Dat.n p, Dat.n (0 : Int), Dat.n (aM x 65535), Dat.n (0 : Int), Dat.n (0 : Int), Dat.n (aM vx 65535), Dat.n (0 : Int), Dat.n (wI ((0 : Int) - aM vz 65535))]].length.ble (1000000) && (i64B (nv5 [[Dat.n p, Dat.n (0 : Int), Dat.n (aM x 65535), Dat.n (0 : Int), Dat.n (0 : Int), Dat.n (aM vx 65535), Dat.n (0 : Int), Dat.n (wI ((0 : Int) - aM vz 65535))]]) && (i64B (nv6 [[Dat.n p, Dat.n (0 : Int), Dat.n (aM x 65535), Dat.n (0 : Int), Dat.n (0 : Int), Dat.n (aM vx 65535), Dat.n (0 : Int), Dat.n (wI ((0 : Int) - aM vz 65535))]]) && (i64B (nv7 [[Dat.n p, Dat.n (0 : Int), Dat.n (aM x 65535), Dat.n (0 : Int), Dat.n (0 : Int), Dat.n (aM vx 65535), Dat.n (0 : Int), Dat.n (wI ((0 : Int) - aM vz 65535))]]) && (true && (true && (true && (true && decide ((0 : Int) ≤ wI ((IntKind.u64.wrap b).tmod (80 : Int)) ∧ wI ((IntKind.u64.wrap b).tmod (80 : Int)) ≤ (1000000 : Int))))))))) then (bif oB (wI ((1 : Int) + wI ((IntKind.u64.wrap a).tmod (50 : Int)))) (wI ((IntKind.u64.wrap b).tmod (80 : Int))) then some (.v (Bo true), M0) else some (.v (Bo (faI [[Dat.n p, Dat.n (0 : Int), Dat.n (aM x 65535), Dat.n (0 : Int), Dat.n (0 : Int), Dat.n (aM vx 65535), Dat.n (0 : Int), Dat.n (wI ((0 : Int) - aM vz 65535))]] (oB (wI ((1 : Int) + wI ((IntKind.u64.wrap a).tmod (50 : Int)))) (wI ((IntKind.u64.wrap b).tmod (80 : Int)))) (bif oB (wI ((1 : Int) + wI ((IntKind.u64.wrap a).tmod (50 : Int)))) (wI ((IntKind.u64.wrap b).tmod (80 : Int))) then (70000 : Int) else (0 : Int)) (0 : Int) (0 : Int) (0 : Int) ((50 : Int) * (wI ((IntKind.u64.wrap b).tmod (80 : Int)) + (1 : Int))) == (0 : Int))), M0)) else none))) else none) else none) := by kernel_rfl
noncomputable def ΓSs : Orc := Γq4
theorem OkSs : ΓSs.Ok Try.prog := Okq4
end Go.Proofs.Ytaoembcepknlhaa

namespace Go.Proofs.Ytaoembcepknlhaa
open Go Go.Proofs Go.Sx
set_option linter.unusedVariables false
theorem sourceRight (LL : List (List Dat)) (hw : ∀ o ∈ LL, WfN kAv o) (hn : LL.length ≤ 9223372036854775807) : runG Γq4 ΛSr Try.prog Try.f6 [.row 0] ⟨[], [], [rA LL false false]⟩ = some (.v (Bo true), ⟨[], [], [rA LL false false]⟩) := by
  refine (treeSr LL).trans ?_
  rw [Nat.ble_eq_true_of_le hn]
  cases hf : fwB LL
  · rfl
  rw [isT_of]
  · rfl
  · exact ⟨⟨rfl, rfl, rfl⟩, ⟨rfl, rfl, rfl⟩, rfl, hw⟩
theorem sourceRightLaw (l0 : List (List Dat)) (w0 : ∀ o ∈ l0, WfN kAv o) (n0 : l0.length ≤ 281474976710656) : ∃ Λ m', (∀ z : Base, z.L.length = 0 → z.U.length = 1 → ∀ b ∈ loopsOf (Try.f6.body.getD .skip), LoopOk Λ Try.prog z b) ∧ runG Γq4 Λ Try.prog Try.f6 (inArgs [.row 35 kAv l0] 0) (inMem [.row 35 kAv l0]) = some (.v (.bool true), m') :=
  ⟨ΛSr, _, fun z z1 z2 => oneLoop loopsSr (loopOkSr z z1 z2), sourceRight l0 w0 (by omega)⟩
theorem aM_in (p m : Int) (h0 : 0 ≤ m) (h1 : m < 9223372036854775808) : 0 ≤ aM p m ∧ aM p m ≤ m := andB p m h0 h1
theorem sourceTrue (p q x y z vx vy vz : Int) (Q : List (List Dat)) : runG Γq4 ΛSt Try.prog Try.f4 [.row 0, .v (.agg #[I p, I q, I x, I y, I z, I vx, I vy, I vz])] ⟨[], [], [r8R Q]⟩ = some (.v (Bo true), ⟨[], [], [r8R Q]⟩) := by
  refine (treeSt p q x y z vx vy vz Q).trans ?_
  by_cases h : (Q.length : Int) > 100
  · rw [decide_eq_true h]; rfl
  rw [decide_eq_false h, isT_of]
  · rfl
  have a1 := aM_in p 65535 (by omega) (by omega)
  have a2 := aM_in x 65535 (by omega) (by omega)
  have a3 := aM_in y 65535 (by omega) (by omega)
  have a4 := aM_in z 65535 (by omega) (by omega)
  have a5 := aM_in vx 1023 (by omega) (by omega)
  have a6 := aM_in vy 1023 (by omega) (by omega)
  have a7 := aM_in vz 1023 (by omega) (by omega)
  refine ⟨⟨rfl, rfl, rfl⟩, ⟨rfl, rfl, rfl, rfl⟩, by omega, ?_⟩
  unfold ivT wi
  simp only
  omega
abbrev ksNv : List CK := [.num .i64, .num .i64, .num .i64, .num .i64, .num .i64, .num .i64, .num .i64, .num .i64]
theorem nv_is {l : List Dat} (h : WfL ksNv l) : ∃ a b c d e f g q, l = [.n a, .n b, .n c, .n d, .n e, .n f, .n g, .n q] := by
  match l, h with
  | [.n a, .n b, .n c, .n d, .n e, .n f, .n g, .n q], _ => exact ⟨a, b, c, d, e, f, g, q, rfl⟩
theorem sourceTrueLaw (l0 : List (List Dat)) (l1 : List Dat) (w0 : ∀ o ∈ l0, WfL k8 o) (n0 : l0.length ≤ 281474976710656) (w1 : WfL ksNv l1) : ∃ Λ m', (∀ z : Base, z.L.length = 0 → z.U.length = 1 → ∀ b ∈ loopsOf (Try.f4.body.getD .skip), LoopOk Λ Try.prog z b) ∧ runG Γq4 Λ Try.prog Try.f4 (inArgs [.row 48 [.num .i8, .num .i8, .num .i8] l0, .v (.agg (mkEl ksNv l1).toArray)] 0) (inMem [.row 48 [.num .i8, .num .i8, .num .i8] l0, .v (.agg (mkEl ksNv l1).toArray)]) = some (.v (.bool true), m') := by
  obtain ⟨a, b, c, d, e, f, g, q, rfl⟩ := nv_is w1
  exact ⟨ΛSt, _, fun z z1 z2 => oneLoop loopsSt (loopOkSt z z1 z2), sourceTrue a b c d e f g q l0⟩
theorem nv1s (a0 a1 a2 a3 a4 a5 a6 a7 : Int) : (nv0 [[.n a0, .n a1, .n a2, .n a3, .n a4, .n a5, .n a6, .n a7]] = a0 ∧ nv1 [[.n a0, .n a1, .n a2, .n a3, .n a4, .n a5, .n a6, .n a7]] = a1 ∧ nv2 [[.n a0, .n a1, .n a2, .n a3, .n a4, .n a5, .n a6, .n a7]] = a2 ∧ nv3 [[.n a0, .n a1, .n a2, .n a3, .n a4, .n a5, .n a6, .n a7]] = a3) ∧ nv4 [[.n a0, .n a1, .n a2, .n a3, .n a4, .n a5, .n a6, .n a7]] = a4 ∧ nv5 [[.n a0, .n a1, .n a2, .n a3, .n a4, .n a5, .n a6, .n a7]] = a5 ∧ nv6 [[.n a0, .n a1, .n a2, .n a3, .n a4, .n a5, .n a6, .n a7]] = a6 ∧ nv7 [[.n a0, .n a1, .n a2, .n a3, .n a4, .n a5, .n a6, .n a7]] = a7 := ⟨⟨by kernel_rfl, by kernel_rfl, by kernel_rfl, by kernel_rfl⟩, by kernel_rfl, by kernel_rfl, by kernel_rfl, by kernel_rfl⟩
theorem mod80 (b : Int) : 0 ≤ wI ((IntKind.u64.wrap b).tmod 80) ∧ wI ((IntKind.u64.wrap b).tmod 80) ≤ 79 := by
  have h := inU_iff.1 (inU_wrap b)
  rw [Int.tmod_eq_emod_of_nonneg h.1]
  have a := Int.emod_nonneg (IntKind.u64.wrap b) (show (80 : Int) ≠ 0 by omega)
  have b := Int.emod_lt_of_pos (IntKind.u64.wrap b) (show (0 : Int) < 80 by omega)
  rw [wI_id (by omega)]
  omega
theorem sourceOld (a b p q x y z vx vy vz : Int) : runG Γq4 ΛSo Try.prog Try.f5 [.v (I a), .v (I b), .v (.agg #[I p, I q, I x, I y, I z, I vx, I vy, I vz])] M0 = some (.v (Bo true), M0) := by
  refine (treeSo a b p q x y z vx vy vz).trans ?_
  have ha := gB a 50 (by omega) (by omega)
  have hb := mod80 b
  generalize wI (1 + wI ((IntKind.u64.wrap a).tmod 50)) = ag at *
  generalize wI ((IntKind.u64.wrap b).tmod 80) = cy at *
  have a2 := aM_in x 65535 (by omega) (by omega)
  have a5 := aM_in vx 65535 (by omega) (by omega)
  have a7 := aM_in vz 65535 (by omega) (by omega)
  generalize aM x 65535 = X at *
  generalize aM vx 65535 = V at *
  generalize aM vz 65535 = W at *
  rw [decide_eq_true ha.1, isT_of (by exact ⟨⟨rfl, rfl⟩, ⟨rfl, rfl⟩, ha, hb⟩), wI_id (n := 0 - W) (by omega)]
  obtain ⟨⟨e0, e1, e2, e3⟩, e4, e5, e6, e7⟩ := nv1s p 0 X 0 0 V 0 (0 - W)
  have hF : faI [[.n p, .n 0, .n X, .n 0, .n 0, .n V, .n 0, .n (0 - W)]] false 0 0 0 0 (50 * (cy + 1)) = 0 := by
    unfold faI
    rw [e0, e1, e2, e3, e4, e5, e6, e7]
    have f : farB X 0 0 V 0 (0 - W) = false := by
      unfold farB
      rw [bey_of (n := X) (by omega) (by omega), bey_of (n := 0) (m := 1073741824) (by omega) (by omega), bey_of (n := V) (by omega) (by omega), bey_of (n := 0) (m := 65536) (by omega) (by omega), bey_of (n := 0 - W) (by omega) (by omega)]
      rfl
    rw [f]
    rfl
  rw [e5, e6, e7, show i64B V = true from decide_eq_true (by omega), show i64B (0 - W) = true from decide_eq_true (by omega), show i64B 0 = true from rfl, decide_eq_true (show 0 ≤ cy ∧ cy ≤ 1000000 by omega), show Nat.ble [[Dat.n p, .n 0, .n X, .n 0, .n 0, .n V, .n 0, .n (0 - W)]].length 1000000 = true from rfl]
  show (bif true && true then bif true then (bif oB ag cy != decide (cy ≤ ag) then _ else _) else none else none) = _
  rw [show decide (cy ≤ ag) = oB ag cy from rfl]
  simp only [bne_self_eq_false, Bool.and_self, cond_true, cond_false]
  cases ho : oB ag cy
  · show some (SV.v (Bo (faI [[.n p, .n 0, .n X, .n 0, .n 0, .n V, .n 0, .n (0 - W)]] false 0 0 0 0 (50 * (cy + 1)) == 0)), M0) = _
    rw [hF]
    rfl
  · rfl
theorem sourceOldLaw (a0 a1 : Int) (l2 : List Dat) (u0 : (Lit.int .i64 a0).wf = true) (u1 : (Lit.int .i64 a1).wf = true) (w2 : WfL ksNv l2) : ∃ Λ m', (∀ z : Base, z.L.length = 0 → z.U.length = 0 → ∀ b ∈ loopsOf (Try.f5.body.getD .skip), LoopOk Λ Try.prog z b) ∧ runG Γq4 Λ Try.prog Try.f5 (inArgs [.v (.int .i64 a0), .v (.int .i64 a1), .v (.agg (mkEl ksNv l2).toArray)] 0) (inMem [.v (.int .i64 a0), .v (.int .i64 a1), .v (.agg (mkEl ksNv l2).toArray)]) = some (.v (.bool true), m') := by
  obtain ⟨a, b, c, d, e, f, g, q, rfl⟩ := nv_is w2
  exact ⟨ΛSo, _, fun z z1 z2 => oneLoop loopsSo (loopOkSo z z1 z2), sourceOld a0 a1 a b c d e f g q⟩
end Go.Proofs.Ytaoembcepknlhaa

