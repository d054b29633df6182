/-
  A processor that is none; one whose flash has no room: a law over values.
-/
import Derived.Test.YtmkkpogbjbjfeaaGreatPc
import Derived.Test.YtmkkpogbjbjfeaaGreatSx
namespace Go.Proofs.YtmkkpogbjbjfeaaGreat
open Go Go.Proofs Go.Sx
set_option linter.unusedVariables false
/-! A flash of 50 bytes has no room for a latch from anywhere but 0, 1 and 2 on. -/
def outB (b : Int) : Bool := decide (b < 0) || decide (2 < b)
noncomputable def Γo0 : Orc := { ΓL64 with av := true, bs := true, sb := true, wr := wx24b }
theorem Oko0 : Γo0.Ok Tryz.prog := ⟨OkL64.call, OkL64.rd, OkL64.eqv⟩
set_option maxRecDepth 20000 in
theorem runRef (b : Int) : runG Γo0 L0 Tryz.prog Tryz.f160 [.ptr 0 0, .v (I b), .v (I 48)] sG = bif decide (b < 0) then some (.v (I 2), sG) else bif decide (b > 50) then some (.v (I 2), sG) else bif decide (48 > wI (50 - b)) then some (.v (I 2), sG) else some (.v (I 0), sG) := by kernel_rfl
def gRef24 (xs : List SV) (m : Mem) : Option (Bool × SV × Mem) :=
  match xs with
  | [.ptr 0 0, .v (.int .i64 b), .v (.int .i64 k)] => match eqZ k 48 && eqMem m sG with
    | true => some (outB b, .v (I 2), sG)
    | false => none
  | _ => none
theorem gRef24_ok : ∀ xs m r m', gRef24 xs m = some (true, r, m') → CallOk Tryz.prog 160 xs m r m' := by
  intro xs m r m' h
  unfold gRef24 at h
  split at h
  case h_2 => cases h
  rename_i b k
  split at h
  case h_2 => cases h
  rename_i hq
  simp only [Bool.and_eq_true] at hq
  obtain ⟨h1, rfl, rfl⟩ := some_t2 h
  rw [eqZ_eq hq.1, eqMem_eq hq.2]
  refine runOk (Λ := L0) Oko0 Tryz.func160 rfl (fun z _ _ => noLoops (by kernel_rfl) z) ?_
  refine (runRef b).trans ?_
  unfold outB at h1
  rw [Bool.or_eq_true, decide_eq_true_eq, decide_eq_true_eq] at h1
  by_cases c1 : b < 0
  · rw [decide_eq_true c1]; rfl
  · rw [decide_eq_false c1]
    by_cases c2 : b > 50
    · rw [decide_eq_true c2]; rfl
    · rw [decide_eq_false c2, wI_id (by omega), decide_eq_true (show (48 : Int) > 50 - b by omega)]; rfl
noncomputable def Γo1 : Orc := addCl 160 gRef24 Γo0
theorem Oko1 : Γo1.Ok Tryz.prog := addCl_ok Oko0 gRef24_ok
set_option maxRecDepth 20000 in
theorem runRd24 (b : Int) : runG Γo1 L0 Tryz.prog Tryz.f113 [.ptr 0 0, .v (I b), .v (I 48)] sG = bif outB b then some (.v (.tuple #[S e0, I 2]), sG) else none := by kernel_rfl
def gRd24 (xs : List SV) (m : Mem) : Option (Bool × SV × Mem) :=
  match xs with
  | [.ptr 0 0, .v (.int .i64 b), .v (.int .i64 k)] => match eqZ k 48 && eqMem m sG with
    | true => some (outB b, .v (.tuple #[S e0, I 2]), sG)
    | false => none
  | _ => none
theorem gRd24_ok : ∀ xs m r m', gRd24 xs m = some (true, r, m') → CallOk Tryz.prog 113 xs m r m' := by
  intro xs m r m' h
  unfold gRd24 at h
  split at h
  case h_2 => cases h
  rename_i b k
  split at h
  case h_2 => cases h
  rename_i hq
  simp only [Bool.and_eq_true] at hq
  obtain ⟨h1, rfl, rfl⟩ := some_t2 h
  rw [eqZ_eq hq.1, eqMem_eq hq.2]
  refine runOk (Λ := L0) Oko1 Tryz.func113 rfl (fun z _ _ => noLoops (by kernel_rfl) z) ?_
  exact (runRd24 b).trans (by rw [h1]; rfl)
noncomputable def Γo2 : Orc := addCl 113 gRd24 Γo1
theorem Oko2 : Γo2.Ok Tryz.prog := addCl_ok Oko1 gRd24_ok
set_option maxRecDepth 20000 in
theorem runOp24 (b : Int) : runG Γo2 L0 Tryz.prog Tryz.f60 [.ptr 0 0, .v (I b)] sG = bif outB b then some (.v (.tuple #[.pointer none, I 2]), sG) else none := by kernel_rfl
def gOp24 (xs : List SV) (m : Mem) : Option (Bool × SV × Mem) :=
  match xs with
  | [.ptr 0 0, .v (.int .i64 b)] => match eqMem m sG with
    | true => some (outB b, .v (.tuple #[.pointer none, I 2]), sG)
    | false => none
  | _ => none
theorem gOp24_ok : ∀ xs m r m', gOp24 xs m = some (true, r, m') → CallOk Tryz.prog 60 xs m r m' := by
  intro xs m r m' h
  unfold gOp24 at h
  split at h
  case h_2 => cases h
  rename_i b
  split at h
  case h_2 => cases h
  rename_i hq
  obtain ⟨h1, rfl, rfl⟩ := some_t2 h
  rw [eqMem_eq hq]
  refine runOk (Λ := L0) Oko2 Tryz.func60 rfl (fun z _ _ => l0Ok' _ z) ?_
  exact (runOp24 b).trans (by rw [h1]; rfl)
noncomputable def Γo3 : Orc := addCl 60 gOp24 Γo2
theorem Oko3 : Γo3.Ok Tryz.prog := addCl_ok Oko2 gOp24_ok
/-- A processor that isn't up yet, over such a flash. -/
def pRest : List SA := [.v (Bo false), .v (I 0), .v (.slice none 0 0), .v (I 0), .v (I 0), .v (I 0), .v (I 0), .v (I 0), .v (I 0), .v (I 0), .v (I 0), .v (I 0)] ++ List.replicate 10 (.v (.pointer none)) ++ [.v (Bo false), .v (I 0)]
def fRest : List (List SA) := [[.row 0, .ptr 2 0, .v (Bo false), .v (Bo false), .v (I 0)], [.v (I 1000000), .v (I 0)]]
def sGp (s : ByteArray) (p b : Int) : Mem := ⟨(.v (S s) :: .v (I p) :: .ptr 1 0 :: .v (I b) :: pRest) :: fRest, [true, true, true], sG.rows⟩
set_option maxRecDepth 20000 in
theorem runBo24 (s : ByteArray) (p b : Int) : runG Γo3 L0 Tryz.prog Tryz.f31 [.ptr 0 0] (sGp s p b) = bif outB b then some (.v (I 2), sGp s p b) else none := by kernel_rfl
def gBo24 (xs : List SV) (m : Mem) : Option (Bool × SV × Mem) :=
  match xs, m with
  | [.ptr 0 0], ⟨(.v (.string s) :: .v (.int .i64 p) :: .ptr 1 0 :: .v (.int .i64 b) :: rest) :: fs, l, rows⟩ => match eqMem ⟨rest :: fs, l, rows⟩ ⟨pRest :: fRest, [true, true, true], sG.rows⟩ with
    | true => some (outB b, .v (I 2), sGp s p b)
    | false => none
  | _, _ => none
theorem gBo24_ok : ∀ xs m r m', gBo24 xs m = some (true, r, m') → CallOk Tryz.prog 31 xs m r m' := by
  intro xs m r m' h
  unfold gBo24 at h
  split at h
  case h_2 => cases h
  rename_i s p b rest fs l rows
  split at h
  case h_2 => cases h
  rename_i hq
  obtain ⟨h1, rfl, rfl⟩ := some_t2 h
  have e := eqMem_eq hq
  injection e with e1 e2 e3
  injection e1 with e4 e5
  subst e4 e5 e2 e3
  refine runOk (Λ := L0) Oko3 Tryz.func31 rfl (fun z _ _ => noLoops (by kernel_rfl) z) ?_
  exact (runBo24 s p b).trans (by rw [h1]; rfl)
noncomputable def Γo4 : Orc := addCl 31 gBo24 Γo3
theorem Oko4 : Γo4.Ok Tryz.prog := addCl_ok Oko3 gBo24_ok
set_option maxRecDepth 20000 in
theorem runNo24 (s : ByteArray) (p b : Int) : runG Γo4 L0 Tryz.prog Tryz.f12 [.v (S s), .v (I p), .ptr 0 0, .v (I b)] sG = bif outB b then some (.v (.tuple #[.pointer none, I 2]), sG) else none := by kernel_rfl
def gNo24 (xs : List SV) (m : Mem) : Option (Bool × SV × Mem) :=
  match xs with
  | [.v (.string s), .v (.int .i64 p), .ptr 0 0, .v (.int .i64 b)] => match eqMem m sG with
    | true => some (outB b, .v (.tuple #[.pointer none, I 2]), sG)
    | false => none
  | _ => none
theorem gNo24_ok : ∀ xs m r m', gNo24 xs m = some (true, r, m') → CallOk Tryz.prog 12 xs m r m' := by
  intro xs m r m' h
  unfold gNo24 at h
  split at h
  case h_2 => cases h
  rename_i s p b
  split at h
  case h_2 => cases h
  rename_i hq
  obtain ⟨h1, rfl, rfl⟩ := some_t2 h
  rw [eqMem_eq hq]
  refine runOk (Λ := L0) Oko4 Tryz.func12 rfl (fun z _ _ => noLoops (by kernel_rfl) z) ?_
  exact (runNo24 s p b).trans (by rw [h1]; rfl)
set_option maxRecDepth 20000 in
/-- A call of none's Cycle. -/
theorem runCn24 (a b c d : ByteArray) : runG Γo4 L0 Tryz.prog Tryz.f21 [.v (.pointer none), .v (.agg #[S a, S b, S c, S d])] M0 = some (.v (.agg #[Bo false, I 0, I 0, Bo false, S e0, S e0]), M0) := by kernel_rfl
def gCn24 (xs : List SV) (m : Mem) : Option (Bool × SV × Mem) :=
  match xs, m with
  | [.v (.pointer none), .v (.agg ⟨[.string a, .string b, .string c, .string d]⟩)], ⟨[], [], []⟩ => some (true, .v (.agg #[Bo false, I 0, I 0, Bo false, S e0, S e0]), M0)
  | _, _ => none
theorem gCn24_ok : ∀ xs m r m', gCn24 xs m = some (true, r, m') → CallOk Tryz.prog 21 xs m r m' := by
  intro xs m r m' h
  unfold gCn24 at h
  split at h
  case h_2 => cases h
  rename_i a b c d
  obtain ⟨_, rfl, rfl⟩ := some_t2 h
  exact runOk (Λ := L0) Oko4 Tryz.func21 rfl (fun z _ _ => noLoops (by kernel_rfl) z) (runCn24 a b c d)
/-- What the law is run over: a base that may be, and one that may not. -/
noncomputable def ΓnA : Orc := addCl 21 gCn24 Γo0
theorem OknA : ΓnA.Ok Tryz.prog := addCl_ok Oko0 gCn24_ok
noncomputable def ΓnB : Orc := addCl 12 gNo24 ΓnA
theorem OknB : ΓnB.Ok Tryz.prog := addCl_ok OknA gNo24_ok
end Go.Proofs.YtmkkpogbjbjfeaaGreat

namespace Go.Proofs.YtmkkpogbjbjfeaaGreat
open Go Go.Proofs Go.Sx
set_option linter.unusedVariables false
/-! A processor that is none; one whose flash has no room. -/
set_option maxRecDepth 100000 in
theorem runN0 (a b c d : ByteArray) : runG ΓnA L0 Tryz.prog Tryz.f6 [.v (.agg #[S a, S b, S c, S d]), .v (I 0)] M0 = some (.v (Bo true), M0) := by kernel_rfl
set_option maxRecDepth 100000 in
theorem runN1 (a b c d : ByteArray) : runG ΓnA L0 Tryz.prog Tryz.f6 [.v (.agg #[S a, S b, S c, S d]), .v (I 1)] M0 = some (.v (Bo true), M0) := by kernel_rfl
set_option maxRecDepth 100000 in
theorem runN2 (a b c d : ByteArray) : runG ΓnA L0 Tryz.prog Tryz.f6 [.v (.agg #[S a, S b, S c, S d]), .v (I 2)] M0 = some (.v (Bo true), M0) := by kernel_rfl
set_option maxRecDepth 100000 in
theorem runNx (a b c d : ByteArray) (x : Int) : runG ΓnB L0 Tryz.prog Tryz.f6 [.v (.agg #[S a, S b, S c, S d]), .v (I x)] M0 = bif outB x then (bif decide (x ≥ 0) then (bif false == decide (x ≤ 2) then some (.v (Bo true), M0) else some (.v (Bo false), M0)) else some (.v (Bo true), M0)) else none := by kernel_rfl
theorem strs4 {l : List Dat} (h : WfL [.str, .str, .str, .str] l) : ∃ a b c d, l = [.s a, .s b, .s c, .s d] := by
  match l, h with
  | [.s a, .s b, .s c, .s d], _ => exact ⟨a, b, c, d, rfl⟩
theorem procNilLaw (l0 : List Dat) (a1 : Int) (w0 : WfL [.str, .str, .str, .str] l0) (u1 : (Lit.int .i64 a1).wf = true) : ∃ Γ Λ m', Γ.Ok Tryz.prog ∧ (∀ z : Base, z.L.length = 0 → z.U.length = 0 → ∀ b ∈ loopsOf (Tryz.f6.body.getD .skip), LoopOk Λ Tryz.prog z b) ∧ runG Γ Λ Tryz.prog Tryz.f6 (inArgs [.v (.agg (mkEl [.str, .str, .str, .str] l0).toArray), .v (.int .i64 a1)] 0) (inMem [.v (.agg (mkEl [.str, .str, .str, .str] l0).toArray), .v (.int .i64 a1)]) = some (.v (.bool true), m') := by
  obtain ⟨a, b, c, d, rfl⟩ := strs4 w0
  have hl : ∀ z : Base, z.L.length = 0 → z.U.length = 0 → ∀ b ∈ loopsOf (Tryz.f6.body.getD .skip), LoopOk L0 Tryz.prog z b := fun z _ _ => noLoops (by kernel_rfl) z
  by_cases h : outB a1 = true
  · refine ⟨ΓnB, L0, M0, OknB, hl, ?_⟩
    refine (runNx a b c d a1).trans ?_
    rw [h]
    unfold outB at h
    rw [Bool.or_eq_true, decide_eq_true_eq, decide_eq_true_eq] at h
    by_cases c1 : a1 ≥ 0
    · rw [decide_eq_true c1, decide_eq_false (show ¬ a1 ≤ 2 by omega)]; rfl
    · rw [decide_eq_false c1]; rfl
  · unfold outB at h
    rw [Bool.or_eq_true, decide_eq_true_eq, decide_eq_true_eq] at h
    have : a1 = 0 ∨ a1 = 1 ∨ a1 = 2 := by omega
    rcases this with rfl | rfl | rfl
    · exact ⟨ΓnA, L0, M0, OknA, hl, runN0 a b c d⟩
    · exact ⟨ΓnA, L0, M0, OknA, hl, runN1 a b c d⟩
    · exact ⟨ΓnA, L0, M0, OknA, hl, runN2 a b c d⟩
end Go.Proofs.YtmkkpogbjbjfeaaGreat

