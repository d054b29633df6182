/-
  Calls with known arguments over known memory: a processor that is armed, hears, fires, and boots again, piece by piece.
-/
import Derived.Test.YtmkkpogbjbjfeaaGreatPb
namespace Go.Proofs.YtmkkpogbjbjfeaaGreat
open Go Go.Proofs Go.Sx
set_option linter.unusedVariables false
-- apogee/proc.New | [.v (S noneB), .v (I 0), .ptr 0 0, .v (I 0)] | sF
noncomputable def ΓxL49 : Orc := execV Tryz.prog ΓL48.call ΓL48.rd ΓL48.eqv wx24b 60 16
theorem OkxL49 : ΓxL49.Ok Tryz.prog := execV_ok mixed names (ext := ΓL48.call) (rd := ΓL48.rd) (eqv := ΓL48.eqv) ⟨OkL48.call, OkL48.rd, OkL48.eqv⟩ 60 16
def rL49 : SV := .tup [.one (.ptr 2 0), .one (.v (I 0))]
def mL49 : Mem := ⟨[[.row 0, .ptr 1 0, .v (.bool false), .v (.bool false), .v (I 0)], [.v (I 1000000), .v (I 0)], [.v (.string noneB), .v (I 0), .ptr 0 0, .v (I 0), .v (.bool true), .v (I 0), .v (Value.slice none 0 0), .v (I 0), .v (I 0), .v (I 0), .v (I 0), .v (I 0), .v (I 0), .v (I 0), .v (I 0), .v (I 1), .v (Value.pointer none), .v (Value.pointer none), .v (Value.pointer none), .v (Value.pointer none), .v (Value.pointer none), .v (Value.pointer none), .v (Value.pointer none), .v (Value.pointer none), .v (Value.pointer none), .ptr 3 0, .v (.bool false), .v (I 0)], [.v (I 0), .v (.bool true), .v (I 0), .v (I 0)]], [true, true, true, true], [.live ⟨5, [.num .u8], [bN 255, bN 255, bN 255, bN 255, bN 255, bN 255, bN 255, bN 255, bN 255, bN 255, bN 255, bN 255, bN 255, bN 255, bN 255, bN 255, bN 255, bN 255, bN 255, bN 255, bN 255, bN 255, bN 255, bN 255, bN 255, bN 255, bN 255, bN 255, bN 255, bN 255, bN 255, bN 255, bN 255, bN 255, bN 255, bN 255, bN 255, bN 255, bN 255, bN 255, bN 255, bN 255, bN 255, bN 255, bN 255, bN 255, bN 255, bN 255, bN 255, bN 255, bN 255, bN 255, bN 255, bN 255, bN 255, bN 255, bN 255, bN 255, bN 255, bN 255, bN 255, bN 255, bN 255, bN 255], true, true⟩]⟩
set_option maxRecDepth 100000 in
theorem runL49 : runG ΓxL49 (loopX ΓxL49 Tryz.prog 60 3) Tryz.prog Tryz.f12 [.v (S noneB), .v (I 0), .ptr 0 0, .v (I 0)] sF = some (rL49, mL49) := by kernel_rfl
theorem okL49 : CallOk Tryz.prog 12 [.v (S noneB), .v (I 0), .ptr 0 0, .v (I 0)] sF rL49 mL49 := runOk OkxL49 Tryz.func12 rfl (fun z _ _ b _ => loopX_ok OkxL49 mixed 60 3 b) runL49
noncomputable def ΓL49 : Orc := addCl 12 (litC [.v (S noneB), .v (I 0), .ptr 0 0, .v (I 0)] sF rL49 mL49) ΓL48
theorem OkL49 : ΓL49.Ok Tryz.prog := addCl_ok OkL48 (litC_ok okL49)
end Go.Proofs.YtmkkpogbjbjfeaaGreat

namespace Go.Proofs.YtmkkpogbjbjfeaaGreat
open Go Go.Proofs Go.Sx
set_option linter.unusedVariables false
-- apogee/proc.New | [.v (S noneB), .v (I 0), .ptr 0 0, .v (I 17)] | sF
noncomputable def ΓxL50 : Orc := execV Tryz.prog ΓL49.call ΓL49.rd ΓL49.eqv wx24b 60 16
theorem OkxL50 : ΓxL50.Ok Tryz.prog := execV_ok mixed names (ext := ΓL49.call) (rd := ΓL49.rd) (eqv := ΓL49.eqv) ⟨OkL49.call, OkL49.rd, OkL49.eqv⟩ 60 16
def rL50 : SV := .v (.tuple #[(Value.pointer none), (.int .i64 2)])
def mL50 : Mem := ⟨[[.row 0, .ptr 1 0, .v (.bool false), .v (.bool false), .v (I 0)], [.v (I 1000000), .v (I 0)]], [true, true], [.live ⟨5, [.num .u8], [bN 255, bN 255, bN 255, bN 255, bN 255, bN 255, bN 255, bN 255, bN 255, bN 255, bN 255, bN 255, bN 255, bN 255, bN 255, bN 255, bN 255, bN 255, bN 255, bN 255, bN 255, bN 255, bN 255, bN 255, bN 255, bN 255, bN 255, bN 255, bN 255, bN 255, bN 255, bN 255, bN 255, bN 255, bN 255, bN 255, bN 255, bN 255, bN 255, bN 255, bN 255, bN 255, bN 255, bN 255, bN 255, bN 255, bN 255, bN 255, bN 255, bN 255, bN 255, bN 255, bN 255, bN 255, bN 255, bN 255, bN 255, bN 255, bN 255, bN 255, bN 255, bN 255, bN 255, bN 255], true, true⟩]⟩
set_option maxRecDepth 100000 in
theorem runL50 : runG ΓxL50 (loopX ΓxL50 Tryz.prog 60 3) Tryz.prog Tryz.f12 [.v (S noneB), .v (I 0), .ptr 0 0, .v (I 17)] sF = some (rL50, mL50) := by kernel_rfl
theorem okL50 : CallOk Tryz.prog 12 [.v (S noneB), .v (I 0), .ptr 0 0, .v (I 17)] sF rL50 mL50 := runOk OkxL50 Tryz.func12 rfl (fun z _ _ b _ => loopX_ok OkxL50 mixed 60 3 b) runL50
noncomputable def ΓL50 : Orc := addCl 12 (litC [.v (S noneB), .v (I 0), .ptr 0 0, .v (I 17)] sF rL50 mL50) ΓL49
theorem OkL50 : ΓL50.Ok Tryz.prog := addCl_ok OkL49 (litC_ok okL50)
end Go.Proofs.YtmkkpogbjbjfeaaGreat

namespace Go.Proofs.YtmkkpogbjbjfeaaGreat
open Go Go.Proofs Go.Sx
set_option linter.unusedVariables false
-- L50 | [.ptr 2 0] | mL49
def sQ : Mem := ⟨[[.v (.string noneB), .v (I 0), .ptr 1 0, .v (I 0), .v (.bool true), .v (I 0), .v (Value.slice none 0 0), .v (I 0), .v (I 0), .v (I 0), .v (I 0), .v (I 0), .v (I 0), .v (I 0), .v (I 0), .v (I 1), .v (Value.pointer none), .v (Value.pointer none), .v (Value.pointer none), .v (Value.pointer none), .v (Value.pointer none), .v (Value.pointer none), .v (Value.pointer none), .v (Value.pointer none), .v (Value.pointer none), .ptr 2 0, .v (.bool false), .v (I 0)], [.row 0, .ptr 3 0, .v (.bool false), .v (.bool false), .v (I 0)], [.v (I 0), .v (.bool true), .v (I 0), .v (I 0)], [.v (I 1000000), .v (I 0)]], [true, true, true, true], [.live ⟨5, [.num .u8], have y := have y := have y := have y := [bN 255, bN 255, bN 255, bN 255]; bN 255 :: bN 255 :: bN 255 :: bN 255 :: y; have y := bN 255 :: bN 255 :: bN 255 :: bN 255 :: y; bN 255 :: bN 255 :: bN 255 :: bN 255 :: y; have y := have y := bN 255 :: bN 255 :: bN 255 :: bN 255 :: y; bN 255 :: bN 255 :: bN 255 :: bN 255 :: y; have y := bN 255 :: bN 255 :: bN 255 :: bN 255 :: y; bN 255 :: bN 255 :: bN 255 :: bN 255 :: y; have y := have y := have y := bN 255 :: bN 255 :: bN 255 :: bN 255 :: y; bN 255 :: bN 255 :: bN 255 :: bN 255 :: y; have y := bN 255 :: bN 255 :: bN 255 :: bN 255 :: y; bN 255 :: bN 255 :: bN 255 :: bN 255 :: y; have y := have y := bN 255 :: bN 255 :: bN 255 :: bN 255 :: y; bN 255 :: bN 255 :: bN 255 :: bN 255 :: y; have y := bN 255 :: bN 255 :: bN 255 :: bN 255 :: y; bN 255 :: bN 255 :: bN 255 :: bN 255 :: y, true, true⟩]⟩
end Go.Proofs.YtmkkpogbjbjfeaaGreat

namespace Go.Proofs.YtmkkpogbjbjfeaaGreat
open Go Go.Proofs Go.Sx
set_option linter.unusedVariables false
-- (*apogee/proc.Proc).Cycle | [.ptr 0 0, inG] | sQ
noncomputable def ΓxL51 : Orc := execV Tryz.prog ΓL50.call ΓL50.rd ΓL50.eqv wx24b 60 16
theorem OkxL51 : ΓxL51.Ok Tryz.prog := execV_ok mixed names (ext := ΓL50.call) (rd := ΓL50.rd) (eqv := ΓL50.eqv) ⟨OkL50.call, OkL50.rd, OkL50.eqv⟩ 60 16
def rL51 : SV := .v (.agg #[(.bool true), (.int .i64 0), (.int .i64 0), (.bool false), (.string ⟨#[165, 90, 48, 10, 0, 0, 0, 1, 0, 0, 176, 0, 203, 148, 159, 23]⟩), (.string ⟨#[165, 90, 64, 14, 0, 0, 0, 1, 0, 0, 0, 0, 0, 1, 50, 250, 83, 84, 193, 155]⟩)])
def mL51 : Mem := ⟨[[.v (.string noneB), .v (I 0), .ptr 1 0, .v (I 0), .v (.bool true), .v (I 0), .v (Value.slice none 0 0), .v (I 0), .v (I 0), .v (I 0), .v (I 0), .v (I 0), .v (I 0), .v (I 0), .v (I 0), .v (I 1), .v (Value.pointer none), .v (Value.pointer none), .v (Value.pointer none), .v (Value.pointer none), .v (Value.pointer none), .v (Value.pointer none), .v (Value.pointer none), .v (Value.pointer none), .v (Value.pointer none), .ptr 2 0, .v (.bool false), .v (I 1)], [.row 0, .ptr 3 0, .v (.bool false), .v (.bool false), .v (I 0)], [.v (I 0), .v (.bool true), .v (I 0), .v (I 0)], [.v (I 1000000), .v (I 0)]], [true, true, true, true], [.live ⟨5, [.num .u8], [bN 255, bN 255, bN 255, bN 255, bN 255, bN 255, bN 255, bN 255, bN 255, bN 255, bN 255, bN 255, bN 255, bN 255, bN 255, bN 255, bN 255, bN 255, bN 255, bN 255, bN 255, bN 255, bN 255, bN 255, bN 255, bN 255, bN 255, bN 255, bN 255, bN 255, bN 255, bN 255, bN 255, bN 255, bN 255, bN 255, bN 255, bN 255, bN 255, bN 255, bN 255, bN 255, bN 255, bN 255, bN 255, bN 255, bN 255, bN 255, bN 255, bN 255, bN 255, bN 255, bN 255, bN 255, bN 255, bN 255, bN 255, bN 255, bN 255, bN 255, bN 255, bN 255, bN 255, bN 255], true, true⟩]⟩
set_option maxRecDepth 100000 in
theorem runL51 : runG ΓxL51 (loopX ΓxL51 Tryz.prog 60 3) Tryz.prog Tryz.f21 [.ptr 0 0, inG] sQ = some (rL51, mL51) := by kernel_rfl
theorem okL51 : CallOk Tryz.prog 21 [.ptr 0 0, inG] sQ rL51 mL51 := runOk OkxL51 Tryz.func21 rfl (fun z _ _ b _ => loopX_ok OkxL51 mixed 60 3 b) runL51
noncomputable def ΓL51 : Orc := addCl 21 (litC [.ptr 0 0, inG] sQ rL51 mL51) ΓL50
theorem OkL51 : ΓL51.Ok Tryz.prog := addCl_ok OkL50 (litC_ok okL51)
end Go.Proofs.YtmkkpogbjbjfeaaGreat

namespace Go.Proofs.YtmkkpogbjbjfeaaGreat
open Go Go.Proofs Go.Sx
set_option linter.unusedVariables false
def good2 : List TypeId := 38 :: 61 :: 44 :: 41 :: good
theorem good2Ok : good2.all (eqTypeOk Tryz.prog) = true := by kernel_rfl
/-- Arrays of numbers, too. -/
def eqvA (P : Program) (good : List TypeId) (t : TypeId) (xs ys : List Value) : Option Bool :=
  match eqvOf P good t xs ys with
  | some r => some r
  | none => match good.contains t, arrI P t with
    | true, some (m, _) => if xs.length = m then intsEq xs ys else none
    | _, _ => none
theorem eqvA_ok {P : Program} {good : List TypeId} (hg : good.all (eqTypeOk P) = true) (t : TypeId) (xs ys : List Value) (r : Bool) (h : eqvA P good t xs ys = some r) (w : World) (op : BinOp) (x y : Operand) (hop : op = .eql ∨ op = .neq) :
    (eqGuard op t x y (.agg xs.toArray) (.agg ys.toArray)).run P w = .ok () w ∧ (Op.equal t (.agg xs.toArray) (.agg ys.toArray)).run P w = .ok r w := by
  unfold eqvA at h
  split at h
  · rename_i r' hr
    injection h with h
    subst h
    exact eqvOf_ok hg t xs ys _ hr w op x y hop
  · split at h
    · rename_i m e hc hm
      have ht : eqTypeOk P t = true := List.all_eq_true.1 hg t (by simpa using hc)
      unfold eqTypeOk at ht
      simp only [Bool.and_eq_true, Bool.not_eq_true'] at ht
      split at h
      · rename_i hl
        refine ⟨?_, ?_⟩
        · rcases hop with rfl | rfl <;> simp [eqGuard, program, Sem.run, ht.1.2]
        · unfold Op.equal Op.maxDepth
          exact run_equalIn_ints (n := 9998) hm hl h
      · cases h
    · cases h
noncomputable def ΓL51e : Orc := { ΓL51 with eqv := eqvA Tryz.prog good2 }
theorem OkL51e : ΓL51e.Ok Tryz.prog := ⟨OkL51.call, OkL51.rd, fun t xs ys r h w op x y hop => eqvA_ok good2Ok t xs ys r h w op x y hop⟩
end Go.Proofs.YtmkkpogbjbjfeaaGreat

namespace Go.Proofs.YtmkkpogbjbjfeaaGreat
open Go Go.Proofs Go.Sx
set_option linter.unusedVariables false
-- apogee/apogeelaw24.Awake | [] | M0
noncomputable def ΓxL52 : Orc := execV Tryz.prog ΓL51e.call ΓL51e.rd ΓL51e.eqv wx24b 60 16
theorem OkxL52 : ΓxL52.Ok Tryz.prog := execV_ok mixed names (ext := ΓL51e.call) (rd := ΓL51e.rd) (eqv := ΓL51e.eqv) ⟨OkL51e.call, OkL51e.rd, OkL51e.eqv⟩ 60 16
def rL52 : SV := .v (.bool true)
def mL52 : Mem := ⟨[], [], []⟩
set_option maxRecDepth 100000 in
theorem runL52 : runG ΓxL52 (loopX ΓxL52 Tryz.prog 60 3) Tryz.prog Tryz.f9 [] M0 = some (rL52, mL52) := by kernel_rfl
theorem okL52 : CallOk Tryz.prog 9 [] M0 rL52 mL52 := runOk OkxL52 Tryz.func9 rfl (fun z _ _ b _ => loopX_ok OkxL52 mixed 60 3 b) runL52
noncomputable def ΓL52 : Orc := addCl 9 (litC [] M0 rL52 mL52) ΓL51e
theorem OkL52 : ΓL52.Ok Tryz.prog := addCl_ok OkL51e (litC_ok okL52)
end Go.Proofs.YtmkkpogbjbjfeaaGreat

namespace Go.Proofs.YtmkkpogbjbjfeaaGreat
open Go Go.Proofs Go.Sx
set_option linter.unusedVariables false
-- (*apogee/proc.Proc).Reset | [.v (Value.pointer none)] | M0
noncomputable def ΓxL53 : Orc := execV Tryz.prog ΓL52.call ΓL52.rd ΓL52.eqv wx24b 60 16
theorem OkxL53 : ΓxL53.Ok Tryz.prog := execV_ok mixed names (ext := ΓL52.call) (rd := ΓL52.rd) (eqv := ΓL52.eqv) ⟨OkL52.call, OkL52.rd, OkL52.eqv⟩ 60 16
def rL53 : SV := .v (.tuple #[])
def mL53 : Mem := ⟨[], [], []⟩
set_option maxRecDepth 100000 in
theorem runL53 : runG ΓxL53 (loopX ΓxL53 Tryz.prog 60 3) Tryz.prog Tryz.f24 [.v (Value.pointer none)] M0 = some (rL53, mL53) := by kernel_rfl
theorem okL53 : CallOk Tryz.prog 24 [.v (Value.pointer none)] M0 rL53 mL53 := runOk OkxL53 Tryz.func24 rfl (fun z _ _ b _ => loopX_ok OkxL53 mixed 60 3 b) runL53
noncomputable def ΓL53 : Orc := addCl 24 (litC [.v (Value.pointer none)] M0 rL53 mL53) ΓL52
theorem OkL53 : ΓL53.Ok Tryz.prog := addCl_ok OkL52 (litC_ok okL53)
end Go.Proofs.YtmkkpogbjbjfeaaGreat

namespace Go.Proofs.YtmkkpogbjbjfeaaGreat
open Go Go.Proofs Go.Sx
set_option linter.unusedVariables false
-- (*apogee/proc.Proc).Kept | [.v (Value.pointer none)] | M0
noncomputable def ΓxL54 : Orc := execV Tryz.prog ΓL53.call ΓL53.rd ΓL53.eqv wx24b 60 16
theorem OkxL54 : ΓxL54.Ok Tryz.prog := execV_ok mixed names (ext := ΓL53.call) (rd := ΓL53.rd) (eqv := ΓL53.eqv) ⟨OkL53.call, OkL53.rd, OkL53.eqv⟩ 60 16
def rL54 : SV := .v (.tuple #[(.agg #[(.int .i64 0), (.int .i64 0), (.int .i64 0), (.int .i64 0), (.int .i64 0), (.int .i64 0), (.int .i64 0), (.int .i64 0), (.int .i64 0)]), (.bool false)])
def mL54 : Mem := ⟨[], [], []⟩
set_option maxRecDepth 100000 in
theorem runL54 : runG ΓxL54 (loopX ΓxL54 Tryz.prog 60 3) Tryz.prog Tryz.f23 [.v (Value.pointer none)] M0 = some (rL54, mL54) := by kernel_rfl
theorem okL54 : CallOk Tryz.prog 23 [.v (Value.pointer none)] M0 rL54 mL54 := runOk OkxL54 Tryz.func23 rfl (fun z _ _ b _ => loopX_ok OkxL54 mixed 60 3 b) runL54
noncomputable def ΓL54 : Orc := addCl 23 (litC [.v (Value.pointer none)] M0 rL54 mL54) ΓL53
theorem OkL54 : ΓL54.Ok Tryz.prog := addCl_ok OkL53 (litC_ok okL54)
end Go.Proofs.YtmkkpogbjbjfeaaGreat

namespace Go.Proofs.YtmkkpogbjbjfeaaGreat
open Go Go.Proofs Go.Sx
set_option linter.unusedVariables false
-- (*apogee/proc.Proc).Faults | [.v (Value.pointer none)] | M0
noncomputable def ΓxL55 : Orc := execV Tryz.prog ΓL54.call ΓL54.rd ΓL54.eqv wx24b 60 16
theorem OkxL55 : ΓxL55.Ok Tryz.prog := execV_ok mixed names (ext := ΓL54.call) (rd := ΓL54.rd) (eqv := ΓL54.eqv) ⟨OkL54.call, OkL54.rd, OkL54.eqv⟩ 60 16
def rL55 : SV := .v (I 0)
def mL55 : Mem := ⟨[], [], []⟩
set_option maxRecDepth 100000 in
theorem runL55 : runG ΓxL55 (loopX ΓxL55 Tryz.prog 60 3) Tryz.prog Tryz.f22 [.v (Value.pointer none)] M0 = some (rL55, mL55) := by kernel_rfl
theorem okL55 : CallOk Tryz.prog 22 [.v (Value.pointer none)] M0 rL55 mL55 := runOk OkxL55 Tryz.func22 rfl (fun z _ _ b _ => loopX_ok OkxL55 mixed 60 3 b) runL55
noncomputable def ΓL55 : Orc := addCl 22 (litC [.v (Value.pointer none)] M0 rL55 mL55) ΓL54
theorem OkL55 : ΓL55.Ok Tryz.prog := addCl_ok OkL54 (litC_ok okL55)
end Go.Proofs.YtmkkpogbjbjfeaaGreat

namespace Go.Proofs.YtmkkpogbjbjfeaaGreat
open Go Go.Proofs Go.Sx
set_option linter.unusedVariables false
-- (*apogee/proc.Proc).Up | [.v (Value.pointer none)] | M0
noncomputable def ΓxL56 : Orc := execV Tryz.prog ΓL55.call ΓL55.rd ΓL55.eqv wx24b 60 16
theorem OkxL56 : ΓxL56.Ok Tryz.prog := execV_ok mixed names (ext := ΓL55.call) (rd := ΓL55.rd) (eqv := ΓL55.eqv) ⟨OkL55.call, OkL55.rd, OkL55.eqv⟩ 60 16
def rL56 : SV := .v (.bool false)
def mL56 : Mem := ⟨[], [], []⟩
set_option maxRecDepth 100000 in
theorem runL56 : runG ΓxL56 (loopX ΓxL56 Tryz.prog 60 3) Tryz.prog Tryz.f13 [.v (Value.pointer none)] M0 = some (rL56, mL56) := by kernel_rfl
theorem okL56 : CallOk Tryz.prog 13 [.v (Value.pointer none)] M0 rL56 mL56 := runOk OkxL56 Tryz.func13 rfl (fun z _ _ b _ => loopX_ok OkxL56 mixed 60 3 b) runL56
noncomputable def ΓL56 : Orc := addCl 13 (litC [.v (Value.pointer none)] M0 rL56 mL56) ΓL55
theorem OkL56 : ΓL56.Ok Tryz.prog := addCl_ok OkL55 (litC_ok okL56)
end Go.Proofs.YtmkkpogbjbjfeaaGreat

namespace Go.Proofs.YtmkkpogbjbjfeaaGreat
open Go Go.Proofs Go.Sx
set_option linter.unusedVariables false
-- apogee/flash.New | [.v (I 50)] | M0
noncomputable def ΓxL57 : Orc := execV Tryz.prog ΓL56.call ΓL56.rd ΓL56.eqv wx24b 60 16
theorem OkxL57 : ΓxL57.Ok Tryz.prog := execV_ok mixed names (ext := ΓL56.call) (rd := ΓL56.rd) (eqv := ΓL56.eqv) ⟨OkL56.call, OkL56.rd, OkL56.eqv⟩ 60 16
def rL57 : SV := .tup [.one (.ptr 0 0), .one (.v (I 0))]
def mL57 : Mem := ⟨[[.row 0, .ptr 1 0, .v (.bool false), .v (.bool false), .v (I 0)], [.v (I 1000000), .v (I 0)]], [true, true], [.live ⟨5, [.num .u8], [bN 255, bN 255, bN 255, bN 255, bN 255, bN 255, bN 255, bN 255, bN 255, bN 255, bN 255, bN 255, bN 255, bN 255, bN 255, bN 255, bN 255, bN 255, bN 255, bN 255, bN 255, bN 255, bN 255, bN 255, bN 255, bN 255, bN 255, bN 255, bN 255, bN 255, bN 255, bN 255, bN 255, bN 255, bN 255, bN 255, bN 255, bN 255, bN 255, bN 255, bN 255, bN 255, bN 255, bN 255, bN 255, bN 255, bN 255, bN 255, bN 255, bN 255], true, true⟩]⟩
set_option maxRecDepth 100000 in
theorem runL57 : runG ΓxL57 (loopX ΓxL57 Tryz.prog 60 3) Tryz.prog Tryz.f11 [.v (I 50)] M0 = some (rL57, mL57) := by kernel_rfl
theorem okL57 : CallOk Tryz.prog 11 [.v (I 50)] M0 rL57 mL57 := runOk OkxL57 Tryz.func11 rfl (fun z _ _ b _ => loopX_ok OkxL57 mixed 60 3 b) runL57
noncomputable def ΓL57 : Orc := addCl 11 (litC [.v (I 50)] M0 rL57 mL57) ΓL56
theorem OkL57 : ΓL57.Ok Tryz.prog := addCl_ok OkL56 (litC_ok okL57)
end Go.Proofs.YtmkkpogbjbjfeaaGreat

namespace Go.Proofs.YtmkkpogbjbjfeaaGreat
open Go Go.Proofs Go.Sx
set_option linter.unusedVariables false
-- L57 | [.ptr 0 0] | mL57
def sG : Mem := ⟨[[.row 0, .ptr 1 0, .v (.bool false), .v (.bool false), .v (I 0)], [.v (I 1000000), .v (I 0)]], [true, true], [.live ⟨5, [.num .u8], have y := have y := have y := [bN 255, bN 255, bN 255, bN 255, bN 255, bN 255, bN 255]; bN 255 :: bN 255 :: bN 255 :: bN 255 :: bN 255 :: bN 255 :: y; have y := bN 255 :: bN 255 :: bN 255 :: bN 255 :: bN 255 :: bN 255 :: y; bN 255 :: bN 255 :: bN 255 :: bN 255 :: bN 255 :: bN 255 :: y; have y := have y := bN 255 :: bN 255 :: bN 255 :: bN 255 :: bN 255 :: bN 255 :: bN 255 :: y; bN 255 :: bN 255 :: bN 255 :: bN 255 :: bN 255 :: bN 255 :: y; have y := bN 255 :: bN 255 :: bN 255 :: bN 255 :: bN 255 :: bN 255 :: y; bN 255 :: bN 255 :: bN 255 :: bN 255 :: bN 255 :: bN 255 :: y, true, true⟩]⟩
end Go.Proofs.YtmkkpogbjbjfeaaGreat

namespace Go.Proofs.YtmkkpogbjbjfeaaGreat
open Go Go.Proofs Go.Sx
set_option linter.unusedVariables false
-- apogee/proc.New | [.v (S imL), .v (I 0), .v (Value.pointer none), .v (I 0)] | M0
noncomputable def ΓxL58 : Orc := execV Tryz.prog ΓL57.call ΓL57.rd ΓL57.eqv wx24b 60 16
theorem OkxL58 : ΓxL58.Ok Tryz.prog := execV_ok mixed names (ext := ΓL57.call) (rd := ΓL57.rd) (eqv := ΓL57.eqv) ⟨OkL57.call, OkL57.rd, OkL57.eqv⟩ 60 16
def rL58 : SV := .v (.tuple #[(Value.pointer none), (.int .i64 9)])
def mL58 : Mem := ⟨[], [], []⟩
set_option maxRecDepth 100000 in
theorem runL58 : runG ΓxL58 (loopX ΓxL58 Tryz.prog 60 3) Tryz.prog Tryz.f12 [.v (S imL), .v (I 0), .v (Value.pointer none), .v (I 0)] M0 = some (rL58, mL58) := by kernel_rfl
theorem okL58 : CallOk Tryz.prog 12 [.v (S imL), .v (I 0), .v (Value.pointer none), .v (I 0)] M0 rL58 mL58 := runOk OkxL58 Tryz.func12 rfl (fun z _ _ b _ => loopX_ok OkxL58 mixed 60 3 b) runL58
noncomputable def ΓL58 : Orc := addCl 12 (litC [.v (S imL), .v (I 0), .v (Value.pointer none), .v (I 0)] M0 rL58 mL58) ΓL57
theorem OkL58 : ΓL58.Ok Tryz.prog := addCl_ok OkL57 (litC_ok okL58)
end Go.Proofs.YtmkkpogbjbjfeaaGreat

namespace Go.Proofs.YtmkkpogbjbjfeaaGreat
open Go Go.Proofs Go.Sx
set_option linter.unusedVariables false
-- apogee/latch.Open | [.ptr 0 0, .v (I 0)] | sG
noncomputable def ΓxL59 : Orc := execV Tryz.prog ΓL58.call ΓL58.rd ΓL58.eqv wx24b 60 16
theorem OkxL59 : ΓxL59.Ok Tryz.prog := execV_ok mixed names (ext := ΓL58.call) (rd := ΓL58.rd) (eqv := ΓL58.eqv) ⟨OkL58.call, OkL58.rd, OkL58.eqv⟩ 60 16
def rL59 : SV := .tup [.one (.ptr 2 0), .one (.v (I 0))]
def mL59 : Mem := ⟨[[.row 0, .ptr 1 0, .v (.bool false), .v (.bool false), .v (I 0)], [.v (I 1000000), .v (I 0)], [.ptr 0 0, .v (I 0), .v (I 0), .v (I 0), .v (I 0), .v (I 0), .v (I 0), .v (I 0), .v (I 0), .v (I 0), .v (I 0), .v (I 0)]], [true, true, true], [.live ⟨5, [.num .u8], [bN 255, bN 255, bN 255, bN 255, bN 255, bN 255, bN 255, bN 255, bN 255, bN 255, bN 255, bN 255, bN 255, bN 255, bN 255, bN 255, bN 255, bN 255, bN 255, bN 255, bN 255, bN 255, bN 255, bN 255, bN 255, bN 255, bN 255, bN 255, bN 255, bN 255, bN 255, bN 255, bN 255, bN 255, bN 255, bN 255, bN 255, bN 255, bN 255, bN 255, bN 255, bN 255, bN 255, bN 255, bN 255, bN 255, bN 255, bN 255, bN 255, bN 255], true, true⟩]⟩
set_option maxRecDepth 100000 in
theorem runL59 : runG ΓxL59 (loopX ΓxL59 Tryz.prog 60 3) Tryz.prog Tryz.f60 [.ptr 0 0, .v (I 0)] sG = some (rL59, mL59) := by kernel_rfl
theorem okL59 : CallOk Tryz.prog 60 [.ptr 0 0, .v (I 0)] sG rL59 mL59 := runOk OkxL59 Tryz.func60 rfl (fun z _ _ b _ => loopX_ok OkxL59 mixed 60 3 b) runL59
noncomputable def ΓL59 : Orc := addCl 60 (litC [.ptr 0 0, .v (I 0)] sG rL59 mL59) ΓL58
theorem OkL59 : ΓL59.Ok Tryz.prog := addCl_ok OkL58 (litC_ok okL59)
end Go.Proofs.YtmkkpogbjbjfeaaGreat

namespace Go.Proofs.YtmkkpogbjbjfeaaGreat
open Go Go.Proofs Go.Sx
set_option linter.unusedVariables false
-- apogee/proc.New | [.v (S imL), .v (I 0), .ptr 0 0, .v (I 0)] | sG
noncomputable def ΓxL60 : Orc := execV Tryz.prog ΓL59.call ΓL59.rd ΓL59.eqv wx24b 60 16
theorem OkxL60 : ΓxL60.Ok Tryz.prog := execV_ok mixed names (ext := ΓL59.call) (rd := ΓL59.rd) (eqv := ΓL59.eqv) ⟨OkL59.call, OkL59.rd, OkL59.eqv⟩ 60 16
def rL60 : SV := .tup [.one (.ptr 2 0), .one (.v (I 0))]
def mL60 : Mem := ⟨[[.row 0, .ptr 1 0, .v (.bool false), .v (.bool false), .v (I 0)], [.v (I 1000000), .v (I 0)], [.v (.string imL), .v (I 0), .ptr 0 0, .v (I 0), .v (.bool true), .v (I 0), .row 1, .v (I 2), .v (I 3), .v (I 4), .v (I 2), .v (I 50), .v (I 2), .v (I 10), .v (I 1), .v (I 0), .ptr 3 0, .ptr 4 0, .ptr 5 0, .ptr 6 0, .ptr 7 0, .ptr 8 0, .ptr 9 0, .ptr 10 0, .ptr 11 0, .ptr 12 0, .v (.bool false), .v (I 0)], [.ptr 0 0, .v (I 0), .v (I 0), .v (I 0), .v (I 0), .v (I 0), .v (I 0), .v (I 0), .v (I 0), .v (I 0), .v (I 0), .v (I 0)], [.v (.string e0), .ptr 13 0], [.v (.string e0), .ptr 14 0], [.v (.string e0), .ptr 15 0], [.v (.string e0), .ptr 16 0], [.v (I 50), .v (I 2), .ptr 17 0, .v (I 0), .v (I 0), .v (I 0), .v (I 0), .v (I 0), .v (I 0), .v (I 0), .v (I 0), .v (.bool false)], [.v (I 50), .v (I 2), .ptr 18 0, .v (I 0), .v (I 0), .v (I 0), .v (I 0), .v (I 0), .v (I 0), .v (I 0), .v (I 0), .v (.bool false)], [.row 2, .v (I 2), .v (I 3), .v (I 4), .v (I 2), .v (I 50), .v (I 2), .v (I 10), .v (I 1), .v (I 0), .ptr 19 0], [.ptr 20 0, .ptr 21 0, .ptr 22 0], [.v (I 1), .v (.bool false), .v (I 0), .v (I 0)], [.v (I 1000000), .v (I 0)], [.v (I 1000000), .v (I 0)], [.v (I 1000000), .v (I 0)], [.v (I 1000000), .v (I 0)], [.v (I 1000000), .v (I 0)], [.v (I 1000000), .v (I 0)], [.v (I 1000000), .v (I 0)], [.v (I 2), .v (I 0)], [.v (I 3), .v (I 0)], [.v (I 4), .v (I 0)]], [true, true, true, true, true, true, true, true, true, true, true, true, true, true, true, true, true, true, true, true, true, true, true], [.live ⟨5, [.num .u8], [bN 255, bN 255, bN 255, bN 255, bN 255, bN 255, bN 255, bN 255, bN 255, bN 255, bN 255, bN 255, bN 255, bN 255, bN 255, bN 255, bN 255, bN 255, bN 255, bN 255, bN 255, bN 255, bN 255, bN 255, bN 255, bN 255, bN 255, bN 255, bN 255, bN 255, bN 255, bN 255, bN 255, bN 255, bN 255, bN 255, bN 255, bN 255, bN 255, bN 255, bN 255, bN 255, bN 255, bN 255, bN 255, bN 255, bN 255, bN 255, bN 255, bN 255], true, true⟩, .live ⟨151, [CK.sl (153) [CK0.num IntKind.i64, CK0.num IntKind.i64], .num .i64, .num .i64, .num .i64, .num .i64], [[Dat.l (Value.slice none 0 0) [[Dat.n (Int.negSucc 999), Dat.n (Int.negSucc 999)], [Dat.n 1000, Dat.n (Int.negSucc 999)], [Dat.n 1000, Dat.n 1000], [Dat.n (Int.negSucc 999), Dat.n 1000]], .n (1), .n (200), .n (5), .n (100)]], true, false⟩, .live ⟨151, [CK.sl (153) [CK0.num IntKind.i64, CK0.num IntKind.i64], .num .i64, .num .i64, .num .i64, .num .i64], [[Dat.l (Value.slice none 0 0) [[Dat.n (Int.negSucc 999), Dat.n (Int.negSucc 999)], [Dat.n 1000, Dat.n (Int.negSucc 999)], [Dat.n 1000, Dat.n 1000], [Dat.n (Int.negSucc 999), Dat.n 1000]], .n (1), .n (200), .n (5), .n (100)]], true, false⟩]⟩
set_option maxRecDepth 100000 in
theorem runL60 : runG ΓxL60 (loopX ΓxL60 Tryz.prog 60 3) Tryz.prog Tryz.f12 [.v (S imL), .v (I 0), .ptr 0 0, .v (I 0)] sG = some (rL60, mL60) := by kernel_rfl
theorem okL60 : CallOk Tryz.prog 12 [.v (S imL), .v (I 0), .ptr 0 0, .v (I 0)] sG rL60 mL60 := runOk OkxL60 Tryz.func12 rfl (fun z _ _ b _ => loopX_ok OkxL60 mixed 60 3 b) runL60
noncomputable def ΓL60 : Orc := addCl 12 (litC [.v (S imL), .v (I 0), .ptr 0 0, .v (I 0)] sG rL60 mL60) ΓL59
theorem OkL60 : ΓL60.Ok Tryz.prog := addCl_ok OkL59 (litC_ok okL60)
end Go.Proofs.YtmkkpogbjbjfeaaGreat

namespace Go.Proofs.YtmkkpogbjbjfeaaGreat
open Go Go.Proofs Go.Sx
set_option linter.unusedVariables false
-- apogee/latch.Open | [.ptr 0 0, .v (I 1)] | sG
noncomputable def ΓxL61 : Orc := execV Tryz.prog ΓL60.call ΓL60.rd ΓL60.eqv wx24b 60 16
theorem OkxL61 : ΓxL61.Ok Tryz.prog := execV_ok mixed names (ext := ΓL60.call) (rd := ΓL60.rd) (eqv := ΓL60.eqv) ⟨OkL60.call, OkL60.rd, OkL60.eqv⟩ 60 16
def rL61 : SV := .tup [.one (.ptr 2 0), .one (.v (I 0))]
def mL61 : Mem := ⟨[[.row 0, .ptr 1 0, .v (.bool false), .v (.bool false), .v (I 0)], [.v (I 1000000), .v (I 0)], [.ptr 0 0, .v (I 1), .v (I 0), .v (I 0), .v (I 0), .v (I 0), .v (I 0), .v (I 0), .v (I 0), .v (I 0), .v (I 0), .v (I 0)]], [true, true, true], [.live ⟨5, [.num .u8], [bN 255, bN 255, bN 255, bN 255, bN 255, bN 255, bN 255, bN 255, bN 255, bN 255, bN 255, bN 255, bN 255, bN 255, bN 255, bN 255, bN 255, bN 255, bN 255, bN 255, bN 255, bN 255, bN 255, bN 255, bN 255, bN 255, bN 255, bN 255, bN 255, bN 255, bN 255, bN 255, bN 255, bN 255, bN 255, bN 255, bN 255, bN 255, bN 255, bN 255, bN 255, bN 255, bN 255, bN 255, bN 255, bN 255, bN 255, bN 255, bN 255, bN 255], true, true⟩]⟩
set_option maxRecDepth 100000 in
theorem runL61 : runG ΓxL61 (loopX ΓxL61 Tryz.prog 60 3) Tryz.prog Tryz.f60 [.ptr 0 0, .v (I 1)] sG = some (rL61, mL61) := by kernel_rfl
theorem okL61 : CallOk Tryz.prog 60 [.ptr 0 0, .v (I 1)] sG rL61 mL61 := runOk OkxL61 Tryz.func60 rfl (fun z _ _ b _ => loopX_ok OkxL61 mixed 60 3 b) runL61
noncomputable def ΓL61 : Orc := addCl 60 (litC [.ptr 0 0, .v (I 1)] sG rL61 mL61) ΓL60
theorem OkL61 : ΓL61.Ok Tryz.prog := addCl_ok OkL60 (litC_ok okL61)
end Go.Proofs.YtmkkpogbjbjfeaaGreat

namespace Go.Proofs.YtmkkpogbjbjfeaaGreat
open Go Go.Proofs Go.Sx
set_option linter.unusedVariables false
-- apogee/proc.New | [.v (S imL), .v (I 0), .ptr 0 0, .v (I 1)] | sG
noncomputable def ΓxL62 : Orc := execV Tryz.prog ΓL61.call ΓL61.rd ΓL61.eqv wx24b 60 16
theorem OkxL62 : ΓxL62.Ok Tryz.prog := execV_ok mixed names (ext := ΓL61.call) (rd := ΓL61.rd) (eqv := ΓL61.eqv) ⟨OkL61.call, OkL61.rd, OkL61.eqv⟩ 60 16
def rL62 : SV := .tup [.one (.ptr 2 0), .one (.v (I 0))]
def mL62 : Mem := ⟨[[.row 0, .ptr 1 0, .v (.bool false), .v (.bool false), .v (I 0)], [.v (I 1000000), .v (I 0)], [.v (.string imL), .v (I 0), .ptr 0 0, .v (I 1), .v (.bool true), .v (I 0), .row 1, .v (I 2), .v (I 3), .v (I 4), .v (I 2), .v (I 50), .v (I 2), .v (I 10), .v (I 1), .v (I 0), .ptr 3 0, .ptr 4 0, .ptr 5 0, .ptr 6 0, .ptr 7 0, .ptr 8 0, .ptr 9 0, .ptr 10 0, .ptr 11 0, .ptr 12 0, .v (.bool false), .v (I 0)], [.ptr 0 0, .v (I 1), .v (I 0), .v (I 0), .v (I 0), .v (I 0), .v (I 0), .v (I 0), .v (I 0), .v (I 0), .v (I 0), .v (I 0)], [.v (.string e0), .ptr 13 0], [.v (.string e0), .ptr 14 0], [.v (.string e0), .ptr 15 0], [.v (.string e0), .ptr 16 0], [.v (I 50), .v (I 2), .ptr 17 0, .v (I 0), .v (I 0), .v (I 0), .v (I 0), .v (I 0), .v (I 0), .v (I 0), .v (I 0), .v (.bool false)], [.v (I 50), .v (I 2), .ptr 18 0, .v (I 0), .v (I 0), .v (I 0), .v (I 0), .v (I 0), .v (I 0), .v (I 0), .v (I 0), .v (.bool false)], [.row 2, .v (I 2), .v (I 3), .v (I 4), .v (I 2), .v (I 50), .v (I 2), .v (I 10), .v (I 1), .v (I 0), .ptr 19 0], [.ptr 20 0, .ptr 21 0, .ptr 22 0], [.v (I 1), .v (.bool false), .v (I 0), .v (I 0)], [.v (I 1000000), .v (I 0)], [.v (I 1000000), .v (I 0)], [.v (I 1000000), .v (I 0)], [.v (I 1000000), .v (I 0)], [.v (I 1000000), .v (I 0)], [.v (I 1000000), .v (I 0)], [.v (I 1000000), .v (I 0)], [.v (I 2), .v (I 0)], [.v (I 3), .v (I 0)], [.v (I 4), .v (I 0)]], [true, true, true, true, true, true, true, true, true, true, true, true, true, true, true, true, true, true, true, true, true, true, true], [.live ⟨5, [.num .u8], [bN 255, bN 255, bN 255, bN 255, bN 255, bN 255, bN 255, bN 255, bN 255, bN 255, bN 255, bN 255, bN 255, bN 255, bN 255, bN 255, bN 255, bN 255, bN 255, bN 255, bN 255, bN 255, bN 255, bN 255, bN 255, bN 255, bN 255, bN 255, bN 255, bN 255, bN 255, bN 255, bN 255, bN 255, bN 255, bN 255, bN 255, bN 255, bN 255, bN 255, bN 255, bN 255, bN 255, bN 255, bN 255, bN 255, bN 255, bN 255, bN 255, bN 255], true, true⟩, .live ⟨151, [CK.sl (153) [CK0.num IntKind.i64, CK0.num IntKind.i64], .num .i64, .num .i64, .num .i64, .num .i64], [[Dat.l (Value.slice none 0 0) [[Dat.n (Int.negSucc 999), Dat.n (Int.negSucc 999)], [Dat.n 1000, Dat.n (Int.negSucc 999)], [Dat.n 1000, Dat.n 1000], [Dat.n (Int.negSucc 999), Dat.n 1000]], .n (1), .n (200), .n (5), .n (100)]], true, false⟩, .live ⟨151, [CK.sl (153) [CK0.num IntKind.i64, CK0.num IntKind.i64], .num .i64, .num .i64, .num .i64, .num .i64], [[Dat.l (Value.slice none 0 0) [[Dat.n (Int.negSucc 999), Dat.n (Int.negSucc 999)], [Dat.n 1000, Dat.n (Int.negSucc 999)], [Dat.n 1000, Dat.n 1000], [Dat.n (Int.negSucc 999), Dat.n 1000]], .n (1), .n (200), .n (5), .n (100)]], true, false⟩]⟩
set_option maxRecDepth 100000 in
theorem runL62 : runG ΓxL62 (loopX ΓxL62 Tryz.prog 60 3) Tryz.prog Tryz.f12 [.v (S imL), .v (I 0), .ptr 0 0, .v (I 1)] sG = some (rL62, mL62) := by kernel_rfl
theorem okL62 : CallOk Tryz.prog 12 [.v (S imL), .v (I 0), .ptr 0 0, .v (I 1)] sG rL62 mL62 := runOk OkxL62 Tryz.func12 rfl (fun z _ _ b _ => loopX_ok OkxL62 mixed 60 3 b) runL62
noncomputable def ΓL62 : Orc := addCl 12 (litC [.v (S imL), .v (I 0), .ptr 0 0, .v (I 1)] sG rL62 mL62) ΓL61
theorem OkL62 : ΓL62.Ok Tryz.prog := addCl_ok OkL61 (litC_ok okL62)
end Go.Proofs.YtmkkpogbjbjfeaaGreat

namespace Go.Proofs.YtmkkpogbjbjfeaaGreat
open Go Go.Proofs Go.Sx
set_option linter.unusedVariables false
-- apogee/latch.Open | [.ptr 0 0, .v (I 2)] | sG
noncomputable def ΓxL63 : Orc := execV Tryz.prog ΓL62.call ΓL62.rd ΓL62.eqv wx24b 60 16
theorem OkxL63 : ΓxL63.Ok Tryz.prog := execV_ok mixed names (ext := ΓL62.call) (rd := ΓL62.rd) (eqv := ΓL62.eqv) ⟨OkL62.call, OkL62.rd, OkL62.eqv⟩ 60 16
def rL63 : SV := .tup [.one (.ptr 2 0), .one (.v (I 0))]
def mL63 : Mem := ⟨[[.row 0, .ptr 1 0, .v (.bool false), .v (.bool false), .v (I 0)], [.v (I 1000000), .v (I 0)], [.ptr 0 0, .v (I 2), .v (I 0), .v (I 0), .v (I 0), .v (I 0), .v (I 0), .v (I 0), .v (I 0), .v (I 0), .v (I 0), .v (I 0)]], [true, true, true], [.live ⟨5, [.num .u8], [bN 255, bN 255, bN 255, bN 255, bN 255, bN 255, bN 255, bN 255, bN 255, bN 255, bN 255, bN 255, bN 255, bN 255, bN 255, bN 255, bN 255, bN 255, bN 255, bN 255, bN 255, bN 255, bN 255, bN 255, bN 255, bN 255, bN 255, bN 255, bN 255, bN 255, bN 255, bN 255, bN 255, bN 255, bN 255, bN 255, bN 255, bN 255, bN 255, bN 255, bN 255, bN 255, bN 255, bN 255, bN 255, bN 255, bN 255, bN 255, bN 255, bN 255], true, true⟩]⟩
set_option maxRecDepth 100000 in
theorem runL63 : runG ΓxL63 (loopX ΓxL63 Tryz.prog 60 3) Tryz.prog Tryz.f60 [.ptr 0 0, .v (I 2)] sG = some (rL63, mL63) := by kernel_rfl
theorem okL63 : CallOk Tryz.prog 60 [.ptr 0 0, .v (I 2)] sG rL63 mL63 := runOk OkxL63 Tryz.func60 rfl (fun z _ _ b _ => loopX_ok OkxL63 mixed 60 3 b) runL63
noncomputable def ΓL63 : Orc := addCl 60 (litC [.ptr 0 0, .v (I 2)] sG rL63 mL63) ΓL62
theorem OkL63 : ΓL63.Ok Tryz.prog := addCl_ok OkL62 (litC_ok okL63)
end Go.Proofs.YtmkkpogbjbjfeaaGreat

namespace Go.Proofs.YtmkkpogbjbjfeaaGreat
open Go Go.Proofs Go.Sx
set_option linter.unusedVariables false
-- apogee/proc.New | [.v (S imL), .v (I 0), .ptr 0 0, .v (I 2)] | sG
noncomputable def ΓxL64 : Orc := execV Tryz.prog ΓL63.call ΓL63.rd ΓL63.eqv wx24b 60 16
theorem OkxL64 : ΓxL64.Ok Tryz.prog := execV_ok mixed names (ext := ΓL63.call) (rd := ΓL63.rd) (eqv := ΓL63.eqv) ⟨OkL63.call, OkL63.rd, OkL63.eqv⟩ 60 16
def rL64 : SV := .tup [.one (.ptr 2 0), .one (.v (I 0))]
def mL64 : Mem := ⟨[[.row 0, .ptr 1 0, .v (.bool false), .v (.bool false), .v (I 0)], [.v (I 1000000), .v (I 0)], [.v (.string imL), .v (I 0), .ptr 0 0, .v (I 2), .v (.bool true), .v (I 0), .row 1, .v (I 2), .v (I 3), .v (I 4), .v (I 2), .v (I 50), .v (I 2), .v (I 10), .v (I 1), .v (I 0), .ptr 3 0, .ptr 4 0, .ptr 5 0, .ptr 6 0, .ptr 7 0, .ptr 8 0, .ptr 9 0, .ptr 10 0, .ptr 11 0, .ptr 12 0, .v (.bool false), .v (I 0)], [.ptr 0 0, .v (I 2), .v (I 0), .v (I 0), .v (I 0), .v (I 0), .v (I 0), .v (I 0), .v (I 0), .v (I 0), .v (I 0), .v (I 0)], [.v (.string e0), .ptr 13 0], [.v (.string e0), .ptr 14 0], [.v (.string e0), .ptr 15 0], [.v (.string e0), .ptr 16 0], [.v (I 50), .v (I 2), .ptr 17 0, .v (I 0), .v (I 0), .v (I 0), .v (I 0), .v (I 0), .v (I 0), .v (I 0), .v (I 0), .v (.bool false)], [.v (I 50), .v (I 2), .ptr 18 0, .v (I 0), .v (I 0), .v (I 0), .v (I 0), .v (I 0), .v (I 0), .v (I 0), .v (I 0), .v (.bool false)], [.row 2, .v (I 2), .v (I 3), .v (I 4), .v (I 2), .v (I 50), .v (I 2), .v (I 10), .v (I 1), .v (I 0), .ptr 19 0], [.ptr 20 0, .ptr 21 0, .ptr 22 0], [.v (I 1), .v (.bool false), .v (I 0), .v (I 0)], [.v (I 1000000), .v (I 0)], [.v (I 1000000), .v (I 0)], [.v (I 1000000), .v (I 0)], [.v (I 1000000), .v (I 0)], [.v (I 1000000), .v (I 0)], [.v (I 1000000), .v (I 0)], [.v (I 1000000), .v (I 0)], [.v (I 2), .v (I 0)], [.v (I 3), .v (I 0)], [.v (I 4), .v (I 0)]], [true, true, true, true, true, true, true, true, true, true, true, true, true, true, true, true, true, true, true, true, true, true, true], [.live ⟨5, [.num .u8], [bN 255, bN 255, bN 255, bN 255, bN 255, bN 255, bN 255, bN 255, bN 255, bN 255, bN 255, bN 255, bN 255, bN 255, bN 255, bN 255, bN 255, bN 255, bN 255, bN 255, bN 255, bN 255, bN 255, bN 255, bN 255, bN 255, bN 255, bN 255, bN 255, bN 255, bN 255, bN 255, bN 255, bN 255, bN 255, bN 255, bN 255, bN 255, bN 255, bN 255, bN 255, bN 255, bN 255, bN 255, bN 255, bN 255, bN 255, bN 255, bN 255, bN 255], true, true⟩, .live ⟨151, [CK.sl (153) [CK0.num IntKind.i64, CK0.num IntKind.i64], .num .i64, .num .i64, .num .i64, .num .i64], [[Dat.l (Value.slice none 0 0) [[Dat.n (Int.negSucc 999), Dat.n (Int.negSucc 999)], [Dat.n 1000, Dat.n (Int.negSucc 999)], [Dat.n 1000, Dat.n 1000], [Dat.n (Int.negSucc 999), Dat.n 1000]], .n (1), .n (200), .n (5), .n (100)]], true, false⟩, .live ⟨151, [CK.sl (153) [CK0.num IntKind.i64, CK0.num IntKind.i64], .num .i64, .num .i64, .num .i64, .num .i64], [[Dat.l (Value.slice none 0 0) [[Dat.n (Int.negSucc 999), Dat.n (Int.negSucc 999)], [Dat.n 1000, Dat.n (Int.negSucc 999)], [Dat.n 1000, Dat.n 1000], [Dat.n (Int.negSucc 999), Dat.n 1000]], .n (1), .n (200), .n (5), .n (100)]], true, false⟩]⟩
set_option maxRecDepth 100000 in
theorem runL64 : runG ΓxL64 (loopX ΓxL64 Tryz.prog 60 3) Tryz.prog Tryz.f12 [.v (S imL), .v (I 0), .ptr 0 0, .v (I 2)] sG = some (rL64, mL64) := by kernel_rfl
theorem okL64 : CallOk Tryz.prog 12 [.v (S imL), .v (I 0), .ptr 0 0, .v (I 2)] sG rL64 mL64 := runOk OkxL64 Tryz.func12 rfl (fun z _ _ b _ => loopX_ok OkxL64 mixed 60 3 b) runL64
noncomputable def ΓL64 : Orc := addCl 12 (litC [.v (S imL), .v (I 0), .ptr 0 0, .v (I 2)] sG rL64 mL64) ΓL63
theorem OkL64 : ΓL64.Ok Tryz.prog := addCl_ok OkL63 (litC_ok okL64)
end Go.Proofs.YtmkkpogbjbjfeaaGreat

