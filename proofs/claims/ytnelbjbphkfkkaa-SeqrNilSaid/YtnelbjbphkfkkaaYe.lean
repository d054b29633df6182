/-
  What is known of this program: contracts of seqr, the law package's own; the four laws of seqr over values.
-/
import Derived.Test.YtnelbjbphkfkkaaYa
import Derived.Test.YtnelbjbphkfkkaaSx
import Derived.Test.YtnelbjbphkfkkaaSw
namespace Go.Proofs.Ytnelbjbphkfkkaa
open Go Go.Proofs Go.Sx
set_option linter.unusedVariables false
/-! norm -/
/-! cast -/
/-! Sequencers. -/
def SM (s : Int) (l : Bool) (t w : Int) : Mem := ⟨[[.v (I s), .v (Bo l), .v (I t), .v (I w)]], [true], []⟩
def RSM (s t : Int) (l a f : Bool) : Mem := ⟨[[.v (I s), .v (I t), .v (Bo l), .v (Bo a), .v (Bo f)]], [true], []⟩
def bitB (p m : Int) : Bool := wI ((BitVec.ofInt 64 p &&& BitVec.ofInt 64 m).toNat : Int) != 0
def armB (h : Bool) (ps pw : Int) : Bool := h && (bitB pw 1 || (ps == 1 || ps == 2))
def safB (h : Bool) (ps pw : Int) : Bool := h && (bitB pw 2 || ps == 0)
def dropW (w d : Int) : Int := bif w == d then 0 else w
def wsT (w t : Int) (a : Bool) : Int := bif dropW w 2 == 1 && a then 1 else t
def wsW (w : Int) (a : Bool) : Int := bif dropW w 2 == 1 && a then 0 else dropW w 2
def waT (s t w c ph : Int) (fl fi f : Bool) : Int := bif c == 3 || fi then 2 else bif fl && decide (ph < s) then t else bif dropW w 1 == 2 && f then 0 else t
def waW (s w c ph : Int) (fl fi f : Bool) : Int := bif c == 3 || fi then 0 else bif fl && decide (ph < s) then dropW (dropW w 1) 2 else bif dropW w 1 == 2 && f then 0 else dropW w 1
def w1N (c w : Int) : Int := bif c == 1 then 1 else bif c == 2 then 2 else w
def cyT (s : Int) (l : Bool) (t w c ph : Int) (fl fi a f : Bool) : Int := bif l then t else bif t == 0 then wsT (w1N c w) t a else bif t == 1 then waT s t (w1N c w) c ph fl fi f else t
def cyW (s : Int) (l : Bool) (t w c ph : Int) (fl fi a f : Bool) : Int := bif l then w else bif t == 0 then wsW (w1N c w) a else bif t == 1 then waW s (w1N c w) c ph fl fi f else bif t == 2 then 0 else w1N c w
def setB (l : Bool) (n : Int) : Bool := !l && (!decide (n < 0) && !decide (n > 2))
def rgt (ps pw : Int) : Bool := decide (ps ≥ 0) && (decide (ps ≤ 2) && (decide (pw ≥ 0) && decide (pw ≤ 15)))
/-! The document's. -/
def odd1 (p : Int) : Bool := p.tmod 2 == 1
def odd2 (p : Int) : Bool := (wI (p.tdiv 2)).tmod 2 == 1
def a1N (c : Int) (a : Bool) : Bool := bif c == 1 then true else bif c == 2 then false else a
def f1N (c : Int) (f : Bool) : Bool := bif c == 1 then false else bif c == 2 then true else f
def rarm (he : Bool) (ps pw : Int) : Bool := he && (odd1 pw || decide (ps ≥ 1))
def rsaf (he : Bool) (ps pw : Int) : Bool := he && (odd2 pw || ps == 0)
def rcT (s t : Int) (l a f : Bool) (c ph : Int) (fl fi ra rf : Bool) : Int := bif l then t else bif t == 0 then (bif a1N c a && ra then 1 else t) else bif t == 1 then (bif c == 3 || fi then 2 else bif f1N c f && (fl && decide (ph < s)) then t else bif f1N c f && rf then 0 else t) else t
def rcA (t : Int) (l a : Bool) (c : Int) (ra : Bool) : Bool := bif l then a else bif t == 0 then (bif a1N c a && ra then false else a1N c a) else bif t == 1 then false else bif t == 2 then false else a1N c a
def rcF (s t : Int) (l f : Bool) (c ph : Int) (fl fi rf : Bool) : Bool := bif l then f else bif t == 0 then false else bif t == 1 then (bif c == 3 || fi then false else bif f1N c f && (fl && decide (ph < s)) then false else bif f1N c f && rf then false else f1N c f) else bif t == 2 then false else f1N c f

set_option maxRecDepth 20000 in
theorem runSDrop0 (d : Int) (s : Int) (l : Bool) (t w : Int) : runG ΓC L0 Try.prog Try.f86 [.ptr 0 0, .v (I d)] (SM s l t w) = 
    (bif w == d then some (.v (.tuple #[]), ⟨[[.v (I s), .v (Bo l), .v (I t), .v (I 0)]], [true], []⟩) else some (.v (.tuple #[]), ⟨[[.v (I s), .v (Bo l), .v (I t), .v (I w)]], [true], []⟩)) := by kernel_rfl
def gSDrop (xs : List SV) (m : Mem) : Option (Bool × SV × Mem) :=
  match xs, m with
  | [.ptr 0 0, .v (.int .i64 d)], ⟨[[.v (.int .i64 s), .v (.bool l), .v (.int .i64 t), .v (.int .i64 w)]], [true], []⟩ => some (true, .v (.tuple #[]), SM s l t (dropW w d))
  | _, _ => none
theorem gSDrop_ok : ∀ xs m r m', gSDrop xs m = some (true, r, m') → CallOk Try.prog 86 xs m r m' := by
  intro xs m r m' h
  unfold gSDrop at h
  split at h
  · rename_i d s l t w
    obtain ⟨h1, rfl, rfl⟩ := some_t2 h
    refine runOk (Λ := L0) OkC Try.func86 rfl (fun z _ _ => noLoops (by kernel_rfl) z) ?_
    exact (runSDrop0 d s l t w).trans (by unfold dropW; cases w == d <;> rfl)
  · cases h
noncomputable def ΓG1 : Orc := addCl 86 gSDrop ΓC
theorem OkG1 : ΓG1.Ok Try.prog := addCl_ok OkC gSDrop_ok
set_option maxRecDepth 20000 in
theorem runSBec0 (d : Int) (s : Int) (l : Bool) (t w : Int) : runG ΓG1 L0 Try.prog Try.f73 [.ptr 0 0, .v (I d)] (SM s l t w) = some (.v (.tuple #[]), SM s l d 0) := by kernel_rfl
def gSBec (xs : List SV) (m : Mem) : Option (Bool × SV × Mem) :=
  match xs, m with
  | [.ptr 0 0, .v (.int .i64 d)], ⟨[[.v (.int .i64 s), .v (.bool l), .v (.int .i64 t), .v (.int .i64 w)]], [true], []⟩ => some (true, .v (.tuple #[]), SM s l d 0)
  | _, _ => none
theorem gSBec_ok : ∀ xs m r m', gSBec xs m = some (true, r, m') → CallOk Try.prog 73 xs m r m' := by
  intro xs m r m' h
  unfold gSBec at h
  split at h
  · rename_i d s l t w
    obtain ⟨h1, rfl, rfl⟩ := some_t2 h
    refine runOk (Λ := L0) OkG1 Try.func73 rfl (fun z _ _ => noLoops (by kernel_rfl) z) ?_
    exact (runSBec0 d s l t w).trans (rfl)
  · cases h
noncomputable def ΓG2 : Orc := addCl 73 gSBec ΓG1
theorem OkG2 : ΓG2.Ok Try.prog := addCl_ok OkG1 gSBec_ok
set_option maxRecDepth 20000 in
theorem runSArm (c : Int) (he : Bool) (pc pp ps pw : Int) (fl fi : Bool) (ph : Int) : runG ΓG2 L0 Try.prog Try.f87 [.v (.agg #[I c, Bo he, I pc, I pp, I ps, I pw, Bo fl, Bo fi, I ph])] M0 = 
    (bif he then (bif wI ((BitVec.ofInt (64 : Nat) pw &&& BitVec.ofInt (64 : Nat) (1 : Int)).toNat : Int) != (0 : Int) then some (.v (Bo true), M0) else (bif ps == (1 : Int) then some (.v (Bo true), M0) else some (.v (Bo (ps == (2 : Int))), M0))) else some (.v (Bo false), M0)) := by kernel_rfl
def gSArm (vs : List Value) : Option (Bool × Value) :=
  match vs with
  | [.agg ⟨[.int .i64 c, .bool he, .int .i64 pc, .int .i64 pp, .int .i64 ps, .int .i64 pw, .bool fl, .bool fi, .int .i64 ph]⟩] => some (true, Bo (armB he ps pw))
  | _ => none
theorem gSArm_ok : ∀ vs r, gSArm vs = some (true, r) → ∀ m, CallOk Try.prog 87 (vs.map .v) m (.v r) m := by
  intro vs r h
  unfold gSArm at h
  split at h
  · rename_i c he pc pp ps pw fl fi ph
    obtain ⟨h1, rfl⟩ := some_t h
    refine runV (vs := [.agg #[I c, Bo he, I pc, I pp, I ps, I pw, Bo fl, Bo fi, I ph]]) (Λ := L0) (m' := M0) OkG2 Try.func87 rfl (fun z _ _ => noLoops (by kernel_rfl) z) ?_
    exact (runSArm c he pc pp ps pw fl fi ph).trans (by rw [show (wI ((BitVec.ofInt 64 pw &&& BitVec.ofInt 64 1).toNat : Int) != 0) = bitB pw 1 from rfl]; unfold armB; cases he <;> cases bitB pw 1 <;> cases ps == 1 <;> cases ps == 2 <;> rfl)
  · cases h
noncomputable def ΓG3 : Orc := addVal 87 gSArm ΓG2
theorem OkG3 : ΓG3.Ok Try.prog := addVal_ok OkG2 gSArm_ok
set_option maxRecDepth 20000 in
theorem runSSaf (c : Int) (he : Bool) (pc pp ps pw : Int) (fl fi : Bool) (ph : Int) : runG ΓG3 L0 Try.prog Try.f88 [.v (.agg #[I c, Bo he, I pc, I pp, I ps, I pw, Bo fl, Bo fi, I ph])] M0 = 
    (bif he then (bif wI ((BitVec.ofInt (64 : Nat) pw &&& BitVec.ofInt (64 : Nat) (2 : Int)).toNat : Int) != (0 : Int) then some (.v (Bo true), M0) else some (.v (Bo (ps == (0 : Int))), M0)) else some (.v (Bo false), M0)) := by kernel_rfl
def gSSaf (vs : List Value) : Option (Bool × Value) :=
  match vs with
  | [.agg ⟨[.int .i64 c, .bool he, .int .i64 pc, .int .i64 pp, .int .i64 ps, .int .i64 pw, .bool fl, .bool fi, .int .i64 ph]⟩] => some (true, Bo (safB he ps pw))
  | _ => none
theorem gSSaf_ok : ∀ vs r, gSSaf vs = some (true, r) → ∀ m, CallOk Try.prog 88 (vs.map .v) m (.v r) m := by
  intro vs r h
  unfold gSSaf at h
  split at h
  · rename_i c he pc pp ps pw fl fi ph
    obtain ⟨h1, rfl⟩ := some_t h
    refine runV (vs := [.agg #[I c, Bo he, I pc, I pp, I ps, I pw, Bo fl, Bo fi, I ph]]) (Λ := L0) (m' := M0) OkG3 Try.func88 rfl (fun z _ _ => noLoops (by kernel_rfl) z) ?_
    exact (runSSaf c he pc pp ps pw fl fi ph).trans (by rw [show (wI ((BitVec.ofInt 64 pw &&& BitVec.ofInt 64 2).toNat : Int) != 0) = bitB pw 2 from rfl]; unfold safB; cases he <;> cases bitB pw 2 <;> cases ps == 0 <;> rfl)
  · cases h
noncomputable def ΓG4 : Orc := addVal 88 gSSaf ΓG3
theorem OkG4 : ΓG4.Ok Try.prog := addVal_ok OkG3 gSSaf_ok
set_option maxRecDepth 20000 in
theorem runSWs0 (c : Int) (he : Bool) (pc pp ps pw : Int) (fl fi : Bool) (ph : Int) (s : Int) (l : Bool) (t w : Int) : runG ΓG4 L0 Try.prog Try.f71 [.ptr 0 0, .v (.agg #[I c, Bo he, I pc, I pp, I ps, I pw, Bo fl, Bo fi, I ph])] (SM s l t w) = 
    (bif dropW w (2 : Int) == (1 : Int) then (bif armB he ps pw then some (.v (.tuple #[]), ⟨[[.v (I s), .v (Bo l), .v (I 1), .v (I 0)]], [true], []⟩) else some (.v (.tuple #[]), ⟨[[.v (I s), .v (Bo l), .v (I t), .v (I (dropW w (2 : Int)))]], [true], []⟩)) else some (.v (.tuple #[]), ⟨[[.v (I s), .v (Bo l), .v (I t), .v (I (dropW w (2 : Int)))]], [true], []⟩)) := by kernel_rfl
def gSWs (xs : List SV) (m : Mem) : Option (Bool × SV × Mem) :=
  match xs, m with
  | [.ptr 0 0, .v (.agg ⟨[.int .i64 c, .bool he, .int .i64 pc, .int .i64 pp, .int .i64 ps, .int .i64 pw, .bool fl, .bool fi, .int .i64 ph]⟩)], ⟨[[.v (.int .i64 s), .v (.bool l), .v (.int .i64 t), .v (.int .i64 w)]], [true], []⟩ => some (true, .v (.tuple #[]), SM s l (wsT w t (armB he ps pw)) (wsW w (armB he ps pw)))
  | _, _ => none
theorem gSWs_ok : ∀ xs m r m', gSWs xs m = some (true, r, m') → CallOk Try.prog 71 xs m r m' := by
  intro xs m r m' h
  unfold gSWs at h
  split at h
  · rename_i c he pc pp ps pw fl fi ph s l t w
    obtain ⟨h1, rfl, rfl⟩ := some_t2 h
    refine runOk (Λ := L0) OkG4 Try.func71 rfl (fun z _ _ => noLoops (by kernel_rfl) z) ?_
    exact (runSWs0 c he pc pp ps pw fl fi ph s l t w).trans (by unfold wsT wsW; cases dropW w 2 == 1 <;> cases armB he ps pw <;> rfl)
  · cases h
noncomputable def ΓG5 : Orc := addCl 71 gSWs ΓG4
theorem OkG5 : ΓG5.Ok Try.prog := addCl_ok OkG4 gSWs_ok
set_option maxRecDepth 20000 in
theorem runSWa0 (c : Int) (he : Bool) (pc pp ps pw : Int) (fl fi : Bool) (ph : Int) (s : Int) (l : Bool) (t w : Int) : runG ΓG5 L0 Try.prog Try.f72 [.ptr 0 0, .v (.agg #[I c, Bo he, I pc, I pp, I ps, I pw, Bo fl, Bo fi, I ph])] (SM s l t w) = 
    (bif c == (3 : Int) then some (.v (.tuple #[]), ⟨[[.v (I s), .v (Bo l), .v (I 2), .v (I 0)]], [true], []⟩) else (bif fi then some (.v (.tuple #[]), ⟨[[.v (I s), .v (Bo l), .v (I 2), .v (I 0)]], [true], []⟩) else (bif fl then (bif decide (ph < s) then some (.v (.tuple #[]), ⟨[[.v (I s), .v (Bo l), .v (I t), .v (I (dropW (dropW w (1 : Int)) (2 : Int)))]], [true], []⟩) else (bif dropW w (1 : Int) == (2 : Int) then (bif safB he ps pw then some (.v (.tuple #[]), ⟨[[.v (I s), .v (Bo l), .v (I 0), .v (I 0)]], [true], []⟩) else some (.v (.tuple #[]), ⟨[[.v (I s), .v (Bo l), .v (I t), .v (I (dropW w (1 : Int)))]], [true], []⟩)) else some (.v (.tuple #[]), ⟨[[.v (I s), .v (Bo l), .v (I t), .v (I (dropW w (1 : Int)))]], [true], []⟩))) else (bif dropW w (1 : Int) == (2 : Int) then (bif safB he ps pw then some (.v (.tuple #[]), ⟨[[.v (I s), .v (Bo l), .v (I 0), .v (I 0)]], [true], []⟩) else some (.v (.tuple #[]), ⟨[[.v (I s), .v (Bo l), .v (I t), .v (I (dropW w (1 : Int)))]], [true], []⟩)) else some (.v (.tuple #[]), ⟨[[.v (I s), .v (Bo l), .v (I t), .v (I (dropW w (1 : Int)))]], [true], []⟩))))) := by kernel_rfl
def gSWa (xs : List SV) (m : Mem) : Option (Bool × SV × Mem) :=
  match xs, m with
  | [.ptr 0 0, .v (.agg ⟨[.int .i64 c, .bool he, .int .i64 pc, .int .i64 pp, .int .i64 ps, .int .i64 pw, .bool fl, .bool fi, .int .i64 ph]⟩)], ⟨[[.v (.int .i64 s), .v (.bool l), .v (.int .i64 t), .v (.int .i64 w)]], [true], []⟩ => some (true, .v (.tuple #[]), SM s l (waT s t w c ph fl fi (safB he ps pw)) (waW s w c ph fl fi (safB he ps pw)))
  | _, _ => none
theorem gSWa_ok : ∀ xs m r m', gSWa xs m = some (true, r, m') → CallOk Try.prog 72 xs m r m' := by
  intro xs m r m' h
  unfold gSWa at h
  split at h
  · rename_i c he pc pp ps pw fl fi ph s l t w
    obtain ⟨h1, rfl, rfl⟩ := some_t2 h
    refine runOk (Λ := L0) OkG5 Try.func72 rfl (fun z _ _ => noLoops (by kernel_rfl) z) ?_
    exact (runSWa0 c he pc pp ps pw fl fi ph s l t w).trans (by unfold waT waW; cases c == 3 <;> cases fi <;> cases fl <;> cases decide (ph < s) <;> cases dropW w 1 == 2 <;> cases safB he ps pw <;> rfl)
  · cases h
noncomputable def ΓG6 : Orc := addCl 72 gSWa ΓG5
theorem OkG6 : ΓG6.Ok Try.prog := addCl_ok OkG5 gSWa_ok
set_option maxRecDepth 20000 in
theorem runSCyc0 (c : Int) (he : Bool) (pc pp ps pw : Int) (fl fi : Bool) (ph : Int) (s : Int) (l : Bool) (t w : Int) : runG ΓG6 L0 Try.prog Try.f47 [.ptr 0 0, .v (.agg #[I c, Bo he, I pc, I pp, I ps, I pw, Bo fl, Bo fi, I ph])] (SM s l t w) = 
    (bif l then some (.v (I 0), ⟨[[.v (I s), .v (Bo l), .v (I t), .v (I w)]], [true], []⟩) else (bif c == (1 : Int) then (bif t == (0 : Int) then some (.v (I (wsT (1 : Int) t (armB he ps pw))), ⟨[[.v (I s), .v (Bo l), .v (I (wsT (1 : Int) t (armB he ps pw))), .v (I (wsW (1 : Int) (armB he ps pw)))]], [true], []⟩) else (bif t == (1 : Int) then some (.v (I (waT s t (1 : Int) c ph fl fi (safB he ps pw))), ⟨[[.v (I s), .v (Bo l), .v (I (waT s t (1 : Int) c ph fl fi (safB he ps pw))), .v (I (waW s (1 : Int) c ph fl fi (safB he ps pw)))]], [true], []⟩) else (bif t == (2 : Int) then some (.v (I t), ⟨[[.v (I s), .v (Bo l), .v (I t), .v (I 0)]], [true], []⟩) else some (.v (I t), ⟨[[.v (I s), .v (Bo l), .v (I t), .v (I 1)]], [true], []⟩)))) else (bif c == (2 : Int) then (bif t == (0 : Int) then some (.v (I (wsT (2 : Int) t (armB he ps pw))), ⟨[[.v (I s), .v (Bo l), .v (I (wsT (2 : Int) t (armB he ps pw))), .v (I (wsW (2 : Int) (armB he ps pw)))]], [true], []⟩) else (bif t == (1 : Int) then some (.v (I (waT s t (2 : Int) c ph fl fi (safB he ps pw))), ⟨[[.v (I s), .v (Bo l), .v (I (waT s t (2 : Int) c ph fl fi (safB he ps pw))), .v (I (waW s (2 : Int) c ph fl fi (safB he ps pw)))]], [true], []⟩) else (bif t == (2 : Int) then some (.v (I t), ⟨[[.v (I s), .v (Bo l), .v (I t), .v (I 0)]], [true], []⟩) else some (.v (I t), ⟨[[.v (I s), .v (Bo l), .v (I t), .v (I 2)]], [true], []⟩)))) else (bif t == (0 : Int) then some (.v (I (wsT w t (armB he ps pw))), ⟨[[.v (I s), .v (Bo l), .v (I (wsT w t (armB he ps pw))), .v (I (wsW w (armB he ps pw)))]], [true], []⟩) else (bif t == (1 : Int) then some (.v (I (waT s t w c ph fl fi (safB he ps pw))), ⟨[[.v (I s), .v (Bo l), .v (I (waT s t w c ph fl fi (safB he ps pw))), .v (I (waW s w c ph fl fi (safB he ps pw)))]], [true], []⟩) else (bif t == (2 : Int) then some (.v (I t), ⟨[[.v (I s), .v (Bo l), .v (I t), .v (I 0)]], [true], []⟩) else some (.v (I t), ⟨[[.v (I s), .v (Bo l), .v (I t), .v (I w)]], [true], []⟩))))))) := by kernel_rfl
set_option maxRecDepth 20000 in
theorem runSCyc1 (c : Int) (he : Bool) (pc pp ps pw : Int) (fl fi : Bool) (ph : Int) : runG ΓG6 L0 Try.prog Try.f47 [.v (.pointer none), .v (.agg #[I c, Bo he, I pc, I pp, I ps, I pw, Bo fl, Bo fi, I ph])] M0 = some (.v (I 0), M0) := by kernel_rfl
def gSCyc (xs : List SV) (m : Mem) : Option (Bool × SV × Mem) :=
  match xs, m with
  | [.ptr 0 0, .v (.agg ⟨[.int .i64 c, .bool he, .int .i64 pc, .int .i64 pp, .int .i64 ps, .int .i64 pw, .bool fl, .bool fi, .int .i64 ph]⟩)], ⟨[[.v (.int .i64 s), .v (.bool l), .v (.int .i64 t), .v (.int .i64 w)]], [true], []⟩ => some (true, .v (I (bif l then 0 else cyT s l t w c ph fl fi (armB he ps pw) (safB he ps pw))), SM s l (cyT s l t w c ph fl fi (armB he ps pw) (safB he ps pw)) (cyW s l t w c ph fl fi (armB he ps pw) (safB he ps pw)))
  | [.v (.pointer none), .v (.agg ⟨[.int .i64 c, .bool he, .int .i64 pc, .int .i64 pp, .int .i64 ps, .int .i64 pw, .bool fl, .bool fi, .int .i64 ph]⟩)], ⟨[], [], []⟩ => some (true, .v (I 0), M0)
  | _, _ => none
theorem gSCyc_ok : ∀ xs m r m', gSCyc xs m = some (true, r, m') → CallOk Try.prog 47 xs m r m' := by
  intro xs m r m' h
  unfold gSCyc at h
  split at h
  · rename_i c he pc pp ps pw fl fi ph s l t w
    obtain ⟨h1, rfl, rfl⟩ := some_t2 h
    refine runOk (Λ := L0) OkG6 Try.func47 rfl (fun z _ _ => noLoops (by kernel_rfl) z) ?_
    exact (runSCyc0 c he pc pp ps pw fl fi ph s l t w).trans (by unfold cyT cyW w1N; cases l <;> cases c == 1 <;> cases c == 2 <;> cases t == 0 <;> cases t == 1 <;> cases t == 2 <;> rfl)
  · rename_i c he pc pp ps pw fl fi ph
    obtain ⟨h1, rfl, rfl⟩ := some_t2 h
    refine runOk (Λ := L0) OkG6 Try.func47 rfl (fun z _ _ => noLoops (by kernel_rfl) z) ?_
    exact (runSCyc1 c he pc pp ps pw fl fi ph).trans (rfl)
  · cases h
noncomputable def ΓG7 : Orc := addCl 47 gSCyc ΓG6
theorem OkG7 : ΓG7.Ok Try.prog := addCl_ok OkG6 gSCyc_ok
set_option maxRecDepth 20000 in
theorem runSSta0 (s : Int) (l : Bool) (t w : Int) : runG ΓG7 L0 Try.prog Try.f50 [.ptr 0 0] (SM s l t w) = some (.v (I t), SM s l t w) := by kernel_rfl
set_option maxRecDepth 20000 in
theorem runSSta1  : runG ΓG7 L0 Try.prog Try.f50 [.v (.pointer none)] M0 = some (.v (I 0), M0) := by kernel_rfl
def gSSta (xs : List SV) (m : Mem) : Option (Bool × Value) :=
  match xs, m with
  | [.ptr 0 0], ⟨[[.v (.int .i64 s), .v (.bool l), .v (.int .i64 t), .v (.int .i64 w)]], [true], []⟩ => some (true, I t)
  | [.v (.pointer none)], ⟨[], [], []⟩ => some (true, I 0)
  | _, _ => none
theorem gSSta_ok : ∀ xs m r, gSSta xs m = some (true, r) → CallOk Try.prog 50 xs m (.v r) m := by
  intro xs m r h
  unfold gSSta at h
  split at h
  · rename_i s l t w
    obtain ⟨h1, rfl⟩ := some_t h
    refine runOk (Λ := L0) OkG7 Try.func50 rfl (fun z _ _ => noLoops (by kernel_rfl) z) ?_
    exact (runSSta0 s l t w).trans (rfl)
  · obtain ⟨h1, rfl⟩ := some_t h
    refine runOk (Λ := L0) OkG7 Try.func50 rfl (fun z _ _ => noLoops (by kernel_rfl) z) ?_
    exact (runSSta1 ).trans (rfl)
  · cases h
noncomputable def ΓG8 : Orc := addRd 50 gSSta ΓG7
theorem OkG8 : ΓG8.Ok Try.prog := addRd_ok OkG7 gSSta_ok
set_option maxRecDepth 20000 in
theorem runSWis0 (s : Int) (l : Bool) (t w : Int) : runG ΓG8 L0 Try.prog Try.f51 [.ptr 0 0] (SM s l t w) = some (.v (I w), SM s l t w) := by kernel_rfl
set_option maxRecDepth 20000 in
theorem runSWis1  : runG ΓG8 L0 Try.prog Try.f51 [.v (.pointer none)] M0 = some (.v (I 0), M0) := by kernel_rfl
def gSWis (xs : List SV) (m : Mem) : Option (Bool × Value) :=
  match xs, m with
  | [.ptr 0 0], ⟨[[.v (.int .i64 s), .v (.bool l), .v (.int .i64 t), .v (.int .i64 w)]], [true], []⟩ => some (true, I w)
  | [.v (.pointer none)], ⟨[], [], []⟩ => some (true, I 0)
  | _, _ => none
theorem gSWis_ok : ∀ xs m r, gSWis xs m = some (true, r) → CallOk Try.prog 51 xs m (.v r) m := by
  intro xs m r h
  unfold gSWis at h
  split at h
  · rename_i s l t w
    obtain ⟨h1, rfl⟩ := some_t h
    refine runOk (Λ := L0) OkG8 Try.func51 rfl (fun z _ _ => noLoops (by kernel_rfl) z) ?_
    exact (runSWis0 s l t w).trans (rfl)
  · obtain ⟨h1, rfl⟩ := some_t h
    refine runOk (Λ := L0) OkG8 Try.func51 rfl (fun z _ _ => noLoops (by kernel_rfl) z) ?_
    exact (runSWis1 ).trans (rfl)
  · cases h
noncomputable def ΓG9 : Orc := addRd 51 gSWis ΓG8
theorem OkG9 : ΓG9.Ok Try.prog := addRd_ok OkG8 gSWis_ok
set_option maxRecDepth 20000 in
theorem runSLoc0 (s : Int) (l : Bool) (t w : Int) : runG ΓG9 L0 Try.prog Try.f53 [.ptr 0 0] (SM s l t w) = some (.v (Bo l), SM s l t w) := by kernel_rfl
set_option maxRecDepth 20000 in
theorem runSLoc1  : runG ΓG9 L0 Try.prog Try.f53 [.v (.pointer none)] M0 = some (.v (Bo true), M0) := by kernel_rfl
def gSLoc (xs : List SV) (m : Mem) : Option (Bool × Value) :=
  match xs, m with
  | [.ptr 0 0], ⟨[[.v (.int .i64 s), .v (.bool l), .v (.int .i64 t), .v (.int .i64 w)]], [true], []⟩ => some (true, Bo l)
  | [.v (.pointer none)], ⟨[], [], []⟩ => some (true, Bo true)
  | _, _ => none
theorem gSLoc_ok : ∀ xs m r, gSLoc xs m = some (true, r) → CallOk Try.prog 53 xs m (.v r) m := by
  intro xs m r h
  unfold gSLoc at h
  split at h
  · rename_i s l t w
    obtain ⟨h1, rfl⟩ := some_t h
    refine runOk (Λ := L0) OkG9 Try.func53 rfl (fun z _ _ => noLoops (by kernel_rfl) z) ?_
    exact (runSLoc0 s l t w).trans (rfl)
  · obtain ⟨h1, rfl⟩ := some_t h
    refine runOk (Λ := L0) OkG9 Try.func53 rfl (fun z _ _ => noLoops (by kernel_rfl) z) ?_
    exact (runSLoc1 ).trans (rfl)
  · cases h
noncomputable def ΓG10 : Orc := addRd 53 gSLoc ΓG9
theorem OkG10 : ΓG10.Ok Try.prog := addRd_ok OkG9 gSLoc_ok
set_option maxRecDepth 20000 in
theorem runSSet0 (n : Int) (s : Int) (l : Bool) (t w : Int) : runG ΓG10 L0 Try.prog Try.f54 [.ptr 0 0, .v (I n)] (SM s l t w) = 
    (bif l then some (.v (Bo false), ⟨[[.v (I s), .v (Bo l), .v (I t), .v (I w)]], [true], []⟩) else (bif decide (n < (0 : Int)) then some (.v (Bo false), ⟨[[.v (I s), .v (Bo l), .v (I t), .v (I w)]], [true], []⟩) else (bif decide (n > (2 : Int)) then some (.v (Bo false), ⟨[[.v (I s), .v (Bo l), .v (I t), .v (I w)]], [true], []⟩) else some (.v (Bo true), ⟨[[.v (I s), .v (Bo l), .v (I n), .v (I 0)]], [true], []⟩)))) := by kernel_rfl
set_option maxRecDepth 20000 in
theorem runSSet1 (n : Int) : runG ΓG10 L0 Try.prog Try.f54 [.v (.pointer none), .v (I n)] M0 = some (.v (Bo false), M0) := by kernel_rfl
def gSSet (xs : List SV) (m : Mem) : Option (Bool × SV × Mem) :=
  match xs, m with
  | [.ptr 0 0, .v (.int .i64 n)], ⟨[[.v (.int .i64 s), .v (.bool l), .v (.int .i64 t), .v (.int .i64 w)]], [true], []⟩ => some (true, .v (Bo (setB l n)), SM s l (bif setB l n then n else t) (bif setB l n then 0 else w))
  | [.v (.pointer none), .v (.int .i64 n)], ⟨[], [], []⟩ => some (true, .v (Bo false), M0)
  | _, _ => none
theorem gSSet_ok : ∀ xs m r m', gSSet xs m = some (true, r, m') → CallOk Try.prog 54 xs m r m' := by
  intro xs m r m' h
  unfold gSSet at h
  split at h
  · rename_i n s l t w
    obtain ⟨h1, rfl, rfl⟩ := some_t2 h
    refine runOk (Λ := L0) OkG10 Try.func54 rfl (fun z _ _ => noLoops (by kernel_rfl) z) ?_
    exact (runSSet0 n s l t w).trans (by unfold setB; cases l <;> cases decide (n < 0) <;> cases decide (n > 2) <;> rfl)
  · rename_i n
    obtain ⟨h1, rfl, rfl⟩ := some_t2 h
    refine runOk (Λ := L0) OkG10 Try.func54 rfl (fun z _ _ => noLoops (by kernel_rfl) z) ?_
    exact (runSSet1 n).trans (rfl)
  · cases h
noncomputable def ΓG11 : Orc := addCl 54 gSSet ΓG10
theorem OkG11 : ΓG11.Ok Try.prog := addCl_ok OkG10 gSSet_ok
set_option maxRecDepth 20000 in
theorem runSNew0 (s : Int) (l : Bool) : runG ΓG11 L0 Try.prog Try.f45 [.v (I s), .v (Bo l)] M0 = some (.ptr 0 0, SM s l 0 0) := by kernel_rfl
def gSNew (xs : List SV) (m : Mem) : Option (Bool × SV × Mem) :=
  match xs, m with
  | [.v (.int .i64 s), .v (.bool l)], ⟨[], [], []⟩ => some (true, .ptr 0 0, SM s l 0 0)
  | _, _ => none
theorem gSNew_ok : ∀ xs m r m', gSNew xs m = some (true, r, m') → CallOk Try.prog 45 xs m r m' := by
  intro xs m r m' h
  unfold gSNew at h
  split at h
  · rename_i s l
    obtain ⟨h1, rfl, rfl⟩ := some_t2 h
    refine runOk (Λ := L0) OkG11 Try.func45 rfl (fun z _ _ => noLoops (by kernel_rfl) z) ?_
    exact (runSNew0 s l).trans (rfl)
  · cases h
noncomputable def ΓG12 : Orc := addCl 45 gSNew ΓG11
theorem OkG12 : ΓG12.Ok Try.prog := addCl_ok OkG11 gSNew_ok
set_option maxRecDepth 20000 in
theorem runRWis0 (s t : Int) (l a f : Bool) : runG ΓG12 L0 Try.prog Try.f52 [.ptr 0 0] (RSM s t l a f) = 
    (bif a then (bif f then some (.v (I 3), ⟨[[.v (I s), .v (I t), .v (Bo l), .v (Bo a), .v (Bo f)]], [true], []⟩) else some (.v (I 1), ⟨[[.v (I s), .v (I t), .v (Bo l), .v (Bo a), .v (Bo f)]], [true], []⟩)) else (bif f then some (.v (I 2), ⟨[[.v (I s), .v (I t), .v (Bo l), .v (Bo a), .v (Bo f)]], [true], []⟩) else some (.v (I 0), ⟨[[.v (I s), .v (I t), .v (Bo l), .v (Bo a), .v (Bo f)]], [true], []⟩))) := by kernel_rfl
def gRWis (xs : List SV) (m : Mem) : Option (Bool × Value) :=
  match xs, m with
  | [.ptr 0 0], ⟨[[.v (.int .i64 s), .v (.int .i64 t), .v (.bool l), .v (.bool a), .v (.bool f)]], [true], []⟩ => some (true, I ((bif a then 1 else 0) + (bif f then 2 else 0)))
  | _, _ => none
theorem gRWis_ok : ∀ xs m r, gRWis xs m = some (true, r) → CallOk Try.prog 52 xs m (.v r) m := by
  intro xs m r h
  unfold gRWis at h
  split at h
  · rename_i s t l a f
    obtain ⟨h1, rfl⟩ := some_t h
    refine runOk (Λ := L0) OkG12 Try.func52 rfl (fun z _ _ => noLoops (by kernel_rfl) z) ?_
    exact (runRWis0 s t l a f).trans (by cases a <;> cases f <;> rfl)
  · cases h
noncomputable def ΓG13 : Orc := addRd 52 gRWis ΓG12
theorem OkG13 : ΓG13.Ok Try.prog := addRd_ok OkG12 gRWis_ok
set_option maxRecDepth 20000 in
theorem runRCx (c : Int) (he : Bool) (ps pw : Int) (fl fi : Bool) (ph : Int) (s t : Int) (a f : Bool) : runG ΓG13 L0 Try.prog Try.f48 [.ptr 0 0, .v (.agg #[I c, Bo he, I ps, I pw, Bo fl, Bo fi, I ph])] (RSM s t false a f) = 
    (bif c == (1 : Int) then (bif t == (0 : Int) then (bif he then (bif pw.tmod (2 : Int) == (1 : Int) then (bif (1 : Int) != t then some (.v (I 1), ⟨[[.v (I s), .v (I 1), .v (Bo false), .v (Bo false), .v (Bo false)]], [true], []⟩) else some (.v (I 1), ⟨[[.v (I s), .v (I 1), .v (Bo false), .v (Bo true), .v (Bo false)]], [true], []⟩)) else (bif decide (ps ≥ (1 : Int)) then (bif (1 : Int) != t then some (.v (I 1), ⟨[[.v (I s), .v (I 1), .v (Bo false), .v (Bo false), .v (Bo false)]], [true], []⟩) else some (.v (I 1), ⟨[[.v (I s), .v (I 1), .v (Bo false), .v (Bo true), .v (Bo false)]], [true], []⟩)) else (bif t != t then some (.v (I t), ⟨[[.v (I s), .v (I t), .v (Bo false), .v (Bo false), .v (Bo false)]], [true], []⟩) else (bif t == (2 : Int) then some (.v (I t), ⟨[[.v (I s), .v (I t), .v (Bo false), .v (Bo false), .v (Bo false)]], [true], []⟩) else some (.v (I t), ⟨[[.v (I s), .v (I t), .v (Bo false), .v (Bo true), .v (Bo false)]], [true], []⟩))))) else (bif t != t then some (.v (I t), ⟨[[.v (I s), .v (I t), .v (Bo false), .v (Bo false), .v (Bo false)]], [true], []⟩) else (bif t == (2 : Int) then some (.v (I t), ⟨[[.v (I s), .v (I t), .v (Bo false), .v (Bo false), .v (Bo false)]], [true], []⟩) else some (.v (I t), ⟨[[.v (I s), .v (I t), .v (Bo false), .v (Bo true), .v (Bo false)]], [true], []⟩)))) else (bif t == (1 : Int) then (bif c == (3 : Int) then (bif (2 : Int) != t then some (.v (I 2), ⟨[[.v (I s), .v (I 2), .v (Bo false), .v (Bo false), .v (Bo false)]], [true], []⟩) else some (.v (I 2), ⟨[[.v (I s), .v (I 2), .v (Bo false), .v (Bo false), .v (Bo false)]], [true], []⟩)) else (bif fi then (bif (2 : Int) != t then some (.v (I 2), ⟨[[.v (I s), .v (I 2), .v (Bo false), .v (Bo false), .v (Bo false)]], [true], []⟩) else some (.v (I 2), ⟨[[.v (I s), .v (I 2), .v (Bo false), .v (Bo false), .v (Bo false)]], [true], []⟩)) else (bif t != t then some (.v (I t), ⟨[[.v (I s), .v (I t), .v (Bo false), .v (Bo false), .v (Bo false)]], [true], []⟩) else (bif t == (2 : Int) then some (.v (I t), ⟨[[.v (I s), .v (I t), .v (Bo false), .v (Bo false), .v (Bo false)]], [true], []⟩) else some (.v (I t), ⟨[[.v (I s), .v (I t), .v (Bo false), .v (Bo false), .v (Bo false)]], [true], []⟩))))) else (bif t != t then some (.v (I t), ⟨[[.v (I s), .v (I t), .v (Bo false), .v (Bo false), .v (Bo false)]], [true], []⟩) else (bif t == (2 : Int) then some (.v (I t), ⟨[[.v (I s), .v (I t), .v (Bo false), .v (Bo false), .v (Bo false)]], [true], []⟩) else some (.v (I t), ⟨[[.v (I s), .v (I t), .v (Bo false), .v (Bo true), .v (Bo false)]], [true], []⟩))))) else (bif c == (2 : Int) then (bif t == (0 : Int) then (bif t != t then some (.v (I t), ⟨[[.v (I s), .v (I t), .v (Bo false), .v (Bo false), .v (Bo false)]], [true], []⟩) else (bif t == (2 : Int) then some (.v (I t), ⟨[[.v (I s), .v (I t), .v (Bo false), .v (Bo false), .v (Bo false)]], [true], []⟩) else some (.v (I t), ⟨[[.v (I s), .v (I t), .v (Bo false), .v (Bo false), .v (Bo false)]], [true], []⟩))) else (bif t == (1 : Int) then (bif c == (3 : Int) then (bif (2 : Int) != t then some (.v (I 2), ⟨[[.v (I s), .v (I 2), .v (Bo false), .v (Bo false), .v (Bo false)]], [true], []⟩) else some (.v (I 2), ⟨[[.v (I s), .v (I 2), .v (Bo false), .v (Bo false), .v (Bo false)]], [true], []⟩)) else (bif fi then (bif (2 : Int) != t then some (.v (I 2), ⟨[[.v (I s), .v (I 2), .v (Bo false), .v (Bo false), .v (Bo false)]], [true], []⟩) else some (.v (I 2), ⟨[[.v (I s), .v (I 2), .v (Bo false), .v (Bo false), .v (Bo false)]], [true], []⟩)) else (bif fl then (bif decide (ph < s) then (bif t != t then some (.v (I t), ⟨[[.v (I s), .v (I t), .v (Bo false), .v (Bo false), .v (Bo false)]], [true], []⟩) else (bif t == (2 : Int) then some (.v (I t), ⟨[[.v (I s), .v (I t), .v (Bo false), .v (Bo false), .v (Bo false)]], [true], []⟩) else some (.v (I t), ⟨[[.v (I s), .v (I t), .v (Bo false), .v (Bo false), .v (Bo false)]], [true], []⟩))) else (bif he then (bif (wI (pw.tdiv (2 : Int))).tmod (2 : Int) == (1 : Int) then (bif (0 : Int) != t then some (.v (I 0), ⟨[[.v (I s), .v (I 0), .v (Bo false), .v (Bo false), .v (Bo false)]], [true], []⟩) else some (.v (I 0), ⟨[[.v (I s), .v (I 0), .v (Bo false), .v (Bo false), .v (Bo true)]], [true], []⟩)) else (bif ps == (0 : Int) then (bif (0 : Int) != t then some (.v (I 0), ⟨[[.v (I s), .v (I 0), .v (Bo false), .v (Bo false), .v (Bo false)]], [true], []⟩) else some (.v (I 0), ⟨[[.v (I s), .v (I 0), .v (Bo false), .v (Bo false), .v (Bo true)]], [true], []⟩)) else (bif t != t then some (.v (I t), ⟨[[.v (I s), .v (I t), .v (Bo false), .v (Bo false), .v (Bo false)]], [true], []⟩) else (bif t == (2 : Int) then some (.v (I t), ⟨[[.v (I s), .v (I t), .v (Bo false), .v (Bo false), .v (Bo false)]], [true], []⟩) else some (.v (I t), ⟨[[.v (I s), .v (I t), .v (Bo false), .v (Bo false), .v (Bo true)]], [true], []⟩))))) else (bif t != t then some (.v (I t), ⟨[[.v (I s), .v (I t), .v (Bo false), .v (Bo false), .v (Bo false)]], [true], []⟩) else (bif t == (2 : Int) then some (.v (I t), ⟨[[.v (I s), .v (I t), .v (Bo false), .v (Bo false), .v (Bo false)]], [true], []⟩) else some (.v (I t), ⟨[[.v (I s), .v (I t), .v (Bo false), .v (Bo false), .v (Bo true)]], [true], []⟩))))) else (bif he then (bif (wI (pw.tdiv (2 : Int))).tmod (2 : Int) == (1 : Int) then (bif (0 : Int) != t then some (.v (I 0), ⟨[[.v (I s), .v (I 0), .v (Bo false), .v (Bo false), .v (Bo false)]], [true], []⟩) else some (.v (I 0), ⟨[[.v (I s), .v (I 0), .v (Bo false), .v (Bo false), .v (Bo true)]], [true], []⟩)) else (bif ps == (0 : Int) then (bif (0 : Int) != t then some (.v (I 0), ⟨[[.v (I s), .v (I 0), .v (Bo false), .v (Bo false), .v (Bo false)]], [true], []⟩) else some (.v (I 0), ⟨[[.v (I s), .v (I 0), .v (Bo false), .v (Bo false), .v (Bo true)]], [true], []⟩)) else (bif t != t then some (.v (I t), ⟨[[.v (I s), .v (I t), .v (Bo false), .v (Bo false), .v (Bo false)]], [true], []⟩) else (bif t == (2 : Int) then some (.v (I t), ⟨[[.v (I s), .v (I t), .v (Bo false), .v (Bo false), .v (Bo false)]], [true], []⟩) else some (.v (I t), ⟨[[.v (I s), .v (I t), .v (Bo false), .v (Bo false), .v (Bo true)]], [true], []⟩))))) else (bif t != t then some (.v (I t), ⟨[[.v (I s), .v (I t), .v (Bo false), .v (Bo false), .v (Bo false)]], [true], []⟩) else (bif t == (2 : Int) then some (.v (I t), ⟨[[.v (I s), .v (I t), .v (Bo false), .v (Bo false), .v (Bo false)]], [true], []⟩) else some (.v (I t), ⟨[[.v (I s), .v (I t), .v (Bo false), .v (Bo false), .v (Bo true)]], [true], []⟩))))))) else (bif t != t then some (.v (I t), ⟨[[.v (I s), .v (I t), .v (Bo false), .v (Bo false), .v (Bo false)]], [true], []⟩) else (bif t == (2 : Int) then some (.v (I t), ⟨[[.v (I s), .v (I t), .v (Bo false), .v (Bo false), .v (Bo false)]], [true], []⟩) else some (.v (I t), ⟨[[.v (I s), .v (I t), .v (Bo false), .v (Bo false), .v (Bo true)]], [true], []⟩))))) else (bif t == (0 : Int) then (bif a then (bif he then (bif pw.tmod (2 : Int) == (1 : Int) then (bif (1 : Int) != t then some (.v (I 1), ⟨[[.v (I s), .v (I 1), .v (Bo false), .v (Bo false), .v (Bo false)]], [true], []⟩) else some (.v (I 1), ⟨[[.v (I s), .v (I 1), .v (Bo false), .v (Bo a), .v (Bo false)]], [true], []⟩)) else (bif decide (ps ≥ (1 : Int)) then (bif (1 : Int) != t then some (.v (I 1), ⟨[[.v (I s), .v (I 1), .v (Bo false), .v (Bo false), .v (Bo false)]], [true], []⟩) else some (.v (I 1), ⟨[[.v (I s), .v (I 1), .v (Bo false), .v (Bo a), .v (Bo false)]], [true], []⟩)) else (bif t != t then some (.v (I t), ⟨[[.v (I s), .v (I t), .v (Bo false), .v (Bo false), .v (Bo false)]], [true], []⟩) else (bif t == (2 : Int) then some (.v (I t), ⟨[[.v (I s), .v (I t), .v (Bo false), .v (Bo false), .v (Bo false)]], [true], []⟩) else some (.v (I t), ⟨[[.v (I s), .v (I t), .v (Bo false), .v (Bo a), .v (Bo false)]], [true], []⟩))))) else (bif t != t then some (.v (I t), ⟨[[.v (I s), .v (I t), .v (Bo false), .v (Bo false), .v (Bo false)]], [true], []⟩) else (bif t == (2 : Int) then some (.v (I t), ⟨[[.v (I s), .v (I t), .v (Bo false), .v (Bo false), .v (Bo false)]], [true], []⟩) else some (.v (I t), ⟨[[.v (I s), .v (I t), .v (Bo false), .v (Bo a), .v (Bo false)]], [true], []⟩)))) else (bif t != t then some (.v (I t), ⟨[[.v (I s), .v (I t), .v (Bo false), .v (Bo false), .v (Bo false)]], [true], []⟩) else (bif t == (2 : Int) then some (.v (I t), ⟨[[.v (I s), .v (I t), .v (Bo false), .v (Bo false), .v (Bo false)]], [true], []⟩) else some (.v (I t), ⟨[[.v (I s), .v (I t), .v (Bo false), .v (Bo a), .v (Bo false)]], [true], []⟩)))) else (bif t == (1 : Int) then (bif c == (3 : Int) then (bif (2 : Int) != t then some (.v (I 2), ⟨[[.v (I s), .v (I 2), .v (Bo false), .v (Bo false), .v (Bo false)]], [true], []⟩) else some (.v (I 2), ⟨[[.v (I s), .v (I 2), .v (Bo false), .v (Bo false), .v (Bo false)]], [true], []⟩)) else (bif fi then (bif (2 : Int) != t then some (.v (I 2), ⟨[[.v (I s), .v (I 2), .v (Bo false), .v (Bo false), .v (Bo false)]], [true], []⟩) else some (.v (I 2), ⟨[[.v (I s), .v (I 2), .v (Bo false), .v (Bo false), .v (Bo false)]], [true], []⟩)) else (bif f then (bif fl then (bif decide (ph < s) then (bif t != t then some (.v (I t), ⟨[[.v (I s), .v (I t), .v (Bo false), .v (Bo false), .v (Bo false)]], [true], []⟩) else (bif t == (2 : Int) then some (.v (I t), ⟨[[.v (I s), .v (I t), .v (Bo false), .v (Bo false), .v (Bo false)]], [true], []⟩) else some (.v (I t), ⟨[[.v (I s), .v (I t), .v (Bo false), .v (Bo false), .v (Bo false)]], [true], []⟩))) else (bif f then (bif he then (bif (wI (pw.tdiv (2 : Int))).tmod (2 : Int) == (1 : Int) then (bif (0 : Int) != t then some (.v (I 0), ⟨[[.v (I s), .v (I 0), .v (Bo false), .v (Bo false), .v (Bo false)]], [true], []⟩) else some (.v (I 0), ⟨[[.v (I s), .v (I 0), .v (Bo false), .v (Bo false), .v (Bo f)]], [true], []⟩)) else (bif ps == (0 : Int) then (bif (0 : Int) != t then some (.v (I 0), ⟨[[.v (I s), .v (I 0), .v (Bo false), .v (Bo false), .v (Bo false)]], [true], []⟩) else some (.v (I 0), ⟨[[.v (I s), .v (I 0), .v (Bo false), .v (Bo false), .v (Bo f)]], [true], []⟩)) else (bif t != t then some (.v (I t), ⟨[[.v (I s), .v (I t), .v (Bo false), .v (Bo false), .v (Bo false)]], [true], []⟩) else (bif t == (2 : Int) then some (.v (I t), ⟨[[.v (I s), .v (I t), .v (Bo false), .v (Bo false), .v (Bo false)]], [true], []⟩) else some (.v (I t), ⟨[[.v (I s), .v (I t), .v (Bo false), .v (Bo false), .v (Bo f)]], [true], []⟩))))) else (bif t != t then some (.v (I t), ⟨[[.v (I s), .v (I t), .v (Bo false), .v (Bo false), .v (Bo false)]], [true], []⟩) else (bif t == (2 : Int) then some (.v (I t), ⟨[[.v (I s), .v (I t), .v (Bo false), .v (Bo false), .v (Bo false)]], [true], []⟩) else some (.v (I t), ⟨[[.v (I s), .v (I t), .v (Bo false), .v (Bo false), .v (Bo f)]], [true], []⟩)))) else (bif t != t then some (.v (I t), ⟨[[.v (I s), .v (I t), .v (Bo false), .v (Bo false), .v (Bo false)]], [true], []⟩) else (bif t == (2 : Int) then some (.v (I t), ⟨[[.v (I s), .v (I t), .v (Bo false), .v (Bo false), .v (Bo false)]], [true], []⟩) else some (.v (I t), ⟨[[.v (I s), .v (I t), .v (Bo false), .v (Bo false), .v (Bo f)]], [true], []⟩))))) else (bif f then (bif he then (bif (wI (pw.tdiv (2 : Int))).tmod (2 : Int) == (1 : Int) then (bif (0 : Int) != t then some (.v (I 0), ⟨[[.v (I s), .v (I 0), .v (Bo false), .v (Bo false), .v (Bo false)]], [true], []⟩) else some (.v (I 0), ⟨[[.v (I s), .v (I 0), .v (Bo false), .v (Bo false), .v (Bo f)]], [true], []⟩)) else (bif ps == (0 : Int) then (bif (0 : Int) != t then some (.v (I 0), ⟨[[.v (I s), .v (I 0), .v (Bo false), .v (Bo false), .v (Bo false)]], [true], []⟩) else some (.v (I 0), ⟨[[.v (I s), .v (I 0), .v (Bo false), .v (Bo false), .v (Bo f)]], [true], []⟩)) else (bif t != t then some (.v (I t), ⟨[[.v (I s), .v (I t), .v (Bo false), .v (Bo false), .v (Bo false)]], [true], []⟩) else (bif t == (2 : Int) then some (.v (I t), ⟨[[.v (I s), .v (I t), .v (Bo false), .v (Bo false), .v (Bo false)]], [true], []⟩) else some (.v (I t), ⟨[[.v (I s), .v (I t), .v (Bo false), .v (Bo false), .v (Bo f)]], [true], []⟩))))) else (bif t != t then some (.v (I t), ⟨[[.v (I s), .v (I t), .v (Bo false), .v (Bo false), .v (Bo false)]], [true], []⟩) else (bif t == (2 : Int) then some (.v (I t), ⟨[[.v (I s), .v (I t), .v (Bo false), .v (Bo false), .v (Bo false)]], [true], []⟩) else some (.v (I t), ⟨[[.v (I s), .v (I t), .v (Bo false), .v (Bo false), .v (Bo f)]], [true], []⟩)))) else (bif t != t then some (.v (I t), ⟨[[.v (I s), .v (I t), .v (Bo false), .v (Bo false), .v (Bo false)]], [true], []⟩) else (bif t == (2 : Int) then some (.v (I t), ⟨[[.v (I s), .v (I t), .v (Bo false), .v (Bo false), .v (Bo false)]], [true], []⟩) else some (.v (I t), ⟨[[.v (I s), .v (I t), .v (Bo false), .v (Bo false), .v (Bo f)]], [true], []⟩))))) else (bif f then (bif he then (bif (wI (pw.tdiv (2 : Int))).tmod (2 : Int) == (1 : Int) then (bif (0 : Int) != t then some (.v (I 0), ⟨[[.v (I s), .v (I 0), .v (Bo false), .v (Bo false), .v (Bo false)]], [true], []⟩) else some (.v (I 0), ⟨[[.v (I s), .v (I 0), .v (Bo false), .v (Bo false), .v (Bo f)]], [true], []⟩)) else (bif ps == (0 : Int) then (bif (0 : Int) != t then some (.v (I 0), ⟨[[.v (I s), .v (I 0), .v (Bo false), .v (Bo false), .v (Bo false)]], [true], []⟩) else some (.v (I 0), ⟨[[.v (I s), .v (I 0), .v (Bo false), .v (Bo false), .v (Bo f)]], [true], []⟩)) else (bif t != t then some (.v (I t), ⟨[[.v (I s), .v (I t), .v (Bo false), .v (Bo false), .v (Bo false)]], [true], []⟩) else (bif t == (2 : Int) then some (.v (I t), ⟨[[.v (I s), .v (I t), .v (Bo false), .v (Bo false), .v (Bo false)]], [true], []⟩) else some (.v (I t), ⟨[[.v (I s), .v (I t), .v (Bo false), .v (Bo false), .v (Bo f)]], [true], []⟩))))) else (bif t != t then some (.v (I t), ⟨[[.v (I s), .v (I t), .v (Bo false), .v (Bo false), .v (Bo false)]], [true], []⟩) else (bif t == (2 : Int) then some (.v (I t), ⟨[[.v (I s), .v (I t), .v (Bo false), .v (Bo false), .v (Bo false)]], [true], []⟩) else some (.v (I t), ⟨[[.v (I s), .v (I t), .v (Bo false), .v (Bo false), .v (Bo f)]], [true], []⟩)))) else (bif t != t then some (.v (I t), ⟨[[.v (I s), .v (I t), .v (Bo false), .v (Bo false), .v (Bo false)]], [true], []⟩) else (bif t == (2 : Int) then some (.v (I t), ⟨[[.v (I s), .v (I t), .v (Bo false), .v (Bo false), .v (Bo false)]], [true], []⟩) else some (.v (I t), ⟨[[.v (I s), .v (I t), .v (Bo false), .v (Bo false), .v (Bo f)]], [true], []⟩))))))) else (bif t != t then some (.v (I t), ⟨[[.v (I s), .v (I t), .v (Bo false), .v (Bo false), .v (Bo false)]], [true], []⟩) else (bif t == (2 : Int) then some (.v (I t), ⟨[[.v (I s), .v (I t), .v (Bo false), .v (Bo false), .v (Bo false)]], [true], []⟩) else some (.v (I t), ⟨[[.v (I s), .v (I t), .v (Bo false), .v (Bo a), .v (Bo f)]], [true], []⟩))))))) := by kernel_rfl
theorem rcyc_ok (c : Int) (he : Bool) (ps pw : Int) (fl fi : Bool) (ph : Int) (s t : Int) (a f : Bool) : runG ΓG13 L0 Try.prog Try.f48 [.ptr 0 0, .v (.agg #[I c, Bo he, I ps, I pw, Bo fl, Bo fi, I ph])] (RSM s t false a f) = some (.v (I (bif false then 0 else rcT s t false a f c ph fl fi (rarm he ps pw) (rsaf he ps pw))), RSM s (rcT s t false a f c ph fl fi (rarm he ps pw) (rsaf he ps pw)) false (rcA t false a c (rarm he ps pw)) (rcF s t false f c ph fl fi (rsaf he ps pw))) := by
  refine (runRCx c he ps pw fl fi ph s t a f).trans ?_
  unfold rcT rcA rcF a1N f1N rarm rsaf odd1 odd2
  generalize decide (ps ≥ 1) = b1
  generalize (pw.tmod 2 == 1) = b2
  generalize decide (ph < s) = b3
  generalize ((wI (pw.tdiv 2)).tmod 2 == 1) = b4
  generalize (ps == 0) = b5
  by_cases t0 : t = 0
  · subst t0
    by_cases c1 : c = 1
    · subst c1; cases he <;> cases b1 <;> cases b2 <;> rfl
    by_cases c2 : c = 2
    · subst c2; rfl
    rw [beq_eq_false_iff_ne.2 c1, beq_eq_false_iff_ne.2 c2]
    cases a <;> cases he <;> cases b1 <;> cases b2 <;> rfl
  by_cases t1 : t = 1
  · subst t1
    by_cases c1 : c = 1
    · subst c1; cases fi <;> rfl
    by_cases c2 : c = 2
    · subst c2; cases fi <;> cases fl <;> cases b3 <;> cases he <;> cases b4 <;> cases b5 <;> rfl
    rw [beq_eq_false_iff_ne.2 c1, beq_eq_false_iff_ne.2 c2]
    cases c == 3 <;> cases fi <;> cases f <;> cases fl <;> cases b3 <;> cases he <;> cases b4 <;> cases b5 <;> rfl
  by_cases t2 : t = 2
  · subst t2
    by_cases c1 : c = 1
    · subst c1; rfl
    by_cases c2 : c = 2
    · subst c2; rfl
    rw [beq_eq_false_iff_ne.2 c1, beq_eq_false_iff_ne.2 c2]
    rfl
  rw [beq_eq_false_iff_ne.2 t0, beq_eq_false_iff_ne.2 t1, beq_eq_false_iff_ne.2 t2, bne_self_eq_false]
  by_cases c1 : c = 1
  · subst c1; rfl
  by_cases c2 : c = 2
  · subst c2; rfl
  rw [beq_eq_false_iff_ne.2 c1, beq_eq_false_iff_ne.2 c2]
  rfl

set_option maxRecDepth 20000 in
theorem runRCyc0 (c : Int) (he : Bool) (ps pw : Int) (fl fi : Bool) (ph : Int) (s t : Int) (l a f : Bool) : runG ΓG13 L0 Try.prog Try.f48 [.ptr 0 0, .v (.agg #[I c, Bo he, I ps, I pw, Bo fl, Bo fi, I ph])] (RSM s t l a f) = 
    (bif l then some (.v (I 0), ⟨[[.v (I s), .v (I t), .v (Bo l), .v (Bo a), .v (Bo f)]], [true], []⟩) else (bif c == (1 : Int) then (bif t == (0 : Int) then (bif he then (bif pw.tmod (2 : Int) == (1 : Int) then (bif (1 : Int) != t then some (.v (I 1), ⟨[[.v (I s), .v (I 1), .v (Bo l), .v (Bo false), .v (Bo false)]], [true], []⟩) else some (.v (I 1), ⟨[[.v (I s), .v (I 1), .v (Bo l), .v (Bo true), .v (Bo false)]], [true], []⟩)) else (bif decide (ps ≥ (1 : Int)) then (bif (1 : Int) != t then some (.v (I 1), ⟨[[.v (I s), .v (I 1), .v (Bo l), .v (Bo false), .v (Bo false)]], [true], []⟩) else some (.v (I 1), ⟨[[.v (I s), .v (I 1), .v (Bo l), .v (Bo true), .v (Bo false)]], [true], []⟩)) else (bif t != t then some (.v (I t), ⟨[[.v (I s), .v (I t), .v (Bo l), .v (Bo false), .v (Bo false)]], [true], []⟩) else (bif t == (2 : Int) then some (.v (I t), ⟨[[.v (I s), .v (I t), .v (Bo l), .v (Bo false), .v (Bo false)]], [true], []⟩) else some (.v (I t), ⟨[[.v (I s), .v (I t), .v (Bo l), .v (Bo true), .v (Bo false)]], [true], []⟩))))) else (bif t != t then some (.v (I t), ⟨[[.v (I s), .v (I t), .v (Bo l), .v (Bo false), .v (Bo false)]], [true], []⟩) else (bif t == (2 : Int) then some (.v (I t), ⟨[[.v (I s), .v (I t), .v (Bo l), .v (Bo false), .v (Bo false)]], [true], []⟩) else some (.v (I t), ⟨[[.v (I s), .v (I t), .v (Bo l), .v (Bo true), .v (Bo false)]], [true], []⟩)))) else (bif t == (1 : Int) then (bif c == (3 : Int) then (bif (2 : Int) != t then some (.v (I 2), ⟨[[.v (I s), .v (I 2), .v (Bo l), .v (Bo false), .v (Bo false)]], [true], []⟩) else some (.v (I 2), ⟨[[.v (I s), .v (I 2), .v (Bo l), .v (Bo false), .v (Bo false)]], [true], []⟩)) else (bif fi then (bif (2 : Int) != t then some (.v (I 2), ⟨[[.v (I s), .v (I 2), .v (Bo l), .v (Bo false), .v (Bo false)]], [true], []⟩) else some (.v (I 2), ⟨[[.v (I s), .v (I 2), .v (Bo l), .v (Bo false), .v (Bo false)]], [true], []⟩)) else (bif t != t then some (.v (I t), ⟨[[.v (I s), .v (I t), .v (Bo l), .v (Bo false), .v (Bo false)]], [true], []⟩) else (bif t == (2 : Int) then some (.v (I t), ⟨[[.v (I s), .v (I t), .v (Bo l), .v (Bo false), .v (Bo false)]], [true], []⟩) else some (.v (I t), ⟨[[.v (I s), .v (I t), .v (Bo l), .v (Bo false), .v (Bo false)]], [true], []⟩))))) else (bif t != t then some (.v (I t), ⟨[[.v (I s), .v (I t), .v (Bo l), .v (Bo false), .v (Bo false)]], [true], []⟩) else (bif t == (2 : Int) then some (.v (I t), ⟨[[.v (I s), .v (I t), .v (Bo l), .v (Bo false), .v (Bo false)]], [true], []⟩) else some (.v (I t), ⟨[[.v (I s), .v (I t), .v (Bo l), .v (Bo true), .v (Bo false)]], [true], []⟩))))) else (bif c == (2 : Int) then (bif t == (0 : Int) then (bif t != t then some (.v (I t), ⟨[[.v (I s), .v (I t), .v (Bo l), .v (Bo false), .v (Bo false)]], [true], []⟩) else (bif t == (2 : Int) then some (.v (I t), ⟨[[.v (I s), .v (I t), .v (Bo l), .v (Bo false), .v (Bo false)]], [true], []⟩) else some (.v (I t), ⟨[[.v (I s), .v (I t), .v (Bo l), .v (Bo false), .v (Bo false)]], [true], []⟩))) else (bif t == (1 : Int) then (bif c == (3 : Int) then (bif (2 : Int) != t then some (.v (I 2), ⟨[[.v (I s), .v (I 2), .v (Bo l), .v (Bo false), .v (Bo false)]], [true], []⟩) else some (.v (I 2), ⟨[[.v (I s), .v (I 2), .v (Bo l), .v (Bo false), .v (Bo false)]], [true], []⟩)) else (bif fi then (bif (2 : Int) != t then some (.v (I 2), ⟨[[.v (I s), .v (I 2), .v (Bo l), .v (Bo false), .v (Bo false)]], [true], []⟩) else some (.v (I 2), ⟨[[.v (I s), .v (I 2), .v (Bo l), .v (Bo false), .v (Bo false)]], [true], []⟩)) else (bif fl then (bif decide (ph < s) then (bif t != t then some (.v (I t), ⟨[[.v (I s), .v (I t), .v (Bo l), .v (Bo false), .v (Bo false)]], [true], []⟩) else (bif t == (2 : Int) then some (.v (I t), ⟨[[.v (I s), .v (I t), .v (Bo l), .v (Bo false), .v (Bo false)]], [true], []⟩) else some (.v (I t), ⟨[[.v (I s), .v (I t), .v (Bo l), .v (Bo false), .v (Bo false)]], [true], []⟩))) else (bif he then (bif (wI (pw.tdiv (2 : Int))).tmod (2 : Int) == (1 : Int) then (bif (0 : Int) != t then some (.v (I 0), ⟨[[.v (I s), .v (I 0), .v (Bo l), .v (Bo false), .v (Bo false)]], [true], []⟩) else some (.v (I 0), ⟨[[.v (I s), .v (I 0), .v (Bo l), .v (Bo false), .v (Bo true)]], [true], []⟩)) else (bif ps == (0 : Int) then (bif (0 : Int) != t then some (.v (I 0), ⟨[[.v (I s), .v (I 0), .v (Bo l), .v (Bo false), .v (Bo false)]], [true], []⟩) else some (.v (I 0), ⟨[[.v (I s), .v (I 0), .v (Bo l), .v (Bo false), .v (Bo true)]], [true], []⟩)) else (bif t != t then some (.v (I t), ⟨[[.v (I s), .v (I t), .v (Bo l), .v (Bo false), .v (Bo false)]], [true], []⟩) else (bif t == (2 : Int) then some (.v (I t), ⟨[[.v (I s), .v (I t), .v (Bo l), .v (Bo false), .v (Bo false)]], [true], []⟩) else some (.v (I t), ⟨[[.v (I s), .v (I t), .v (Bo l), .v (Bo false), .v (Bo true)]], [true], []⟩))))) else (bif t != t then some (.v (I t), ⟨[[.v (I s), .v (I t), .v (Bo l), .v (Bo false), .v (Bo false)]], [true], []⟩) else (bif t == (2 : Int) then some (.v (I t), ⟨[[.v (I s), .v (I t), .v (Bo l), .v (Bo false), .v (Bo false)]], [true], []⟩) else some (.v (I t), ⟨[[.v (I s), .v (I t), .v (Bo l), .v (Bo false), .v (Bo true)]], [true], []⟩))))) else (bif he then (bif (wI (pw.tdiv (2 : Int))).tmod (2 : Int) == (1 : Int) then (bif (0 : Int) != t then some (.v (I 0), ⟨[[.v (I s), .v (I 0), .v (Bo l), .v (Bo false), .v (Bo false)]], [true], []⟩) else some (.v (I 0), ⟨[[.v (I s), .v (I 0), .v (Bo l), .v (Bo false), .v (Bo true)]], [true], []⟩)) else (bif ps == (0 : Int) then (bif (0 : Int) != t then some (.v (I 0), ⟨[[.v (I s), .v (I 0), .v (Bo l), .v (Bo false), .v (Bo false)]], [true], []⟩) else some (.v (I 0), ⟨[[.v (I s), .v (I 0), .v (Bo l), .v (Bo false), .v (Bo true)]], [true], []⟩)) else (bif t != t then some (.v (I t), ⟨[[.v (I s), .v (I t), .v (Bo l), .v (Bo false), .v (Bo false)]], [true], []⟩) else (bif t == (2 : Int) then some (.v (I t), ⟨[[.v (I s), .v (I t), .v (Bo l), .v (Bo false), .v (Bo false)]], [true], []⟩) else some (.v (I t), ⟨[[.v (I s), .v (I t), .v (Bo l), .v (Bo false), .v (Bo true)]], [true], []⟩))))) else (bif t != t then some (.v (I t), ⟨[[.v (I s), .v (I t), .v (Bo l), .v (Bo false), .v (Bo false)]], [true], []⟩) else (bif t == (2 : Int) then some (.v (I t), ⟨[[.v (I s), .v (I t), .v (Bo l), .v (Bo false), .v (Bo false)]], [true], []⟩) else some (.v (I t), ⟨[[.v (I s), .v (I t), .v (Bo l), .v (Bo false), .v (Bo true)]], [true], []⟩))))))) else (bif t != t then some (.v (I t), ⟨[[.v (I s), .v (I t), .v (Bo l), .v (Bo false), .v (Bo false)]], [true], []⟩) else (bif t == (2 : Int) then some (.v (I t), ⟨[[.v (I s), .v (I t), .v (Bo l), .v (Bo false), .v (Bo false)]], [true], []⟩) else some (.v (I t), ⟨[[.v (I s), .v (I t), .v (Bo l), .v (Bo false), .v (Bo true)]], [true], []⟩))))) else (bif t == (0 : Int) then (bif a then (bif he then (bif pw.tmod (2 : Int) == (1 : Int) then (bif (1 : Int) != t then some (.v (I 1), ⟨[[.v (I s), .v (I 1), .v (Bo l), .v (Bo false), .v (Bo false)]], [true], []⟩) else some (.v (I 1), ⟨[[.v (I s), .v (I 1), .v (Bo l), .v (Bo a), .v (Bo false)]], [true], []⟩)) else (bif decide (ps ≥ (1 : Int)) then (bif (1 : Int) != t then some (.v (I 1), ⟨[[.v (I s), .v (I 1), .v (Bo l), .v (Bo false), .v (Bo false)]], [true], []⟩) else some (.v (I 1), ⟨[[.v (I s), .v (I 1), .v (Bo l), .v (Bo a), .v (Bo false)]], [true], []⟩)) else (bif t != t then some (.v (I t), ⟨[[.v (I s), .v (I t), .v (Bo l), .v (Bo false), .v (Bo false)]], [true], []⟩) else (bif t == (2 : Int) then some (.v (I t), ⟨[[.v (I s), .v (I t), .v (Bo l), .v (Bo false), .v (Bo false)]], [true], []⟩) else some (.v (I t), ⟨[[.v (I s), .v (I t), .v (Bo l), .v (Bo a), .v (Bo false)]], [true], []⟩))))) else (bif t != t then some (.v (I t), ⟨[[.v (I s), .v (I t), .v (Bo l), .v (Bo false), .v (Bo false)]], [true], []⟩) else (bif t == (2 : Int) then some (.v (I t), ⟨[[.v (I s), .v (I t), .v (Bo l), .v (Bo false), .v (Bo false)]], [true], []⟩) else some (.v (I t), ⟨[[.v (I s), .v (I t), .v (Bo l), .v (Bo a), .v (Bo false)]], [true], []⟩)))) else (bif t != t then some (.v (I t), ⟨[[.v (I s), .v (I t), .v (Bo l), .v (Bo false), .v (Bo false)]], [true], []⟩) else (bif t == (2 : Int) then some (.v (I t), ⟨[[.v (I s), .v (I t), .v (Bo l), .v (Bo false), .v (Bo false)]], [true], []⟩) else some (.v (I t), ⟨[[.v (I s), .v (I t), .v (Bo l), .v (Bo a), .v (Bo false)]], [true], []⟩)))) else (bif t == (1 : Int) then (bif c == (3 : Int) then (bif (2 : Int) != t then some (.v (I 2), ⟨[[.v (I s), .v (I 2), .v (Bo l), .v (Bo false), .v (Bo false)]], [true], []⟩) else some (.v (I 2), ⟨[[.v (I s), .v (I 2), .v (Bo l), .v (Bo false), .v (Bo false)]], [true], []⟩)) else (bif fi then (bif (2 : Int) != t then some (.v (I 2), ⟨[[.v (I s), .v (I 2), .v (Bo l), .v (Bo false), .v (Bo false)]], [true], []⟩) else some (.v (I 2), ⟨[[.v (I s), .v (I 2), .v (Bo l), .v (Bo false), .v (Bo false)]], [true], []⟩)) else (bif f then (bif fl then (bif decide (ph < s) then (bif t != t then some (.v (I t), ⟨[[.v (I s), .v (I t), .v (Bo l), .v (Bo false), .v (Bo false)]], [true], []⟩) else (bif t == (2 : Int) then some (.v (I t), ⟨[[.v (I s), .v (I t), .v (Bo l), .v (Bo false), .v (Bo false)]], [true], []⟩) else some (.v (I t), ⟨[[.v (I s), .v (I t), .v (Bo l), .v (Bo false), .v (Bo false)]], [true], []⟩))) else (bif f then (bif he then (bif (wI (pw.tdiv (2 : Int))).tmod (2 : Int) == (1 : Int) then (bif (0 : Int) != t then some (.v (I 0), ⟨[[.v (I s), .v (I 0), .v (Bo l), .v (Bo false), .v (Bo false)]], [true], []⟩) else some (.v (I 0), ⟨[[.v (I s), .v (I 0), .v (Bo l), .v (Bo false), .v (Bo f)]], [true], []⟩)) else (bif ps == (0 : Int) then (bif (0 : Int) != t then some (.v (I 0), ⟨[[.v (I s), .v (I 0), .v (Bo l), .v (Bo false), .v (Bo false)]], [true], []⟩) else some (.v (I 0), ⟨[[.v (I s), .v (I 0), .v (Bo l), .v (Bo false), .v (Bo f)]], [true], []⟩)) else (bif t != t then some (.v (I t), ⟨[[.v (I s), .v (I t), .v (Bo l), .v (Bo false), .v (Bo false)]], [true], []⟩) else (bif t == (2 : Int) then some (.v (I t), ⟨[[.v (I s), .v (I t), .v (Bo l), .v (Bo false), .v (Bo false)]], [true], []⟩) else some (.v (I t), ⟨[[.v (I s), .v (I t), .v (Bo l), .v (Bo false), .v (Bo f)]], [true], []⟩))))) else (bif t != t then some (.v (I t), ⟨[[.v (I s), .v (I t), .v (Bo l), .v (Bo false), .v (Bo false)]], [true], []⟩) else (bif t == (2 : Int) then some (.v (I t), ⟨[[.v (I s), .v (I t), .v (Bo l), .v (Bo false), .v (Bo false)]], [true], []⟩) else some (.v (I t), ⟨[[.v (I s), .v (I t), .v (Bo l), .v (Bo false), .v (Bo f)]], [true], []⟩)))) else (bif t != t then some (.v (I t), ⟨[[.v (I s), .v (I t), .v (Bo l), .v (Bo false), .v (Bo false)]], [true], []⟩) else (bif t == (2 : Int) then some (.v (I t), ⟨[[.v (I s), .v (I t), .v (Bo l), .v (Bo false), .v (Bo false)]], [true], []⟩) else some (.v (I t), ⟨[[.v (I s), .v (I t), .v (Bo l), .v (Bo false), .v (Bo f)]], [true], []⟩))))) else (bif f then (bif he then (bif (wI (pw.tdiv (2 : Int))).tmod (2 : Int) == (1 : Int) then (bif (0 : Int) != t then some (.v (I 0), ⟨[[.v (I s), .v (I 0), .v (Bo l), .v (Bo false), .v (Bo false)]], [true], []⟩) else some (.v (I 0), ⟨[[.v (I s), .v (I 0), .v (Bo l), .v (Bo false), .v (Bo f)]], [true], []⟩)) else (bif ps == (0 : Int) then (bif (0 : Int) != t then some (.v (I 0), ⟨[[.v (I s), .v (I 0), .v (Bo l), .v (Bo false), .v (Bo false)]], [true], []⟩) else some (.v (I 0), ⟨[[.v (I s), .v (I 0), .v (Bo l), .v (Bo false), .v (Bo f)]], [true], []⟩)) else (bif t != t then some (.v (I t), ⟨[[.v (I s), .v (I t), .v (Bo l), .v (Bo false), .v (Bo false)]], [true], []⟩) else (bif t == (2 : Int) then some (.v (I t), ⟨[[.v (I s), .v (I t), .v (Bo l), .v (Bo false), .v (Bo false)]], [true], []⟩) else some (.v (I t), ⟨[[.v (I s), .v (I t), .v (Bo l), .v (Bo false), .v (Bo f)]], [true], []⟩))))) else (bif t != t then some (.v (I t), ⟨[[.v (I s), .v (I t), .v (Bo l), .v (Bo false), .v (Bo false)]], [true], []⟩) else (bif t == (2 : Int) then some (.v (I t), ⟨[[.v (I s), .v (I t), .v (Bo l), .v (Bo false), .v (Bo false)]], [true], []⟩) else some (.v (I t), ⟨[[.v (I s), .v (I t), .v (Bo l), .v (Bo false), .v (Bo f)]], [true], []⟩)))) else (bif t != t then some (.v (I t), ⟨[[.v (I s), .v (I t), .v (Bo l), .v (Bo false), .v (Bo false)]], [true], []⟩) else (bif t == (2 : Int) then some (.v (I t), ⟨[[.v (I s), .v (I t), .v (Bo l), .v (Bo false), .v (Bo false)]], [true], []⟩) else some (.v (I t), ⟨[[.v (I s), .v (I t), .v (Bo l), .v (Bo false), .v (Bo f)]], [true], []⟩))))) else (bif f then (bif he then (bif (wI (pw.tdiv (2 : Int))).tmod (2 : Int) == (1 : Int) then (bif (0 : Int) != t then some (.v (I 0), ⟨[[.v (I s), .v (I 0), .v (Bo l), .v (Bo false), .v (Bo false)]], [true], []⟩) else some (.v (I 0), ⟨[[.v (I s), .v (I 0), .v (Bo l), .v (Bo false), .v (Bo f)]], [true], []⟩)) else (bif ps == (0 : Int) then (bif (0 : Int) != t then some (.v (I 0), ⟨[[.v (I s), .v (I 0), .v (Bo l), .v (Bo false), .v (Bo false)]], [true], []⟩) else some (.v (I 0), ⟨[[.v (I s), .v (I 0), .v (Bo l), .v (Bo false), .v (Bo f)]], [true], []⟩)) else (bif t != t then some (.v (I t), ⟨[[.v (I s), .v (I t), .v (Bo l), .v (Bo false), .v (Bo false)]], [true], []⟩) else (bif t == (2 : Int) then some (.v (I t), ⟨[[.v (I s), .v (I t), .v (Bo l), .v (Bo false), .v (Bo false)]], [true], []⟩) else some (.v (I t), ⟨[[.v (I s), .v (I t), .v (Bo l), .v (Bo false), .v (Bo f)]], [true], []⟩))))) else (bif t != t then some (.v (I t), ⟨[[.v (I s), .v (I t), .v (Bo l), .v (Bo false), .v (Bo false)]], [true], []⟩) else (bif t == (2 : Int) then some (.v (I t), ⟨[[.v (I s), .v (I t), .v (Bo l), .v (Bo false), .v (Bo false)]], [true], []⟩) else some (.v (I t), ⟨[[.v (I s), .v (I t), .v (Bo l), .v (Bo false), .v (Bo f)]], [true], []⟩)))) else (bif t != t then some (.v (I t), ⟨[[.v (I s), .v (I t), .v (Bo l), .v (Bo false), .v (Bo false)]], [true], []⟩) else (bif t == (2 : Int) then some (.v (I t), ⟨[[.v (I s), .v (I t), .v (Bo l), .v (Bo false), .v (Bo false)]], [true], []⟩) else some (.v (I t), ⟨[[.v (I s), .v (I t), .v (Bo l), .v (Bo false), .v (Bo f)]], [true], []⟩))))))) else (bif t != t then some (.v (I t), ⟨[[.v (I s), .v (I t), .v (Bo l), .v (Bo false), .v (Bo false)]], [true], []⟩) else (bif t == (2 : Int) then some (.v (I t), ⟨[[.v (I s), .v (I t), .v (Bo l), .v (Bo false), .v (Bo false)]], [true], []⟩) else some (.v (I t), ⟨[[.v (I s), .v (I t), .v (Bo l), .v (Bo a), .v (Bo f)]], [true], []⟩)))))))) := by kernel_rfl
def gRCyc (xs : List SV) (m : Mem) : Option (Bool × SV × Mem) :=
  match xs, m with
  | [.ptr 0 0, .v (.agg ⟨[.int .i64 c, .bool he, .int .i64 ps, .int .i64 pw, .bool fl, .bool fi, .int .i64 ph]⟩)], ⟨[[.v (.int .i64 s), .v (.int .i64 t), .v (.bool l), .v (.bool a), .v (.bool f)]], [true], []⟩ => some (true, .v (I (bif l then 0 else rcT s t l a f c ph fl fi (rarm he ps pw) (rsaf he ps pw))), RSM s (rcT s t l a f c ph fl fi (rarm he ps pw) (rsaf he ps pw)) l (rcA t l a c (rarm he ps pw)) (rcF s t l f c ph fl fi (rsaf he ps pw)))
  | _, _ => none
theorem gRCyc_ok : ∀ xs m r m', gRCyc xs m = some (true, r, m') → CallOk Try.prog 48 xs m r m' := by
  intro xs m r m' h
  unfold gRCyc at h
  split at h
  · rename_i c he ps pw fl fi ph s t l a f
    obtain ⟨h1, rfl, rfl⟩ := some_t2 h
    refine runOk (Λ := L0) OkG13 Try.func48 rfl (fun z _ _ => noLoops (by kernel_rfl) z) ?_
    exact (runRCyc0 c he ps pw fl fi ph s t l a f).trans (by
      cases l with
      | true => rfl
      | false => exact (runRCyc0 c he ps pw fl fi ph s t false a f).symm.trans (rcyc_ok c he ps pw fl fi ph s t a f))
  · cases h
noncomputable def ΓG14 : Orc := addCl 48 gRCyc ΓG13
theorem OkG14 : ΓG14.Ok Try.prog := addCl_ok OkG13 gRCyc_ok
set_option maxRecDepth 20000 in
theorem runSLike (c : Int) (he : Bool) (pc pp ps pw : Int) (fl fi : Bool) (ph : Int) : runG ΓG14 L0 Try.prog Try.f49 [.v (.agg #[I c, Bo he, I pc, I pp, I ps, I pw, Bo fl, Bo fi, I ph])] M0 = 
    some (.v (.agg #[(I c), (Bo he), (I ps), (I pw), (Bo fl), (Bo fi), (I ph)]), M0) := by kernel_rfl
def gSLike (vs : List Value) : Option (Bool × Value) :=
  match vs with
  | [.agg ⟨[.int .i64 c, .bool he, .int .i64 pc, .int .i64 pp, .int .i64 ps, .int .i64 pw, .bool fl, .bool fi, .int .i64 ph]⟩] => some (true, Value.agg #[I c, Bo he, I ps, I pw, Bo fl, Bo fi, I ph])
  | _ => none
theorem gSLike_ok : ∀ vs r, gSLike vs = some (true, r) → ∀ m, CallOk Try.prog 49 (vs.map .v) m (.v r) m := by
  intro vs r h
  unfold gSLike at h
  split at h
  · rename_i c he pc pp ps pw fl fi ph
    obtain ⟨h1, rfl⟩ := some_t h
    refine runV (vs := [.agg #[I c, Bo he, I pc, I pp, I ps, I pw, Bo fl, Bo fi, I ph]]) (Λ := L0) (m' := M0) OkG14 Try.func49 rfl (fun z _ _ => noLoops (by kernel_rfl) z) ?_
    exact (runSLike c he pc pp ps pw fl fi ph).trans (rfl)
  · cases h
noncomputable def ΓG15 : Orc := addVal 49 gSLike ΓG14
theorem OkG15 : ΓG15.Ok Try.prog := addVal_ok OkG14 gSLike_ok
set_option maxRecDepth 20000 in
theorem runSRight (c : Int) (he : Bool) (pc pp ps pw : Int) (fl fi : Bool) (ph : Int) : runG ΓG15 L0 Try.prog Try.f46 [.v (.agg #[I c, Bo he, I pc, I pp, I ps, I pw, Bo fl, Bo fi, I ph])] M0 = 
    (bif decide (ps ≥ (0 : Int)) then (bif decide (ps ≤ (2 : Int)) then (bif decide (pw ≥ (0 : Int)) then some (.v (Bo (decide (pw ≤ (15 : Int)))), M0) else some (.v (Bo false), M0)) else some (.v (Bo false), M0)) else some (.v (Bo false), M0)) := by kernel_rfl
def gSRight (vs : List Value) : Option (Bool × Value) :=
  match vs with
  | [.agg ⟨[.int .i64 c, .bool he, .int .i64 pc, .int .i64 pp, .int .i64 ps, .int .i64 pw, .bool fl, .bool fi, .int .i64 ph]⟩] => some (true, Bo (rgt ps pw))
  | _ => none
theorem gSRight_ok : ∀ vs r, gSRight vs = some (true, r) → ∀ m, CallOk Try.prog 46 (vs.map .v) m (.v r) m := by
  intro vs r h
  unfold gSRight at h
  split at h
  · rename_i c he pc pp ps pw fl fi ph
    obtain ⟨h1, rfl⟩ := some_t h
    refine runV (vs := [.agg #[I c, Bo he, I pc, I pp, I ps, I pw, Bo fl, Bo fi, I ph]]) (Λ := L0) (m' := M0) OkG15 Try.func46 rfl (fun z _ _ => noLoops (by kernel_rfl) z) ?_
    exact (runSRight c he pc pp ps pw fl fi ph).trans (by unfold rgt; cases decide (ps ≥ 0) <;> cases decide (ps ≤ 2) <;> cases decide (pw ≥ 0) <;> rfl)
  · cases h
noncomputable def ΓG16 : Orc := addVal 46 gSRight ΓG15
theorem OkG16 : ΓG16.Ok Try.prog := addVal_ok OkG15 gSRight_ok
noncomputable def ΓS0 : Orc := ΓG16
theorem OkS0 : ΓS0.Ok Try.prog := OkG16
end Go.Proofs.Ytnelbjbphkfkkaa

namespace Go.Proofs.Ytnelbjbphkfkkaa
open Go Go.Proofs Go.Sx
noncomputable def Γx22 : Orc := exec Try.prog ΓS0.call ΓS0.rd ΓS0.eqv (fun _ => false) 30 3
theorem Okx22 : Γx22.Ok Try.prog := exec_ok mixed names (ext := ΓS0.call) (rd := ΓS0.rd) (eqv := ΓS0.eqv) ⟨OkS0.call, OkS0.rd, OkS0.eqv⟩ 30 3
set_option maxRecDepth 100000 in
theorem runAwake22 : runG Γx22 (loopX Γx22 Try.prog 30 2) Try.prog Try.f44 [] M0 = some (.v (Bo true), M0) := by kernel_rfl
def gAwake22 (vs : List Value) : Option (Bool × Value) :=
  match vs with
  | [] => some (true, Bo true)
  | _ => none
theorem gAwake22_ok : ∀ vs r, gAwake22 vs = some (true, r) → ∀ m, CallOk Try.prog 44 (vs.map .v) m (.v r) m := by
  intro vs r h
  unfold gAwake22 at h
  split at h
  · obtain ⟨_, rfl⟩ := some_t h
    exact runV (vs := []) Okx22 Try.func44 rfl (fun z _ _ b hb => loopX_ok Okx22 mixed 30 2 b) runAwake22
  · cases h
noncomputable def ΓSq : Orc := addVal 44 gAwake22 ΓS0
theorem OkSq : ΓSq.Ok Try.prog := addVal_ok OkS0 gAwake22_ok
end Go.Proofs.Ytnelbjbphkfkkaa

namespace Go.Proofs.Ytnelbjbphkfkkaa
open Go Go.Proofs Go.Sx
set_option linter.unusedVariables false
/-! norm -/
/-! cast -/
/-! rep ((L.getD k.toNat []).headD (Dat.n (0 : Int))).toI => (gC L k) -/
/-! rep ((L.getD k.toNat []).tail.headD (Dat.n (0 : Int))).toB => (gH L k) -/
/-! rep ((L.getD k.toNat []).tail.tail.tail.tail.headD (Dat.n (0 : Int))).toI => (gPs L k) -/
/-! rep ((L.getD k.toNat []).tail.tail.tail.tail.tail.headD (Dat.n (0 : Int))).toI => (gPw L k) -/
/-! rep ((L.getD k.toNat []).tail.tail.tail.tail.tail.tail.headD (Dat.n (0 : Int))).toB => (gFl L k) -/
/-! rep ((L.getD k.toNat []).tail.tail.tail.tail.tail.tail.tail.headD (Dat.n (0 : Int))).toB => (gFi L k) -/
/-! rep ((L.getD k.toNat []).tail.tail.tail.tail.tail.tail.tail.tail.headD (Dat.n (0 : Int))).toI => (gPh L k) -/
def gC (L : List (List Dat)) (k : Int) : Int := ((L.getD k.toNat []).headD (Dat.n 0)).toI
def gH (L : List (List Dat)) (k : Int) : Bool := ((L.getD k.toNat []).tail.headD (Dat.n 0)).toB
def gPs (L : List (List Dat)) (k : Int) : Int := ((L.getD k.toNat []).tail.tail.tail.tail.headD (Dat.n 0)).toI
def gPw (L : List (List Dat)) (k : Int) : Int := ((L.getD k.toNat []).tail.tail.tail.tail.tail.headD (Dat.n 0)).toI
def gFl (L : List (List Dat)) (k : Int) : Bool := ((L.getD k.toNat []).tail.tail.tail.tail.tail.tail.headD (Dat.n 0)).toB
def gFi (L : List (List Dat)) (k : Int) : Bool := ((L.getD k.toNat []).tail.tail.tail.tail.tail.tail.tail.headD (Dat.n 0)).toB
def gPh (L : List (List Dat)) (k : Int) : Int := ((L.getD k.toNat []).tail.tail.tail.tail.tail.tail.tail.tail.headD (Dat.n 0)).toI
abbrev ksIn : List CK := [.num .i64, .bool, .num .i64, .num .i64, .num .i64, .num .i64, .bool, .bool, .num .i64]
abbrev rI (L : List (List Dat)) (own mark : Bool) : RowS := .live ⟨71, ksIn, L, own, mark⟩
noncomputable def ΓSw : Orc := { ΓSq with sb := true, wr := fun f => Nat.beq f 47 || Nat.beq f 48 }
theorem OkSw : ΓSw.Ok Try.prog := ⟨OkSq.call, OkSq.rd, OkSq.eqv⟩
noncomputable def bdSp : Code := loopAt (Try.f16.body.getD .skip) 0
def SPm (s : Int) (l : Bool) (t w : Int) (rs rt : Int) (rl a f : Bool) (L : List (List Dat)) (own mark : Bool) : Mem := ⟨[[.v (I s), .v (Bo l), .v (I t), .v (I w)], [.v (I rs), .v (I rt), .v (Bo rl), .v (Bo a), .v (Bo f)]], [true, true], [rI L own mark]⟩
def kSp : List Bool := maskOf 66 [1, 7, 8, 26, 27, 28]
def xSp (e : Ex) : List Bool := match e with
  | .exit _ => maskOf 66 []
  | .ret => maskOf 66 [6]
  | .normal => maskOf 66 [1, 7, 8, 26, 27, 28]
def KSp (e : Ex) (st : St) : Option (Ex × St) := some (e, cutC 0 1 (xSp e) st)
set_option maxRecDepth 20000 in
theorem stepSp (lk : Bool) (k s t w rs rt : Int) (l rl a f : Bool) (L : List (List Dat)) (own mark : Bool) (n : Nat) : evLoop ΓSw Try.prog L0 (cutC 0 1 kSp) bdSp (n + 1) (mk kSp [.v (Bo lk), .ptr 0 0, .ptr 1 0, .row 0, .v (I (L.length : Int)), .v (I k)] (SPm s l t w rs rt rl a f L own mark)) KSp =
    (bif decide (k < (L.length : Int)) then (bif decide ((0 : Int) ≤ k) && decide (k < (L.length : Int)) then (bif !rgt (gPs L k) (gPw L k) then some (.ret, mk (xSp .ret) [.v (Bo true)] ⟨[], [], [.live ⟨71, [.num .i64, .bool, .num .i64, .num .i64, .num .i64, .num .i64, .bool, .bool, .num .i64], L, own, mark⟩]⟩) else (same ((bif (bif l then (0 : Int) else cyT s l t w (gC L k) (gPh L k) (gFl L k) (gFi L k) (armB (gH L k) (gPs L k) (gPw L k)) (safB (gH L k) (gPs L k) (gPw L k))) != bif rl then (0 : Int) else rcT rs rt rl a f (gC L k) (gPh L k) (gFl L k) (gFi L k) (rarm (gH L k) (gPs L k) (gPw L k)) (rsaf (gH L k) (gPs L k) (gPw L k)) then some (.ret, mk (xSp .ret) [.v (Bo false)] ⟨[], [], [.live ⟨71, [.num .i64, .bool, .num .i64, .num .i64, .num .i64, .num .i64, .bool, .bool, .num .i64], L, own, mark⟩]⟩) else (bif cyT s l t w (gC L k) (gPh L k) (gFl L k) (gFi L k) (armB (gH L k) (gPs L k) (gPw L k)) (safB (gH L k) (gPs L k) (gPw L k)) != rcT rs rt rl a f (gC L k) (gPh L k) (gFl L k) (gFi L k) (rarm (gH L k) (gPs L k) (gPw L k)) (rsaf (gH L k) (gPs L k) (gPw L k)) then some (.ret, mk (xSp .ret) [.v (Bo false)] ⟨[], [], [.live ⟨71, [.num .i64, .bool, .num .i64, .num .i64, .num .i64, .num .i64, .bool, .bool, .num .i64], L, own, mark⟩]⟩) else (bif cyW s l t w (gC L k) (gPh L k) (gFl L k) (gFi L k) (armB (gH L k) (gPs L k) (gPw L k)) (safB (gH L k) (gPs L k) (gPw L k)) != (bif rcA rt rl a (gC L k) (rarm (gH L k) (gPs L k) (gPw L k)) then (1 : Int) else (0 : Int)) + bif rcF rs rt rl f (gC L k) (gPh L k) (gFl L k) (gFi L k) (rsaf (gH L k) (gPs L k) (gPw L k)) then (2 : Int) else (0 : Int) then some (.ret, mk (xSp .ret) [.v (Bo false)] ⟨[], [], [.live ⟨71, [.num .i64, .bool, .num .i64, .num .i64, .num .i64, .num .i64, .bool, .bool, .num .i64], L, own, mark⟩]⟩) else (bif !l == lk then some (.ret, mk (xSp .ret) [.v (Bo false)] ⟨[], [], [.live ⟨71, [.num .i64, .bool, .num .i64, .num .i64, .num .i64, .num .i64, .bool, .bool, .num .i64], L, own, mark⟩]⟩) else evLoop ΓSw Try.prog L0 (cutC 0 1 kSp) bdSp n (mk kSp [.v (Bo lk), .ptr 0 0, .ptr 1 0, .row 0, .v (I (L.length : Int)), .v (I (wI (k + (1 : Int))))] ⟨[[.v (I s), .v (Bo l), .v (I (cyT s l t w (gC L k) (gPh L k) (gFl L k) (gFi L k) (armB (gH L k) (gPs L k) (gPw L k)) (safB (gH L k) (gPs L k) (gPw L k)))), .v (I (cyW s l t w (gC L k) (gPh L k) (gFl L k) (gFi L k) (armB (gH L k) (gPs L k) (gPw L k)) (safB (gH L k) (gPs L k) (gPw L k))))], [.v (I rs), .v (I (rcT rs rt rl a f (gC L k) (gPh L k) (gFl L k) (gFi L k) (rarm (gH L k) (gPs L k) (gPw L k)) (rsaf (gH L k) (gPs L k) (gPw L k)))), .v (Bo rl), .v (Bo (rcA rt rl a (gC L k) (rarm (gH L k) (gPs L k) (gPw L k)))), .v (Bo (rcF rs rt rl f (gC L k) (gPh L k) (gFl L k) (gFi L k) (rsaf (gH L k) (gPs L k) (gPw L k))))]], [true, true], [.live ⟨71, [.num .i64, .bool, .num .i64, .num .i64, .num .i64, .num .i64, .bool, .bool, .num .i64], L, own, mark⟩]⟩) KSp))))) ((same ((same ((bif (bif l then (0 : Int) else cyT s l t w (gC L k) (gPh L k) (gFl L k) (gFi L k) (armB (gH L k) (gPs L k) (gPw L k)) (safB (gH L k) (gPs L k) (gPw L k))) != bif rl then (0 : Int) else rcT rs rt rl a f (gC L k) (gPh L k) (gFl L k) (gFi L k) (rarm (gH L k) (gPs L k) (gPw L k)) (rsaf (gH L k) (gPs L k) (gPw L k)) then some (.ret, mk (xSp .ret) [.v (Bo false)] ⟨[], [], [.live ⟨71, [.num .i64, .bool, .num .i64, .num .i64, .num .i64, .num .i64, .bool, .bool, .num .i64], L, own, mark⟩]⟩) else (bif cyT s l t w (gC L k) (gPh L k) (gFl L k) (gFi L k) (armB (gH L k) (gPs L k) (gPw L k)) (safB (gH L k) (gPs L k) (gPw L k)) != rcT rs rt rl a f (gC L k) (gPh L k) (gFl L k) (gFi L k) (rarm (gH L k) (gPs L k) (gPw L k)) (rsaf (gH L k) (gPs L k) (gPw L k)) then some (.ret, mk (xSp .ret) [.v (Bo false)] ⟨[], [], [.live ⟨71, [.num .i64, .bool, .num .i64, .num .i64, .num .i64, .num .i64, .bool, .bool, .num .i64], L, own, mark⟩]⟩) else (bif cyW s l t w (gC L k) (gPh L k) (gFl L k) (gFi L k) (armB (gH L k) (gPs L k) (gPw L k)) (safB (gH L k) (gPs L k) (gPw L k)) != (bif rcA rt rl a (gC L k) (rarm (gH L k) (gPs L k) (gPw L k)) then (1 : Int) else (0 : Int)) + bif rcF rs rt rl f (gC L k) (gPh L k) (gFl L k) (gFi L k) (rsaf (gH L k) (gPs L k) (gPw L k)) then (2 : Int) else (0 : Int) then some (.ret, mk (xSp .ret) [.v (Bo false)] ⟨[], [], [.live ⟨71, [.num .i64, .bool, .num .i64, .num .i64, .num .i64, .num .i64, .bool, .bool, .num .i64], L, own, mark⟩]⟩) else (bif !l == lk then some (.ret, mk (xSp .ret) [.v (Bo false)] ⟨[], [], [.live ⟨71, [.num .i64, .bool, .num .i64, .num .i64, .num .i64, .num .i64, .bool, .bool, .num .i64], L, own, mark⟩]⟩) else evLoop ΓSw Try.prog L0 (cutC 0 1 kSp) bdSp n (mk kSp [.v (Bo lk), .ptr 0 0, .ptr 1 0, .row 0, .v (I (L.length : Int)), .v (I (wI (k + (1 : Int))))] ⟨[[.v (I s), .v (Bo l), .v (I (cyT s l t w (gC L k) (gPh L k) (gFl L k) (gFi L k) (armB (gH L k) (gPs L k) (gPw L k)) (safB (gH L k) (gPs L k) (gPw L k)))), .v (I (cyW s l t w (gC L k) (gPh L k) (gFl L k) (gFi L k) (armB (gH L k) (gPs L k) (gPw L k)) (safB (gH L k) (gPs L k) (gPw L k))))], [.v (I rs), .v (I (rcT rs rt rl a f (gC L k) (gPh L k) (gFl L k) (gFi L k) (rarm (gH L k) (gPs L k) (gPw L k)) (rsaf (gH L k) (gPs L k) (gPw L k)))), .v (Bo rl), .v (Bo (rcA rt rl a (gC L k) (rarm (gH L k) (gPs L k) (gPw L k)))), .v (Bo (rcF rs rt rl f (gC L k) (gPh L k) (gFl L k) (gFi L k) (rsaf (gH L k) (gPs L k) (gPw L k))))]], [true, true], [.live ⟨71, [.num .i64, .bool, .num .i64, .num .i64, .num .i64, .num .i64, .bool, .bool, .num .i64], L, own, mark⟩]⟩) KSp))))) ((bif (bif l then (0 : Int) else cyT s l t w (gC L k) (gPh L k) (gFl L k) (gFi L k) (armB (gH L k) (gPs L k) (gPw L k)) (safB (gH L k) (gPs L k) (gPw L k))) != bif rl then (0 : Int) else rcT rs rt rl a f (gC L k) (gPh L k) (gFl L k) (gFi L k) (rarm (gH L k) (gPs L k) (gPw L k)) (rsaf (gH L k) (gPs L k) (gPw L k)) then some (.ret, mk (xSp .ret) [.v (Bo false)] ⟨[], [], [.live ⟨71, [.num .i64, .bool, .num .i64, .num .i64, .num .i64, .num .i64, .bool, .bool, .num .i64], L, own, mark⟩]⟩) else (bif cyT s l t w (gC L k) (gPh L k) (gFl L k) (gFi L k) (armB (gH L k) (gPs L k) (gPw L k)) (safB (gH L k) (gPs L k) (gPw L k)) != rcT rs rt rl a f (gC L k) (gPh L k) (gFl L k) (gFi L k) (rarm (gH L k) (gPs L k) (gPw L k)) (rsaf (gH L k) (gPs L k) (gPw L k)) then some (.ret, mk (xSp .ret) [.v (Bo false)] ⟨[], [], [.live ⟨71, [.num .i64, .bool, .num .i64, .num .i64, .num .i64, .num .i64, .bool, .bool, .num .i64], L, own, mark⟩]⟩) else (bif cyW s l t w (gC L k) (gPh L k) (gFl L k) (gFi L k) (armB (gH L k) (gPs L k) (gPw L k)) (safB (gH L k) (gPs L k) (gPw L k)) != (bif rcA rt rl a (gC L k) (rarm (gH L k) (gPs L k) (gPw L k)) then (1 : Int) else (0 : Int)) + bif rcF rs rt rl f (gC L k) (gPh L k) (gFl L k) (gFi L k) (rsaf (gH L k) (gPs L k) (gPw L k)) then (2 : Int) else (0 : Int) then some (.ret, mk (xSp .ret) [.v (Bo false)] ⟨[], [], [.live ⟨71, [.num .i64, .bool, .num .i64, .num .i64, .num .i64, .num .i64, .bool, .bool, .num .i64], L, own, mark⟩]⟩) else (bif !l == lk then some (.ret, mk (xSp .ret) [.v (Bo false)] ⟨[], [], [.live ⟨71, [.num .i64, .bool, .num .i64, .num .i64, .num .i64, .num .i64, .bool, .bool, .num .i64], L, own, mark⟩]⟩) else evLoop ΓSw Try.prog L0 (cutC 0 1 kSp) bdSp n (mk kSp [.v (Bo lk), .ptr 0 0, .ptr 1 0, .row 0, .v (I (L.length : Int)), .v (I (wI (k + (1 : Int))))] ⟨[[.v (I s), .v (Bo l), .v (I (cyT s l t w (gC L k) (gPh L k) (gFl L k) (gFi L k) (armB (gH L k) (gPs L k) (gPw L k)) (safB (gH L k) (gPs L k) (gPw L k)))), .v (I (cyW s l t w (gC L k) (gPh L k) (gFl L k) (gFi L k) (armB (gH L k) (gPs L k) (gPw L k)) (safB (gH L k) (gPs L k) (gPw L k))))], [.v (I rs), .v (I (rcT rs rt rl a f (gC L k) (gPh L k) (gFl L k) (gFi L k) (rarm (gH L k) (gPs L k) (gPw L k)) (rsaf (gH L k) (gPs L k) (gPw L k)))), .v (Bo rl), .v (Bo (rcA rt rl a (gC L k) (rarm (gH L k) (gPs L k) (gPw L k)))), .v (Bo (rcF rs rt rl f (gC L k) (gPh L k) (gFl L k) (gFi L k) (rsaf (gH L k) (gPs L k) (gPw L k))))]], [true, true], [.live ⟨71, [.num .i64, .bool, .num .i64, .num .i64, .num .i64, .num .i64, .bool, .bool, .num .i64], L, own, mark⟩]⟩) KSp))))))) ((same ((bif (bif l then (0 : Int) else cyT s l t w (gC L k) (gPh L k) (gFl L k) (gFi L k) (armB (gH L k) (gPs L k) (gPw L k)) (safB (gH L k) (gPs L k) (gPw L k))) != bif rl then (0 : Int) else rcT rs rt rl a f (gC L k) (gPh L k) (gFl L k) (gFi L k) (rarm (gH L k) (gPs L k) (gPw L k)) (rsaf (gH L k) (gPs L k) (gPw L k)) then some (.ret, mk (xSp .ret) [.v (Bo false)] ⟨[], [], [.live ⟨71, [.num .i64, .bool, .num .i64, .num .i64, .num .i64, .num .i64, .bool, .bool, .num .i64], L, own, mark⟩]⟩) else (bif cyT s l t w (gC L k) (gPh L k) (gFl L k) (gFi L k) (armB (gH L k) (gPs L k) (gPw L k)) (safB (gH L k) (gPs L k) (gPw L k)) != rcT rs rt rl a f (gC L k) (gPh L k) (gFl L k) (gFi L k) (rarm (gH L k) (gPs L k) (gPw L k)) (rsaf (gH L k) (gPs L k) (gPw L k)) then some (.ret, mk (xSp .ret) [.v (Bo false)] ⟨[], [], [.live ⟨71, [.num .i64, .bool, .num .i64, .num .i64, .num .i64, .num .i64, .bool, .bool, .num .i64], L, own, mark⟩]⟩) else (bif cyW s l t w (gC L k) (gPh L k) (gFl L k) (gFi L k) (armB (gH L k) (gPs L k) (gPw L k)) (safB (gH L k) (gPs L k) (gPw L k)) != (bif rcA rt rl a (gC L k) (rarm (gH L k) (gPs L k) (gPw L k)) then (1 : Int) else (0 : Int)) + bif rcF rs rt rl f (gC L k) (gPh L k) (gFl L k) (gFi L k) (rsaf (gH L k) (gPs L k) (gPw L k)) then (2 : Int) else (0 : Int) then some (.ret, mk (xSp .ret) [.v (Bo false)] ⟨[], [], [.live ⟨71, [.num .i64, .bool, .num .i64, .num .i64, .num .i64, .num .i64, .bool, .bool, .num .i64], L, own, mark⟩]⟩) else (bif !l == lk then some (.ret, mk (xSp .ret) [.v (Bo false)] ⟨[], [], [.live ⟨71, [.num .i64, .bool, .num .i64, .num .i64, .num .i64, .num .i64, .bool, .bool, .num .i64], L, own, mark⟩]⟩) else evLoop ΓSw Try.prog L0 (cutC 0 1 kSp) bdSp n (mk kSp [.v (Bo lk), .ptr 0 0, .ptr 1 0, .row 0, .v (I (L.length : Int)), .v (I (wI (k + (1 : Int))))] ⟨[[.v (I s), .v (Bo l), .v (I (cyT s l t w (gC L k) (gPh L k) (gFl L k) (gFi L k) (armB (gH L k) (gPs L k) (gPw L k)) (safB (gH L k) (gPs L k) (gPw L k)))), .v (I (cyW s l t w (gC L k) (gPh L k) (gFl L k) (gFi L k) (armB (gH L k) (gPs L k) (gPw L k)) (safB (gH L k) (gPs L k) (gPw L k))))], [.v (I rs), .v (I (rcT rs rt rl a f (gC L k) (gPh L k) (gFl L k) (gFi L k) (rarm (gH L k) (gPs L k) (gPw L k)) (rsaf (gH L k) (gPs L k) (gPw L k)))), .v (Bo rl), .v (Bo (rcA rt rl a (gC L k) (rarm (gH L k) (gPs L k) (gPw L k)))), .v (Bo (rcF rs rt rl f (gC L k) (gPh L k) (gFl L k) (gFi L k) (rsaf (gH L k) (gPs L k) (gPw L k))))]], [true, true], [.live ⟨71, [.num .i64, .bool, .num .i64, .num .i64, .num .i64, .num .i64, .bool, .bool, .num .i64], L, own, mark⟩]⟩) KSp))))) ((bif (bif l then (0 : Int) else cyT s l t w (gC L k) (gPh L k) (gFl L k) (gFi L k) (armB (gH L k) (gPs L k) (gPw L k)) (safB (gH L k) (gPs L k) (gPw L k))) != bif rl then (0 : Int) else rcT rs rt rl a f (gC L k) (gPh L k) (gFl L k) (gFi L k) (rarm (gH L k) (gPs L k) (gPw L k)) (rsaf (gH L k) (gPs L k) (gPw L k)) then some (.ret, mk (xSp .ret) [.v (Bo false)] ⟨[], [], [.live ⟨71, [.num .i64, .bool, .num .i64, .num .i64, .num .i64, .num .i64, .bool, .bool, .num .i64], L, own, mark⟩]⟩) else (bif cyT s l t w (gC L k) (gPh L k) (gFl L k) (gFi L k) (armB (gH L k) (gPs L k) (gPw L k)) (safB (gH L k) (gPs L k) (gPw L k)) != rcT rs rt rl a f (gC L k) (gPh L k) (gFl L k) (gFi L k) (rarm (gH L k) (gPs L k) (gPw L k)) (rsaf (gH L k) (gPs L k) (gPw L k)) then some (.ret, mk (xSp .ret) [.v (Bo false)] ⟨[], [], [.live ⟨71, [.num .i64, .bool, .num .i64, .num .i64, .num .i64, .num .i64, .bool, .bool, .num .i64], L, own, mark⟩]⟩) else (bif cyW s l t w (gC L k) (gPh L k) (gFl L k) (gFi L k) (armB (gH L k) (gPs L k) (gPw L k)) (safB (gH L k) (gPs L k) (gPw L k)) != (bif rcA rt rl a (gC L k) (rarm (gH L k) (gPs L k) (gPw L k)) then (1 : Int) else (0 : Int)) + bif rcF rs rt rl f (gC L k) (gPh L k) (gFl L k) (gFi L k) (rsaf (gH L k) (gPs L k) (gPw L k)) then (2 : Int) else (0 : Int) then some (.ret, mk (xSp .ret) [.v (Bo false)] ⟨[], [], [.live ⟨71, [.num .i64, .bool, .num .i64, .num .i64, .num .i64, .num .i64, .bool, .bool, .num .i64], L, own, mark⟩]⟩) else (bif !l == lk then some (.ret, mk (xSp .ret) [.v (Bo false)] ⟨[], [], [.live ⟨71, [.num .i64, .bool, .num .i64, .num .i64, .num .i64, .num .i64, .bool, .bool, .num .i64], L, own, mark⟩]⟩) else evLoop ΓSw Try.prog L0 (cutC 0 1 kSp) bdSp n (mk kSp [.v (Bo lk), .ptr 0 0, .ptr 1 0, .row 0, .v (I (L.length : Int)), .v (I (wI (k + (1 : Int))))] ⟨[[.v (I s), .v (Bo l), .v (I (cyT s l t w (gC L k) (gPh L k) (gFl L k) (gFi L k) (armB (gH L k) (gPs L k) (gPw L k)) (safB (gH L k) (gPs L k) (gPw L k)))), .v (I (cyW s l t w (gC L k) (gPh L k) (gFl L k) (gFi L k) (armB (gH L k) (gPs L k) (gPw L k)) (safB (gH L k) (gPs L k) (gPw L k))))], [.v (I rs), .v (I (rcT rs rt rl a f (gC L k) (gPh L k) (gFl L k) (gFi L k) (rarm (gH L k) (gPs L k) (gPw L k)) (rsaf (gH L k) (gPs L k) (gPw L k)))), .v (Bo rl), .v (Bo (rcA rt rl a (gC L k) (rarm (gH L k) (gPs L k) (gPw L k)))), .v (Bo (rcF rs rt rl f (gC L k) (gPh L k) (gFl L k) (gFi L k) (rsaf (gH L k) (gPs L k) (gPw L k))))]], [true, true], [.live ⟨71, [.num .i64, .bool, .num .i64, .num .i64, .num .i64, .num .i64, .bool, .bool, .num .i64], L, own, mark⟩]⟩) KSp))))))))))) else none) else some ((.exit 0), mk (xSp (.exit 0)) [] ⟨[], [], [.live ⟨71, [.num .i64, .bool, .num .i64, .num .i64, .num .i64, .num .i64, .bool, .bool, .num .i64], L, own, mark⟩]⟩)) := by kernel_rfl
end Go.Proofs.Ytnelbjbphkfkkaa

namespace Go.Proofs.Ytnelbjbphkfkkaa
open Go Go.Proofs Go.Sx
set_option linter.unusedVariables false
theorem bits16 : ∀ p : Fin 16, bitB (p.val : Int) 1 = odd1 (p.val : Int) ∧ bitB (p.val : Int) 2 = odd2 (p.val : Int) := by decide +kernel
theorem rgt_iff {ps pw : Int} : rgt ps pw = true ↔ 0 ≤ ps ∧ ps ≤ 2 ∧ 0 ≤ pw ∧ pw ≤ 15 := by
  unfold rgt
  simp only [Bool.and_eq_true, decide_eq_true_eq]
theorem bits_of {pw : Int} (h0 : 0 ≤ pw) (h1 : pw ≤ 15) : bitB pw 1 = odd1 pw ∧ bitB pw 2 = odd2 pw := by
  obtain ⟨n, rfl⟩ := Int.eq_ofNat_of_zero_le h0
  exact bits16 ⟨n, by omega⟩
theorem rarm_eq {he : Bool} {ps pw : Int} (h : rgt ps pw = true) : rarm he ps pw = armB he ps pw := by
  have h := rgt_iff.1 h
  unfold rarm armB
  rw [(bits_of h.2.2.1 h.2.2.2).1]
  have : decide (ps ≥ 1) = (ps == 1 || ps == 2) := by
    rw [Bool.eq_iff_iff]
    simp only [decide_eq_true_eq, Bool.or_eq_true, beq_iff_eq]
    omega
  rw [this]
theorem rsaf_eq {he : Bool} {ps pw : Int} (h : rgt ps pw = true) : rsaf he ps pw = safB he ps pw := by
  have h := rgt_iff.1 h
  unfold rsaf safB
  rw [(bits_of h.2.2.1 h.2.2.2).2]
/-- A sequencer's states, and wishes. -/
def in3 (t : Int) : Prop := t = 0 ∨ t = 1 ∨ t = 2
set_option maxHeartbeats 4000000 in
theorem cyc_eq (s : Int) (l : Bool) {t w : Int} (ht : in3 t) (hw : in3 w) (c ph : Int) (fl fi A F : Bool) :
    rcT s t l (w == 1) (w == 2) c ph fl fi A F = cyT s l t w c ph fl fi A F ∧ rcA t l (w == 1) c A = (cyW s l t w c ph fl fi A F == 1) ∧ rcF s t l (w == 2) c ph fl fi F = (cyW s l t w c ph fl fi A F == 2) ∧ in3 (cyT s l t w c ph fl fi A F) ∧ in3 (cyW s l t w c ph fl fi A F) := by
  have i0 : in3 0 := .inl rfl
  have i1 : in3 1 := .inr (.inl rfl)
  have i2 : in3 2 := .inr (.inr rfl)
  unfold rcT rcA rcF cyT cyW a1N f1N wsT wsW waT waW w1N
  generalize decide (ph < s) = D
  cases l with
  | true => exact ⟨rfl, rfl, rfl, ht, hw⟩
  | false =>
  by_cases c1 : c = 1
  · subst c1
    rcases ht with rfl | rfl | rfl <;> rcases hw with rfl | rfl | rfl <;> cases A <;> cases F <;> cases fl <;> cases fi <;> cases D <;> exact ⟨rfl, rfl, rfl, by first | exact i0 | exact i1 | exact i2, by first | exact i0 | exact i1 | exact i2⟩
  by_cases c2 : c = 2
  · subst c2
    rcases ht with rfl | rfl | rfl <;> rcases hw with rfl | rfl | rfl <;> cases A <;> cases F <;> cases fl <;> cases fi <;> cases D <;> exact ⟨rfl, rfl, rfl, by first | exact i0 | exact i1 | exact i2, by first | exact i0 | exact i1 | exact i2⟩
  rw [beq_eq_false_iff_ne.2 c1, beq_eq_false_iff_ne.2 c2]
  generalize (c == 3) = C
  rcases ht with rfl | rfl | rfl <;> rcases hw with rfl | rfl | rfl <;> cases A <;> cases F <;> cases fl <;> cases fi <;> cases D <;> cases C <;> exact ⟨rfl, rfl, rfl, by first | exact i0 | exact i1 | exact i2, by first | exact i0 | exact i1 | exact i2⟩
theorem wish_eq {w : Int} (h : in3 w) : (bif w == 1 then (1 : Int) else 0) + (bif w == 2 then (2 : Int) else 0) = w := by
  rcases h with rfl | rfl | rfl <;> rfl
/-! A sequencer's cycle by an input of the list. -/
def nT (s : Int) (l : Bool) (L : List (List Dat)) (k t w : Int) : Int := cyT s l t w (gC L k) (gPh L k) (gFl L k) (gFi L k) (armB (gH L k) (gPs L k) (gPw L k)) (safB (gH L k) (gPs L k) (gPw L k))
def nW (s : Int) (l : Bool) (L : List (List Dat)) (k t w : Int) : Int := cyW s l t w (gC L k) (gPh L k) (gFl L k) (gFi L k) (armB (gH L k) (gPs L k) (gPw L k)) (safB (gH L k) (gPs L k) (gPw L k))
noncomputable def ESp (s : Int) (l : Bool) (L : List (List Dat)) (own mark : Bool) (n : Nat) (k t w : Int) : Option (Ex × St) :=
  evLoop ΓSw Try.prog L0 (cutC 0 1 kSp) bdSp n (mk kSp [.v (Bo l), .ptr 0 0, .ptr 1 0, .row 0, .v (I (L.length : Int)), .v (I k)] (SPm s l t w s t l (w == 1) (w == 2) L own mark)) KSp
def RSp (L : List (List Dat)) (own mark : Bool) : St := mk (xSp .ret) [.v (Bo true)] ⟨[], [], [rI L own mark]⟩
def XSp (L : List (List Dat)) (own mark : Bool) : St := mk (xSp (.exit 0)) [] ⟨[], [], [rI L own mark]⟩
theorem endSp (s : Int) (l : Bool) (L : List (List Dat)) (own mark : Bool) (n : Nat) (k t w : Int) (hk : ¬ k < (L.length : Int)) : ESp s l L own mark (n + 1) k t w = some (.exit 0, XSp L own mark) := by
  refine (stepSp l k s t w s t l l (w == 1) (w == 2) L own mark n).trans ?_
  rw [decide_eq_false hk]
  rfl
theorem rndSp (s : Int) (l : Bool) (L : List (List Dat)) (own mark : Bool) (n : Nat) (k t w : Int) (ht : in3 t) (hw : in3 w) (hk : 0 ≤ k ∧ k < (L.length : Int)) (hk2 : k < 1000) :
    ESp s l L own mark (n + 1) k t w = bif !rgt (gPs L k) (gPw L k) then some (.ret, RSp L own mark) else ESp s l L own mark n (k + 1) (nT s l L k t w) (nW s l L k t w) := by
  refine (stepSp l k s t w s t l l (w == 1) (w == 2) L own mark n).trans ?_
  rw [decide_eq_true hk.1, decide_eq_true hk.2, wI_id (n := k + 1) (by omega)]
  cases hr : rgt (gPs L k) (gPw L k)
  · rfl
  · obtain ⟨e1, e2, e3, e4, e5⟩ := cyc_eq s l ht hw (gC L k) (gPh L k) (gFl L k) (gFi L k) (armB (gH L k) (gPs L k) (gPw L k)) (safB (gH L k) (gPs L k) (gPw L k))
    have ew := wish_eq e5
    rw [rarm_eq hr, rsaf_eq hr, e1, e2, e3, ew]
    have el : (!l == l) = false := by cases l <;> rfl
    simp only [same_self, bne_self_eq_false, el, Bool.not_true, Bool.and_self, cond_true, cond_false]
    rfl
def qr (L : List (List Dat)) : Nat → Int → Bool
  | 0, _ => true
  | m + 1, k => bif !rgt (gPs L k) (gPw L k) then false else qr L m (k + 1)
theorem spLoop {α : Type} (s : Int) (l : Bool) (L : List (List Dat)) (E : Nat → Int → Int → Int → Option α) (X Y : Option α)
    (he : ∀ n k t w, ¬ k < (L.length : Int) → E (n + 1) k t w = X)
    (hr : ∀ n k t w, in3 t → in3 w → 0 ≤ k ∧ k < (L.length : Int) → E (n + 1) k t w = bif !rgt (gPs L k) (gPw L k) then Y else E n (k + 1) (nT s l L k t w) (nW s l L k t w)) :
    ∀ (m : Nat) (k t w : Int), 0 ≤ k → k + m = L.length → in3 t → in3 w → E (m + 1) k t w = bif qr L m k then X else Y := by
  intro m
  induction m with
  | zero =>
    intro k t w h0 h1 ht hw
    exact he 0 k t w (by omega)
  | succ m ih =>
    intro k t w h0 h1 ht hw
    rw [hr (m + 1) k t w ht hw (by omega)]
    show _ = bif (bif !rgt (gPs L k) (gPw L k) then false else qr L m (k + 1)) then X else Y
    cases rgt (gPs L k) (gPw L k)
    · rfl
    · obtain ⟨_, _, _, e4, e5⟩ := cyc_eq s l ht hw (gC L k) (gPh L k) (gFl L k) (gFi L k) (armB (gH L k) (gPs L k) (gPw L k)) (safB (gH L k) (gPs L k) (gPw L k))
      exact ih (k + 1) _ _ (by omega) (by omega) e4 e5
theorem loopSp (s : Int) (l : Bool) (L : List (List Dat)) (own mark : Bool) (hl : L.length ≤ 300) : ESp s l L own mark (L.length + 1) 0 0 0 = bif qr L L.length 0 then some (.exit 0, XSp L own mark) else some (.ret, RSp L own mark) :=
  spLoop s l L (fun n k t w => ESp s l L own mark n k t w) _ _ (fun n k t w h => endSp s l L own mark n k t w h) (fun n k t w ht hw hk => rndSp s l L own mark n k t w ht hw hk (by omega)) L.length 0 0 0 (by decide) (by omega) (.inl rfl) (.inl rfl)
theorem loopsSp : loopsOf (Try.f16.body.getD .skip) = [bdSp] := by kernel_rfl
def GSp (fin : Bool) (vals : List SV) (m : Mem) : Option (Bool × Ex × St) :=
  match vals, m with
  | [.v (.bool lk), .ptr 0 0, .ptr 1 0, .row 0, .v (.int .i64 n), .v (.int .i64 k)], ⟨[[.v (.int .i64 s), .v (.bool l), .v (.int .i64 t), .v (.int .i64 w)], [.v (.int .i64 rs), .v (.int .i64 rt), .v (.bool rl), .v (.bool a), .v (.bool f)]], [true, true], [.live ⟨71, [.num .i64, .bool, .num .i64, .num .i64, .num .i64, .num .i64, .bool, .bool, .num .i64], L, own, mark⟩]⟩ =>
    bif fin then some ((t == 0 && (w == 0 && (rt == 0 && (k == 0 && (!a && !f))))) && (lk == l && (rs == s && (rl == l && (n == (L.length : Int) && (Nat.ble L.length 300 && qr L L.length 0))))), .exit 0, XSp L own mark)
    else some ((t == 0 && (w == 0 && (rt == 0 && (k == 0 && (!a && !f))))) && (lk == l && (rs == s && (rl == l && (n == (L.length : Int) && (Nat.ble L.length 300 && !qr L L.length 0))))), .ret, RSp L own mark)
  | _, _ => none
noncomputable def ΛSp (fin : Bool) : LoopOrc := fun _ st => viaC 0 1 kSp (GSp fin) st
theorem loopOkSp (fin : Bool) (z : Base) (z1 : z.L.length = 0) (z2 : z.U.length = 1) : LoopOk (ΛSp fin) Try.prog z bdSp := by
  refine loop_okC (Λ := L0) (kx := xSp) OkSw mixed z1 z2 (fun b hb st e st' h => by cases h) (G := GSp fin) (fun _ => rfl) ?_
  intro vals m e st' h
  unfold GSp at h
  split at h
  · rename_i lk n k s l t w rs rt rl a f L own mark
    cases fin
    · simp only [cond_false] at h
      obtain ⟨h1, rfl, rfl⟩ := some_t2 h
      simp only [Bool.and_eq_true, beq_iff_eq, Bool.not_eq_true'] at h1
      obtain ⟨⟨rfl, rfl, rfl, rfl, rfl, rfl⟩, rfl, rfl, rfl, rfl, hl, hq⟩ := h1
      have := loopSp rs rl L own mark (Nat.le_of_ble_eq_true hl)
      rw [hq] at this
      exact ⟨L.length + 1, this⟩
    · simp only [cond_true] at h
      obtain ⟨h1, rfl, rfl⟩ := some_t2 h
      simp only [Bool.and_eq_true, beq_iff_eq, Bool.not_eq_true'] at h1
      obtain ⟨⟨rfl, rfl, rfl, rfl, rfl, rfl⟩, rfl, rfl, rfl, rfl, hl, hq⟩ := h1
      have := loopSp rs rl L own mark (Nat.le_of_ble_eq_true hl)
      rw [hq] at this
      exact ⟨L.length + 1, this⟩
  · cases h
end Go.Proofs.Ytnelbjbphkfkkaa

namespace Go.Proofs.Ytnelbjbphkfkkaa
open Go Go.Proofs Go.Sx
set_option linter.unusedVariables false
/-! norm -/
/-! cast -/
/-! rep ((L.getD k.toNat []).headD (Dat.n (0 : Int))).toI => (gC L k) -/
/-! rep ((L.getD k.toNat []).tail.headD (Dat.n (0 : Int))).toB => (gH L k) -/
/-! rep ((L.getD k.toNat []).tail.tail.tail.tail.headD (Dat.n (0 : Int))).toI => (gPs L k) -/
/-! rep ((L.getD k.toNat []).tail.tail.tail.tail.tail.headD (Dat.n (0 : Int))).toI => (gPw L k) -/
/-! rep ((L.getD k.toNat []).tail.tail.tail.tail.tail.tail.headD (Dat.n (0 : Int))).toB => (gFl L k) -/
/-! rep ((L.getD k.toNat []).tail.tail.tail.tail.tail.tail.tail.headD (Dat.n (0 : Int))).toB => (gFi L k) -/
/-! rep ((L.getD k.toNat []).tail.tail.tail.tail.tail.tail.tail.tail.headD (Dat.n (0 : Int))).toI => (gPh L k) -/
set_option maxRecDepth 20000 in
theorem treePlaysT (s : Int) (l : Bool) (L : List (List Dat)) (own mark : Bool) : runG ΓSw (ΛSp true) Try.prog Try.f16 [.v (I s), .v (Bo l), .row 0] ⟨[], [], [rI L own mark]⟩ = 
    (bif decide ((L.length : Int) > (300 : Int)) then some (.v (Bo true), ⟨[], [], [.live ⟨71, [.num .i64, .bool, .num .i64, .num .i64, .num .i64, .num .i64, .bool, .bool, .num .i64], L, own, mark⟩]⟩) else (bif true && (l == l && (s == s && (l == l && ((L.length : Int) == (L.length : Int) && (L.length.ble (300) && qr L L.length (0 : Int)))))) then some (.v (Bo true), ⟨[], [], [.live ⟨71, [.num .i64, .bool, .num .i64, .num .i64, .num .i64, .num .i64, .bool, .bool, .num .i64], L, own, mark⟩]⟩) else none)) := by kernel_rfl
set_option maxRecDepth 20000 in
theorem treePlaysF (s : Int) (l : Bool) (L : List (List Dat)) (own mark : Bool) : runG ΓSw (ΛSp false) Try.prog Try.f16 [.v (I s), .v (Bo l), .row 0] ⟨[], [], [rI L own mark]⟩ = 
    (bif decide ((L.length : Int) > (300 : Int)) then some (.v (Bo true), ⟨[], [], [.live ⟨71, [.num .i64, .bool, .num .i64, .num .i64, .num .i64, .num .i64, .bool, .bool, .num .i64], L, own, mark⟩]⟩) else (bif true && (l == l && (s == s && (l == l && ((L.length : Int) == (L.length : Int) && (L.length.ble (300) && !qr L L.length (0 : Int)))))) then some (.v (Bo true), ⟨[], [], [.live ⟨71, [.num .i64, .bool, .num .i64, .num .i64, .num .i64, .num .i64, .bool, .bool, .num .i64], L, own, mark⟩]⟩) else none)) := by kernel_rfl
set_option maxRecDepth 20000 in
theorem treeSNil (c : Int) (he : Bool) (pc pp ps pw : Int) (fl fi : Bool) (ph : Int) : runG ΓSw L0 Try.prog Try.f19 [.v (.agg #[I c, Bo he, I pc, I pp, I ps, I pw, Bo fl, Bo fi, I ph])] M0 = 
    some (.v (Bo true), M0) := by kernel_rfl
noncomputable def bdSf : Code := loopAt (Try.f17.body.getD .skip) 0
def SFm (s : Int) (l : Bool) (t w : Int) (L : List (List Dat)) (own mark : Bool) : Mem := ⟨[[.v (I s), .v (Bo l), .v (I t), .v (I w)]], [true], [rI L own mark]⟩
def kSf : List Bool := maskOf 48 [0, 5, 25, 26, 27]
def xSf (e : Ex) : List Bool := match e with
  | .exit _ => maskOf 48 []
  | .ret => maskOf 48 [4]
  | .normal => maskOf 48 [0, 5, 25, 26, 27]
def KSf (e : Ex) (st : St) : Option (Ex × St) := some (e, cutC 0 1 (xSf e) st)
set_option maxRecDepth 20000 in
theorem stepSf (sf : Int) (k s t w : Int) (l : Bool) (L : List (List Dat)) (own mark : Bool) (n : Nat) : evLoop ΓSw Try.prog L0 (cutC 0 1 kSf) bdSf (n + 1) (mk kSf [.v (I sf), .ptr 0 0, .row 0, .v (I (L.length : Int)), .v (I k)] (SFm s l t w L own mark)) KSf =
    (bif decide (k < (L.length : Int)) then (bif decide ((0 : Int) ≤ k) && decide (k < (L.length : Int)) then (bif !rgt (gPs L k) (gPw L k) then some (.ret, mk (xSf .ret) [.v (Bo true)] ⟨[], [], [.live ⟨71, [.num .i64, .bool, .num .i64, .num .i64, .num .i64, .num .i64, .bool, .bool, .num .i64], L, own, mark⟩]⟩) else (same ((same ((same ((same ((bif IntKind.u64.wrap sf == (0 : Int) then none else (same ((bif (bif l then (0 : Int) else cyT s l t w (gC L k) (wI ((IntKind.u64.wrap (gPh L k)).tmod (IntKind.u64.wrap sf))) true (gFi L k) (armB (gH L k) (gPs L k) (gPw L k)) (safB (gH L k) (gPs L k) (gPw L k))) == (0 : Int) then some (.ret, mk (xSf .ret) [.v (Bo false)] ⟨[], [], [.live ⟨71, [.num .i64, .bool, .num .i64, .num .i64, .num .i64, .num .i64, .bool, .bool, .num .i64], L, own, mark⟩]⟩) else evLoop ΓSw Try.prog L0 (cutC 0 1 kSf) bdSf n (mk kSf [.v (I sf), .ptr 0 0, .row 0, .v (I (L.length : Int)), .v (I (wI (k + (1 : Int))))] ⟨[[.v (I s), .v (Bo l), .v (I (cyT s l t w (gC L k) (wI ((IntKind.u64.wrap (gPh L k)).tmod (IntKind.u64.wrap sf))) true (gFi L k) (armB (gH L k) (gPs L k) (gPw L k)) (safB (gH L k) (gPs L k) (gPw L k)))), .v (I (cyW s l t w (gC L k) (wI ((IntKind.u64.wrap (gPh L k)).tmod (IntKind.u64.wrap sf))) true (gFi L k) (armB (gH L k) (gPs L k) (gPw L k)) (safB (gH L k) (gPs L k) (gPw L k))))]], [true], [.live ⟨71, [.num .i64, .bool, .num .i64, .num .i64, .num .i64, .num .i64, .bool, .bool, .num .i64], L, own, mark⟩]⟩) KSf)) ((bif (bif l then (0 : Int) else cyT s l t w (gC L k) (wI ((IntKind.u64.wrap (gPh L k)).tmod (IntKind.u64.wrap sf))) true (gFi L k) (armB (gH L k) (gPs L k) (gPw L k)) (safB (gH L k) (gPs L k) (gPw L k))) == (0 : Int) then some (.ret, mk (xSf .ret) [.v (Bo false)] ⟨[], [], [.live ⟨71, [.num .i64, .bool, .num .i64, .num .i64, .num .i64, .num .i64, .bool, .bool, .num .i64], L, own, mark⟩]⟩) else evLoop ΓSw Try.prog L0 (cutC 0 1 kSf) bdSf n (mk kSf [.v (I sf), .ptr 0 0, .row 0, .v (I (L.length : Int)), .v (I (wI (k + (1 : Int))))] ⟨[[.v (I s), .v (Bo l), .v (I (cyT s l t w (gC L k) (wI ((IntKind.u64.wrap (gPh L k)).tmod (IntKind.u64.wrap sf))) true (gFi L k) (armB (gH L k) (gPs L k) (gPw L k)) (safB (gH L k) (gPs L k) (gPw L k)))), .v (I (cyW s l t w (gC L k) (wI ((IntKind.u64.wrap (gPh L k)).tmod (IntKind.u64.wrap sf))) true (gFi L k) (armB (gH L k) (gPs L k) (gPw L k)) (safB (gH L k) (gPs L k) (gPw L k))))]], [true], [.live ⟨71, [.num .i64, .bool, .num .i64, .num .i64, .num .i64, .num .i64, .bool, .bool, .num .i64], L, own, mark⟩]⟩) KSf))))) ((bif IntKind.u64.wrap sf == (0 : Int) then none else (bif (bif l then (0 : Int) else cyT s l t w (gC L k) (wI ((IntKind.u64.wrap (gPh L k)).tmod (IntKind.u64.wrap sf))) true (gFi L k) (armB (gH L k) (gPs L k) (gPw L k)) (safB (gH L k) (gPs L k) (gPw L k))) == (0 : Int) then some (.ret, mk (xSf .ret) [.v (Bo false)] ⟨[], [], [.live ⟨71, [.num .i64, .bool, .num .i64, .num .i64, .num .i64, .num .i64, .bool, .bool, .num .i64], L, own, mark⟩]⟩) else evLoop ΓSw Try.prog L0 (cutC 0 1 kSf) bdSf n (mk kSf [.v (I sf), .ptr 0 0, .row 0, .v (I (L.length : Int)), .v (I (wI (k + (1 : Int))))] ⟨[[.v (I s), .v (Bo l), .v (I (cyT s l t w (gC L k) (wI ((IntKind.u64.wrap (gPh L k)).tmod (IntKind.u64.wrap sf))) true (gFi L k) (armB (gH L k) (gPs L k) (gPw L k)) (safB (gH L k) (gPs L k) (gPw L k)))), .v (I (cyW s l t w (gC L k) (wI ((IntKind.u64.wrap (gPh L k)).tmod (IntKind.u64.wrap sf))) true (gFi L k) (armB (gH L k) (gPs L k) (gPw L k)) (safB (gH L k) (gPs L k) (gPw L k))))]], [true], [.live ⟨71, [.num .i64, .bool, .num .i64, .num .i64, .num .i64, .num .i64, .bool, .bool, .num .i64], L, own, mark⟩]⟩) KSf))))) ((bif IntKind.u64.wrap sf == (0 : Int) then none else (bif (bif l then (0 : Int) else cyT s l t w (gC L k) (wI ((IntKind.u64.wrap (gPh L k)).tmod (IntKind.u64.wrap sf))) true (gFi L k) (armB (gH L k) (gPs L k) (gPw L k)) (safB (gH L k) (gPs L k) (gPw L k))) == (0 : Int) then some (.ret, mk (xSf .ret) [.v (Bo false)] ⟨[], [], [.live ⟨71, [.num .i64, .bool, .num .i64, .num .i64, .num .i64, .num .i64, .bool, .bool, .num .i64], L, own, mark⟩]⟩) else evLoop ΓSw Try.prog L0 (cutC 0 1 kSf) bdSf n (mk kSf [.v (I sf), .ptr 0 0, .row 0, .v (I (L.length : Int)), .v (I (wI (k + (1 : Int))))] ⟨[[.v (I s), .v (Bo l), .v (I (cyT s l t w (gC L k) (wI ((IntKind.u64.wrap (gPh L k)).tmod (IntKind.u64.wrap sf))) true (gFi L k) (armB (gH L k) (gPs L k) (gPw L k)) (safB (gH L k) (gPs L k) (gPw L k)))), .v (I (cyW s l t w (gC L k) (wI ((IntKind.u64.wrap (gPh L k)).tmod (IntKind.u64.wrap sf))) true (gFi L k) (armB (gH L k) (gPs L k) (gPw L k)) (safB (gH L k) (gPs L k) (gPw L k))))]], [true], [.live ⟨71, [.num .i64, .bool, .num .i64, .num .i64, .num .i64, .num .i64, .bool, .bool, .num .i64], L, own, mark⟩]⟩) KSf))))) ((bif IntKind.u64.wrap sf == (0 : Int) then none else (bif (bif l then (0 : Int) else cyT s l t w (gC L k) (wI ((IntKind.u64.wrap (gPh L k)).tmod (IntKind.u64.wrap sf))) true (gFi L k) (armB (gH L k) (gPs L k) (gPw L k)) (safB (gH L k) (gPs L k) (gPw L k))) == (0 : Int) then some (.ret, mk (xSf .ret) [.v (Bo false)] ⟨[], [], [.live ⟨71, [.num .i64, .bool, .num .i64, .num .i64, .num .i64, .num .i64, .bool, .bool, .num .i64], L, own, mark⟩]⟩) else evLoop ΓSw Try.prog L0 (cutC 0 1 kSf) bdSf n (mk kSf [.v (I sf), .ptr 0 0, .row 0, .v (I (L.length : Int)), .v (I (wI (k + (1 : Int))))] ⟨[[.v (I s), .v (Bo l), .v (I (cyT s l t w (gC L k) (wI ((IntKind.u64.wrap (gPh L k)).tmod (IntKind.u64.wrap sf))) true (gFi L k) (armB (gH L k) (gPs L k) (gPw L k)) (safB (gH L k) (gPs L k) (gPw L k)))), .v (I (cyW s l t w (gC L k) (wI ((IntKind.u64.wrap (gPh L k)).tmod (IntKind.u64.wrap sf))) true (gFi L k) (armB (gH L k) (gPs L k) (gPw L k)) (safB (gH L k) (gPs L k) (gPw L k))))]], [true], [.live ⟨71, [.num .i64, .bool, .num .i64, .num .i64, .num .i64, .num .i64, .bool, .bool, .num .i64], L, own, mark⟩]⟩) KSf))))) ((same ((same ((same ((same ((bif IntKind.u64.wrap sf == (0 : Int) then none else (same ((bif (bif l then (0 : Int) else cyT s l t w (gC L k) (wI ((IntKind.u64.wrap (gPh L k)).tmod (IntKind.u64.wrap sf))) true (gFi L k) (armB (gH L k) (gPs L k) (gPw L k)) (safB (gH L k) (gPs L k) (gPw L k))) == (0 : Int) then some (.ret, mk (xSf .ret) [.v (Bo false)] ⟨[], [], [.live ⟨71, [.num .i64, .bool, .num .i64, .num .i64, .num .i64, .num .i64, .bool, .bool, .num .i64], L, own, mark⟩]⟩) else evLoop ΓSw Try.prog L0 (cutC 0 1 kSf) bdSf n (mk kSf [.v (I sf), .ptr 0 0, .row 0, .v (I (L.length : Int)), .v (I (wI (k + (1 : Int))))] ⟨[[.v (I s), .v (Bo l), .v (I (cyT s l t w (gC L k) (wI ((IntKind.u64.wrap (gPh L k)).tmod (IntKind.u64.wrap sf))) true (gFi L k) (armB (gH L k) (gPs L k) (gPw L k)) (safB (gH L k) (gPs L k) (gPw L k)))), .v (I (cyW s l t w (gC L k) (wI ((IntKind.u64.wrap (gPh L k)).tmod (IntKind.u64.wrap sf))) true (gFi L k) (armB (gH L k) (gPs L k) (gPw L k)) (safB (gH L k) (gPs L k) (gPw L k))))]], [true], [.live ⟨71, [.num .i64, .bool, .num .i64, .num .i64, .num .i64, .num .i64, .bool, .bool, .num .i64], L, own, mark⟩]⟩) KSf)) ((bif (bif l then (0 : Int) else cyT s l t w (gC L k) (wI ((IntKind.u64.wrap (gPh L k)).tmod (IntKind.u64.wrap sf))) true (gFi L k) (armB (gH L k) (gPs L k) (gPw L k)) (safB (gH L k) (gPs L k) (gPw L k))) == (0 : Int) then some (.ret, mk (xSf .ret) [.v (Bo false)] ⟨[], [], [.live ⟨71, [.num .i64, .bool, .num .i64, .num .i64, .num .i64, .num .i64, .bool, .bool, .num .i64], L, own, mark⟩]⟩) else evLoop ΓSw Try.prog L0 (cutC 0 1 kSf) bdSf n (mk kSf [.v (I sf), .ptr 0 0, .row 0, .v (I (L.length : Int)), .v (I (wI (k + (1 : Int))))] ⟨[[.v (I s), .v (Bo l), .v (I (cyT s l t w (gC L k) (wI ((IntKind.u64.wrap (gPh L k)).tmod (IntKind.u64.wrap sf))) true (gFi L k) (armB (gH L k) (gPs L k) (gPw L k)) (safB (gH L k) (gPs L k) (gPw L k)))), .v (I (cyW s l t w (gC L k) (wI ((IntKind.u64.wrap (gPh L k)).tmod (IntKind.u64.wrap sf))) true (gFi L k) (armB (gH L k) (gPs L k) (gPw L k)) (safB (gH L k) (gPs L k) (gPw L k))))]], [true], [.live ⟨71, [.num .i64, .bool, .num .i64, .num .i64, .num .i64, .num .i64, .bool, .bool, .num .i64], L, own, mark⟩]⟩) KSf))))) ((bif IntKind.u64.wrap sf == (0 : Int) then none else (bif (bif l then (0 : Int) else cyT s l t w (gC L k) (wI ((IntKind.u64.wrap (gPh L k)).tmod (IntKind.u64.wrap sf))) true (gFi L k) (armB (gH L k) (gPs L k) (gPw L k)) (safB (gH L k) (gPs L k) (gPw L k))) == (0 : Int) then some (.ret, mk (xSf .ret) [.v (Bo false)] ⟨[], [], [.live ⟨71, [.num .i64, .bool, .num .i64, .num .i64, .num .i64, .num .i64, .bool, .bool, .num .i64], L, own, mark⟩]⟩) else evLoop ΓSw Try.prog L0 (cutC 0 1 kSf) bdSf n (mk kSf [.v (I sf), .ptr 0 0, .row 0, .v (I (L.length : Int)), .v (I (wI (k + (1 : Int))))] ⟨[[.v (I s), .v (Bo l), .v (I (cyT s l t w (gC L k) (wI ((IntKind.u64.wrap (gPh L k)).tmod (IntKind.u64.wrap sf))) true (gFi L k) (armB (gH L k) (gPs L k) (gPw L k)) (safB (gH L k) (gPs L k) (gPw L k)))), .v (I (cyW s l t w (gC L k) (wI ((IntKind.u64.wrap (gPh L k)).tmod (IntKind.u64.wrap sf))) true (gFi L k) (armB (gH L k) (gPs L k) (gPw L k)) (safB (gH L k) (gPs L k) (gPw L k))))]], [true], [.live ⟨71, [.num .i64, .bool, .num .i64, .num .i64, .num .i64, .num .i64, .bool, .bool, .num .i64], L, own, mark⟩]⟩) KSf))))) ((bif IntKind.u64.wrap sf == (0 : Int) then none else (bif (bif l then (0 : Int) else cyT s l t w (gC L k) (wI ((IntKind.u64.wrap (gPh L k)).tmod (IntKind.u64.wrap sf))) true (gFi L k) (armB (gH L k) (gPs L k) (gPw L k)) (safB (gH L k) (gPs L k) (gPw L k))) == (0 : Int) then some (.ret, mk (xSf .ret) [.v (Bo false)] ⟨[], [], [.live ⟨71, [.num .i64, .bool, .num .i64, .num .i64, .num .i64, .num .i64, .bool, .bool, .num .i64], L, own, mark⟩]⟩) else evLoop ΓSw Try.prog L0 (cutC 0 1 kSf) bdSf n (mk kSf [.v (I sf), .ptr 0 0, .row 0, .v (I (L.length : Int)), .v (I (wI (k + (1 : Int))))] ⟨[[.v (I s), .v (Bo l), .v (I (cyT s l t w (gC L k) (wI ((IntKind.u64.wrap (gPh L k)).tmod (IntKind.u64.wrap sf))) true (gFi L k) (armB (gH L k) (gPs L k) (gPw L k)) (safB (gH L k) (gPs L k) (gPw L k)))), .v (I (cyW s l t w (gC L k) (wI ((IntKind.u64.wrap (gPh L k)).tmod (IntKind.u64.wrap sf))) true (gFi L k) (armB (gH L k) (gPs L k) (gPw L k)) (safB (gH L k) (gPs L k) (gPw L k))))]], [true], [.live ⟨71, [.num .i64, .bool, .num .i64, .num .i64, .num .i64, .num .i64, .bool, .bool, .num .i64], L, own, mark⟩]⟩) KSf))))) ((same ((same ((same ((bif IntKind.u64.wrap sf == (0 : Int) then none else (same ((bif (bif l then (0 : Int) else cyT s l t w (gC L k) (wI ((IntKind.u64.wrap (gPh L k)).tmod (IntKind.u64.wrap sf))) true (gFi L k) (armB (gH L k) (gPs L k) (gPw L k)) (safB (gH L k) (gPs L k) (gPw L k))) == (0 : Int) then some (.ret, mk (xSf .ret) [.v (Bo false)] ⟨[], [], [.live ⟨71, [.num .i64, .bool, .num .i64, .num .i64, .num .i64, .num .i64, .bool, .bool, .num .i64], L, own, mark⟩]⟩) else evLoop ΓSw Try.prog L0 (cutC 0 1 kSf) bdSf n (mk kSf [.v (I sf), .ptr 0 0, .row 0, .v (I (L.length : Int)), .v (I (wI (k + (1 : Int))))] ⟨[[.v (I s), .v (Bo l), .v (I (cyT s l t w (gC L k) (wI ((IntKind.u64.wrap (gPh L k)).tmod (IntKind.u64.wrap sf))) true (gFi L k) (armB (gH L k) (gPs L k) (gPw L k)) (safB (gH L k) (gPs L k) (gPw L k)))), .v (I (cyW s l t w (gC L k) (wI ((IntKind.u64.wrap (gPh L k)).tmod (IntKind.u64.wrap sf))) true (gFi L k) (armB (gH L k) (gPs L k) (gPw L k)) (safB (gH L k) (gPs L k) (gPw L k))))]], [true], [.live ⟨71, [.num .i64, .bool, .num .i64, .num .i64, .num .i64, .num .i64, .bool, .bool, .num .i64], L, own, mark⟩]⟩) KSf)) ((bif (bif l then (0 : Int) else cyT s l t w (gC L k) (wI ((IntKind.u64.wrap (gPh L k)).tmod (IntKind.u64.wrap sf))) true (gFi L k) (armB (gH L k) (gPs L k) (gPw L k)) (safB (gH L k) (gPs L k) (gPw L k))) == (0 : Int) then some (.ret, mk (xSf .ret) [.v (Bo false)] ⟨[], [], [.live ⟨71, [.num .i64, .bool, .num .i64, .num .i64, .num .i64, .num .i64, .bool, .bool, .num .i64], L, own, mark⟩]⟩) else evLoop ΓSw Try.prog L0 (cutC 0 1 kSf) bdSf n (mk kSf [.v (I sf), .ptr 0 0, .row 0, .v (I (L.length : Int)), .v (I (wI (k + (1 : Int))))] ⟨[[.v (I s), .v (Bo l), .v (I (cyT s l t w (gC L k) (wI ((IntKind.u64.wrap (gPh L k)).tmod (IntKind.u64.wrap sf))) true (gFi L k) (armB (gH L k) (gPs L k) (gPw L k)) (safB (gH L k) (gPs L k) (gPw L k)))), .v (I (cyW s l t w (gC L k) (wI ((IntKind.u64.wrap (gPh L k)).tmod (IntKind.u64.wrap sf))) true (gFi L k) (armB (gH L k) (gPs L k) (gPw L k)) (safB (gH L k) (gPs L k) (gPw L k))))]], [true], [.live ⟨71, [.num .i64, .bool, .num .i64, .num .i64, .num .i64, .num .i64, .bool, .bool, .num .i64], L, own, mark⟩]⟩) KSf))))) ((bif IntKind.u64.wrap sf == (0 : Int) then none else (bif (bif l then (0 : Int) else cyT s l t w (gC L k) (wI ((IntKind.u64.wrap (gPh L k)).tmod (IntKind.u64.wrap sf))) true (gFi L k) (armB (gH L k) (gPs L k) (gPw L k)) (safB (gH L k) (gPs L k) (gPw L k))) == (0 : Int) then some (.ret, mk (xSf .ret) [.v (Bo false)] ⟨[], [], [.live ⟨71, [.num .i64, .bool, .num .i64, .num .i64, .num .i64, .num .i64, .bool, .bool, .num .i64], L, own, mark⟩]⟩) else evLoop ΓSw Try.prog L0 (cutC 0 1 kSf) bdSf n (mk kSf [.v (I sf), .ptr 0 0, .row 0, .v (I (L.length : Int)), .v (I (wI (k + (1 : Int))))] ⟨[[.v (I s), .v (Bo l), .v (I (cyT s l t w (gC L k) (wI ((IntKind.u64.wrap (gPh L k)).tmod (IntKind.u64.wrap sf))) true (gFi L k) (armB (gH L k) (gPs L k) (gPw L k)) (safB (gH L k) (gPs L k) (gPw L k)))), .v (I (cyW s l t w (gC L k) (wI ((IntKind.u64.wrap (gPh L k)).tmod (IntKind.u64.wrap sf))) true (gFi L k) (armB (gH L k) (gPs L k) (gPw L k)) (safB (gH L k) (gPs L k) (gPw L k))))]], [true], [.live ⟨71, [.num .i64, .bool, .num .i64, .num .i64, .num .i64, .num .i64, .bool, .bool, .num .i64], L, own, mark⟩]⟩) KSf))))) ((bif IntKind.u64.wrap sf == (0 : Int) then none else (bif (bif l then (0 : Int) else cyT s l t w (gC L k) (wI ((IntKind.u64.wrap (gPh L k)).tmod (IntKind.u64.wrap sf))) true (gFi L k) (armB (gH L k) (gPs L k) (gPw L k)) (safB (gH L k) (gPs L k) (gPw L k))) == (0 : Int) then some (.ret, mk (xSf .ret) [.v (Bo false)] ⟨[], [], [.live ⟨71, [.num .i64, .bool, .num .i64, .num .i64, .num .i64, .num .i64, .bool, .bool, .num .i64], L, own, mark⟩]⟩) else evLoop ΓSw Try.prog L0 (cutC 0 1 kSf) bdSf n (mk kSf [.v (I sf), .ptr 0 0, .row 0, .v (I (L.length : Int)), .v (I (wI (k + (1 : Int))))] ⟨[[.v (I s), .v (Bo l), .v (I (cyT s l t w (gC L k) (wI ((IntKind.u64.wrap (gPh L k)).tmod (IntKind.u64.wrap sf))) true (gFi L k) (armB (gH L k) (gPs L k) (gPw L k)) (safB (gH L k) (gPs L k) (gPw L k)))), .v (I (cyW s l t w (gC L k) (wI ((IntKind.u64.wrap (gPh L k)).tmod (IntKind.u64.wrap sf))) true (gFi L k) (armB (gH L k) (gPs L k) (gPw L k)) (safB (gH L k) (gPs L k) (gPw L k))))]], [true], [.live ⟨71, [.num .i64, .bool, .num .i64, .num .i64, .num .i64, .num .i64, .bool, .bool, .num .i64], L, own, mark⟩]⟩) KSf))))) ((bif IntKind.u64.wrap sf == (0 : Int) then none else (bif (bif l then (0 : Int) else cyT s l t w (gC L k) (wI ((IntKind.u64.wrap (gPh L k)).tmod (IntKind.u64.wrap sf))) true (gFi L k) (armB (gH L k) (gPs L k) (gPw L k)) (safB (gH L k) (gPs L k) (gPw L k))) == (0 : Int) then some (.ret, mk (xSf .ret) [.v (Bo false)] ⟨[], [], [.live ⟨71, [.num .i64, .bool, .num .i64, .num .i64, .num .i64, .num .i64, .bool, .bool, .num .i64], L, own, mark⟩]⟩) else evLoop ΓSw Try.prog L0 (cutC 0 1 kSf) bdSf n (mk kSf [.v (I sf), .ptr 0 0, .row 0, .v (I (L.length : Int)), .v (I (wI (k + (1 : Int))))] ⟨[[.v (I s), .v (Bo l), .v (I (cyT s l t w (gC L k) (wI ((IntKind.u64.wrap (gPh L k)).tmod (IntKind.u64.wrap sf))) true (gFi L k) (armB (gH L k) (gPs L k) (gPw L k)) (safB (gH L k) (gPs L k) (gPw L k)))), .v (I (cyW s l t w (gC L k) (wI ((IntKind.u64.wrap (gPh L k)).tmod (IntKind.u64.wrap sf))) true (gFi L k) (armB (gH L k) (gPs L k) (gPw L k)) (safB (gH L k) (gPs L k) (gPw L k))))]], [true], [.live ⟨71, [.num .i64, .bool, .num .i64, .num .i64, .num .i64, .num .i64, .bool, .bool, .num .i64], L, own, mark⟩]⟩) KSf))))))) ((bif IntKind.u64.wrap sf == (0 : Int) then none else (bif (bif l then (0 : Int) else cyT s l t w (gC L k) (wI ((IntKind.u64.wrap (gPh L k)).tmod (IntKind.u64.wrap sf))) true (gFi L k) (armB (gH L k) (gPs L k) (gPw L k)) (safB (gH L k) (gPs L k) (gPw L k))) == (0 : Int) then some (.ret, mk (xSf .ret) [.v (Bo false)] ⟨[], [], [.live ⟨71, [.num .i64, .bool, .num .i64, .num .i64, .num .i64, .num .i64, .bool, .bool, .num .i64], L, own, mark⟩]⟩) else evLoop ΓSw Try.prog L0 (cutC 0 1 kSf) bdSf n (mk kSf [.v (I sf), .ptr 0 0, .row 0, .v (I (L.length : Int)), .v (I (wI (k + (1 : Int))))] ⟨[[.v (I s), .v (Bo l), .v (I (cyT s l t w (gC L k) (wI ((IntKind.u64.wrap (gPh L k)).tmod (IntKind.u64.wrap sf))) true (gFi L k) (armB (gH L k) (gPs L k) (gPw L k)) (safB (gH L k) (gPs L k) (gPw L k)))), .v (I (cyW s l t w (gC L k) (wI ((IntKind.u64.wrap (gPh L k)).tmod (IntKind.u64.wrap sf))) true (gFi L k) (armB (gH L k) (gPs L k) (gPw L k)) (safB (gH L k) (gPs L k) (gPw L k))))]], [true], [.live ⟨71, [.num .i64, .bool, .num .i64, .num .i64, .num .i64, .num .i64, .bool, .bool, .num .i64], L, own, mark⟩]⟩) KSf))))))) else none) else some ((.exit 0), mk (xSf (.exit 0)) [] ⟨[], [], [.live ⟨71, [.num .i64, .bool, .num .i64, .num .i64, .num .i64, .num .i64, .bool, .bool, .num .i64], L, own, mark⟩]⟩)) := by kernel_rfl
end Go.Proofs.Ytnelbjbphkfkkaa

namespace Go.Proofs.Ytnelbjbphkfkkaa
open Go Go.Proofs Go.Sx
set_option linter.unusedVariables false
/-! norm -/
/-! cast -/
def SM2 (s : Int) (l : Bool) (t w s' : Int) (l' : Bool) (t' w' : Int) : Mem := ⟨[[.v (I s), .v (Bo l), .v (I t), .v (I w)], [.v (I s'), .v (Bo l'), .v (I t'), .v (I w')]], [true, true], []⟩
set_option maxRecDepth 20000 in
theorem runStep (c d : Int) (s : Int) (l : Bool) (t w s' : Int) (l' : Bool) (t' w' : Int) : runG ΓSw L0 Try.prog Try.f55 [.ptr 0 0, .ptr 1 0, .v (I c), .v (I d)] (SM2 s l t w s' l' t' w') = 
    some (.v (.tuple #[]), ⟨[[.v (I s), .v (Bo l), .v (I (cyT s l t w c (0 : Int) false false (armB true t' w') (safB true t' w'))), .v (I (cyW s l t w c (0 : Int) false false (armB true t' w') (safB true t' w')))], [.v (I s'), .v (Bo l'), .v (I (cyT s' l' t' w' d (0 : Int) false false (armB true t w) (safB true t w))), .v (I (cyW s' l' t' w' d (0 : Int) false false (armB true t w) (safB true t w)))]], [true, true], []⟩) := by kernel_rfl
def stT (s : Int) (l : Bool) (t w c t' w' : Int) : Int := cyT s l t w c 0 false false (armB true t' w') (safB true t' w')
def stW (s : Int) (l : Bool) (t w c t' w' : Int) : Int := cyW s l t w c 0 false false (armB true t' w') (safB true t' w')
def gStep (xs : List SV) (m : Mem) : Option (Bool × SV × Mem) :=
  match xs, m with
  | [.ptr 0 0, .ptr 1 0, .v (.int .i64 c), .v (.int .i64 d)], ⟨[[.v (.int .i64 s), .v (.bool l), .v (.int .i64 t), .v (.int .i64 w)], [.v (.int .i64 s'), .v (.bool l'), .v (.int .i64 t'), .v (.int .i64 w')]], [true, true], []⟩ =>
    some (true, .v (.tuple #[]), SM2 s l (stT s l t w c t' w') (stW s l t w c t' w') s' l' (stT s' l' t' w' d t w) (stW s' l' t' w' d t w))
  | _, _ => none
theorem gStep_ok : ∀ xs m r m', gStep xs m = some (true, r, m') → CallOk Try.prog 55 xs m r m' := by
  intro xs m r m' h
  unfold gStep at h
  split at h
  · rename_i c d s l t w s' l' t' w'
    obtain ⟨_, rfl, rfl⟩ := some_t2 h
    refine runOk (Λ := L0) OkSw Try.func55 rfl (fun z _ _ => l0Ok' _ z) ?_
    exact runStep c d s l t w s' l' t' w'
  · cases h
noncomputable def ΓSt : Orc := addCl 55 gStep ΓSq
theorem OkSt : ΓSt.Ok Try.prog := addCl_ok OkSq gStep_ok
noncomputable def ΓSv : Orc := { ΓSt with conc := true }
theorem OkSv : ΓSv.Ok Try.prog := ⟨OkSt.call, OkSt.rd, OkSt.eqv⟩
noncomputable def bdS2 : Code := loopAt (Try.f18.body.getD .skip) 0
theorem loopsS2 : loopsOf (Try.f18.body.getD .skip) = [bdS2] := by kernel_rfl
def kS2 : List Bool := maskOf 70 [0, 1, 5, 6, 7, 19, 20, 21]
def xS2 : List Bool := maskOf 70 []
def HS2 (late : Int) (back : Bool) : St := mk kS2 [.v (I late), .v (Bo back), .ptr 0 0, .ptr 1 0, .v (Value.func (Fn.func 55) #[] #[]), .row 0, .v (I 2), .v (I 0)] ⟨[[.v (I 1), .v (Bo false), .v (I 0), .v (I 0)], [.v (I 1), .v (Bo false), .v (I 0), .v (I 0)]], [true, true], [.live ⟨3, [.num .i64], [[.n 1], [.n 2]], true, false⟩]⟩
def XS2 : St := mk xS2 [] M0
def KS2 (e : Ex) (st : St) : Option (Ex × St) := some (e, cutC 0 0 xS2 st)
theorem runS20 : evLoop ΓSv Try.prog L0 (cutC 0 0 kS2) bdS2 4 (HS2 0 false) KS2 = some (.exit 0, XS2) := by kernel_rfl
theorem runS21 : evLoop ΓSv Try.prog L0 (cutC 0 0 kS2) bdS2 4 (HS2 1 false) KS2 = some (.exit 0, XS2) := by kernel_rfl
theorem runS22 : evLoop ΓSv Try.prog L0 (cutC 0 0 kS2) bdS2 4 (HS2 2 false) KS2 = some (.exit 0, XS2) := by kernel_rfl
theorem runS23 : evLoop ΓSv Try.prog L0 (cutC 0 0 kS2) bdS2 4 (HS2 3 false) KS2 = some (.exit 0, XS2) := by kernel_rfl
theorem runS24 : evLoop ΓSv Try.prog L0 (cutC 0 0 kS2) bdS2 4 (HS2 4 false) KS2 = some (.exit 0, XS2) := by kernel_rfl
theorem runS25 : evLoop ΓSv Try.prog L0 (cutC 0 0 kS2) bdS2 4 (HS2 0 true) KS2 = some (.exit 0, XS2) := by kernel_rfl
theorem runS26 : evLoop ΓSv Try.prog L0 (cutC 0 0 kS2) bdS2 4 (HS2 1 true) KS2 = some (.exit 0, XS2) := by kernel_rfl
theorem runS27 : evLoop ΓSv Try.prog L0 (cutC 0 0 kS2) bdS2 4 (HS2 2 true) KS2 = some (.exit 0, XS2) := by kernel_rfl
theorem runS28 : evLoop ΓSv Try.prog L0 (cutC 0 0 kS2) bdS2 4 (HS2 3 true) KS2 = some (.exit 0, XS2) := by kernel_rfl
theorem runS29 : evLoop ΓSv Try.prog L0 (cutC 0 0 kS2) bdS2 4 (HS2 4 true) KS2 = some (.exit 0, XS2) := by kernel_rfl
theorem loopS2 (late : Int) (back : Bool) (h : 0 ≤ late ∧ late ≤ 4) : evLoop ΓSv Try.prog L0 (cutC 0 0 kS2) bdS2 4 (HS2 late back) KS2 = some (.exit 0, XS2) := by
  rcases (by omega : late = 0 ∨ late = 1 ∨ late = 2 ∨ late = 3 ∨ late = 4) with rfl | rfl | rfl | rfl | rfl <;> cases back
  · exact runS20
  · exact runS25
  · exact runS21
  · exact runS26
  · exact runS22
  · exact runS27
  · exact runS23
  · exact runS28
  · exact runS24
  · exact runS29
def GS2 (vals : List SV) (m : Mem) : Option (Bool × Ex × St) :=
  match vals, m with
  | [.v (.int .i64 late), .v (.bool back), .ptr 0 0, .ptr 1 0, .v (.func (.func 55) ⟨[]⟩ ⟨[]⟩), .row 0, .v (.int .i64 2), .v (.int .i64 0)], ⟨[[.v (.int .i64 1), .v (.bool false), .v (.int .i64 0), .v (.int .i64 0)], [.v (.int .i64 1), .v (.bool false), .v (.int .i64 0), .v (.int .i64 0)]], [true, true], [.live ⟨3, [.num .i64], [[.n 1], [.n 2]], true, false⟩]⟩ =>
    some (decide (0 ≤ late ∧ late ≤ 4), .exit 0, XS2)
  | _, _ => none
noncomputable def ΛS2 : LoopOrc := fun _ st => viaC 0 0 kS2 GS2 st
theorem loopOkS2 (z : Base) (z1 : z.L.length = 0) (z2 : z.U.length = 0) : LoopOk ΛS2 Try.prog z bdS2 := by
  refine loop_okC (Λ := L0) (kx := fun _ => xS2) OkSv mixed z1 z2 (fun b hb st e st' h => by cases h) (G := GS2) (fun _ => rfl) ?_
  intro vals m e st' h
  unfold GS2 at h
  split at h
  · rename_i late back
    obtain ⟨h1, rfl, rfl⟩ := some_t2 h
    exact ⟨4, loopS2 late back (by simpa using h1)⟩
  · cases h
set_option maxRecDepth 20000 in
theorem treeTwo (late : Int) (back : Bool) : runG ΓSw ΛS2 Try.prog Try.f18 [.v (I late), .v (Bo back)] M0 = 
    (bif decide ((0 : Int) ≤ wI ((IntKind.u64.wrap late).tmod (5 : Int)) ∧ wI ((IntKind.u64.wrap late).tmod (5 : Int)) ≤ (4 : Int)) then some (.v (Bo true), M0) else none) := by kernel_rfl
end Go.Proofs.Ytnelbjbphkfkkaa

namespace Go.Proofs.Ytnelbjbphkfkkaa
open Go Go.Proofs Go.Sx
set_option linter.unusedVariables false
/-! In flight. -/
def pfI (sf p : Int) : Int := wI ((IntKind.u64.wrap p).tmod (IntKind.u64.wrap sf))
theorem pfI_lt {sf p : Int} (h : 1 ≤ sf ∧ sf ≤ 4) : pfI sf p < sf := by
  unfold pfI
  have hu := inU_iff.1 (inU_wrap p)
  rw [wrU_id (n := sf) (by omega), Int.tmod_eq_emod_of_nonneg hu.1]
  have a := Int.emod_nonneg (IntKind.u64.wrap p) (show sf ≠ 0 by omega)
  have b := Int.emod_lt_of_pos (IntKind.u64.wrap p) (show 0 < sf by omega)
  rw [wI_id (by omega)]
  exact b
def fT (sf : Int) (L : List (List Dat)) (k t w : Int) : Int := cyT sf false t w (gC L k) (pfI sf (gPh L k)) true (gFi L k) (armB (gH L k) (gPs L k) (gPw L k)) (safB (gH L k) (gPs L k) (gPw L k))
def fW (sf : Int) (L : List (List Dat)) (k t w : Int) : Int := cyW sf false t w (gC L k) (pfI sf (gPh L k)) true (gFi L k) (armB (gH L k) (gPs L k) (gPw L k)) (safB (gH L k) (gPs L k) (gPw L k))
theorem fT_in {sf : Int} (hs : 1 ≤ sf ∧ sf ≤ 4) {L : List (List Dat)} {k t w : Int} (ht : t = 1 ∨ t = 2) : fT sf L k t w = 1 ∨ fT sf L k t w = 2 := by
  unfold fT cyT waT
  rw [decide_eq_true (pfI_lt hs)]
  rcases ht with rfl | rfl
  · cases gC L k == 3 <;> cases gFi L k <;> first | exact .inl rfl | exact .inr rfl
  · exact .inr rfl
noncomputable def ESf (sf : Int) (L : List (List Dat)) (own mark : Bool) (n : Nat) (k t w : Int) : Option (Ex × St) :=
  evLoop ΓSw Try.prog L0 (cutC 0 1 kSf) bdSf n (mk kSf [.v (I sf), .ptr 0 0, .row 0, .v (I (L.length : Int)), .v (I k)] (SFm sf false t w L own mark)) KSf
def RSf (L : List (List Dat)) (own mark : Bool) : St := mk (xSf .ret) [.v (Bo true)] ⟨[], [], [rI L own mark]⟩
def XSf (L : List (List Dat)) (own mark : Bool) : St := mk (xSf (.exit 0)) [] ⟨[], [], [rI L own mark]⟩
theorem endSf (sf : Int) (L : List (List Dat)) (own mark : Bool) (n : Nat) (k t w : Int) (hk : ¬ k < (L.length : Int)) : ESf sf L own mark (n + 1) k t w = some (.exit 0, XSf L own mark) := by
  refine (stepSf sf k sf t w false L own mark n).trans ?_
  rw [decide_eq_false hk]
  rfl
theorem rndSf (sf : Int) (hs : 1 ≤ sf ∧ sf ≤ 4) (L : List (List Dat)) (own mark : Bool) (n : Nat) (k t w : Int) (ht : t = 1 ∨ t = 2) (hk : 0 ≤ k ∧ k < (L.length : Int)) (hk2 : k < 1000) :
    ESf sf L own mark (n + 1) k t w = bif !rgt (gPs L k) (gPw L k) then some (.ret, RSf L own mark) else ESf sf L own mark n (k + 1) (fT sf L k t w) (fW sf L k t w) := by
  refine (stepSf sf k sf t w false L own mark n).trans ?_
  have e0 : (IntKind.u64.wrap sf == (0 : Int)) = false := by
    rw [wrU_id (by omega)]
    exact beq_eq_false_iff_ne.2 (by omega)
  have e1 : ((bif false then (0 : Int) else fT sf L k t w) == (0 : Int)) = false := by
    have := fT_in hs (L := L) (k := k) (w := w) ht
    exact beq_eq_false_iff_ne.2 (by show fT sf L k t w ≠ 0; omega)
  unfold fT pfI at e1
  rw [decide_eq_true hk.1, decide_eq_true hk.2, wI_id (n := k + 1) (by omega), e0, e1]
  cases hr : rgt (gPs L k) (gPw L k)
  · rfl
  · simp only [same_self, Bool.not_true, Bool.and_self, cond_true, cond_false]
    rfl
theorem sfLoop {α : Type} (sf : Int) (hs : 1 ≤ sf ∧ sf ≤ 4) (L : List (List Dat)) (E : Nat → Int → Int → Int → Option α) (X Y : Option α)
    (he : ∀ n k t w, ¬ k < (L.length : Int) → E (n + 1) k t w = X)
    (hr : ∀ n k t w, t = 1 ∨ t = 2 → 0 ≤ k ∧ k < (L.length : Int) → E (n + 1) k t w = bif !rgt (gPs L k) (gPw L k) then Y else E n (k + 1) (fT sf L k t w) (fW sf L k t w)) :
    ∀ (m : Nat) (k t w : Int), 0 ≤ k → k + m = L.length → t = 1 ∨ t = 2 → E (m + 1) k t w = bif qr L m k then X else Y := by
  intro m
  induction m with
  | zero =>
    intro k t w h0 h1 ht
    exact he 0 k t w (by omega)
  | succ m ih =>
    intro k t w h0 h1 ht
    rw [hr (m + 1) k t w ht (by omega)]
    show _ = bif (bif !rgt (gPs L k) (gPw L k) then false else qr L m (k + 1)) then X else Y
    cases rgt (gPs L k) (gPw L k)
    · rfl
    · exact ih (k + 1) _ _ (by omega) (by omega) (fT_in hs ht)
theorem loopSf (sf : Int) (hs : 1 ≤ sf ∧ sf ≤ 4) (L : List (List Dat)) (own mark : Bool) (hl : L.length ≤ 300) : ESf sf L own mark (L.length + 1) 0 1 0 = bif qr L L.length 0 then some (.exit 0, XSf L own mark) else some (.ret, RSf L own mark) :=
  sfLoop sf hs L (fun n k t w => ESf sf L own mark n k t w) _ _ (fun n k t w h => endSf sf L own mark n k t w h) (fun n k t w ht hk => rndSf sf hs L own mark n k t w ht hk (by omega)) L.length 0 1 0 (by decide) (by omega) (.inl rfl)
theorem loopsSf : loopsOf (Try.f17.body.getD .skip) = [bdSf] := by kernel_rfl
def GSf (fin : Bool) (vals : List SV) (m : Mem) : Option (Bool × Ex × St) :=
  match vals, m with
  | [.v (.int .i64 sf), .ptr 0 0, .row 0, .v (.int .i64 n), .v (.int .i64 k)], ⟨[[.v (.int .i64 s), .v (.bool l), .v (.int .i64 t), .v (.int .i64 w)]], [true], [.live ⟨71, [.num .i64, .bool, .num .i64, .num .i64, .num .i64, .num .i64, .bool, .bool, .num .i64], L, own, mark⟩]⟩ =>
    bif fin then some ((t == 1 && (w == 0 && (k == 0 && !l))) && (sf == s && (decide (1 ≤ s ∧ s ≤ 4) && (n == (L.length : Int) && (Nat.ble L.length 300 && qr L L.length 0)))), .exit 0, XSf L own mark)
    else some ((t == 1 && (w == 0 && (k == 0 && !l))) && (sf == s && (decide (1 ≤ s ∧ s ≤ 4) && (n == (L.length : Int) && (Nat.ble L.length 300 && !qr L L.length 0)))), .ret, RSf L own mark)
  | _, _ => none
noncomputable def ΛSf (fin : Bool) : LoopOrc := fun _ st => viaC 0 1 kSf (GSf fin) st
theorem loopOkSf (fin : Bool) (z : Base) (z1 : z.L.length = 0) (z2 : z.U.length = 1) : LoopOk (ΛSf fin) Try.prog z bdSf := by
  refine loop_okC (Λ := L0) (kx := xSf) OkSw mixed z1 z2 (fun b hb st e st' h => by cases h) (G := GSf fin) (fun _ => rfl) ?_
  intro vals m e st' h
  unfold GSf at h
  split at h
  · rename_i sf n k s l t w L own mark
    cases fin
    · simp only [cond_false] at h
      obtain ⟨h1, rfl, rfl⟩ := some_t2 h
      simp only [Bool.and_eq_true, beq_iff_eq, Bool.not_eq_true', decide_eq_true_eq] at h1
      obtain ⟨⟨rfl, rfl, rfl, rfl⟩, rfl, hs, rfl, hl, hq⟩ := h1
      have := loopSf sf hs L own mark (Nat.le_of_ble_eq_true hl)
      rw [hq] at this
      exact ⟨L.length + 1, this⟩
    · simp only [cond_true] at h
      obtain ⟨h1, rfl, rfl⟩ := some_t2 h
      simp only [Bool.and_eq_true, beq_iff_eq, Bool.not_eq_true', decide_eq_true_eq] at h1
      obtain ⟨⟨rfl, rfl, rfl, rfl⟩, rfl, hs, rfl, hl, hq⟩ := h1
      have := loopSf sf hs L own mark (Nat.le_of_ble_eq_true hl)
      rw [hq] at this
      exact ⟨L.length + 1, this⟩
  · cases h
end Go.Proofs.Ytnelbjbphkfkkaa

namespace Go.Proofs.Ytnelbjbphkfkkaa
open Go Go.Proofs Go.Sx
set_option linter.unusedVariables false
/-! norm -/
/-! cast -/
set_option maxRecDepth 20000 in
theorem treeFlightT (sf : Int) (L : List (List Dat)) (own mark : Bool) : runG ΓSw (ΛSf true) Try.prog Try.f17 [.v (I sf), .row 0] ⟨[], [], [rI L own mark]⟩ = 
    (bif decide ((L.length : Int) > (300 : Int)) then some (.v (Bo true), ⟨[], [], [.live ⟨71, [.num .i64, .bool, .num .i64, .num .i64, .num .i64, .num .i64, .bool, .bool, .num .i64], L, own, mark⟩]⟩) else (bif true && (wI ((1 : Int) + wI ((IntKind.u64.wrap sf).tmod (4 : Int))) == wI ((1 : Int) + wI ((IntKind.u64.wrap sf).tmod (4 : Int))) && (decide ((1 : Int) ≤ wI ((1 : Int) + wI ((IntKind.u64.wrap sf).tmod (4 : Int))) ∧ wI ((1 : Int) + wI ((IntKind.u64.wrap sf).tmod (4 : Int))) ≤ (4 : Int)) && ((L.length : Int) == (L.length : Int) && (L.length.ble (300) && qr L L.length (0 : Int))))) then some (.v (Bo true), ⟨[], [], [.live ⟨71, [.num .i64, .bool, .num .i64, .num .i64, .num .i64, .num .i64, .bool, .bool, .num .i64], L, own, mark⟩]⟩) else none)) := by kernel_rfl
set_option maxRecDepth 20000 in
theorem treeFlightF (sf : Int) (L : List (List Dat)) (own mark : Bool) : runG ΓSw (ΛSf false) Try.prog Try.f17 [.v (I sf), .row 0] ⟨[], [], [rI L own mark]⟩ = 
    (bif decide ((L.length : Int) > (300 : Int)) then some (.v (Bo true), ⟨[], [], [.live ⟨71, [.num .i64, .bool, .num .i64, .num .i64, .num .i64, .num .i64, .bool, .bool, .num .i64], L, own, mark⟩]⟩) else (bif true && (wI ((1 : Int) + wI ((IntKind.u64.wrap sf).tmod (4 : Int))) == wI ((1 : Int) + wI ((IntKind.u64.wrap sf).tmod (4 : Int))) && (decide ((1 : Int) ≤ wI ((1 : Int) + wI ((IntKind.u64.wrap sf).tmod (4 : Int))) ∧ wI ((1 : Int) + wI ((IntKind.u64.wrap sf).tmod (4 : Int))) ≤ (4 : Int)) && ((L.length : Int) == (L.length : Int) && (L.length.ble (300) && !qr L L.length (0 : Int))))) then some (.v (Bo true), ⟨[], [], [.live ⟨71, [.num .i64, .bool, .num .i64, .num .i64, .num .i64, .num .i64, .bool, .bool, .num .i64], L, own, mark⟩]⟩) else none)) := by kernel_rfl
end Go.Proofs.Ytnelbjbphkfkkaa

namespace Go.Proofs.Ytnelbjbphkfkkaa
open Go Go.Proofs Go.Sx
set_option linter.unusedVariables false
theorem in_is {l : List Dat} (h : WfL ksIn l) : ∃ c he pc pp ps pw fl fi ph, l = [.n c, .b he, .n pc, .n pp, .n ps, .n pw, .b fl, .b fi, .n ph] := by
  match l, h with
  | [.n c, .b he, .n pc, .n pp, .n ps, .n pw, .b fl, .b fi, .n ph], _ => exact ⟨c, he, pc, pp, ps, pw, fl, fi, ph, rfl⟩
theorem seqrNilLaw (l0 : List Dat) (w0 : WfL ksIn l0) : ∃ m', runG ΓSw L0 Try.prog Try.f19 (inArgs [.v (.agg (mkEl ksIn l0).toArray)] 0) (inMem [.v (.agg (mkEl ksIn l0).toArray)]) = some (.v (.bool true), m') := by
  obtain ⟨c, he, pc, pp, ps, pw, fl, fi, ph, rfl⟩ := in_is w0
  exact ⟨_, treeSNil c he pc pp ps pw fl fi ph⟩
theorem seqrPlaysLaw (a0 : Int) (a1 : Bool) (l2 : List (List Dat)) (u0 : (Lit.int .i64 a0).wf = true) (w2 : ∀ o ∈ l2, WfL ksIn o) (n2 : l2.length ≤ 281474976710656) :
    ∃ Λ m', (∀ z : Base, z.L.length = 0 → z.U.length = 1 → ∀ b ∈ loopsOf (Try.f16.body.getD .skip), LoopOk Λ Try.prog z b) ∧ runG ΓSw Λ Try.prog Try.f16 (inArgs [.v (.int .i64 a0), .v (.bool a1), .row 71 ksIn l2] 0) (inMem [.v (.int .i64 a0), .v (.bool a1), .row 71 ksIn l2]) = some (.v (.bool true), m') := by
  cases hq : qr l2 l2.length 0
  · refine ⟨ΛSp false, ⟨[], [], [rI l2 false false]⟩, fun z z1 z2 => oneLoop loopsSp (loopOkSp false z z1 z2), (treePlaysF a0 a1 l2 false false).trans ?_⟩
    rw [hq]
    by_cases hl : (l2.length : Int) > 300
    · rw [decide_eq_true hl]; rfl
    · rw [decide_eq_false hl, Nat.ble_eq_true_of_le (show l2.length ≤ 300 by omega)]
      simp only [beq_self_eq_true, Bool.not_false, Bool.and_self, cond_true, cond_false]
      rfl
  · refine ⟨ΛSp true, ⟨[], [], [rI l2 false false]⟩, fun z z1 z2 => oneLoop loopsSp (loopOkSp true z z1 z2), (treePlaysT a0 a1 l2 false false).trans ?_⟩
    rw [hq]
    by_cases hl : (l2.length : Int) > 300
    · rw [decide_eq_true hl]; rfl
    · rw [decide_eq_false hl, Nat.ble_eq_true_of_le (show l2.length ≤ 300 by omega)]
      simp only [beq_self_eq_true, Bool.and_self, cond_true, cond_false]
      rfl
theorem sfB (n : Int) : 1 ≤ wI (1 + wI ((IntKind.u64.wrap n).tmod 4)) ∧ wI (1 + wI ((IntKind.u64.wrap n).tmod 4)) ≤ 4 := gB n 4 (by decide) (by decide)
theorem seqrFlightLaw (a0 : Int) (l1 : List (List Dat)) (u0 : (Lit.int .i64 a0).wf = true) (w1 : ∀ o ∈ l1, WfL ksIn o) (n1 : l1.length ≤ 281474976710656) :
    ∃ Λ m', (∀ z : Base, z.L.length = 0 → z.U.length = 1 → ∀ b ∈ loopsOf (Try.f17.body.getD .skip), LoopOk Λ Try.prog z b) ∧ runG ΓSw Λ Try.prog Try.f17 (inArgs [.v (.int .i64 a0), .row 71 ksIn l1] 0) (inMem [.v (.int .i64 a0), .row 71 ksIn l1]) = some (.v (.bool true), m') := by
  have hS := sfB a0
  cases hq : qr l1 l1.length 0
  · refine ⟨ΛSf false, ⟨[], [], [rI l1 false false]⟩, fun z z1 z2 => oneLoop loopsSf (loopOkSf false z z1 z2), (treeFlightF a0 l1 false false).trans ?_⟩
    rw [hq, decide_eq_true hS]
    by_cases hl : (l1.length : Int) > 300
    · rw [decide_eq_true hl]; rfl
    · rw [decide_eq_false hl, Nat.ble_eq_true_of_le (show l1.length ≤ 300 by omega)]
      simp only [beq_self_eq_true, Bool.not_false, Bool.and_self, cond_true, cond_false]
      rfl
  · refine ⟨ΛSf true, ⟨[], [], [rI l1 false false]⟩, fun z z1 z2 => oneLoop loopsSf (loopOkSf true z z1 z2), (treeFlightT a0 l1 false false).trans ?_⟩
    rw [hq, decide_eq_true hS]
    by_cases hl : (l1.length : Int) > 300
    · rw [decide_eq_true hl]; rfl
    · rw [decide_eq_false hl, Nat.ble_eq_true_of_le (show l1.length ≤ 300 by omega)]
      simp only [beq_self_eq_true, Bool.and_self, cond_true, cond_false]
      rfl
theorem loopsAllS2 (z : Base) (z1 : z.L.length = 0) (z2 : z.U.length = 0) : ∀ b ∈ loopsOf (Try.f18.body.getD .skip), LoopOk ΛS2 Try.prog z b := oneLoop loopsS2 (loopOkS2 z z1 z2)
theorem seqrTwoLaw (a0 : Int) (a1 : Bool) (u0 : (Lit.int .i64 a0).wf = true) : ∃ m', runG ΓSw ΛS2 Try.prog Try.f18 (inArgs [.v (.int .i64 a0), .v (.bool a1)] 0) (inMem [.v (.int .i64 a0), .v (.bool a1)]) = some (.v (.bool true), m') := by
  refine ⟨M0, (treeTwo a0 a1).trans ?_⟩
  have hu := inU_iff.1 (inU_wrap a0)
  have k : 0 ≤ wI ((IntKind.u64.wrap a0).tmod 5) ∧ wI ((IntKind.u64.wrap a0).tmod 5) ≤ 4 := by
    rw [Int.tmod_eq_emod_of_nonneg hu.1]
    have a := Int.emod_nonneg (IntKind.u64.wrap a0) (show (5 : Int) ≠ 0 by omega)
    have b := Int.emod_lt_of_pos (IntKind.u64.wrap a0) (show (0 : Int) < 5 by omega)
    rw [wI_id (by omega)]
    omega
  rw [decide_eq_true k]
  rfl
end Go.Proofs.Ytnelbjbphkfkkaa

