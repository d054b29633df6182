/-
  What is known of this program: contracts of poly and of box over rows of places, and of the document's.
-/
import Derived.Test.YtcjkkfhdnealpaaYa
import Derived.Test.YtcjkkfhdnealpaaSx
namespace Go.Proofs.Ytcjkkfhdnealpaa
open Go Go.Proofs Go.Sx
set_option linter.unusedVariables false
/-! norm -/
/-! cast -/
/-! rep (((L.getD i.toNat []).headD (Dat.n (0 : Int))).toI) => (pX L i) -/
/-! rep (((L.getD i.toNat []).tail.headD (Dat.n (0 : Int))).toI) => (pY L i) -/
/-! rep (((L.getD ((wI (i + (1 : Int))).tmod (L.length : Int)).toNat []).headD (Dat.n (0 : Int))).toI) => (pX L (nx L i)) -/
/-! rep (((L.getD ((wI (i + (1 : Int))).tmod (L.length : Int)).toNat []).tail.headD (Dat.n (0 : Int))).toI) => (pY L (nx L i)) -/
/-! rep (wI (i + (1 : Int))).tmod (L.length : Int) => nx L i -/
def pX (L : List (List Dat)) (k : Int) : Int := ((L.getD k.toNat []).headD (Dat.n 0)).toI
def pY (L : List (List Dat)) (k : Int) : Int := ((L.getD k.toNat []).tail.headD (Dat.n 0)).toI
def nx (L : List (List Dat)) (i : Int) : Int := (wI (i + 1)).tmod (L.length : Int)
abbrev rP (L : List (List Dat)) (own mark : Bool) : RowS := .live ⟨24, [.num .i64, .num .i64], L, own, mark⟩
set_option maxRecDepth 20000 in
theorem runBhd (i : Int) (L : List (List Dat)) (own mark : Bool) : runG ΓBo L0 Try.prog Try.f87 [.row 0, .v (I i)] ⟨[], [], [rP L own mark]⟩ = 
    (bif (L.length : Int) == (0 : Int) then none else (bif decide ((0 : Int) ≤ nx L i) && decide (nx L i < (L.length : Int)) then some (.v (.agg #[(I (pX L (nx L i))), (I (pY L (nx L i)))]), ⟨[], [], [.live ⟨24, [.num .i64, .num .i64], L, own, mark⟩]⟩) else none)) := by kernel_rfl
set_option maxRecDepth 20000 in
theorem runEdg (i : Int) (L : List (List Dat)) (own mark : Bool) : runG ΓBo L0 Try.prog Try.f63 [.row 0, .v (I i)] ⟨[], [], [rP L own mark]⟩ = 
    (bif decide ((0 : Int) ≤ i) && decide (i < (L.length : Int)) then (bif (L.length : Int) == (0 : Int) then none else (bif decide ((0 : Int) ≤ nx L i) && decide (nx L i < (L.length : Int)) then some (.v (.tuple #[(.agg #[(I (pX L i)), (I (pY L i))]), (.agg #[(I (pX L (nx L i))), (I (pY L (nx L i)))])]), ⟨[], [], [.live ⟨24, [.num .i64, .num .i64], L, own, mark⟩]⟩) else none)) else none) := by kernel_rfl
set_option maxRecDepth 20000 in
theorem runNxt (i : Int) (L : List (List Dat)) (own mark : Bool) : runG ΓBo L0 Try.prog Try.f59 [.row 0, .v (I i)] ⟨[], [], [rP L own mark]⟩ = 
    (bif (L.length : Int) == (0 : Int) then none else (bif decide ((0 : Int) ≤ nx L i) && decide (nx L i < (L.length : Int)) then some (.v (.agg #[(I (pX L (nx L i))), (I (pY L (nx L i)))]), ⟨[], [], [.live ⟨24, [.num .i64, .num .i64], L, own, mark⟩]⟩) else none)) := by kernel_rfl
def atG (L : List (List Dat)) (i : Int) : Bool := decide (0 ≤ i) && (decide (i < (L.length : Int)) && Nat.ble L.length 1000000)
theorem atG_iff {L : List (List Dat)} {i : Int} : atG L i = true ↔ 0 ≤ i ∧ i < (L.length : Int) ∧ L.length ≤ 1000000 := by
  unfold atG
  simp only [Bool.and_eq_true, decide_eq_true_eq]
  exact ⟨fun ⟨a, b, c⟩ => ⟨a, b, Nat.le_of_ble_eq_true c⟩, fun ⟨a, b, c⟩ => ⟨a, b, Nat.ble_eq_true_of_le c⟩⟩
theorem nx_in {L : List (List Dat)} {i : Int} (h : atG L i = true) : 0 ≤ nx L i ∧ nx L i < (L.length : Int) := by
  have h := atG_iff.1 h
  unfold nx
  rw [wI_id (by omega), Int.tmod_eq_emod_of_nonneg (by omega)]
  exact ⟨Int.emod_nonneg _ (by omega), Int.emod_lt_of_pos _ (by omega)⟩
def gBhd (xs : List SV) (m : Mem) : Option (Bool × Value) :=
  match xs, m with
  | [.row 0, .v (.int .i64 i)], ⟨[], [], [.live ⟨24, [.num .i64, .num .i64], L, own, mark⟩]⟩ => some (atG L i, .agg #[I (pX L (nx L i)), I (pY L (nx L i))])
  | _, _ => none
theorem gBhd_ok : ∀ xs m r, gBhd xs m = some (true, r) → CallOk Try.prog 87 xs m (.v r) m := by
  intro xs m r h
  unfold gBhd at h
  split at h
  · rename_i i L own mark
    obtain ⟨h1, rfl⟩ := some_t h
    refine runOk (Λ := L0) OkBo Try.func87 rfl (fun z _ _ => l0Ok' _ z) ?_
    refine (runBhd i L own mark).trans ?_
    have n := nx_in h1
    have a := atG_iff.1 h1
    rw [beq_eq_false_iff_ne.2 (show (L.length : Int) ≠ 0 by omega), decide_eq_true n.1, decide_eq_true n.2]
    rfl
  · cases h
theorem gNxt_ok : ∀ xs m r, gBhd xs m = some (true, r) → CallOk Try.prog 59 xs m (.v r) m := by
  intro xs m r h
  unfold gBhd at h
  split at h
  · rename_i i L own mark
    obtain ⟨h1, rfl⟩ := some_t h
    refine runOk (Λ := L0) OkBo Try.func59 rfl (fun z _ _ => l0Ok' _ z) ?_
    refine (runNxt i L own mark).trans ?_
    have n := nx_in h1
    have a := atG_iff.1 h1
    rw [beq_eq_false_iff_ne.2 (show (L.length : Int) ≠ 0 by omega), decide_eq_true n.1, decide_eq_true n.2]
    rfl
  · cases h
def gEdg (xs : List SV) (m : Mem) : Option (Bool × Value) :=
  match xs, m with
  | [.row 0, .v (.int .i64 i)], ⟨[], [], [.live ⟨24, [.num .i64, .num .i64], L, own, mark⟩]⟩ => some (atG L i, .tuple #[.agg #[I (pX L i), I (pY L i)], .agg #[I (pX L (nx L i)), I (pY L (nx L i))]])
  | _, _ => none
theorem gEdg_ok : ∀ xs m r, gEdg xs m = some (true, r) → CallOk Try.prog 63 xs m (.v r) m := by
  intro xs m r h
  unfold gEdg at h
  split at h
  · rename_i i L own mark
    obtain ⟨h1, rfl⟩ := some_t h
    refine runOk (Λ := L0) OkBo Try.func63 rfl (fun z _ _ => l0Ok' _ z) ?_
    refine (runEdg i L own mark).trans ?_
    have n := nx_in h1
    have a := atG_iff.1 h1
    rw [beq_eq_false_iff_ne.2 (show (L.length : Int) ≠ 0 by omega), decide_eq_true n.1, decide_eq_true n.2, decide_eq_true a.1, decide_eq_true a.2.1]
    rfl
  · cases h
noncomputable def ΓRw1 : Orc := addRd 87 gBhd ΓBo
theorem OkRw1 : ΓRw1.Ok Try.prog := addRd_ok OkBo gBhd_ok
noncomputable def ΓRw2 : Orc := addRd 63 gEdg ΓRw1
theorem OkRw2 : ΓRw2.Ok Try.prog := addRd_ok OkRw1 gEdg_ok
noncomputable def ΓRo : Orc := addRd 59 gBhd ΓRw2
theorem OkRo : ΓRo.Ok Try.prog := addRd_ok OkRw2 gNxt_ok
end Go.Proofs.Ytcjkkfhdnealpaa

namespace Go.Proofs.Ytcjkkfhdnealpaa
open Go Go.Proofs Go.Sx
set_option linter.unusedVariables false
/-! norm -/
/-! cast -/

set_option maxRecDepth 20000 in
theorem runPFb (a1 : Int) (a2 : Int) (b1 : Int) (b2 : Int) (c1 : Int) (c2 : Int) : runG ΓRo L0 Try.prog Try.f89 [.v (.agg #[I a1, I a2]), .v (.agg #[I b1, I b2]), .v (.agg #[I c1, I c2])] M0 = 
    (bif onB c1 c2 a1 a2 b1 b2 then some (.v (Bo true), M0) else some (.v (Bo (onB a1 a2 b1 b2 c1 c2)), M0)) := by kernel_rfl
def gPFb (vs : List Value) : Option (Bool × Value) :=
  match vs with
  | [.agg ⟨[.int .i64 a1, .int .i64 a2]⟩, .agg ⟨[.int .i64 b1, .int .i64 b2]⟩, .agg ⟨[.int .i64 c1, .int .i64 c2]⟩] => some (true, Bo (onB c1 c2 a1 a2 b1 b2 || onB a1 a2 b1 b2 c1 c2))
  | _ => none
theorem gPFb_ok : ∀ vs r, gPFb vs = some (true, r) → ∀ m, CallOk Try.prog 89 (vs.map .v) m (.v r) m := by
  intro vs r h
  unfold gPFb at h
  split at h
  · rename_i a1 a2 b1 b2 c1 c2
    obtain ⟨h1, rfl⟩ := some_t h
    refine runV (vs := [.agg #[I a1, I a2], .agg #[I b1, I b2], .agg #[I c1, I c2]]) (Λ := L0) (m' := M0) OkRo Try.func89 rfl (fun z _ _ => l0Ok' _ z) ?_
    exact (runPFb a1 a2 b1 b2 c1 c2).trans (by cases onB c1 c2 a1 a2 b1 b2 <;> rfl)
  · cases h
noncomputable def ΓZ1 : Orc := addVal 89 gPFb ΓRo
theorem OkZ1 : ΓZ1.Ok Try.prog := addVal_ok OkRo gPFb_ok
set_option maxRecDepth 20000 in
theorem runMwr (i j : Int) (L : List (List Dat)) (own mark : Bool) : runG ΓZ1 L0 Try.prog Try.f58 [.row 0, .v (I i), .v (I j)] ⟨[], [], [rP L own mark]⟩ = 
    (bif atG L i then (bif atG L j then (bif wI (i + (1 : Int)) == j then some (.v (Bo (onB (pX L (nx L j)) (pY L (nx L j)) (pX L i) (pY L i) (pX L (nx L i)) (pY L (nx L i)) || onB (pX L i) (pY L i) (pX L (nx L i)) (pY L (nx L i)) (pX L (nx L j)) (pY L (nx L j)))), ⟨[], [], [.live ⟨24, [.num .i64, .num .i64], L, own, mark⟩]⟩) else (bif (L.length : Int) == (0 : Int) then none else (bif (wI (j + (1 : Int))).tmod (L.length : Int) == i then some (.v (Bo (onB (pX L (nx L i)) (pY L (nx L i)) (pX L j) (pY L j) (pX L (nx L j)) (pY L (nx L j)) || onB (pX L j) (pY L j) (pX L (nx L j)) (pY L (nx L j)) (pX L (nx L i)) (pY L (nx L i)))), ⟨[], [], [.live ⟨24, [.num .i64, .num .i64], L, own, mark⟩]⟩) else some (.v (Bo (meetB (pX L i) (pY L i) (pX L (nx L i)) (pY L (nx L i)) (pX L j) (pY L j) (pX L (nx L j)) (pY L (nx L j)))), ⟨[], [], [.live ⟨24, [.num .i64, .num .i64], L, own, mark⟩]⟩)))) else none) else none) := by kernel_rfl
noncomputable def ΓPz : Orc := ΓZ1
theorem OkPz : ΓPz.Ok Try.prog := OkZ1
end Go.Proofs.Ytcjkkfhdnealpaa

namespace Go.Proofs.Ytcjkkfhdnealpaa
open Go Go.Proofs Go.Sx
set_option linter.unusedVariables false
/-! norm -/
/-! cast -/
/-! rep (((L.getD k.toNat []).headD (Dat.n (0 : Int))).toI) => (pX L k) -/
/-! rep (((L.getD k.toNat []).tail.headD (Dat.n (0 : Int))).toI) => (pY L k) -/
/-! rep ((L.getD k.toNat []).headD (Dat.n (0 : Int))).toI => (pX L k) -/
/-! rep ((L.getD k.toNat []).tail.headD (Dat.n (0 : Int))).toI => (pY L k) -/
def fovI (n : Int) : Bool := decide (n < -1073741824) || decide (n > 1073741824)
def rgO (px py ax ay bx by1 : Int) : Bool := bif decide (ay > by1) then decide (by1 ≤ py) && (decide (ay > py) && decide (turnI bx by1 ax ay px py > 0)) else decide (ay ≤ py) && (decide (by1 > py) && decide (turnI ax ay bx by1 px py > 0))

set_option maxRecDepth 20000 in
theorem runFov (n : Int) : runG ΓPz L0 Try.prog Try.f90 [.v (I n)] M0 = 
    (bif decide (n < (-1073741824 : Int)) then some (.v (Bo true), M0) else some (.v (Bo (decide (n > (1073741824 : Int)))), M0)) := by kernel_rfl
def gFov (vs : List Value) : Option (Bool × Value) :=
  match vs with
  | [.int .i64 n] => some (true, Bo (fovI n))
  | _ => none
theorem gFov_ok : ∀ vs r, gFov vs = some (true, r) → ∀ m, CallOk Try.prog 90 (vs.map .v) m (.v r) m := by
  intro vs r h
  unfold gFov at h
  split at h
  · rename_i n
    obtain ⟨h1, rfl⟩ := some_t h
    refine runV (vs := [I n]) (Λ := L0) (m' := M0) OkPz Try.func90 rfl (fun z _ _ => l0Ok' _ z) ?_
    exact (runFov n).trans (by unfold fovI; cases decide (n < -1073741824) <;> rfl)
  · cases h
noncomputable def ΓPv1 : Orc := addVal 90 gFov ΓPz
theorem OkPv1 : ΓPv1.Ok Try.prog := addVal_ok OkPz gFov_ok
set_option maxRecDepth 20000 in
theorem runFar (x : Int) (y : Int) : runG ΓPv1 L0 Try.prog Try.f62 [.v (.agg #[I x, I y])] M0 = 
    (bif fovI x then some (.v (Bo true), M0) else some (.v (Bo (fovI y)), M0)) := by kernel_rfl
def gFar (vs : List Value) : Option (Bool × Value) :=
  match vs with
  | [.agg ⟨[.int .i64 x, .int .i64 y]⟩] => some (true, Bo (fovI x || fovI y))
  | _ => none
theorem gFar_ok : ∀ vs r, gFar vs = some (true, r) → ∀ m, CallOk Try.prog 62 (vs.map .v) m (.v r) m := by
  intro vs r h
  unfold gFar at h
  split at h
  · rename_i x y
    obtain ⟨h1, rfl⟩ := some_t h
    refine runV (vs := [.agg #[I x, I y]]) (Λ := L0) (m' := M0) OkPv1 Try.func62 rfl (fun z _ _ => l0Ok' _ z) ?_
    exact (runFar x y).trans (by cases fovI x <;> rfl)
  · cases h
noncomputable def ΓPv2 : Orc := addVal 62 gFar ΓPv1
theorem OkPv2 : ΓPv2.Ok Try.prog := addVal_ok OkPv1 gFar_ok
set_option maxRecDepth 20000 in
theorem runNpl (x : Int) (y : Int) : runG ΓPv2 L0 Try.prog Try.f57 [.v (.agg #[I x, I y])] M0 = 
    some (.v (Bo (!plR x y)), M0) := by kernel_rfl
def gNpl (vs : List Value) : Option (Bool × Value) :=
  match vs with
  | [.agg ⟨[.int .i64 x, .int .i64 y]⟩] => some (true, Bo (!plR x y))
  | _ => none
theorem gNpl_ok : ∀ vs r, gNpl vs = some (true, r) → ∀ m, CallOk Try.prog 57 (vs.map .v) m (.v r) m := by
  intro vs r h
  unfold gNpl at h
  split at h
  · rename_i x y
    obtain ⟨h1, rfl⟩ := some_t h
    refine runV (vs := [.agg #[I x, I y]]) (Λ := L0) (m' := M0) OkPv2 Try.func57 rfl (fun z _ _ => l0Ok' _ z) ?_
    exact (runNpl x y).trans (rfl)
  · cases h
noncomputable def ΓPv3 : Orc := addVal 57 gNpl ΓPv2
theorem OkPv3 : ΓPv3.Ok Try.prog := addVal_ok OkPv2 gNpl_ok
set_option maxRecDepth 20000 in
theorem runRgo (px : Int) (py : Int) (ax : Int) (ay : Int) (bx : Int) (by1 : Int) : runG ΓPv3 L0 Try.prog Try.f64 [.v (.agg #[I px, I py]), .v (.agg #[I ax, I ay]), .v (.agg #[I bx, I by1])] M0 = 
    (bif decide (ay > by1) then (bif decide (by1 ≤ py) then (bif decide (ay > py) then some (.v (Bo (decide (turnI bx by1 ax ay px py > (0 : Int)))), M0) else some (.v (Bo false), M0)) else some (.v (Bo false), M0)) else (bif decide (ay ≤ py) then (bif decide (by1 > py) then some (.v (Bo (decide (turnI ax ay bx by1 px py > (0 : Int)))), M0) else some (.v (Bo false), M0)) else some (.v (Bo false), M0))) := by kernel_rfl
def gRgo (vs : List Value) : Option (Bool × Value) :=
  match vs with
  | [.agg ⟨[.int .i64 px, .int .i64 py]⟩, .agg ⟨[.int .i64 ax, .int .i64 ay]⟩, .agg ⟨[.int .i64 bx, .int .i64 by1]⟩] => some (true, Bo (rgO px py ax ay bx by1))
  | _ => none
theorem gRgo_ok : ∀ vs r, gRgo vs = some (true, r) → ∀ m, CallOk Try.prog 64 (vs.map .v) m (.v r) m := by
  intro vs r h
  unfold gRgo at h
  split at h
  · rename_i px py ax ay bx by1
    obtain ⟨h1, rfl⟩ := some_t h
    refine runV (vs := [.agg #[I px, I py], .agg #[I ax, I ay], .agg #[I bx, I by1]]) (Λ := L0) (m' := M0) OkPv3 Try.func64 rfl (fun z _ _ => l0Ok' _ z) ?_
    exact (runRgo px py ax ay bx by1).trans (by unfold rgO; cases decide (ay > by1) <;> cases decide (by1 ≤ py) <;> cases decide (ay > py) <;> cases decide (ay ≤ py) <;> cases decide (by1 > py) <;> rfl)
  · cases h
noncomputable def ΓPv4 : Orc := addVal 64 gRgo ΓPv3
theorem OkPv4 : ΓPv4.Ok Try.prog := addVal_ok OkPv3 gRgo_ok
noncomputable def ΓPw : Orc := ΓPv4
theorem OkPw : ΓPw.Ok Try.prog := OkPv4
noncomputable def bdIx : Code := loopAt (Try.f88.body.getD .skip) 0
def kIx : List Bool := maskOf 19 [0, 1, 7, 8]
def xIx (e : Ex) : List Bool := match e with
  | .exit _ => maskOf 19 []
  | .ret => maskOf 19 [4]
  | .normal => maskOf 19 [0, 1, 7, 8]
def KIx (e : Ex) (st : St) : Option (Ex × St) := some (e, cutC 0 1 (xIx e) st)
abbrev fV (f : Nat) : Value := .func (.func f) ⟨[]⟩ ⟨[]⟩
set_option maxRecDepth 20000 in
theorem stepIxNpl (k : Int) (L : List (List Dat)) (own mark : Bool) (n : Nat) : evLoop ΓPw Try.prog L0 (cutC 0 1 kIx) bdIx (n + 1) (mk kIx [.row 0, .v (fV 57), .v (I (L.length : Int)), .v (I k)] ⟨[], [], [rP L own mark]⟩) KIx =
    (bif decide (k < (L.length : Int)) then (bif decide ((0 : Int) ≤ k) && decide (k < (L.length : Int)) then (bif !plR (pX L k) (pY L k) then some (.ret, mk (xIx .ret) [.v (I k)] ⟨[], [], [.live ⟨24, [.num .i64, .num .i64], L, own, mark⟩]⟩) else evLoop ΓPw Try.prog L0 (cutC 0 1 kIx) bdIx n (mk kIx [.row 0, .v (Value.func (Fn.func (57 : Nat)) { toList := [] : Array Value } { toList := [] : Array Value }), .v (I (L.length : Int)), .v (I (wI (k + (1 : Int))))] ⟨[], [], [.live ⟨24, [.num .i64, .num .i64], L, own, mark⟩]⟩) KIx) else none) else some ((.exit 0), mk (xIx (.exit 0)) [] ⟨[], [], [.live ⟨24, [.num .i64, .num .i64], L, own, mark⟩]⟩)) := by kernel_rfl
set_option maxRecDepth 20000 in
theorem stepIxFar (k : Int) (L : List (List Dat)) (own mark : Bool) (n : Nat) : evLoop ΓPw Try.prog L0 (cutC 0 1 kIx) bdIx (n + 1) (mk kIx [.row 0, .v (fV 62), .v (I (L.length : Int)), .v (I k)] ⟨[], [], [rP L own mark]⟩) KIx =
    (bif decide (k < (L.length : Int)) then (bif decide ((0 : Int) ≤ k) && decide (k < (L.length : Int)) then (bif fovI (pX L k) || fovI (pY L k) then some (.ret, mk (xIx .ret) [.v (I k)] ⟨[], [], [.live ⟨24, [.num .i64, .num .i64], L, own, mark⟩]⟩) else evLoop ΓPw Try.prog L0 (cutC 0 1 kIx) bdIx n (mk kIx [.row 0, .v (Value.func (Fn.func (62 : Nat)) { toList := [] : Array Value } { toList := [] : Array Value }), .v (I (L.length : Int)), .v (I (wI (k + (1 : Int))))] ⟨[], [], [.live ⟨24, [.num .i64, .num .i64], L, own, mark⟩]⟩) KIx) else none) else some ((.exit 0), mk (xIx (.exit 0)) [] ⟨[], [], [.live ⟨24, [.num .i64, .num .i64], L, own, mark⟩]⟩)) := by kernel_rfl
end Go.Proofs.Ytcjkkfhdnealpaa

namespace Go.Proofs.Ytcjkkfhdnealpaa
open Go Go.Proofs Go.Sx
set_option linter.unusedVariables false
/-! norm -/
/-! cast -/
/-- The first one of which it is true, or none. -/
def ixF (p : Int → Bool) : Nat → Int → Int
  | 0, _ => -1
  | m + 1, k => bif p k then k else ixF p m (k + 1)
theorem ixLoop {α : Type} (p : Int → Bool) (N : Int) (E : Nat → Int → Option α) (X : Option α) (Y : Int → Option α) (he : ∀ n k, ¬ k < N → E (n + 1) k = X) (hr : ∀ n k, 0 ≤ k ∧ k < N → E (n + 1) k = bif p k then Y k else E n (k + 1)) :
    ∀ (m : Nat) (k : Int), 0 ≤ k → k + m = N → E (m + 1) k = bif decide (ixF p m k < 0) then X else Y (ixF p m k) := by
  intro m
  induction m with
  | zero =>
    intro k h0 h1
    exact he 0 k (by omega)
  | succ m ih =>
    intro k h0 h1
    rw [hr (m + 1) k (by omega)]
    show _ = bif decide ((bif p k then k else ixF p m (k + 1)) < 0) then X else Y (bif p k then k else ixF p m (k + 1))
    cases p k
    · exact ih (k + 1) (by omega) (by omega)
    · show Y k = bif decide (k < 0) then X else Y k
      rw [decide_eq_false (show ¬ k < 0 by omega)]
      rfl
theorem ixF_none {p : Int → Bool} : ∀ {m : Nat} {k : Int}, 0 ≤ k → (ixF p m k < 0 ↔ ∀ i, k ≤ i → i < k + m → p i = false)
  | 0, k, _ => ⟨fun _ i h1 h2 => absurd h2 (by omega), fun _ => (by decide : (-1 : Int) < 0)⟩
  | m + 1, k, h0 => by
    show (bif p k then k else ixF p m (k + 1)) < 0 ↔ _
    cases hp : p k
    · refine (ixF_none (p := p) (m := m) (k := k + 1) (by omega)).trans ⟨fun h i h1 h2 => ?_, fun h i h1 h2 => h i (by omega) (by omega)⟩
      by_cases hi : i = k
      · rw [hi, hp]
      · exact h i (by omega) (by omega)
    · refine ⟨fun h => absurd h (by show ¬ k < 0; omega), fun h => ?_⟩
      have := h k (Int.le_refl _) (by omega)
      rw [hp] at this
      cases this
theorem ixF_neg {p : Int → Bool} : ∀ {m : Nat} {k : Int}, ixF p m k < 0 → 0 ≤ k → ixF p m k = -1
  | 0, _, _, _ => rfl
  | m + 1, k, h, h0 => by
    revert h
    show (bif p k then k else ixF p m (k + 1)) < 0 → (bif p k then k else ixF p m (k + 1)) = -1
    cases p k
    · exact fun h => ixF_neg (p := p) h (by omega)
    · exact fun h => absurd h (by show ¬ k < 0; omega)
def XIx (L : List (List Dat)) (own mark : Bool) : St := mk (xIx (.exit 0)) [] ⟨[], [], [rP L own mark]⟩
def RIx (k : Int) (L : List (List Dat)) (own mark : Bool) : St := mk (xIx .ret) [.v (I k)] ⟨[], [], [rP L own mark]⟩
def pNpl (L : List (List Dat)) (k : Int) : Bool := !plR (pX L k) (pY L k)
def pFar (L : List (List Dat)) (k : Int) : Bool := fovI (pX L k) || fovI (pY L k)
theorem loopsIx : loopsOf (Try.f88.body.getD .skip) = [bdIx] := by kernel_rfl
noncomputable def EIxNpl (n : Nat) (k : Int) (L : List (List Dat)) (own mark : Bool) : Option (Ex × St) :=
  evLoop ΓPw Try.prog L0 (cutC 0 1 kIx) bdIx n (mk kIx [.row 0, .v (fV 57), .v (I (L.length : Int)), .v (I k)] ⟨[], [], [rP L own mark]⟩) KIx
theorem loopIxNpl (L : List (List Dat)) (own mark : Bool) (hl : L.length ≤ 1000000) : EIxNpl (L.length + 1) 0 L own mark = bif decide (ixF (pNpl L) L.length 0 < 0) then some (.exit 0, XIx L own mark) else some (.ret, RIx (ixF (pNpl L) L.length 0) L own mark) := by
  refine ixLoop (pNpl L) (L.length : Int) (fun n k => EIxNpl n k L own mark) (some (.exit 0, XIx L own mark)) (fun k => some (.ret, RIx k L own mark)) (fun n k hk => ?_) (fun n k hk => ?_) L.length 0 (by decide) (by omega)
  · refine (stepIxNpl k L own mark n).trans ?_
    rw [decide_eq_false hk]
    rfl
  · refine (stepIxNpl k L own mark n).trans ?_
    rw [decide_eq_true hk.1, decide_eq_true hk.2, wI_id (n := k + 1) (by omega)]
    rfl
def GIxNpl (fin : Bool) (vals : List SV) (m : Mem) : Option (Bool × Ex × St) :=
  match vals, m with
  | [.row 0, .v (.func (.func 57) ⟨[]⟩ ⟨[]⟩), .v (.int .i64 n), .v (.int .i64 k)], ⟨[], [], [.live ⟨24, [.num .i64, .num .i64], L, own, mark⟩]⟩ =>
    bif fin then some (n == (L.length : Int) && (k == 0 && (Nat.ble L.length 1000000 && decide (ixF (pNpl L) L.length 0 < 0))), .exit 0, XIx L own mark)
    else some (n == (L.length : Int) && (k == 0 && (Nat.ble L.length 1000000 && !decide (ixF (pNpl L) L.length 0 < 0))), .ret, RIx (ixF (pNpl L) L.length 0) L own mark)
  | _, _ => none
noncomputable def ΛIxNpl (fin : Bool) : LoopOrc := fun _ st => viaC 0 1 kIx (GIxNpl fin) st
theorem loopOkIxNpl (fin : Bool) (z : Base) (z1 : z.L.length = 0) (z2 : z.U.length = 1) : LoopOk (ΛIxNpl fin) Try.prog z bdIx := by
  refine loop_okC (Λ := L0) (kx := xIx) OkPw mixed z1 z2 (fun b hb st t h => by cases h) (G := GIxNpl fin) (fun _ => rfl) ?_
  intro vals m e st' h
  unfold GIxNpl at h
  split at h
  · rename_i n k L own mark
    have hx := loopIxNpl L own mark
    cases fin
    · simp only [cond_false] at h
      obtain ⟨h1, rfl, rfl⟩ := some_t2 h
      simp only [Bool.and_eq_true, beq_iff_eq, Bool.not_eq_true'] at h1
      obtain ⟨rfl, rfl, hl, hq⟩ := h1
      have := hx (Nat.le_of_ble_eq_true hl)
      rw [hq] at this
      exact ⟨L.length + 1, this⟩
    · simp only [cond_true] at h
      obtain ⟨h1, rfl, rfl⟩ := some_t2 h
      simp only [Bool.and_eq_true, beq_iff_eq] at h1
      obtain ⟨rfl, rfl, hl, hq⟩ := h1
      have := hx (Nat.le_of_ble_eq_true hl)
      rw [hq] at this
      exact ⟨L.length + 1, this⟩
  · cases h
set_option maxRecDepth 20000 in
theorem runIxNplT (L : List (List Dat)) (own mark : Bool) : runG ΓPw (ΛIxNpl true) Try.prog Try.f88 [.row 0, .v (fV 57)] ⟨[], [], [rP L own mark]⟩ = 
    (bif (L.length : Int) == (L.length : Int) && (true && (L.length.ble (1000000) && decide (ixF (pNpl L) L.length (0 : Int) < (0 : Int)))) then some (.v (I (-1)), ⟨[], [], [.live ⟨24, [.num .i64, .num .i64], L, own, mark⟩]⟩) else none) := by kernel_rfl
set_option maxRecDepth 20000 in
theorem runIxNplF (L : List (List Dat)) (own mark : Bool) : runG ΓPw (ΛIxNpl false) Try.prog Try.f88 [.row 0, .v (fV 57)] ⟨[], [], [rP L own mark]⟩ = 
    (bif (L.length : Int) == (L.length : Int) && (true && (L.length.ble (1000000) && !decide (ixF (pNpl L) L.length (0 : Int) < (0 : Int)))) then some (.v (I (ixF (pNpl L) L.length (0 : Int))), ⟨[], [], [.live ⟨24, [.num .i64, .num .i64], L, own, mark⟩]⟩) else none) := by kernel_rfl
noncomputable def EIxFar (n : Nat) (k : Int) (L : List (List Dat)) (own mark : Bool) : Option (Ex × St) :=
  evLoop ΓPw Try.prog L0 (cutC 0 1 kIx) bdIx n (mk kIx [.row 0, .v (fV 62), .v (I (L.length : Int)), .v (I k)] ⟨[], [], [rP L own mark]⟩) KIx
theorem loopIxFar (L : List (List Dat)) (own mark : Bool) (hl : L.length ≤ 1000000) : EIxFar (L.length + 1) 0 L own mark = bif decide (ixF (pFar L) L.length 0 < 0) then some (.exit 0, XIx L own mark) else some (.ret, RIx (ixF (pFar L) L.length 0) L own mark) := by
  refine ixLoop (pFar L) (L.length : Int) (fun n k => EIxFar n k L own mark) (some (.exit 0, XIx L own mark)) (fun k => some (.ret, RIx k L own mark)) (fun n k hk => ?_) (fun n k hk => ?_) L.length 0 (by decide) (by omega)
  · refine (stepIxFar k L own mark n).trans ?_
    rw [decide_eq_false hk]
    rfl
  · refine (stepIxFar k L own mark n).trans ?_
    rw [decide_eq_true hk.1, decide_eq_true hk.2, wI_id (n := k + 1) (by omega)]
    rfl
def GIxFar (fin : Bool) (vals : List SV) (m : Mem) : Option (Bool × Ex × St) :=
  match vals, m with
  | [.row 0, .v (.func (.func 62) ⟨[]⟩ ⟨[]⟩), .v (.int .i64 n), .v (.int .i64 k)], ⟨[], [], [.live ⟨24, [.num .i64, .num .i64], L, own, mark⟩]⟩ =>
    bif fin then some (n == (L.length : Int) && (k == 0 && (Nat.ble L.length 1000000 && decide (ixF (pFar L) L.length 0 < 0))), .exit 0, XIx L own mark)
    else some (n == (L.length : Int) && (k == 0 && (Nat.ble L.length 1000000 && !decide (ixF (pFar L) L.length 0 < 0))), .ret, RIx (ixF (pFar L) L.length 0) L own mark)
  | _, _ => none
noncomputable def ΛIxFar (fin : Bool) : LoopOrc := fun _ st => viaC 0 1 kIx (GIxFar fin) st
theorem loopOkIxFar (fin : Bool) (z : Base) (z1 : z.L.length = 0) (z2 : z.U.length = 1) : LoopOk (ΛIxFar fin) Try.prog z bdIx := by
  refine loop_okC (Λ := L0) (kx := xIx) OkPw mixed z1 z2 (fun b hb st t h => by cases h) (G := GIxFar fin) (fun _ => rfl) ?_
  intro vals m e st' h
  unfold GIxFar at h
  split at h
  · rename_i n k L own mark
    have hx := loopIxFar L own mark
    cases fin
    · simp only [cond_false] at h
      obtain ⟨h1, rfl, rfl⟩ := some_t2 h
      simp only [Bool.and_eq_true, beq_iff_eq, Bool.not_eq_true'] at h1
      obtain ⟨rfl, rfl, hl, hq⟩ := h1
      have := hx (Nat.le_of_ble_eq_true hl)
      rw [hq] at this
      exact ⟨L.length + 1, this⟩
    · simp only [cond_true] at h
      obtain ⟨h1, rfl, rfl⟩ := some_t2 h
      simp only [Bool.and_eq_true, beq_iff_eq] at h1
      obtain ⟨rfl, rfl, hl, hq⟩ := h1
      have := hx (Nat.le_of_ble_eq_true hl)
      rw [hq] at this
      exact ⟨L.length + 1, this⟩
  · cases h
set_option maxRecDepth 20000 in
theorem runIxFarT (L : List (List Dat)) (own mark : Bool) : runG ΓPw (ΛIxFar true) Try.prog Try.f88 [.row 0, .v (fV 62)] ⟨[], [], [rP L own mark]⟩ = 
    (bif (L.length : Int) == (L.length : Int) && (true && (L.length.ble (1000000) && decide (ixF (pFar L) L.length (0 : Int) < (0 : Int)))) then some (.v (I (-1)), ⟨[], [], [.live ⟨24, [.num .i64, .num .i64], L, own, mark⟩]⟩) else none) := by kernel_rfl
set_option maxRecDepth 20000 in
theorem runIxFarF (L : List (List Dat)) (own mark : Bool) : runG ΓPw (ΛIxFar false) Try.prog Try.f88 [.row 0, .v (fV 62)] ⟨[], [], [rP L own mark]⟩ = 
    (bif (L.length : Int) == (L.length : Int) && (true && (L.length.ble (1000000) && !decide (ixF (pFar L) L.length (0 : Int) < (0 : Int)))) then some (.v (I (ixF (pFar L) L.length (0 : Int))), ⟨[], [], [.live ⟨24, [.num .i64, .num .i64], L, own, mark⟩]⟩) else none) := by kernel_rfl
def gIxNpl (xs : List SV) (m : Mem) : Option (Bool × Value) :=
  match xs, m with
  | [.row 0, .v (.func (.func 57) ⟨[]⟩ ⟨[]⟩)], ⟨[], [], [.live ⟨24, [.num .i64, .num .i64], L, own, mark⟩]⟩ => some (Nat.ble L.length 1000000, I (ixF (pNpl L) L.length 0))
  | _, _ => none
theorem gIxNpl_ok : ∀ xs m r, gIxNpl xs m = some (true, r) → CallOk Try.prog 88 xs m (.v r) m := by
  intro xs m r h
  unfold gIxNpl at h
  split at h
  · rename_i L own mark
    obtain ⟨h1, rfl⟩ := some_t h
    cases hq : decide (ixF (pNpl L) L.length 0 < 0)
    · refine runOk (Λ := ΛIxNpl false) OkPw Try.func88 rfl (fun z z1 z2 => oneLoop loopsIx (loopOkIxNpl false z z1 z2)) ?_
      refine (runIxNplF L own mark).trans ?_
      rw [h1, hq, beq_self_eq_true]
      rfl
    · refine runOk (Λ := ΛIxNpl true) OkPw Try.func88 rfl (fun z z1 z2 => oneLoop loopsIx (loopOkIxNpl true z z1 z2)) ?_
      refine (runIxNplT L own mark).trans ?_
      rw [h1, hq, beq_self_eq_true, ixF_neg (of_decide_eq_true hq) (by decide)]
      rfl
  · cases h
def gIxFar (xs : List SV) (m : Mem) : Option (Bool × Value) :=
  match xs, m with
  | [.row 0, .v (.func (.func 62) ⟨[]⟩ ⟨[]⟩)], ⟨[], [], [.live ⟨24, [.num .i64, .num .i64], L, own, mark⟩]⟩ => some (Nat.ble L.length 1000000, I (ixF (pFar L) L.length 0))
  | _, _ => none
theorem gIxFar_ok : ∀ xs m r, gIxFar xs m = some (true, r) → CallOk Try.prog 88 xs m (.v r) m := by
  intro xs m r h
  unfold gIxFar at h
  split at h
  · rename_i L own mark
    obtain ⟨h1, rfl⟩ := some_t h
    cases hq : decide (ixF (pFar L) L.length 0 < 0)
    · refine runOk (Λ := ΛIxFar false) OkPw Try.func88 rfl (fun z z1 z2 => oneLoop loopsIx (loopOkIxFar false z z1 z2)) ?_
      refine (runIxFarF L own mark).trans ?_
      rw [h1, hq, beq_self_eq_true]
      rfl
    · refine runOk (Λ := ΛIxFar true) OkPw Try.func88 rfl (fun z z1 z2 => oneLoop loopsIx (loopOkIxFar true z z1 z2)) ?_
      refine (runIxFarT L own mark).trans ?_
      rw [h1, hq, beq_self_eq_true, ixF_neg (of_decide_eq_true hq) (by decide)]
      rfl
  · cases h
noncomputable def ΓIy1 : Orc := addRd 88 gIxNpl ΓPw
theorem OkIy1 : ΓIy1.Ok Try.prog := addRd_ok OkPw gIxNpl_ok
noncomputable def ΓIy : Orc := addRd 88 gIxFar ΓIy1
theorem OkIy : ΓIy.Ok Try.prog := addRd_ok OkIy1 gIxFar_ok
set_option maxRecDepth 20000 in
theorem runCfNpl (L : List (List Dat)) (own mark : Bool) : runG ΓIy L0 Try.prog Try.f56 [.row 0, .v (fV 57)] ⟨[], [], [rP L own mark]⟩ = 
    (bif L.length.ble (1000000) then some (.v (Bo (decide (ixF (pNpl L) L.length (0 : Int) ≥ (0 : Int)))), ⟨[], [], [.live ⟨24, [.num .i64, .num .i64], L, own, mark⟩]⟩) else none) := by kernel_rfl
set_option maxRecDepth 20000 in
theorem runCfFar (L : List (List Dat)) (own mark : Bool) : runG ΓIy L0 Try.prog Try.f56 [.row 0, .v (fV 62)] ⟨[], [], [rP L own mark]⟩ = 
    (bif L.length.ble (1000000) then some (.v (Bo (decide (ixF (pFar L) L.length (0 : Int) ≥ (0 : Int)))), ⟨[], [], [.live ⟨24, [.num .i64, .num .i64], L, own, mark⟩]⟩) else none) := by kernel_rfl
end Go.Proofs.Ytcjkkfhdnealpaa

namespace Go.Proofs.Ytcjkkfhdnealpaa
open Go Go.Proofs Go.Sx
set_option linter.unusedVariables false
/-! norm -/
/-! cast -/
def anyF (p : Int → Bool) (m : Nat) : Bool := decide (ixF p m 0 ≥ 0)
def gCfNpl (xs : List SV) (m : Mem) : Option (Bool × Value) :=
  match xs, m with
  | [.row 0, .v (.func (.func 57) ⟨[]⟩ ⟨[]⟩)], ⟨[], [], [.live ⟨24, [.num .i64, .num .i64], L, own, mark⟩]⟩ => some (Nat.ble L.length 1000000, Bo (anyF (pNpl L) L.length))
  | _, _ => none
theorem gCfNpl_ok : ∀ xs m r, gCfNpl xs m = some (true, r) → CallOk Try.prog 56 xs m (.v r) m := by
  intro xs m r h
  unfold gCfNpl at h
  split at h
  · rename_i L own mark
    obtain ⟨h1, rfl⟩ := some_t h
    refine runOk (Λ := L0) OkIy Try.func56 rfl (fun z _ _ => l0Ok' _ z) ?_
    refine (runCfNpl L own mark).trans ?_
    rw [h1]
    rfl
  · cases h
def gCfFar (xs : List SV) (m : Mem) : Option (Bool × Value) :=
  match xs, m with
  | [.row 0, .v (.func (.func 62) ⟨[]⟩ ⟨[]⟩)], ⟨[], [], [.live ⟨24, [.num .i64, .num .i64], L, own, mark⟩]⟩ => some (Nat.ble L.length 1000000, Bo (anyF (pFar L) L.length))
  | _, _ => none
theorem gCfFar_ok : ∀ xs m r, gCfFar xs m = some (true, r) → CallOk Try.prog 56 xs m (.v r) m := by
  intro xs m r h
  unfold gCfFar at h
  split at h
  · rename_i L own mark
    obtain ⟨h1, rfl⟩ := some_t h
    refine runOk (Λ := L0) OkIy Try.func56 rfl (fun z _ _ => l0Ok' _ z) ?_
    refine (runCfFar L own mark).trans ?_
    rw [h1]
    rfl
  · cases h
noncomputable def ΓSi1 : Orc := addRd 56 gCfNpl ΓIy
theorem OkSi1 : ΓSi1.Ok Try.prog := addRd_ok OkIy gCfNpl_ok
noncomputable def ΓSi2 : Orc := addRd 56 gCfFar ΓSi1
theorem OkSi2 : ΓSi2.Ok Try.prog := addRd_ok OkSi1 gCfFar_ok
/-- Have the edges i and j more in common than they may? -/
def mwB (L : List (List Dat)) (i j : Int) : Bool :=
  bif wI (i + 1) == j then onB (pX L (nx L j)) (pY L (nx L j)) (pX L i) (pY L i) (pX L (nx L i)) (pY L (nx L i)) || onB (pX L i) (pY L i) (pX L (nx L i)) (pY L (nx L i)) (pX L (nx L j)) (pY L (nx L j))
  else bif nx L j == i then onB (pX L (nx L i)) (pY L (nx L i)) (pX L j) (pY L j) (pX L (nx L j)) (pY L (nx L j)) || onB (pX L j) (pY L j) (pX L (nx L j)) (pY L (nx L j)) (pX L (nx L i)) (pY L (nx L i))
  else meetB (pX L i) (pY L i) (pX L (nx L i)) (pY L (nx L i)) (pX L j) (pY L j) (pX L (nx L j)) (pY L (nx L j))
def gMwr (xs : List SV) (m : Mem) : Option (Bool × Value) :=
  match xs, m with
  | [.row 0, .v (.int .i64 i), .v (.int .i64 j)], ⟨[], [], [.live ⟨24, [.num .i64, .num .i64], L, own, mark⟩]⟩ => some (atG L i && atG L j, Bo (mwB L i j))
  | _, _ => none
theorem gMwr_ok : ∀ xs m r, gMwr xs m = some (true, r) → CallOk Try.prog 58 xs m (.v r) m := by
  intro xs m r h
  unfold gMwr at h
  split at h
  · rename_i i j L own mark
    obtain ⟨h1, rfl⟩ := some_t h
    rw [Bool.and_eq_true] at h1
    refine runOk (Λ := L0) OkPz Try.func58 rfl (fun z _ _ => l0Ok' _ z) ?_
    refine (runMwr i j L own mark).trans ?_
    have a := atG_iff.1 h1.1
    rw [h1.1, h1.2, beq_eq_false_iff_ne.2 (show (L.length : Int) ≠ 0 by omega)]
    unfold mwB nx
    cases wI (i + 1) == j <;> cases (wI (j + 1)).tmod (L.length : Int) == i <;> rfl
  · cases h
noncomputable def ΓSi : Orc := addRd 58 gMwr ΓSi2
theorem OkSi : ΓSi.Ok Try.prog := addRd_ok OkSi2 gMwr_ok
noncomputable def bdS0 : Code := loopAt (Try.f19.body.getD .skip) 0
noncomputable def bdS1 : Code := loopAt bdS0 0
def kS1 : List Bool := maskOf 43 [0, 3, 18, 19, 22, 23]
def xS1 (e : Ex) : List Bool := match e with
  | .exit _ => maskOf 43 [0, 18, 19]
  | .ret => maskOf 43 [2]
  | .normal => maskOf 43 [0, 3, 18, 19, 22, 23]
def KS1 (e : Ex) (st : St) : Option (Ex × St) := some (e, cutC 0 1 (xS1 e) st)
set_option maxRecDepth 20000 in
theorem stepS1 (j nn k b i : Int) (L : List (List Dat)) (own mark : Bool) (n : Nat) : evLoop ΓSi Try.prog L0 (cutC 0 1 kS1) bdS1 (n + 1) (mk kS1 [.row 0, .v (I j), .v (I nn), .v (I k), .v (I b), .v (I i)] ⟨[], [], [rP L own mark]⟩) KS1 =
    (bif decide (i < b) then (bif decide ((0 : Int) ≤ i) && decide (i < (L.length : Int)) then (bif decide ((0 : Int) ≤ j) && decide (j < (L.length : Int)) then (bif ((L.getD i.toNat []).headD (Dat.n (0 : Int))).toI == ((L.getD j.toNat []).headD (Dat.n (0 : Int))).toI && (((L.getD i.toNat []).tail.headD (Dat.n (0 : Int))).toI == ((L.getD j.toNat []).tail.headD (Dat.n (0 : Int))).toI && true) then some (.ret, mk (xS1 .ret) [.v (Bo false)] ⟨[], [], [.live ⟨24, [.num .i64, .num .i64], L, own, mark⟩]⟩) else (bif atG L i && atG L j then (bif mwB L i j then some (.ret, mk (xS1 .ret) [.v (Bo false)] ⟨[], [], [.live ⟨24, [.num .i64, .num .i64], L, own, mark⟩]⟩) else evLoop ΓSi Try.prog L0 (cutC 0 1 kS1) bdS1 n (mk kS1 [.row 0, .v (I j), .v (I nn), .v (I k), .v (I b), .v (I (wI (i + (1 : Int))))] ⟨[], [], [.live ⟨24, [.num .i64, .num .i64], L, own, mark⟩]⟩) KS1) else none)) else none) else none) else some ((.exit 2), mk (xS1 (.exit 2)) [.row 0, .v (I nn), .v (I k)] ⟨[], [], [.live ⟨24, [.num .i64, .num .i64], L, own, mark⟩]⟩)) := by kernel_rfl
/-! rep (pX L i == pX L j && (pY L i == pY L j && true)) => eqP L i j -/
def eqP (L : List (List Dat)) (i j : Int) : Bool := ((L.getD i.toNat []).headD (Dat.n (0 : Int))).toI == ((L.getD j.toNat []).headD (Dat.n (0 : Int))).toI && (((L.getD i.toNat []).tail.headD (Dat.n (0 : Int))).toI == ((L.getD j.toNat []).tail.headD (Dat.n (0 : Int))).toI && true)
def badB (L : List (List Dat)) (j i : Int) : Bool := eqP L i j || mwB L i j
def okJ (L : List (List Dat)) (j : Int) : Bool := decide (ixF (badB L j) j.toNat 0 < 0)
theorem ixLoopN {α : Type} (p : Int → Bool) (N : Int) (E : Nat → Int → Option α) (X : Option α) (Y : Int → Option α) (he : ∀ n k, ¬ k < N → E (n + 1) k = X) (hr : ∀ (n : Nat) k, 0 ≤ k ∧ k < N → k + n = N → E (n + 1) k = bif p k then Y k else E n (k + 1)) :
    ∀ (m : Nat) (k : Int), 0 ≤ k → k + m = N → E (m + 1) k = bif decide (ixF p m k < 0) then X else Y (ixF p m k) := by
  intro m
  induction m with
  | zero =>
    intro k h0 h1
    exact he 0 k (by omega)
  | succ m ih =>
    intro k h0 h1
    rw [hr (m + 1) k (by omega) h1]
    show _ = bif decide ((bif p k then k else ixF p m (k + 1)) < 0) then X else Y (bif p k then k else ixF p m (k + 1))
    cases p k
    · exact ih (k + 1) (by omega) (by omega)
    · show Y k = bif decide (k < 0) then X else Y k
      rw [decide_eq_false (show ¬ k < 0 by omega)]
      rfl
noncomputable def ES1 (n : Nat) (j nn k b i : Int) (L : List (List Dat)) (own mark : Bool) : Option (Ex × St) :=
  evLoop ΓSi Try.prog L0 (cutC 0 1 kS1) bdS1 n (mk kS1 [.row 0, .v (I j), .v (I nn), .v (I k), .v (I b), .v (I i)] ⟨[], [], [rP L own mark]⟩) KS1
def XS1 (nn k : Int) (L : List (List Dat)) (own mark : Bool) : St := mk (xS1 (.exit 2)) [.row 0, .v (I nn), .v (I k)] ⟨[], [], [rP L own mark]⟩
def RS1 (L : List (List Dat)) (own mark : Bool) : St := mk (xS1 .ret) [.v (Bo false)] ⟨[], [], [rP L own mark]⟩
theorem loopS1 (j nn k : Int) (L : List (List Dat)) (own mark : Bool) (hj : atG L j = true) : ES1 (j.toNat + 1) j nn k j 0 L own mark = bif okJ L j then some (.exit 2, XS1 nn k L own mark) else some (.ret, RS1 L own mark) := by
  have a := atG_iff.1 hj
  refine ixLoop (badB L j) j (fun n i => ES1 n j nn k j i L own mark) (some (.exit 2, XS1 nn k L own mark)) (fun i => some (.ret, RS1 L own mark)) (fun n i hi => ?_) (fun n i hi => ?_) j.toNat 0 (by decide) (by omega)
  · refine (stepS1 j nn k j i L own mark n).trans ?_
    rw [decide_eq_false hi]
    rfl
  · refine (stepS1 j nn k j i L own mark n).trans ?_
    have b : atG L i = true := atG_iff.2 (by omega)
    rw [decide_eq_true hi.1, decide_eq_true hi.2, decide_eq_true a.1, decide_eq_true a.2.1, decide_eq_true (show i < (L.length : Int) by omega), hj, b, wI_id (n := i + 1) (by omega)]
    show (bif eqP L i j then _ else _) = _
    unfold badB
    cases eqP L i j
    · cases mwB L i j <;> rfl
    · rfl
def GS1 (fin : Bool) (vals : List SV) (m : Mem) : Option (Bool × Ex × St) :=
  match vals, m with
  | [.row 0, .v (.int .i64 j), .v (.int .i64 nn), .v (.int .i64 k), .v (.int .i64 b), .v (.int .i64 i)], ⟨[], [], [.live ⟨24, [.num .i64, .num .i64], L, own, mark⟩]⟩ =>
    bif fin then some (b == j && (i == 0 && (atG L j && okJ L j)), .exit 2, XS1 nn k L own mark)
    else some (b == j && (i == 0 && (atG L j && !okJ L j)), .ret, RS1 L own mark)
  | _, _ => none
noncomputable def ΛS1 (fin : Bool) : LoopOrc := fun _ st => viaC 0 1 kS1 (GS1 fin) st
theorem loopOkS1 (fin : Bool) (z : Base) (z1 : z.L.length = 0) (z2 : z.U.length = 1) : LoopOk (ΛS1 fin) Try.prog z bdS1 := by
  refine loop_okC (Λ := L0) (kx := xS1) OkSi mixed z1 z2 (fun b hb st t h => by cases h) (G := GS1 fin) (fun _ => rfl) ?_
  intro vals m e st' h
  unfold GS1 at h
  split at h
  · rename_i j nn k b i L own mark
    cases fin
    · simp only [cond_false] at h
      obtain ⟨h1, rfl, rfl⟩ := some_t2 h
      simp only [Bool.and_eq_true, beq_iff_eq, Bool.not_eq_true'] at h1
      obtain ⟨rfl, rfl, hj, hq⟩ := h1
      have := loopS1 b nn k L own mark hj
      rw [hq] at this
      exact ⟨b.toNat + 1, this⟩
    · simp only [cond_true] at h
      obtain ⟨h1, rfl, rfl⟩ := some_t2 h
      simp only [Bool.and_eq_true, beq_iff_eq] at h1
      obtain ⟨rfl, rfl, hj, hq⟩ := h1
      have := loopS1 b nn k L own mark hj
      rw [hq] at this
      exact ⟨b.toNat + 1, this⟩
  · cases h
theorem loopsS0 : loopsOf (Try.f19.body.getD .skip) = [bdS0] := by kernel_rfl
theorem loopsS1 : loopsOf bdS0 = [bdS1] := by kernel_rfl
def kS0 : List Bool := maskOf 43 [0, 18, 19]
def xS0 (e : Ex) : List Bool := match e with
  | .exit _ => maskOf 43 []
  | .ret => maskOf 43 [2]
  | .normal => maskOf 43 [0, 18, 19]
def KS0 (e : Ex) (st : St) : Option (Ex × St) := some (e, cutC 0 1 (xS0 e) st)
set_option maxRecDepth 20000 in
theorem stepS0T (nn k : Int) (L : List (List Dat)) (own mark : Bool) (nx : St → Option (Ex × St)) : evRound ΓSi Try.prog (ΛS1 true) (cutC 0 1 kS0) bdS0 (mk kS0 [.row 0, .v (I nn), .v (I k)] ⟨[], [], [rP L own mark]⟩) nx KS0 =
    (bif decide (k < nn) then (bif k == k && (true && (atG L k && okJ L k)) then nx (mk kS0 [.row 0, .v (I nn), .v (I (wI (k + (1 : Int))))] ⟨[], [], [.live ⟨24, [.num .i64, .num .i64], L, own, mark⟩]⟩) else none) else some ((.exit 0), mk (xS0 (.exit 0)) [] ⟨[], [], [.live ⟨24, [.num .i64, .num .i64], L, own, mark⟩]⟩)) := by kernel_rfl
set_option maxRecDepth 20000 in
theorem stepS0F (nn k : Int) (L : List (List Dat)) (own mark : Bool) (nx : St → Option (Ex × St)) : evRound ΓSi Try.prog (ΛS1 false) (cutC 0 1 kS0) bdS0 (mk kS0 [.row 0, .v (I nn), .v (I k)] ⟨[], [], [rP L own mark]⟩) nx KS0 =
    (bif decide (k < nn) then (bif k == k && (true && (atG L k && !okJ L k)) then some (.ret, mk (xS0 .ret) [.v (Bo false)] ⟨[], [], [.live ⟨24, [.num .i64, .num .i64], L, own, mark⟩]⟩) else none) else some ((.exit 0), mk (xS0 (.exit 0)) [] ⟨[], [], [.live ⟨24, [.num .i64, .num .i64], L, own, mark⟩]⟩)) := by kernel_rfl
noncomputable def ΛsS (L : List (List Dat)) (n : Nat) : LoopOrc := ΛS1 (okJ L ((L.length : Int) - n))
noncomputable def ES0 (n : Nat) (k : Int) (L : List (List Dat)) (own mark : Bool) : Option (Ex × St) :=
  evLoopN ΓSi Try.prog (ΛsS L) (cutC 0 1 kS0) bdS0 n (mk kS0 [.row 0, .v (I (L.length : Int)), .v (I k)] ⟨[], [], [rP L own mark]⟩) KS0
def XS0 (L : List (List Dat)) (own mark : Bool) : St := mk (xS0 (.exit 0)) [] ⟨[], [], [rP L own mark]⟩
def RS0 (L : List (List Dat)) (own mark : Bool) : St := mk (xS0 .ret) [.v (Bo false)] ⟨[], [], [rP L own mark]⟩
/-- Do no two edges have more in common than they may? -/
def apB (L : List (List Dat)) : Bool := decide (ixF (fun j => !okJ L j) L.length 0 < 0)
theorem loopS0 (L : List (List Dat)) (own mark : Bool) (hl : L.length ≤ 1000000) : ES0 (L.length + 1) 0 L own mark = bif apB L then some (.exit 0, XS0 L own mark) else some (.ret, RS0 L own mark) := by
  refine ixLoopN (fun j => !okJ L j) (L.length : Int) (fun n k => ES0 n k L own mark) (some (.exit 0, XS0 L own mark)) (fun i => some (.ret, RS0 L own mark)) (fun n k hk => ?_) (fun n k hk hn => ?_) L.length 0 (by decide) (by omega)
  · show evRound ΓSi Try.prog (ΛsS L n) (cutC 0 1 kS0) bdS0 _ (fun st' => evLoopN ΓSi Try.prog (ΛsS L) (cutC 0 1 kS0) bdS0 n st' KS0) KS0 = _
    unfold ΛsS
    cases okJ L ((L.length : Int) - n)
    · refine (stepS0F (L.length : Int) k L own mark _).trans ?_
      rw [decide_eq_false hk]
      rfl
    · refine (stepS0T (L.length : Int) k L own mark _).trans ?_
      rw [decide_eq_false hk]
      rfl
  · have e : (L.length : Int) - n = k := by omega
    have a : atG L k = true := atG_iff.2 (by omega)
    show evRound ΓSi Try.prog (ΛS1 (okJ L ((L.length : Int) - n))) (cutC 0 1 kS0) bdS0 _ (fun st' => evLoopN ΓSi Try.prog (ΛsS L) (cutC 0 1 kS0) bdS0 n st' KS0) KS0 = bif !okJ L k then some (.ret, RS0 L own mark) else ES0 n (k + 1) L own mark
    rw [e]
    cases hq : okJ L k
    · refine (stepS0F (L.length : Int) k L own mark _).trans ?_
      rw [decide_eq_true hk.2, beq_self_eq_true, a, hq]
      rfl
    · refine (stepS0T (L.length : Int) k L own mark _).trans ?_
      rw [decide_eq_true hk.2, beq_self_eq_true, a, hq, wI_id (n := k + 1) (by omega)]
      rfl
def GS0 (fin : Bool) (vals : List SV) (m : Mem) : Option (Bool × Ex × St) :=
  match vals, m with
  | [.row 0, .v (.int .i64 nn), .v (.int .i64 k)], ⟨[], [], [.live ⟨24, [.num .i64, .num .i64], L, own, mark⟩]⟩ =>
    bif fin then some (nn == (L.length : Int) && (k == 0 && (Nat.ble L.length 1000000 && apB L)), .exit 0, XS0 L own mark)
    else some (nn == (L.length : Int) && (k == 0 && (Nat.ble L.length 1000000 && !apB L)), .ret, RS0 L own mark)
  | _, _ => none
noncomputable def ΛS0 (fin : Bool) : LoopOrc := fun _ st => viaC 0 1 kS0 (GS0 fin) st
theorem loopOkS0 (fin : Bool) (z : Base) (z1 : z.L.length = 0) (z2 : z.U.length = 1) : LoopOk (ΛS0 fin) Try.prog z bdS0 := by
  refine loop_okN (kx := xS0) OkSi mixed z1 z2 (G := GS0 fin) (fun _ => rfl) ?_
  intro vals m e st' h
  unfold GS0 at h
  split at h
  · rename_i nn k L own mark
    have hx := loopS0 L own mark
    have hΛ : ∀ n, ∀ b ∈ loopsOf bdS0, LoopOk (ΛsS L n) Try.prog z b := fun n => oneLoop loopsS1 (loopOkS1 _ z z1 z2)
    cases fin
    · simp only [cond_false] at h
      obtain ⟨h1, rfl, rfl⟩ := some_t2 h
      simp only [Bool.and_eq_true, beq_iff_eq, Bool.not_eq_true'] at h1
      obtain ⟨rfl, rfl, hl, hq⟩ := h1
      have := hx (Nat.le_of_ble_eq_true hl)
      rw [hq] at this
      exact ⟨ΛsS L, hΛ, L.length + 1, this⟩
    · simp only [cond_true] at h
      obtain ⟨h1, rfl, rfl⟩ := some_t2 h
      simp only [Bool.and_eq_true, beq_iff_eq] at h1
      obtain ⟨rfl, rfl, hl, hq⟩ := h1
      have := hx (Nat.le_of_ble_eq_true hl)
      rw [hq] at this
      exact ⟨ΛsS L, hΛ, L.length + 1, this⟩
  · cases h
set_option maxRecDepth 20000 in
theorem runSimT (L : List (List Dat)) (own mark : Bool) : runG ΓSi (ΛS0 true) Try.prog Try.f19 [.row 0] ⟨[], [], [rP L own mark]⟩ = 
    (bif decide ((L.length : Int) < (3 : Int)) then some (.v (Bo false), ⟨[], [], [.live ⟨24, [.num .i64, .num .i64], L, own, mark⟩]⟩) else (bif decide ((L.length : Int) > (8 : Int)) then some (.v (Bo false), ⟨[], [], [.live ⟨24, [.num .i64, .num .i64], L, own, mark⟩]⟩) else (bif L.length.ble (1000000) then (bif anyF (pNpl L) L.length then some (.v (Bo false), ⟨[], [], [.live ⟨24, [.num .i64, .num .i64], L, own, mark⟩]⟩) else (bif (L.length : Int) == (L.length : Int) && (true && (L.length.ble (1000000) && apB L)) then some (.v (Bo true), ⟨[], [], [.live ⟨24, [.num .i64, .num .i64], L, own, mark⟩]⟩) else none)) else none))) := by kernel_rfl
set_option maxRecDepth 20000 in
theorem runSimF (L : List (List Dat)) (own mark : Bool) : runG ΓSi (ΛS0 false) Try.prog Try.f19 [.row 0] ⟨[], [], [rP L own mark]⟩ = 
    (bif decide ((L.length : Int) < (3 : Int)) then some (.v (Bo false), ⟨[], [], [.live ⟨24, [.num .i64, .num .i64], L, own, mark⟩]⟩) else (bif decide ((L.length : Int) > (8 : Int)) then some (.v (Bo false), ⟨[], [], [.live ⟨24, [.num .i64, .num .i64], L, own, mark⟩]⟩) else (bif L.length.ble (1000000) then (bif anyF (pNpl L) L.length then some (.v (Bo false), ⟨[], [], [.live ⟨24, [.num .i64, .num .i64], L, own, mark⟩]⟩) else (bif (L.length : Int) == (L.length : Int) && (true && (L.length.ble (1000000) && !apB L)) then some (.v (Bo false), ⟨[], [], [.live ⟨24, [.num .i64, .num .i64], L, own, mark⟩]⟩) else none)) else none))) := by kernel_rfl
def simB (L : List (List Dat)) : Bool := bif decide ((L.length : Int) < 3) then false else bif decide ((L.length : Int) > 8) then false else bif anyF (pNpl L) L.length then false else apB L
def gSim (xs : List SV) (m : Mem) : Option (Bool × Value) :=
  match xs, m with
  | [.row 0], ⟨[], [], [.live ⟨24, [.num .i64, .num .i64], L, own, mark⟩]⟩ => some (Nat.ble L.length 1000000, Bo (simB L))
  | _, _ => none
theorem gSim_ok : ∀ xs m r, gSim xs m = some (true, r) → CallOk Try.prog 19 xs m (.v r) m := by
  intro xs m r h
  unfold gSim at h
  split at h
  · rename_i L own mark
    obtain ⟨h1, rfl⟩ := some_t h
    cases hq : apB L
    · refine runOk (Λ := ΛS0 false) OkSi Try.func19 rfl (fun z z1 z2 => oneLoop loopsS0 (loopOkS0 false z z1 z2)) ?_
      refine (runSimF L own mark).trans ?_
      rw [h1, hq, beq_self_eq_true]
      unfold simB
      rw [hq]
      cases decide ((L.length : Int) < 3) <;> cases decide ((L.length : Int) > 8) <;> cases anyF (pNpl L) L.length <;> rfl
    · refine runOk (Λ := ΛS0 true) OkSi Try.func19 rfl (fun z z1 z2 => oneLoop loopsS0 (loopOkS0 true z z1 z2)) ?_
      refine (runSimT L own mark).trans ?_
      rw [h1, hq, beq_self_eq_true]
      unfold simB
      rw [hq]
      cases decide ((L.length : Int) < 3) <;> cases decide ((L.length : Int) > 8) <;> cases anyF (pNpl L) L.length <;> rfl
  · cases h
noncomputable def ΓSj : Orc := addRd 19 gSim ΓSi
theorem OkSj : ΓSj.Ok Try.prog := addRd_ok OkSi gSim_ok
set_option maxRecDepth 20000 in
theorem runArea (L : List (List Dat)) (own mark : Bool) : runG ΓSj L0 Try.prog Try.f21 [.row 0] ⟨[], [], [rP L own mark]⟩ = 
    (bif L.length.ble (1000000) then (bif simB L then (bif L.length.ble (1000000) then some (.v (Bo (!anyF (pFar L) L.length)), ⟨[], [], [.live ⟨24, [.num .i64, .num .i64], L, own, mark⟩]⟩) else none) else some (.v (Bo false), ⟨[], [], [.live ⟨24, [.num .i64, .num .i64], L, own, mark⟩]⟩)) else none) := by kernel_rfl
def areaB (L : List (List Dat)) : Bool := simB L && !anyF (pFar L) L.length
def gArea (xs : List SV) (m : Mem) : Option (Bool × Value) :=
  match xs, m with
  | [.row 0], ⟨[], [], [.live ⟨24, [.num .i64, .num .i64], L, own, mark⟩]⟩ => some (Nat.ble L.length 1000000, Bo (areaB L))
  | _, _ => none
theorem gArea_ok : ∀ xs m r, gArea xs m = some (true, r) → CallOk Try.prog 21 xs m (.v r) m := by
  intro xs m r h
  unfold gArea at h
  split at h
  · rename_i L own mark
    obtain ⟨h1, rfl⟩ := some_t h
    refine runOk (Λ := L0) OkSj Try.func21 rfl (fun z _ _ => l0Ok' _ z) ?_
    refine (runArea L own mark).trans ?_
    rw [h1]
    unfold areaB
    cases simB L <;> rfl
  · cases h
noncomputable def ΓAr : Orc := addRd 21 gArea ΓSj
theorem OkAr : ΓAr.Ok Try.prog := addRd_ok OkSj gArea_ok
end Go.Proofs.Ytcjkkfhdnealpaa

namespace Go.Proofs.Ytcjkkfhdnealpaa
open Go Go.Proofs Go.Sx
set_option linter.unusedVariables false
/-! norm -/
/-! cast -/
noncomputable def bdSd : Code := loopAt (Try.f22.body.getD .skip) 0
def kSd : List Bool := maskOf 39 [0, 3, 5, 17, 18]
def xSd (e : Ex) : List Bool := match e with
  | .exit _ => maskOf 39 [5]
  | .ret => maskOf 39 [4]
  | .normal => maskOf 39 [0, 3, 5, 17, 18]
def KSd (e : Ex) (st : St) : Option (Ex × St) := some (e, cutC 0 1 (xSd e) st)
def MSd (px py : Int) (L : List (List Dat)) (own mark : Bool) : Mem := ⟨[[.v (I px), .v (I py)]], [true], [rP L own mark]⟩
set_option maxRecDepth 20000 in
theorem stepSd (px py s nn k : Int) (L : List (List Dat)) (own mark : Bool) (n : Nat) : evLoop ΓAr Try.prog L0 (cutC 0 1 kSd) bdSd (n + 1) (mk kSd [.row 0, .ptr 0 0, .v (I s), .v (I nn), .v (I k)] (MSd px py L own mark)) KSd =
    (bif decide (k < nn) then (bif atG L k then (bif onB px py (pX L k) (pY L k) (pX L (nx L k)) (pY L (nx L k)) then some (.ret, mk (xSd .ret) [.v (I 0)] ⟨[], [], [.live ⟨24, [.num .i64, .num .i64], L, own, mark⟩]⟩) else (bif rgO px py (pX L k) (pY L k) (pX L (nx L k)) (pY L (nx L k)) then evLoop ΓAr Try.prog L0 (cutC 0 1 kSd) bdSd n (mk kSd [.row 0, .ptr 0 0, .v (I (wI ((0 : Int) - s))), .v (I nn), .v (I (wI (k + (1 : Int))))] ⟨[[.v (I px), .v (I py)]], [true], [.live ⟨24, [.num .i64, .num .i64], L, own, mark⟩]⟩) KSd else evLoop ΓAr Try.prog L0 (cutC 0 1 kSd) bdSd n (mk kSd [.row 0, .ptr 0 0, .v (I s), .v (I nn), .v (I (wI (k + (1 : Int))))] ⟨[[.v (I px), .v (I py)]], [true], [.live ⟨24, [.num .i64, .num .i64], L, own, mark⟩]⟩) KSd)) else none) else some ((.exit 0), mk (xSd (.exit 0)) [.v (I s)] ⟨[], [], [.live ⟨24, [.num .i64, .num .i64], L, own, mark⟩]⟩)) := by kernel_rfl
def hitB (px py : Int) (L : List (List Dat)) (k : Int) : Bool := onB px py (pX L k) (pY L k) (pX L (nx L k)) (pY L (nx L k))
def rgB (px py : Int) (L : List (List Dat)) (k : Int) : Bool := rgO px py (pX L k) (pY L k) (pX L (nx L k)) (pY L (nx L k))
def sdF (r : Int → Bool) : Nat → Int → Int → Int
  | 0, _, s => s
  | m + 1, k, s => sdF r m (k + 1) (bif r k then -s else s)
theorem sdLoop {α : Type} (p r : Int → Bool) (N : Int) (E : Nat → Int → Int → Option α) (X : Int → Option α) (Y : Option α) (he : ∀ n k s, ¬ k < N → E (n + 1) k s = X s) (hr : ∀ n k s, 0 ≤ k ∧ k < N → (s = 1 ∨ s = -1) → E (n + 1) k s = bif p k then Y else E n (k + 1) (bif r k then -s else s)) :
    ∀ (m : Nat) (k s : Int), 0 ≤ k → k + m = N → (s = 1 ∨ s = -1) → E (m + 1) k s = bif decide (ixF p m k < 0) then X (sdF r m k s) else Y := by
  intro m
  induction m with
  | zero =>
    intro k s h0 h1 hs
    exact he 0 k s (by omega)
  | succ m ih =>
    intro k s h0 h1 hs
    rw [hr (m + 1) k s (by omega) hs]
    show _ = bif decide ((bif p k then k else ixF p m (k + 1)) < 0) then X (sdF r m (k + 1) (bif r k then -s else s)) else Y
    cases p k
    · refine ih (k + 1) _ (by omega) (by omega) ?_
      cases r k
      · exact hs
      · show -s = 1 ∨ -s = -1
        omega
    · show Y = bif decide (k < 0) then X _ else Y
      rw [decide_eq_false (show ¬ k < 0 by omega)]
      rfl
noncomputable def ESd (n : Nat) (k s px py : Int) (L : List (List Dat)) (own mark : Bool) : Option (Ex × St) :=
  evLoop ΓAr Try.prog L0 (cutC 0 1 kSd) bdSd n (mk kSd [.row 0, .ptr 0 0, .v (I s), .v (I (L.length : Int)), .v (I k)] (MSd px py L own mark)) KSd
def XSd (s : Int) (L : List (List Dat)) (own mark : Bool) : St := mk (xSd (.exit 0)) [.v (I s)] ⟨[], [], [rP L own mark]⟩
def RSd (L : List (List Dat)) (own mark : Bool) : St := mk (xSd .ret) [.v (I 0)] ⟨[], [], [rP L own mark]⟩
def noHit (px py : Int) (L : List (List Dat)) : Bool := decide (ixF (hitB px py L) L.length 0 < 0)
theorem loopSd (px py : Int) (L : List (List Dat)) (own mark : Bool) (hl : L.length ≤ 1000000) : ESd (L.length + 1) 0 (-1) px py L own mark = bif noHit px py L then some (.exit 0, XSd (sdF (rgB px py L) L.length 0 (-1)) L own mark) else some (.ret, RSd L own mark) := by
  refine sdLoop (hitB px py L) (rgB px py L) (L.length : Int) (fun n k s => ESd n k s px py L own mark) (fun s => some (.exit 0, XSd s L own mark)) (some (.ret, RSd L own mark)) (fun n k s hk => ?_) (fun n k s hk hs => ?_) L.length 0 (-1) (by decide) (by omega) (.inr rfl)
  · refine (stepSd px py s (L.length : Int) k L own mark n).trans ?_
    rw [decide_eq_false hk]
    rfl
  · refine (stepSd px py s (L.length : Int) k L own mark n).trans ?_
    have a : atG L k = true := atG_iff.2 (by omega)
    rw [decide_eq_true hk.2, a, wI_id (n := k + 1) (by omega), wI_id (n := 0 - s) (by omega), Int.zero_sub]
    show (bif hitB px py L k then _ else bif rgB px py L k then _ else _) = _
    cases hitB px py L k
    · cases rgB px py L k <;> rfl
    · rfl
theorem loopsSd : loopsOf (Try.f22.body.getD .skip) = [bdSd] := by kernel_rfl
def GSd (fin : Bool) (vals : List SV) (m : Mem) : Option (Bool × Ex × St) :=
  match vals, m with
  | [.row 0, .ptr 0 0, .v (.int .i64 s), .v (.int .i64 nn), .v (.int .i64 k)], ⟨[[.v (.int .i64 px), .v (.int .i64 py)]], [true], [.live ⟨24, [.num .i64, .num .i64], L, own, mark⟩]⟩ =>
    bif fin then some (nn == (L.length : Int) && (k == 0 && (s == -1 && (Nat.ble L.length 1000000 && noHit px py L))), .exit 0, XSd (sdF (rgB px py L) L.length 0 (-1)) L own mark)
    else some (nn == (L.length : Int) && (k == 0 && (s == -1 && (Nat.ble L.length 1000000 && !noHit px py L))), .ret, RSd L own mark)
  | _, _ => none
noncomputable def ΛSd (fin : Bool) : LoopOrc := fun _ st => viaC 0 1 kSd (GSd fin) st
theorem loopOkSd (fin : Bool) (z : Base) (z1 : z.L.length = 0) (z2 : z.U.length = 1) : LoopOk (ΛSd fin) Try.prog z bdSd := by
  refine loop_okC (Λ := L0) (kx := xSd) OkAr mixed z1 z2 (fun b hb st t h => by cases h) (G := GSd fin) (fun _ => rfl) ?_
  intro vals m e st' h
  unfold GSd at h
  split at h
  · rename_i s nn k px py L own mark
    have hx := loopSd px py L own mark
    cases fin
    · simp only [cond_false] at h
      obtain ⟨h1, rfl, rfl⟩ := some_t2 h
      simp only [Bool.and_eq_true, beq_iff_eq, Bool.not_eq_true'] at h1
      obtain ⟨rfl, rfl, rfl, hl, hq⟩ := h1
      have := hx (Nat.le_of_ble_eq_true hl)
      rw [hq] at this
      exact ⟨L.length + 1, this⟩
    · simp only [cond_true] at h
      obtain ⟨h1, rfl, rfl⟩ := some_t2 h
      simp only [Bool.and_eq_true, beq_iff_eq] at h1
      obtain ⟨rfl, rfl, rfl, hl, hq⟩ := h1
      have := hx (Nat.le_of_ble_eq_true hl)
      rw [hq] at this
      exact ⟨L.length + 1, this⟩
  · cases h
set_option maxRecDepth 20000 in
theorem runSdT (px py : Int) (L : List (List Dat)) (own mark : Bool) : runG ΓAr (ΛSd true) Try.prog Try.f22 [.row 0, .v (.agg #[I px, I py])] ⟨[], [], [rP L own mark]⟩ = 
    (bif L.length.ble (1000000) then (bif !areaB L then some (.v (I (-1)), ⟨[], [], [.live ⟨24, [.num .i64, .num .i64], L, own, mark⟩]⟩) else (bif !plR px py then some (.v (I (-1)), ⟨[], [], [.live ⟨24, [.num .i64, .num .i64], L, own, mark⟩]⟩) else (bif (L.length : Int) == (L.length : Int) && (true && (true && (L.length.ble (1000000) && noHit px py L))) then some (.v (I (sdF (rgB px py L) L.length (0 : Int) (-1 : Int))), ⟨[], [], [.live ⟨24, [.num .i64, .num .i64], L, own, mark⟩]⟩) else none))) else none) := by kernel_rfl
set_option maxRecDepth 20000 in
theorem runSdF (px py : Int) (L : List (List Dat)) (own mark : Bool) : runG ΓAr (ΛSd false) Try.prog Try.f22 [.row 0, .v (.agg #[I px, I py])] ⟨[], [], [rP L own mark]⟩ = 
    (bif L.length.ble (1000000) then (bif !areaB L then some (.v (I (-1)), ⟨[], [], [.live ⟨24, [.num .i64, .num .i64], L, own, mark⟩]⟩) else (bif !plR px py then some (.v (I (-1)), ⟨[], [], [.live ⟨24, [.num .i64, .num .i64], L, own, mark⟩]⟩) else (bif (L.length : Int) == (L.length : Int) && (true && (true && (L.length.ble (1000000) && !noHit px py L))) then some (.v (I 0), ⟨[], [], [.live ⟨24, [.num .i64, .num .i64], L, own, mark⟩]⟩) else none))) else none) := by kernel_rfl
def sideI (L : List (List Dat)) (px py : Int) : Int := bif !areaB L then -1 else bif !plR px py then -1 else bif noHit px py L then sdF (rgB px py L) L.length 0 (-1) else 0
def gSd (xs : List SV) (m : Mem) : Option (Bool × Value) :=
  match xs, m with
  | [.row 0, .v (.agg ⟨[.int .i64 px, .int .i64 py]⟩)], ⟨[], [], [.live ⟨24, [.num .i64, .num .i64], L, own, mark⟩]⟩ => some (Nat.ble L.length 1000000, I (sideI L px py))
  | _, _ => none
theorem gSd_ok : ∀ xs m r, gSd xs m = some (true, r) → CallOk Try.prog 22 xs m (.v r) m := by
  intro xs m r h
  unfold gSd at h
  split at h
  · rename_i px py L own mark
    obtain ⟨h1, rfl⟩ := some_t h
    cases hq : noHit px py L
    · refine runOk (Λ := ΛSd false) OkAr Try.func22 rfl (fun z z1 z2 => oneLoop loopsSd (loopOkSd false z z1 z2)) ?_
      refine (runSdF px py L own mark).trans ?_
      rw [h1, hq, beq_self_eq_true]
      unfold sideI
      rw [hq]
      cases areaB L <;> cases plR px py <;> rfl
    · refine runOk (Λ := ΛSd true) OkAr Try.func22 rfl (fun z z1 z2 => oneLoop loopsSd (loopOkSd true z z1 z2)) ?_
      refine (runSdT px py L own mark).trans ?_
      rw [h1, hq, beq_self_eq_true]
      unfold sideI
      rw [hq]
      cases areaB L <;> cases plR px py <;> rfl
  · cases h
noncomputable def ΓSd : Orc := addRd 22 gSd ΓAr
theorem OkSd : ΓSd.Ok Try.prog := addRd_ok OkAr gSd_ok
end Go.Proofs.Ytcjkkfhdnealpaa

namespace Go.Proofs.Ytcjkkfhdnealpaa
open Go Go.Proofs Go.Sx
set_option linter.unusedVariables false
/-! norm -/
/-! cast -/
set_option maxRecDepth 20000 in
theorem runCorners (a b c d : Int) : runG ΓSd L0 Try.prog Try.f48 [.v (.agg #[I a, I b, I c, I d])] M0 = 
    (bif !boR a b c d then some (.row 0, ⟨[], [], [.live ⟨24, [.num .i64, .num .i64], [], true, false⟩]⟩) else some (.row 0, ⟨[], [], [.live ⟨24, [.num .i64, .num .i64], [[.n (a), .n (b)], [.n (c), .n (b)], [.n (c), .n (d)], [.n (a), .n (d)]], true, false⟩]⟩)) := by kernel_rfl
set_option maxRecDepth 20000 in
theorem runCornersR (a b c d : Int) : runG ΓSd L0 Try.prog Try.f49 [.v (.agg #[I a, I b, I c, I d])] M0 = 
    (bif !boR a b c d then some (.row 0, ⟨[], [], [.live ⟨24, [.num .i64, .num .i64], [], true, false⟩]⟩) else some (.row 0, ⟨[], [], [.live ⟨24, [.num .i64, .num .i64], [[.n (a), .n (b)], [.n (c), .n (b)], [.n (c), .n (d)], [.n (a), .n (d)]], true, false⟩]⟩)) := by kernel_rfl
abbrev cornM (a b c d : Int) : Mem := ⟨[], [], [.live ⟨24, [.num .i64, .num .i64], [[.n a, .n b], [.n c, .n b], [.n c, .n d], [.n a, .n d]], true, false⟩]⟩
def gCor (xs : List SV) (m : Mem) : Option (Bool × SV × Mem) :=
  match xs, m with
  | [.v (.agg ⟨[.int .i64 a, .int .i64 b, .int .i64 c, .int .i64 d]⟩)], ⟨[], [], []⟩ => some (boR a b c d, .row 0, cornM a b c d)
  | _, _ => none
theorem gCor_ok : ∀ xs m r m', gCor xs m = some (true, r, m') → CallOk Try.prog 48 xs m r m' := by
  intro xs m r m' h
  unfold gCor at h
  split at h
  · rename_i a b c d
    obtain ⟨h1, rfl, rfl⟩ := some_t2 h
    refine runOk (Λ := L0) OkSd Try.func48 rfl (fun z _ _ => l0Ok' _ z) ?_
    refine (runCorners a b c d).trans ?_
    rw [h1]
    rfl
  · cases h
def gCorR (xs : List SV) (m : Mem) : Option (Bool × SV × Mem) :=
  match xs, m with
  | [.v (.agg ⟨[.int .i64 a, .int .i64 b, .int .i64 c, .int .i64 d]⟩)], ⟨[], [], []⟩ => some (boR a b c d, .row 0, cornM a b c d)
  | _, _ => none
theorem gCorR_ok : ∀ xs m r m', gCorR xs m = some (true, r, m') → CallOk Try.prog 49 xs m r m' := by
  intro xs m r m' h
  unfold gCorR at h
  split at h
  · rename_i a b c d
    obtain ⟨h1, rfl, rfl⟩ := some_t2 h
    refine runOk (Λ := L0) OkSd Try.func49 rfl (fun z _ _ => l0Ok' _ z) ?_
    refine (runCornersR a b c d).trans ?_
    rw [h1]
    rfl
  · cases h
/-- Of right boxes. -/
noncomputable def ΓMa : Orc := addCl 48 gCor ΓSd
theorem OkMa : ΓMa.Ok Try.prog := addCl_ok OkSd gCor_ok
noncomputable def ΓMb : Orc := addCl 49 gCorR ΓMa
theorem OkMb : ΓMb.Ok Try.prog := addCl_ok OkMa gCorR_ok
set_option maxRecDepth 20000 in
theorem runMsd2 (a b c d p1 p2 q1 q2 : Int) : runG ΓMb L0 Try.prog Try.f86 [.v (.agg #[I a, I b, I c, I d]), .v (.agg #[I p1, I p2]), .v (.agg #[I q1, I q2])] M0 =
    (bif boR a b c d then (bif meetB p1 p2 q1 q2 a b c b then some (.v (Bo true), M0) else (bif meetB p1 p2 q1 q2 c b c d then some (.v (Bo true), M0) else (bif meetB p1 p2 q1 q2 c d a d then some (.v (Bo true), M0) else (bif meetB p1 p2 q1 q2 a d a b then some (.v (Bo true), M0) else some (.v (Bo false), M0))))) else none) := by kernel_rfl
def msB (a b c d p1 p2 q1 q2 : Int) : Bool := meetB p1 p2 q1 q2 a b c b || (meetB p1 p2 q1 q2 c b c d || (meetB p1 p2 q1 q2 c d a d || meetB p1 p2 q1 q2 a d a b))
def gMsd (vs : List Value) : Option (Bool × Value) :=
  match vs with
  | [.agg ⟨[.int .i64 a, .int .i64 b, .int .i64 c, .int .i64 d]⟩, .agg ⟨[.int .i64 p1, .int .i64 p2]⟩, .agg ⟨[.int .i64 q1, .int .i64 q2]⟩] => some (boR a b c d, Bo (msB a b c d p1 p2 q1 q2))
  | _ => none
theorem gMsd_ok : ∀ vs r, gMsd vs = some (true, r) → ∀ m, CallOk Try.prog 86 (vs.map .v) m (.v r) m := by
  intro vs r h
  unfold gMsd at h
  split at h
  · rename_i a b c d p1 p2 q1 q2
    obtain ⟨h1, rfl⟩ := some_t h
    refine runV (vs := [.agg #[I a, I b, I c, I d], .agg #[I p1, I p2], .agg #[I q1, I q2]]) (Λ := L0) (m' := M0) OkMb Try.func86 rfl (fun z _ _ => l0Ok' _ z) ?_
    refine (runMsd2 a b c d p1 p2 q1 q2).trans ?_
    rw [h1]
    unfold msB
    cases meetB p1 p2 q1 q2 a b c b <;> cases meetB p1 p2 q1 q2 c b c d <;> cases meetB p1 p2 q1 q2 c d a d <;> cases meetB p1 p2 q1 q2 a d a b <;> rfl
  · cases h
noncomputable def ΓMc : Orc := addVal 86 gMsd ΓMb
theorem OkMc : ΓMc.Ok Try.prog := addVal_ok OkMb gMsd_ok
set_option maxRecDepth 20000 in
theorem runMts (a b c d p1 p2 q1 q2 : Int) : runG ΓMc L0 Try.prog Try.f50 [.v (.agg #[I a, I b, I c, I d]), .v (.agg #[I p1, I p2]), .v (.agg #[I q1, I q2])] M0 = 
    (bif !boR a b c d then some (.v (Bo false), M0) else (bif !plR p1 p2 then some (.v (Bo false), M0) else (bif !plR q1 q2 then some (.v (Bo false), M0) else (bif hasB a b c d p1 p2 then some (.v (Bo true), M0) else (bif boR a b c d then some (.v (Bo (msB a b c d p1 p2 q1 q2)), M0) else none))))) := by kernel_rfl
def mtB (a b c d p1 p2 q1 q2 : Int) : Bool := boR a b c d && (plR p1 p2 && (plR q1 q2 && (hasB a b c d p1 p2 || msB a b c d p1 p2 q1 q2)))
def gMts (vs : List Value) : Option (Bool × Value) :=
  match vs with
  | [.agg ⟨[.int .i64 a, .int .i64 b, .int .i64 c, .int .i64 d]⟩, .agg ⟨[.int .i64 p1, .int .i64 p2]⟩, .agg ⟨[.int .i64 q1, .int .i64 q2]⟩] => some (true, Bo (mtB a b c d p1 p2 q1 q2))
  | _ => none
theorem gMts_ok : ∀ vs r, gMts vs = some (true, r) → ∀ m, CallOk Try.prog 50 (vs.map .v) m (.v r) m := by
  intro vs r h
  unfold gMts at h
  split at h
  · rename_i a b c d p1 p2 q1 q2
    obtain ⟨h1, rfl⟩ := some_t h
    refine runV (vs := [.agg #[I a, I b, I c, I d], .agg #[I p1, I p2], .agg #[I q1, I q2]]) (Λ := L0) (m' := M0) OkMc Try.func50 rfl (fun z _ _ => l0Ok' _ z) ?_
    refine (runMts a b c d p1 p2 q1 q2).trans ?_
    unfold mtB
    cases boR a b c d <;> cases plR p1 p2 <;> cases plR q1 q2 <;> cases hasB a b c d p1 p2 <;> rfl
  · cases h
noncomputable def ΓMt : Orc := addVal 50 gMts ΓMc
theorem OkMt : ΓMt.Ok Try.prog := addVal_ok OkMc gMts_ok
set_option maxRecDepth 20000 in
theorem runMtr (a b c d p1 p2 q1 q2 : Int) : runG ΓMt L0 Try.prog Try.f51 [.v (.agg #[I a, I b, I c, I d]), .v (.agg #[I p1, I p2]), .v (.agg #[I q1, I q2])] M0 = 
    (bif !boR a b c d then some (.v (Bo false), M0) else (bif !plR p1 p2 then some (.v (Bo false), M0) else (bif !plR q1 q2 then some (.v (Bo false), M0) else (bif hasB a b c d p1 p2 then some (.v (Bo true), M0) else (bif hasB a b c d q1 q2 then some (.v (Bo true), M0) else (bif boR a b c d then (bif meetB p1 p2 q1 q2 a b c b then some (.v (Bo true), M0) else (bif meetB p1 p2 q1 q2 c b c d then some (.v (Bo true), M0) else (bif meetB p1 p2 q1 q2 c d a d then some (.v (Bo true), M0) else (bif meetB p1 p2 q1 q2 a d a b then some (.v (Bo true), M0) else some (.v (Bo false), M0))))) else none)))))) := by kernel_rfl
def mtR (a b c d p1 p2 q1 q2 : Int) : Bool := boR a b c d && (plR p1 p2 && (plR q1 q2 && (hasB a b c d p1 p2 || (hasB a b c d q1 q2 || msB a b c d p1 p2 q1 q2))))
def gMtr (vs : List Value) : Option (Bool × Value) :=
  match vs with
  | [.agg ⟨[.int .i64 a, .int .i64 b, .int .i64 c, .int .i64 d]⟩, .agg ⟨[.int .i64 p1, .int .i64 p2]⟩, .agg ⟨[.int .i64 q1, .int .i64 q2]⟩] => some (true, Bo (mtR a b c d p1 p2 q1 q2))
  | _ => none
theorem gMtr_ok : ∀ vs r, gMtr vs = some (true, r) → ∀ m, CallOk Try.prog 51 (vs.map .v) m (.v r) m := by
  intro vs r h
  unfold gMtr at h
  split at h
  · rename_i a b c d p1 p2 q1 q2
    obtain ⟨h1, rfl⟩ := some_t h
    refine runV (vs := [.agg #[I a, I b, I c, I d], .agg #[I p1, I p2], .agg #[I q1, I q2]]) (Λ := L0) (m' := M0) OkMt Try.func51 rfl (fun z _ _ => l0Ok' _ z) ?_
    refine (runMtr a b c d p1 p2 q1 q2).trans ?_
    unfold mtR msB
    cases boR a b c d <;> cases plR p1 p2 <;> cases plR q1 q2 <;> cases hasB a b c d p1 p2 <;> cases hasB a b c d q1 q2 <;> cases meetB p1 p2 q1 q2 a b c b <;> cases meetB p1 p2 q1 q2 c b c d <;> cases meetB p1 p2 q1 q2 c d a d <;> cases meetB p1 p2 q1 q2 a d a b <;> rfl
  · cases h
noncomputable def ΓMr : Orc := addVal 51 gMtr ΓMt
theorem OkMr : ΓMr.Ok Try.prog := addVal_ok OkMt gMtr_ok
end Go.Proofs.Ytcjkkfhdnealpaa

namespace Go.Proofs.Ytcjkkfhdnealpaa
open Go Go.Proofs Go.Sx
set_option linter.unusedVariables false
/-! norm -/
/-! cast -/

/-! rep (((L.getD i.toNat []).headD (Dat.n (0 : Int))).toI) => (pX L i) -/
/-! rep (((L.getD i.toNat []).tail.headD (Dat.n (0 : Int))).toI) => (pY L i) -/
/-! rep (((L.getD k.toNat []).headD (Dat.n (0 : Int))).toI) => (pX L k) -/
/-! rep (((L.getD k.toNat []).tail.headD (Dat.n (0 : Int))).toI) => (pY L k) -/
/-! rep ((L.getD i.toNat []).headD (Dat.n (0 : Int))).toI => (pX L i) -/
/-! rep ((L.getD i.toNat []).tail.headD (Dat.n (0 : Int))).toI => (pY L i) -/
/-! rep ((L.getD k.toNat []).headD (Dat.n (0 : Int))).toI => (pX L k) -/
/-! rep ((L.getD k.toNat []).tail.headD (Dat.n (0 : Int))).toI => (pY L k) -/
noncomputable def bdRa : Code := loopAt (Try.f20.body.getD .skip) 0
def kRa : List Bool := maskOf 100 [0,3,4]
def xRa (e : Ex) : List Bool := match e with
  | .exit _ => maskOf 100 [0,3]
  | .ret => maskOf 100 [2]
  | .normal => maskOf 100 [0,3,4]
def KRa (e : Ex) (st : St) : Option (Ex × St) := some (e, cutC 0 1 (xRa e) st)
set_option maxRecDepth 20000 in
theorem stepRa (i : Int) (nn : Int) (L : List (List Dat)) (own : Bool) (mark : Bool) (n : Nat) : evLoop ΓMr Try.prog L0 (cutC 0 1 kRa) bdRa (n + 1) (mk kRa [.row 0, .v (I nn), .v (I i)] ⟨[], [], [.live ⟨24, [.num .i64, .num .i64], L, own, mark⟩]⟩) KRa =
    (bif decide (i < nn) then (bif decide ((0 : Int) ≤ i) && decide (i < (L.length : Int)) then (bif !plR (pX L i) (pY L i) then some (.ret, mk (xRa .ret) [.v (Bo false)] ⟨[], [], [.live ⟨24, [.num .i64, .num .i64], L, own, mark⟩]⟩) else evLoop ΓMr Try.prog L0 (cutC 0 1 kRa) bdRa n (mk kRa [.row 0, .v (I nn), .v (I (wI (i + (1 : Int))))] ⟨[], [], [.live ⟨24, [.num .i64, .num .i64], L, own, mark⟩]⟩) KRa) else none) else some ((.exit 0), mk (xRa (.exit 0)) [.row 0, .v (I nn)] ⟨[], [], [.live ⟨24, [.num .i64, .num .i64], L, own, mark⟩]⟩)) := by kernel_rfl
noncomputable def ERa (n : Nat) (i : Int) (nn : Int) (L : List (List Dat)) (own : Bool) (mark : Bool) : Option (Ex × St) :=
  evLoop ΓMr Try.prog L0 (cutC 0 1 kRa) bdRa n (mk kRa [.row 0, .v (I nn), .v (I i)] ⟨[], [], [.live ⟨24, [.num .i64, .num .i64], L, own, mark⟩]⟩) KRa
/-- Is it true of one from k on? -/
def anyN (p : Int → Bool) : Nat → Int → Bool
  | 0, _ => false
  | m + 1, k => p k || anyN p m (k + 1)
theorem anyN_iff {p : Int → Bool} : ∀ {m : Nat} {k : Int}, anyN p m k = true ↔ ∃ i, k ≤ i ∧ i < k + m ∧ p i = true
  | 0, k => ⟨fun h => (by cases h), fun ⟨i, h1, h2, _⟩ => absurd h2 (by omega)⟩
  | m + 1, k => by
    show (p k || anyN p m (k + 1)) = true ↔ _
    rw [Bool.or_eq_true, anyN_iff]
    constructor
    · rintro (h | ⟨i, h1, h2, h3⟩)
      · exact ⟨k, by omega, by omega, h⟩
      · exact ⟨i, by omega, by omega, h3⟩
    · rintro ⟨i, h1, h2, h3⟩
      by_cases hi : i = k
      · rw [hi] at h3; exact .inl h3
      · exact .inr ⟨i, by omega, by omega, h3⟩
theorem findLoop {α : Type} (p : Int → Bool) (N : Int) (E : Nat → Int → Option α) (X Y : Option α) (he : ∀ n k, ¬ k < N → E (n + 1) k = X) (hr : ∀ n k, 0 ≤ k ∧ k < N → E (n + 1) k = bif p k then Y else E n (k + 1)) :
    ∀ (m : Nat) (k : Int), 0 ≤ k → k + m = N → E (m + 1) k = bif anyN p m k then Y else X := by
  intro m
  induction m with
  | zero =>
    intro k h0 h1
    exact he 0 k (by omega)
  | succ m ih =>
    intro k h0 h1
    rw [hr (m + 1) k (by omega)]
    show _ = bif p k || anyN p m (k + 1) then Y else X
    cases p k
    · exact ih (k + 1) (by omega) (by omega)
    · rfl
def lfRa (L : List (List Dat)) (nn : Int) (own mark : Bool) : LT := .br (anyN (pNpl L) L.length 0) (.leaf .ret (mk (xRa .ret) [.v (Bo false)] ⟨[], [], [rP L own mark]⟩)) (.leaf (.exit 0) (mk (xRa (.exit 0)) [.row 0, .v (I nn)] ⟨[], [], [rP L own mark]⟩))
theorem loopRa (L : List (List Dat)) (own mark : Bool) (hl : L.length ≤ 1000000) : ERa (L.length + 1) 0 (L.length : Int) L own mark = some (lfRa L (L.length : Int) own mark).pick := by
  have h := findLoop (pNpl L) (L.length : Int) (fun n k => ERa n k (L.length : Int) L own mark) (some (.exit 0, mk (xRa (.exit 0)) [.row 0, .v (I (L.length : Int))] ⟨[], [], [rP L own mark]⟩)) (some (.ret, mk (xRa .ret) [.v (Bo false)] ⟨[], [], [rP L own mark]⟩)) (fun n k hk => ?_) (fun n k hk => ?_) L.length 0 (by decide) (by omega)
  · refine h.trans ?_
    unfold lfRa
    cases anyN (pNpl L) L.length 0 <;> rfl
  · refine (stepRa k (L.length : Int) L own mark n).trans ?_
    rw [decide_eq_false hk]
    rfl
  · refine (stepRa k (L.length : Int) L own mark n).trans ?_
    rw [decide_eq_true hk.1, decide_eq_true hk.2, wI_id (n := k + 1) (by omega)]
    rfl
def GRa (vals : List SV) (m : Mem) : Option (Bool × LT) :=
  match vals, m with
  | [.row 0, .v (.int .i64 nn), .v (.int .i64 i)], ⟨[], [], [.live ⟨24, [.num .i64, .num .i64], L, own, mark⟩]⟩ => some (nn == (L.length : Int) && (i == 0 && Nat.ble L.length 1000000), lfRa L nn own mark)
  | _, _ => none
noncomputable def ΛRa : LoopOrc := fun _ st => viaT 0 1 kRa GRa st
theorem loopOkRa (z : Base) (z1 : z.L.length = 0) (z2 : z.U.length = 1) : LoopOk ΛRa Try.prog z bdRa := by
  refine loop_okT (Λ := L0) (kx := xRa) OkMr mixed z1 z2 (fun b hb st t h => by cases h) (G := GRa) (fun _ => rfl) ?_
  intro vals m t h
  unfold GRa at h
  split at h
  · rename_i nn i L own mark
    obtain ⟨h1, rfl⟩ := some_t h
    simp only [Bool.and_eq_true, beq_iff_eq] at h1
    obtain ⟨rfl, rfl, hl⟩ := h1
    exact ⟨L.length + 1, loopRa L own mark (Nat.le_of_ble_eq_true hl)⟩
  · cases h
noncomputable def bdRb : Code := loopAt (Try.f20.body.getD .skip) 1
noncomputable def bdRc : Code := loopAt bdRb 0
def kRc : List Bool := maskOf 100 [0,3,5,6]
def xRc (e : Ex) : List Bool := match e with
  | .exit _ => maskOf 100 [0,3,5]
  | .ret => maskOf 100 [2]
  | .normal => maskOf 100 [0,3,5,6]
def KRc (e : Ex) (st : St) : Option (Ex × St) := some (e, cutC 0 1 (xRc e) st)
set_option maxRecDepth 20000 in
theorem stepRc (i : Int) (k : Int) (nn : Int) (L : List (List Dat)) (own : Bool) (mark : Bool) (n : Nat) : evLoop ΓMr Try.prog L0 (cutC 0 1 kRc) bdRc (n + 1) (mk kRc [.row 0, .v (I nn), .v (I i), .v (I k)] ⟨[], [], [.live ⟨24, [.num .i64, .num .i64], L, own, mark⟩]⟩) KRc =
    (bif decide (k < nn) then (bif decide ((0 : Int) ≤ i) && decide (i < (L.length : Int)) then (bif atG L i then (bif decide ((0 : Int) ≤ k) && decide (k < (L.length : Int)) then (bif atG L k then (bif (pX L i) == (pX L k) && ((pY L i) == (pY L k) && true) then some (.ret, mk (xRc .ret) [.v (Bo false)] ⟨[], [], [.live ⟨24, [.num .i64, .num .i64], L, own, mark⟩]⟩) else (bif k == wI (i + (1 : Int)) then (bif onB (pX L (nx L k)) (pY L (nx L k)) (pX L i) (pY L i) (pX L (nx L i)) (pY L (nx L i)) then some (.ret, mk (xRc .ret) [.v (Bo false)] ⟨[], [], [.live ⟨24, [.num .i64, .num .i64], L, own, mark⟩]⟩) else (bif onB (pX L i) (pY L i) (pX L k) (pY L k) (pX L (nx L k)) (pY L (nx L k)) then some (.ret, mk (xRc .ret) [.v (Bo false)] ⟨[], [], [.live ⟨24, [.num .i64, .num .i64], L, own, mark⟩]⟩) else evLoop ΓMr Try.prog L0 (cutC 0 1 kRc) bdRc n (mk kRc [.row 0, .v (I nn), .v (I i), .v (I (wI (k + (1 : Int))))] ⟨[], [], [.live ⟨24, [.num .i64, .num .i64], L, own, mark⟩]⟩) KRc)) else (bif i == (0 : Int) then (bif k == wI (nn - (1 : Int)) then (bif onB (pX L k) (pY L k) (pX L i) (pY L i) (pX L (nx L i)) (pY L (nx L i)) then some (.ret, mk (xRc .ret) [.v (Bo false)] ⟨[], [], [.live ⟨24, [.num .i64, .num .i64], L, own, mark⟩]⟩) else (bif onB (pX L (nx L i)) (pY L (nx L i)) (pX L k) (pY L k) (pX L (nx L k)) (pY L (nx L k)) then some (.ret, mk (xRc .ret) [.v (Bo false)] ⟨[], [], [.live ⟨24, [.num .i64, .num .i64], L, own, mark⟩]⟩) else evLoop ΓMr Try.prog L0 (cutC 0 1 kRc) bdRc n (mk kRc [.row 0, .v (I nn), .v (I i), .v (I (wI (k + (1 : Int))))] ⟨[], [], [.live ⟨24, [.num .i64, .num .i64], L, own, mark⟩]⟩) KRc)) else (bif meetB (pX L i) (pY L i) (pX L (nx L i)) (pY L (nx L i)) (pX L k) (pY L k) (pX L (nx L k)) (pY L (nx L k)) then some (.ret, mk (xRc .ret) [.v (Bo false)] ⟨[], [], [.live ⟨24, [.num .i64, .num .i64], L, own, mark⟩]⟩) else evLoop ΓMr Try.prog L0 (cutC 0 1 kRc) bdRc n (mk kRc [.row 0, .v (I nn), .v (I i), .v (I (wI (k + (1 : Int))))] ⟨[], [], [.live ⟨24, [.num .i64, .num .i64], L, own, mark⟩]⟩) KRc)) else (bif meetB (pX L i) (pY L i) (pX L (nx L i)) (pY L (nx L i)) (pX L k) (pY L k) (pX L (nx L k)) (pY L (nx L k)) then some (.ret, mk (xRc .ret) [.v (Bo false)] ⟨[], [], [.live ⟨24, [.num .i64, .num .i64], L, own, mark⟩]⟩) else evLoop ΓMr Try.prog L0 (cutC 0 1 kRc) bdRc n (mk kRc [.row 0, .v (I nn), .v (I i), .v (I (wI (k + (1 : Int))))] ⟨[], [], [.live ⟨24, [.num .i64, .num .i64], L, own, mark⟩]⟩) KRc)))) else none) else none) else none) else none) else some ((.exit 4), mk (xRc (.exit 4)) [.row 0, .v (I nn), .v (I i)] ⟨[], [], [.live ⟨24, [.num .i64, .num .i64], L, own, mark⟩]⟩)) := by kernel_rfl
noncomputable def ERc (n : Nat) (i : Int) (k : Int) (nn : Int) (L : List (List Dat)) (own : Bool) (mark : Bool) : Option (Ex × St) :=
  evLoop ΓMr Try.prog L0 (cutC 0 1 kRc) bdRc n (mk kRc [.row 0, .v (I nn), .v (I i), .v (I k)] ⟨[], [], [.live ⟨24, [.num .i64, .num .i64], L, own, mark⟩]⟩) KRc
/-- What the document asks of the edges i and k. -/
def rcB (L : List (List Dat)) (i k : Int) : Bool := eqP L i k || bif k == i + 1 then onB (pX L (nx L k)) (pY L (nx L k)) (pX L i) (pY L i) (pX L (nx L i)) (pY L (nx L i)) || onB (pX L i) (pY L i) (pX L k) (pY L k) (pX L (nx L k)) (pY L (nx L k))
  else bif i == 0 && k == (L.length : Int) - 1 then onB (pX L k) (pY L k) (pX L i) (pY L i) (pX L (nx L i)) (pY L (nx L i)) || onB (pX L (nx L i)) (pY L (nx L i)) (pX L k) (pY L k) (pX L (nx L k)) (pY L (nx L k))
  else meetB (pX L i) (pY L i) (pX L (nx L i)) (pY L (nx L i)) (pX L k) (pY L k) (pX L (nx L k)) (pY L (nx L k))
/-- Is there one behind i that asks too much? -/
def rwB (L : List (List Dat)) (i : Int) : Bool := anyN (rcB L i) ((L.length : Int) - (i + 1)).toNat (i + 1)
def lfRc (L : List (List Dat)) (i nn : Int) (own mark : Bool) : LT := .br (rwB L i) (.leaf .ret (mk (xRc .ret) [.v (Bo false)] ⟨[], [], [rP L own mark]⟩)) (.leaf (.exit 4) (mk (xRc (.exit 4)) [.row 0, .v (I nn), .v (I i)] ⟨[], [], [rP L own mark]⟩))
theorem loopRc (i : Int) (L : List (List Dat)) (own mark : Bool) (hi : atG L i = true) : ERc (((L.length : Int) - (i + 1)).toNat + 1) i (i + 1) (L.length : Int) L own mark = some (lfRc L i (L.length : Int) own mark).pick := by
  have a := atG_iff.1 hi
  have h := findLoop (rcB L i) (L.length : Int) (fun n k => ERc n i k (L.length : Int) L own mark) (some (.exit 4, mk (xRc (.exit 4)) [.row 0, .v (I (L.length : Int)), .v (I i)] ⟨[], [], [rP L own mark]⟩)) (some (.ret, mk (xRc .ret) [.v (Bo false)] ⟨[], [], [rP L own mark]⟩)) (fun n k hk => ?_) (fun n k hk => ?_) ((L.length : Int) - (i + 1)).toNat (i + 1) (by omega) (by omega)
  · refine h.trans ?_
    unfold lfRc rwB
    cases anyN (rcB L i) ((L.length : Int) - (i + 1)).toNat (i + 1) <;> rfl
  · refine (stepRc i k (L.length : Int) L own mark n).trans ?_
    rw [decide_eq_false hk]
    rfl
  · refine (stepRc i k (L.length : Int) L own mark n).trans ?_
    have b : atG L k = true := atG_iff.2 (by omega)
    rw [decide_eq_true hk.1, decide_eq_true hk.2, decide_eq_true a.1, decide_eq_true a.2.1, hi, b, wI_id (n := k + 1) (by omega), wI_id (n := i + 1) (by omega), wI_id (n := (L.length : Int) - 1) (by omega)]
    show (bif eqP L i k then _ else _) = _
    unfold rcB
    cases eqP L i k
    · cases k == i + 1
      · cases i == 0
        · cases meetB (pX L i) (pY L i) (pX L (nx L i)) (pY L (nx L i)) (pX L k) (pY L k) (pX L (nx L k)) (pY L (nx L k)) <;> rfl
        · cases k == (L.length : Int) - 1
          · cases meetB (pX L i) (pY L i) (pX L (nx L i)) (pY L (nx L i)) (pX L k) (pY L k) (pX L (nx L k)) (pY L (nx L k)) <;> rfl
          · cases onB (pX L k) (pY L k) (pX L i) (pY L i) (pX L (nx L i)) (pY L (nx L i)) <;> cases onB (pX L (nx L i)) (pY L (nx L i)) (pX L k) (pY L k) (pX L (nx L k)) (pY L (nx L k)) <;> rfl
      · cases onB (pX L (nx L k)) (pY L (nx L k)) (pX L i) (pY L i) (pX L (nx L i)) (pY L (nx L i)) <;> cases onB (pX L i) (pY L i) (pX L k) (pY L k) (pX L (nx L k)) (pY L (nx L k)) <;> rfl
    · rfl
def GRc (vals : List SV) (m : Mem) : Option (Bool × LT) :=
  match vals, m with
  | [.row 0, .v (.int .i64 nn), .v (.int .i64 i), .v (.int .i64 k)], ⟨[], [], [.live ⟨24, [.num .i64, .num .i64], L, own, mark⟩]⟩ => some (nn == (L.length : Int) && (k == i + 1 && atG L i), lfRc L i nn own mark)
  | _, _ => none
noncomputable def ΛRc : LoopOrc := fun _ st => viaT 0 1 kRc GRc st
theorem loopOkRc (z : Base) (z1 : z.L.length = 0) (z2 : z.U.length = 1) : LoopOk ΛRc Try.prog z bdRc := by
  refine loop_okT (Λ := L0) (kx := xRc) OkMr mixed z1 z2 (fun b hb st t h => by cases h) (G := GRc) (fun _ => rfl) ?_
  intro vals m t h
  unfold GRc at h
  split at h
  · rename_i nn i k L own mark
    obtain ⟨h1, rfl⟩ := some_t h
    simp only [Bool.and_eq_true, beq_iff_eq] at h1
    obtain ⟨rfl, rfl, hi⟩ := h1
    exact ⟨_, loopRc i L own mark hi⟩
  · cases h
theorem loopsRb : loopsOf bdRb = [bdRc] := by kernel_rfl
def kRb : List Bool := maskOf 100 [0,3,5]
def xRb (e : Ex) : List Bool := match e with
  | .exit _ => maskOf 100 []
  | .ret => maskOf 100 [2]
  | .normal => maskOf 100 [0,3,5]
def KRb (e : Ex) (st : St) : Option (Ex × St) := some (e, cutC 0 1 (xRb e) st)
set_option maxRecDepth 20000 in
theorem stepRb (i : Int) (nn : Int) (L : List (List Dat)) (own : Bool) (mark : Bool) (n : Nat) : evLoop ΓMr Try.prog ΛRc (cutC 0 1 kRb) bdRb (n + 1) (mk kRb [.row 0, .v (I nn), .v (I i)] ⟨[], [], [.live ⟨24, [.num .i64, .num .i64], L, own, mark⟩]⟩) KRb =
    (bif decide (i < nn) then (bif nn == (L.length : Int) && (wI (i + (1 : Int)) == i + (1 : Int) && atG L i) then (bif rwB L i then some (.ret, mk (xRb .ret) [.v (Bo false)] ⟨[], [], [.live ⟨24, [.num .i64, .num .i64], L, own, mark⟩]⟩) else evLoop ΓMr Try.prog ΛRc (cutC 0 1 kRb) bdRb n (mk kRb [.row 0, .v (I nn), .v (I (wI (i + (1 : Int))))] ⟨[], [], [.live ⟨24, [.num .i64, .num .i64], L, own, mark⟩]⟩) KRb) else none) else some ((.exit 2), mk (xRb (.exit 2)) [] ⟨[], [], [.live ⟨24, [.num .i64, .num .i64], L, own, mark⟩]⟩)) := by kernel_rfl
noncomputable def ERb (n : Nat) (i : Int) (nn : Int) (L : List (List Dat)) (own : Bool) (mark : Bool) : Option (Ex × St) :=
  evLoop ΓMr Try.prog ΛRc (cutC 0 1 kRb) bdRb n (mk kRb [.row 0, .v (I nn), .v (I i)] ⟨[], [], [.live ⟨24, [.num .i64, .num .i64], L, own, mark⟩]⟩) KRb
def lfRb (L : List (List Dat)) (own mark : Bool) : LT := .br (anyN (rwB L) L.length 0) (.leaf .ret (mk (xRb .ret) [.v (Bo false)] ⟨[], [], [rP L own mark]⟩)) (.leaf (.exit 2) (mk (xRb (.exit 2)) [] ⟨[], [], [rP L own mark]⟩))
theorem loopRb (L : List (List Dat)) (own mark : Bool) (hl : L.length ≤ 1000000) : ERb (L.length + 1) 0 (L.length : Int) L own mark = some (lfRb L own mark).pick := by
  have h := findLoop (rwB L) (L.length : Int) (fun n k => ERb n k (L.length : Int) L own mark) (some (.exit 2, mk (xRb (.exit 2)) [] ⟨[], [], [rP L own mark]⟩)) (some (.ret, mk (xRb .ret) [.v (Bo false)] ⟨[], [], [rP L own mark]⟩)) (fun n k hk => ?_) (fun n k hk => ?_) L.length 0 (by omega) (by omega)
  · refine h.trans ?_
    unfold lfRb
    cases anyN (rwB L) L.length 0 <;> rfl
  · refine (stepRb k (L.length : Int) L own mark n).trans ?_
    rw [decide_eq_false hk]
    rfl
  · refine (stepRb k (L.length : Int) L own mark n).trans ?_
    have b : atG L k = true := atG_iff.2 (by omega)
    rw [decide_eq_true hk.2, b, wI_id (n := k + 1) (by omega), beq_self_eq_true, beq_self_eq_true]
    show (bif rwB L k then _ else _) = _
    cases rwB L k <;> rfl
def GRb (vals : List SV) (m : Mem) : Option (Bool × LT) :=
  match vals, m with
  | [.row 0, .v (.int .i64 nn), .v (.int .i64 i)], ⟨[], [], [.live ⟨24, [.num .i64, .num .i64], L, own, mark⟩]⟩ => some (nn == (L.length : Int) && (i == 0 && Nat.ble L.length 1000000), lfRb L own mark)
  | _, _ => none
noncomputable def ΛRb : LoopOrc := fun _ st => viaT 0 1 kRb GRb st
theorem loopOkRb (z : Base) (z1 : z.L.length = 0) (z2 : z.U.length = 1) : LoopOk ΛRb Try.prog z bdRb := by
  refine loop_okT (Λ := ΛRc) (kx := xRb) OkMr mixed z1 z2 (oneLoop loopsRb (loopOkRc z z1 z2)) (G := GRb) (fun _ => rfl) ?_
  intro vals m t h
  unfold GRb at h
  split at h
  · rename_i nn i L own mark
    obtain ⟨h1, rfl⟩ := some_t h
    simp only [Bool.and_eq_true, beq_iff_eq] at h1
    obtain ⟨rfl, rfl, hl⟩ := h1
    exact ⟨_, loopRb L own mark (Nat.le_of_ble_eq_true hl)⟩
  · cases h
theorem loopsRab : loopsOf (Try.f20.body.getD .skip) = [bdRa, bdRb] := by kernel_rfl
theorem tagRa : Nat.beq (tagOf bdRa) (tagOf bdRa) = true := by kernel_rfl
theorem tagRb : Nat.beq (tagOf bdRb) (tagOf bdRa) = false := by kernel_rfl
/-- What is known of two loops. -/
noncomputable def either (t : Code) (Λ1 Λ2 : LoopOrc) : LoopOrc := fun b st => match Nat.beq (tagOf b) (tagOf t) with
  | true => Λ1 b st
  | false => Λ2 b st
theorem eitherL {t : Code} {Λ1 Λ2 : LoopOrc} {b : Code} {z : Base} (h : Nat.beq (tagOf b) (tagOf t) = true) (h1 : LoopOk Λ1 Try.prog z b) : LoopOk (either t Λ1 Λ2) Try.prog z b := fun st x hx => h1 st x (by unfold either at hx; rw [h] at hx; exact hx)
theorem eitherR {t : Code} {Λ1 Λ2 : LoopOrc} {b : Code} {z : Base} (h : Nat.beq (tagOf b) (tagOf t) = false) (h1 : LoopOk Λ2 Try.prog z b) : LoopOk (either t Λ1 Λ2) Try.prog z b := fun st x hx => h1 st x (by unfold either at hx; rw [h] at hx; exact hx)
theorem twoLoops {Λ : LoopOrc} {c b0 b1 : Code} {z : Base} (h : loopsOf c = [b0, b1]) (h0 : LoopOk Λ Try.prog z b0) (h1 : LoopOk Λ Try.prog z b1) : ∀ b ∈ loopsOf c, LoopOk Λ Try.prog z b := by
  intro b hb
  rw [h] at hb
  simp only [List.mem_cons, List.not_mem_nil, or_false] at hb
  rcases hb with rfl | rfl
  · exact h0
  · exact h1
noncomputable def ΛRab : LoopOrc := either bdRa ΛRa ΛRb
/-- The document's. -/
def simR (L : List (List Dat)) : Bool := !(decide ((L.length : Int) < 3) || decide ((L.length : Int) > 8)) && (!anyN (pNpl L) L.length 0 && !anyN (rwB L) L.length 0)
set_option maxRecDepth 20000 in
theorem runRsi (L : List (List Dat)) (own : Bool) (mark : Bool) : runG ΓMr ΛRab Try.prog Try.f20 [.row 0] ⟨[], [], [rP L own mark]⟩ = 
    (bif decide ((L.length : Int) < (3 : Int)) then some (.v (Bo false), ⟨[], [], [.live ⟨24, [.num .i64, .num .i64], L, own, mark⟩]⟩) else (bif decide ((L.length : Int) > (8 : Int)) then some (.v (Bo false), ⟨[], [], [.live ⟨24, [.num .i64, .num .i64], L, own, mark⟩]⟩) else (bif (L.length : Int) == (L.length : Int) && (true && L.length.ble (1000000)) then (bif anyN (pNpl L) L.length (0 : Int) then some (.v (Bo false), ⟨[], [], [.live ⟨24, [.num .i64, .num .i64], L, own, mark⟩]⟩) else (bif (L.length : Int) == (L.length : Int) && (true && L.length.ble (1000000)) then (bif anyN (rwB L) L.length (0 : Int) then some (.v (Bo false), ⟨[], [], [.live ⟨24, [.num .i64, .num .i64], L, own, mark⟩]⟩) else some (.v (Bo true), ⟨[], [], [.live ⟨24, [.num .i64, .num .i64], L, own, mark⟩]⟩)) else none)) else none))) := by kernel_rfl
def gRsi (xs : List SV) (m : Mem) : Option (Bool × Value) :=
  match xs, m with
  | [.row 0], ⟨[], [], [.live ⟨24, [.num .i64, .num .i64], L, own, mark⟩]⟩ => some (Nat.ble L.length 1000000, Bo (simR L))
  | _, _ => none
theorem gRsi_ok : ∀ xs m r, gRsi xs m = some (true, r) → CallOk Try.prog 20 xs m (.v r) m := by
  intro xs m r h
  unfold gRsi at h
  split at h
  · rename_i L own mark
    obtain ⟨h1, rfl⟩ := some_t h
    refine runOk (Λ := ΛRab) OkMr Try.func20 rfl (fun z z1 z2 => twoLoops loopsRab (eitherL tagRa (loopOkRa z z1 z2)) (eitherR tagRb (loopOkRb z z1 z2))) ?_
    refine (runRsi L own mark).trans ?_
    rw [h1, beq_self_eq_true]
    unfold simR
    cases decide ((L.length : Int) < 3) <;> cases decide ((L.length : Int) > 8) <;> cases anyN (pNpl L) L.length 0 <;> cases anyN (rwB L) L.length 0 <;> rfl
  · cases h
noncomputable def ΓRs1 : Orc := addRd 20 gRsi ΓMr
theorem OkRs1 : ΓRs1.Ok Try.prog := addRd_ok OkMr gRsi_ok
noncomputable def bdRd : Code := loopAt (Try.f18.body.getD .skip) 0
def kRd : List Bool := maskOf 47 [0,3]
def xRd (e : Ex) : List Bool := match e with
  | .exit _ => maskOf 47 [0]
  | .ret => maskOf 47 [2]
  | .normal => maskOf 47 [0,3]
def KRd (e : Ex) (st : St) : Option (Ex × St) := some (e, cutC 0 1 (xRd e) st)
set_option maxRecDepth 20000 in
theorem stepRd (i : Int) (L : List (List Dat)) (own : Bool) (mark : Bool) (n : Nat) : evLoop ΓRs1 Try.prog L0 (cutC 0 1 kRd) bdRd (n + 1) (mk kRd [.row 0, .v (I i)] ⟨[], [], [.live ⟨24, [.num .i64, .num .i64], L, own, mark⟩]⟩) KRd =
    (bif decide (i < (L.length : Int)) then (bif decide ((L.length : Int) ≤ (8 : Int)) then (bif decide ((0 : Int) ≤ i) && decide (i < (L.length : Int)) then (bif decide ((pX L i) < (-1073741824 : Int)) then some (.ret, mk (xRd .ret) [.v (Bo false)] ⟨[], [], [.live ⟨24, [.num .i64, .num .i64], L, own, mark⟩]⟩) else (bif decide ((0 : Int) ≤ i) && decide (i < (L.length : Int)) then (bif decide ((pX L i) > (1073741824 : Int)) then some (.ret, mk (xRd .ret) [.v (Bo false)] ⟨[], [], [.live ⟨24, [.num .i64, .num .i64], L, own, mark⟩]⟩) else (bif decide ((0 : Int) ≤ i) && decide (i < (L.length : Int)) then (bif decide ((pY L i) < (-1073741824 : Int)) then some (.ret, mk (xRd .ret) [.v (Bo false)] ⟨[], [], [.live ⟨24, [.num .i64, .num .i64], L, own, mark⟩]⟩) else (bif decide ((0 : Int) ≤ i) && decide (i < (L.length : Int)) then (bif decide ((pY L i) > (1073741824 : Int)) then some (.ret, mk (xRd .ret) [.v (Bo false)] ⟨[], [], [.live ⟨24, [.num .i64, .num .i64], L, own, mark⟩]⟩) else evLoop ΓRs1 Try.prog L0 (cutC 0 1 kRd) bdRd n (mk kRd [.row 0, .v (I (wI (i + (1 : Int))))] ⟨[], [], [.live ⟨24, [.num .i64, .num .i64], L, own, mark⟩]⟩) KRd) else none)) else none)) else none)) else none) else some ((.exit 0), mk (xRd (.exit 0)) [.row 0] ⟨[], [], [.live ⟨24, [.num .i64, .num .i64], L, own, mark⟩]⟩)) else some ((.exit 0), mk (xRd (.exit 0)) [.row 0] ⟨[], [], [.live ⟨24, [.num .i64, .num .i64], L, own, mark⟩]⟩)) := by kernel_rfl
noncomputable def ERd (n : Nat) (i : Int) (L : List (List Dat)) (own : Bool) (mark : Bool) : Option (Ex × St) :=
  evLoop ΓRs1 Try.prog L0 (cutC 0 1 kRd) bdRd n (mk kRd [.row 0, .v (I i)] ⟨[], [], [.live ⟨24, [.num .i64, .num .i64], L, own, mark⟩]⟩) KRd
def lfRd (L : List (List Dat)) (own mark : Bool) : LT := .br (decide ((L.length : Int) ≤ 8) && anyN (pFar L) L.length 0) (.leaf .ret (mk (xRd .ret) [.v (Bo false)] ⟨[], [], [rP L own mark]⟩)) (.leaf (.exit 0) (mk (xRd (.exit 0)) [.row 0] ⟨[], [], [rP L own mark]⟩))
theorem loopRd (L : List (List Dat)) (own mark : Bool) (hl : L.length ≤ 1000000) : ERd (L.length + 1) 0 L own mark = some (lfRd L own mark).pick := by
  by_cases h8 : (L.length : Int) ≤ 8
  · have h := findLoop (pFar L) (L.length : Int) (fun n k => ERd n k L own mark) (some (.exit 0, mk (xRd (.exit 0)) [.row 0] ⟨[], [], [rP L own mark]⟩)) (some (.ret, mk (xRd .ret) [.v (Bo false)] ⟨[], [], [rP L own mark]⟩)) (fun n k hk => ?_) (fun n k hk => ?_) L.length 0 (by omega) (by omega)
    · refine h.trans ?_
      unfold lfRd
      rw [decide_eq_true h8]
      cases anyN (pFar L) L.length 0 <;> rfl
    · refine (stepRd k L own mark n).trans ?_
      rw [decide_eq_false hk]
      rfl
    · refine (stepRd k L own mark n).trans ?_
      rw [decide_eq_true hk.2, decide_eq_true hk.1, decide_eq_true h8, wI_id (n := k + 1) (by omega)]
      unfold pFar fovI
      cases decide (pX L k < -1073741824) <;> cases decide (pX L k > 1073741824) <;> cases decide (pY L k < -1073741824) <;> cases decide (pY L k > 1073741824) <;> rfl
  · refine (stepRd 0 L own mark L.length).trans ?_
    unfold lfRd
    rw [decide_eq_false h8]
    cases decide ((0 : Int) < (L.length : Int)) <;> rfl
def GRd (vals : List SV) (m : Mem) : Option (Bool × LT) :=
  match vals, m with
  | [.row 0, .v (.int .i64 i)], ⟨[], [], [.live ⟨24, [.num .i64, .num .i64], L, own, mark⟩]⟩ => some (i == 0 && Nat.ble L.length 1000000, lfRd L own mark)
  | _, _ => none
noncomputable def ΛRd : LoopOrc := fun _ st => viaT 0 1 kRd GRd st
theorem loopOkRd (z : Base) (z1 : z.L.length = 0) (z2 : z.U.length = 1) : LoopOk ΛRd Try.prog z bdRd := by
  refine loop_okT (Λ := L0) (kx := xRd) OkRs1 mixed z1 z2 (fun b hb st t h => by cases h) (G := GRd) (fun _ => rfl) ?_
  intro vals m t h
  unfold GRd at h
  split at h
  · rename_i i L own mark
    obtain ⟨h1, rfl⟩ := some_t h
    simp only [Bool.and_eq_true, beq_iff_eq] at h1
    obtain ⟨rfl, hl⟩ := h1
    exact ⟨_, loopRd L own mark (Nat.le_of_ble_eq_true hl)⟩
  · cases h
theorem loopsRd : loopsOf (Try.f18.body.getD .skip) = [bdRd] := by kernel_rfl
def areaR (L : List (List Dat)) : Bool := !(decide ((L.length : Int) ≤ 8) && anyN (pFar L) L.length 0) && simR L
set_option maxRecDepth 20000 in
theorem runRar (L : List (List Dat)) (own : Bool) (mark : Bool) : runG ΓRs1 ΛRd Try.prog Try.f18 [.row 0] ⟨[], [], [rP L own mark]⟩ = 
    (bif true && L.length.ble (1000000) then (bif decide ((L.length : Int) ≤ (8 : Int)) && anyN (pFar L) L.length (0 : Int) then some (.v (Bo false), ⟨[], [], [.live ⟨24, [.num .i64, .num .i64], L, own, mark⟩]⟩) else (bif L.length.ble (1000000) then some (.v (Bo (simR L)), ⟨[], [], [.live ⟨24, [.num .i64, .num .i64], L, own, mark⟩]⟩) else none)) else none) := by kernel_rfl
def gRar (xs : List SV) (m : Mem) : Option (Bool × Value) :=
  match xs, m with
  | [.row 0], ⟨[], [], [.live ⟨24, [.num .i64, .num .i64], L, own, mark⟩]⟩ => some (Nat.ble L.length 1000000, Bo (areaR L))
  | _, _ => none
theorem gRar_ok : ∀ xs m r, gRar xs m = some (true, r) → CallOk Try.prog 18 xs m (.v r) m := by
  intro xs m r h
  unfold gRar at h
  split at h
  · rename_i L own mark
    obtain ⟨h1, rfl⟩ := some_t h
    refine runOk (Λ := ΛRd) OkRs1 Try.func18 rfl (fun z z1 z2 => oneLoop loopsRd (loopOkRd z z1 z2)) ?_
    refine (runRar L own mark).trans ?_
    rw [h1]
    unfold areaR
    cases decide ((L.length : Int) ≤ 8) <;> cases anyN (pFar L) L.length 0 <;> cases simR L <;> rfl
  · cases h
noncomputable def ΓRs2 : Orc := addRd 18 gRar ΓRs1
theorem OkRs2 : ΓRs2.Ok Try.prog := addRd_ok OkRs1 gRar_ok
noncomputable def bdRe : Code := loopAt (Try.f23.body.getD .skip) 0
def kRe : List Bool := maskOf 63 [0,3,5,6]
def xRe (e : Ex) : List Bool := match e with
  | .exit _ => maskOf 63 [5]
  | .ret => maskOf 63 [4]
  | .normal => maskOf 63 [0,3,5,6]
def KRe (e : Ex) (st : St) : Option (Ex × St) := some (e, cutC 0 1 (xRe e) st)
set_option maxRecDepth 20000 in
theorem stepRe (px : Int) (py : Int) (odd : Bool) (i : Int) (L : List (List Dat)) (own : Bool) (mark : Bool) (n : Nat) : evLoop ΓRs2 Try.prog L0 (cutC 0 1 kRe) bdRe (n + 1) (mk kRe [.row 0, .ptr 0 0, .v (Bo odd), .v (I i)] ⟨[[.v (I px), .v (I py)]], [true], [rP L own mark]⟩) KRe =
    (bif decide (i < (L.length : Int)) then (bif decide ((0 : Int) ≤ i) && decide (i < (L.length : Int)) then (bif atG L i then (bif onB px py (pX L i) (pY L i) (pX L (nx L i)) (pY L (nx L i)) then some (.ret, mk (xRe .ret) [.v (I 0)] ⟨[], [], [.live ⟨24, [.num .i64, .num .i64], L, own, mark⟩]⟩) else (bif decide ((pY L i) > pY L (nx L i)) then (bif decide (pY L (nx L i) ≤ py) then (bif decide ((pY L i) > py) then (bif decide (turnI (pX L (nx L i)) (pY L (nx L i)) (pX L i) (pY L i) px py > (0 : Int)) then evLoop ΓRs2 Try.prog L0 (cutC 0 1 kRe) bdRe n (mk kRe [.row 0, .ptr 0 0, .v (Bo !odd), .v (I (wI (i + (1 : Int))))] ⟨[[.v (I px), .v (I py)]], [true], [.live ⟨24, [.num .i64, .num .i64], L, own, mark⟩]⟩) KRe else evLoop ΓRs2 Try.prog L0 (cutC 0 1 kRe) bdRe n (mk kRe [.row 0, .ptr 0 0, .v (Bo odd), .v (I (wI (i + (1 : Int))))] ⟨[[.v (I px), .v (I py)]], [true], [.live ⟨24, [.num .i64, .num .i64], L, own, mark⟩]⟩) KRe) else evLoop ΓRs2 Try.prog L0 (cutC 0 1 kRe) bdRe n (mk kRe [.row 0, .ptr 0 0, .v (Bo odd), .v (I (wI (i + (1 : Int))))] ⟨[[.v (I px), .v (I py)]], [true], [.live ⟨24, [.num .i64, .num .i64], L, own, mark⟩]⟩) KRe) else evLoop ΓRs2 Try.prog L0 (cutC 0 1 kRe) bdRe n (mk kRe [.row 0, .ptr 0 0, .v (Bo odd), .v (I (wI (i + (1 : Int))))] ⟨[[.v (I px), .v (I py)]], [true], [.live ⟨24, [.num .i64, .num .i64], L, own, mark⟩]⟩) KRe) else (bif decide ((pY L i) ≤ py) then (bif decide (pY L (nx L i) > py) then (bif decide (turnI (pX L i) (pY L i) (pX L (nx L i)) (pY L (nx L i)) px py > (0 : Int)) then evLoop ΓRs2 Try.prog L0 (cutC 0 1 kRe) bdRe n (mk kRe [.row 0, .ptr 0 0, .v (Bo !odd), .v (I (wI (i + (1 : Int))))] ⟨[[.v (I px), .v (I py)]], [true], [.live ⟨24, [.num .i64, .num .i64], L, own, mark⟩]⟩) KRe else evLoop ΓRs2 Try.prog L0 (cutC 0 1 kRe) bdRe n (mk kRe [.row 0, .ptr 0 0, .v (Bo odd), .v (I (wI (i + (1 : Int))))] ⟨[[.v (I px), .v (I py)]], [true], [.live ⟨24, [.num .i64, .num .i64], L, own, mark⟩]⟩) KRe) else evLoop ΓRs2 Try.prog L0 (cutC 0 1 kRe) bdRe n (mk kRe [.row 0, .ptr 0 0, .v (Bo odd), .v (I (wI (i + (1 : Int))))] ⟨[[.v (I px), .v (I py)]], [true], [.live ⟨24, [.num .i64, .num .i64], L, own, mark⟩]⟩) KRe) else evLoop ΓRs2 Try.prog L0 (cutC 0 1 kRe) bdRe n (mk kRe [.row 0, .ptr 0 0, .v (Bo odd), .v (I (wI (i + (1 : Int))))] ⟨[[.v (I px), .v (I py)]], [true], [.live ⟨24, [.num .i64, .num .i64], L, own, mark⟩]⟩) KRe))) else none) else none) else some ((.exit 0), mk (xRe (.exit 0)) [.v (Bo odd)] ⟨[], [], [.live ⟨24, [.num .i64, .num .i64], L, own, mark⟩]⟩)) := by kernel_rfl
noncomputable def ERe (n : Nat) (px : Int) (py : Int) (odd : Bool) (i : Int) (L : List (List Dat)) (own : Bool) (mark : Bool) : Option (Ex × St) :=
  evLoop ΓRs2 Try.prog L0 (cutC 0 1 kRe) bdRe n (mk kRe [.row 0, .ptr 0 0, .v (Bo odd), .v (I i)] ⟨[[.v (I px), .v (I py)]], [true], [rP L own mark]⟩) KRe
/-- All of them, one behind the other. -/
def foF {σ : Type} (f : Int → σ → σ) : Nat → Int → σ → σ
  | 0, _, s => s
  | m + 1, k, s => foF f m (k + 1) (f k s)
theorem foldFind {α σ : Type} (p : Int → Bool) (f : Int → σ → σ) (I : Int → σ → Prop) (N : Int) (E : Nat → Int → σ → Option α) (X : σ → Option α) (Y : Option α) (he : ∀ n k s, ¬ k < N → I k s → E (n + 1) k s = X s) (hI : ∀ k s, 0 ≤ k ∧ k < N → I k s → I (k + 1) (f k s)) (hr : ∀ n k s, 0 ≤ k ∧ k < N → I k s → E (n + 1) k s = bif p k then Y else E n (k + 1) (f k s)) :
    ∀ (m : Nat) (k : Int) (s : σ), 0 ≤ k → k + m = N → I k s → E (m + 1) k s = bif anyN p m k then Y else X (foF f m k s) := by
  intro m
  induction m with
  | zero =>
    intro k s h0 h1 hi
    exact he 0 k s (by omega) hi
  | succ m ih =>
    intro k s h0 h1 hi
    rw [hr (m + 1) k s (by omega) hi]
    show _ = bif p k || anyN p m (k + 1) then Y else X (foF f m (k + 1) (f k s))
    cases p k
    · exact ih (k + 1) (f k s) (by omega) (by omega) (hI k s (by omega) hi)
    · rfl
theorem anyN_false : ∀ (m : Nat) (k : Int), anyN (fun _ => false) m k = false
  | 0, _ => rfl
  | m + 1, k => anyN_false m (k + 1)
/-- .. that never ends early. -/
theorem foldAll {α σ : Type} (f : Int → σ → σ) (I : Int → σ → Prop) (N : Int) (E : Nat → Int → σ → Option α) (X : σ → Option α) (he : ∀ n k s, ¬ k < N → I k s → E (n + 1) k s = X s) (hI : ∀ k s, 0 ≤ k ∧ k < N → I k s → I (k + 1) (f k s)) (hr : ∀ n k s, 0 ≤ k ∧ k < N → I k s → E (n + 1) k s = E n (k + 1) (f k s))
    (m : Nat) (k : Int) (s : σ) (h0 : 0 ≤ k) (h1 : k + m = N) (hi : I k s) : E (m + 1) k s = X (foF f m k s) := by
  have := foldFind (fun _ => false) f I N E X none he hI (fun n k s hk hi => hr n k s hk hi) m k s h0 h1 hi
  rwa [anyN_false] at this
theorem foF_inv {σ : Type} {f : Int → σ → σ} {N : Int} {I : Int → σ → Prop} (hI : ∀ k s, 0 ≤ k ∧ k < N → I k s → I (k + 1) (f k s)) : ∀ (m : Nat) (k : Int) (s : σ), 0 ≤ k → k + m ≤ N → I k s → I (k + m) (foF f m k s)
  | 0, k, s, _, _, h => by simpa [foF] using h
  | m + 1, k, s, h0, h1, h => by
    have := foF_inv hI m (k + 1) (f k s) (by omega) (by omega) (hI k s (by omega) h)
    rwa [show k + 1 + (m : Int) = k + ((m + 1 : Nat) : Int) by omega] at this
def oddB (px py : Int) (L : List (List Dat)) : Bool := foF (fun k s => s ^^ rgB px py L k) L.length 0 false
def lfRe (px py : Int) (L : List (List Dat)) (own mark : Bool) : LT := .br (anyN (hitB px py L) L.length 0) (.leaf .ret (mk (xRe .ret) [.v (I 0)] ⟨[], [], [rP L own mark]⟩)) (.leaf (.exit 0) (mk (xRe (.exit 0)) [.v (Bo (oddB px py L))] ⟨[], [], [rP L own mark]⟩))
theorem loopRe (px py : Int) (L : List (List Dat)) (own mark : Bool) (hl : L.length ≤ 1000000) : ERe (L.length + 1) px py false 0 L own mark = some (lfRe px py L own mark).pick := by
  have h := foldFind (hitB px py L) (fun k s => s ^^ rgB px py L k) (fun _ _ => True) (L.length : Int) (fun n k s => ERe n px py s k L own mark) (fun s => some (.exit 0, mk (xRe (.exit 0)) [.v (Bo s)] ⟨[], [], [rP L own mark]⟩)) (some (.ret, mk (xRe .ret) [.v (I 0)] ⟨[], [], [rP L own mark]⟩)) (fun n k s hk _ => ?_) (fun _ _ _ _ => trivial) (fun n k s hk _ => ?_) L.length 0 false (by omega) (by omega) trivial
  · refine h.trans ?_
    unfold lfRe
    cases anyN (hitB px py L) L.length 0 <;> rfl
  · refine (stepRe px py s k L own mark n).trans ?_
    rw [decide_eq_false hk]
    rfl
  · refine (stepRe px py s k L own mark n).trans ?_
    have a : atG L k = true := atG_iff.2 (by omega)
    rw [decide_eq_true hk.2, decide_eq_true hk.1, a, wI_id (n := k + 1) (by omega)]
    show (bif hitB px py L k then _ else _) = _
    cases hitB px py L k
    · unfold rgB rgO
      show _ = bif false then _ else _
      cases decide (pY L k > pY L (nx L k))
      · cases decide (pY L k ≤ py) <;> cases decide (pY L (nx L k) > py) <;> cases decide (turnI (pX L k) (pY L k) (pX L (nx L k)) (pY L (nx L k)) px py > 0) <;> cases s <;> rfl
      · cases decide (pY L (nx L k) ≤ py) <;> cases decide (pY L k > py) <;> cases decide (turnI (pX L (nx L k)) (pY L (nx L k)) (pX L k) (pY L k) px py > 0) <;> cases s <;> rfl
    · rfl
def GRe (vals : List SV) (m : Mem) : Option (Bool × LT) :=
  match vals, m with
  | [.row 0, .ptr 0 0, .v (.bool odd), .v (.int .i64 i)], ⟨[[.v (.int .i64 px), .v (.int .i64 py)]], [true], [.live ⟨24, [.num .i64, .num .i64], L, own, mark⟩]⟩ => some (!odd && (i == 0 && Nat.ble L.length 1000000), lfRe px py L own mark)
  | _, _ => none
noncomputable def ΛRe : LoopOrc := fun _ st => viaT 0 1 kRe GRe st
theorem loopOkRe (z : Base) (z1 : z.L.length = 0) (z2 : z.U.length = 1) : LoopOk ΛRe Try.prog z bdRe := by
  refine loop_okT (Λ := L0) (kx := xRe) OkRs2 mixed z1 z2 (fun b hb st t h => by cases h) (G := GRe) (fun _ => rfl) ?_
  intro vals m t h
  unfold GRe at h
  split at h
  · rename_i odd i px py L own mark
    obtain ⟨h1, rfl⟩ := some_t h
    simp only [Bool.and_eq_true, beq_iff_eq, Bool.not_eq_true'] at h1
    obtain ⟨rfl, rfl, hl⟩ := h1
    exact ⟨_, loopRe px py L own mark (Nat.le_of_ble_eq_true hl)⟩
  · cases h
theorem loopsRe : loopsOf (Try.f23.body.getD .skip) = [bdRe] := by kernel_rfl
def sideR (L : List (List Dat)) (px py : Int) : Int := bif !areaR L then -1 else bif !plR px py then -1 else bif anyN (hitB px py L) L.length 0 then 0 else bif oddB px py L then 1 else -1
set_option maxRecDepth 20000 in
theorem runRss (px : Int) (py : Int) (L : List (List Dat)) (own : Bool) (mark : Bool) : runG ΓRs2 ΛRe Try.prog Try.f23 [.row 0, .v (.agg #[I px, I py])] ⟨[], [], [rP L own mark]⟩ = 
    (bif L.length.ble (1000000) then (bif !areaR L then some (.v (I (-1)), ⟨[], [], [.live ⟨24, [.num .i64, .num .i64], L, own, mark⟩]⟩) else (bif !plR px py then some (.v (I (-1)), ⟨[], [], [.live ⟨24, [.num .i64, .num .i64], L, own, mark⟩]⟩) else (bif true && (true && L.length.ble (1000000)) then (bif anyN (hitB px py L) L.length (0 : Int) then some (.v (I 0), ⟨[], [], [.live ⟨24, [.num .i64, .num .i64], L, own, mark⟩]⟩) else (bif oddB px py L then some (.v (I 1), ⟨[], [], [.live ⟨24, [.num .i64, .num .i64], L, own, mark⟩]⟩) else some (.v (I (-1)), ⟨[], [], [.live ⟨24, [.num .i64, .num .i64], L, own, mark⟩]⟩))) else none))) else none) := by kernel_rfl
def gRss (xs : List SV) (m : Mem) : Option (Bool × Value) :=
  match xs, m with
  | [.row 0, .v (.agg ⟨[.int .i64 px, .int .i64 py]⟩)], ⟨[], [], [.live ⟨24, [.num .i64, .num .i64], L, own, mark⟩]⟩ => some (Nat.ble L.length 1000000, I (sideR L px py))
  | _, _ => none
theorem gRss_ok : ∀ xs m r, gRss xs m = some (true, r) → CallOk Try.prog 23 xs m (.v r) m := by
  intro xs m r h
  unfold gRss at h
  split at h
  · rename_i px py L own mark
    obtain ⟨h1, rfl⟩ := some_t h
    refine runOk (Λ := ΛRe) OkRs2 Try.func23 rfl (fun z z1 z2 => oneLoop loopsRe (loopOkRe z z1 z2)) ?_
    refine (runRss px py L own mark).trans ?_
    rw [h1]
    unfold sideR
    cases areaR L <;> cases plR px py <;> cases anyN (hitB px py L) L.length 0 <;> cases oddB px py L <;> rfl
  · cases h
noncomputable def ΓRs : Orc := addRd 23 gRss ΓRs2
theorem OkRs : ΓRs.Ok Try.prog := addRd_ok OkRs2 gRss_ok
end Go.Proofs.Ytcjkkfhdnealpaa

namespace Go.Proofs.Ytcjkkfhdnealpaa
open Go Go.Proofs Go.Sx
set_option linter.unusedVariables false
/-! norm -/
/-! cast -/

/-! rep ((L.getD ((wI (k + (1 : Int))).tmod (L.length : Int)).toNat []).headD (Dat.n (0 : Int))).toI => (pX L (nx L k)) -/
/-! rep ((L.getD ((wI (k + (1 : Int))).tmod (L.length : Int)).toNat []).tail.headD (Dat.n (0 : Int))).toI => (pY L (nx L k)) -/
/-! rep (wI (k + (1 : Int))).tmod (L.length : Int) => nx L k -/
/-! rep (((L.getD i.toNat []).headD (Dat.n (0 : Int))).toI) => (pX L i) -/
/-! rep (((L.getD i.toNat []).tail.headD (Dat.n (0 : Int))).toI) => (pY L i) -/
/-! rep ((L.getD i.toNat []).headD (Dat.n (0 : Int))).toI => (pX L i) -/
/-! rep ((L.getD i.toNat []).tail.headD (Dat.n (0 : Int))).toI => (pY L i) -/
/-! rep (((L2.getD i.toNat []).headD (Dat.n (0 : Int))).toI) => (pX L2 i) -/
/-! rep (((L2.getD i.toNat []).tail.headD (Dat.n (0 : Int))).toI) => (pY L2 i) -/
/-! rep ((L2.getD i.toNat []).headD (Dat.n (0 : Int))).toI => (pX L2 i) -/
/-! rep ((L2.getD i.toNat []).tail.headD (Dat.n (0 : Int))).toI => (pY L2 i) -/
/-! rep (((L.getD k.toNat []).headD (Dat.n (0 : Int))).toI) => (pX L k) -/
/-! rep (((L.getD k.toNat []).tail.headD (Dat.n (0 : Int))).toI) => (pY L k) -/
/-! rep ((L.getD k.toNat []).headD (Dat.n (0 : Int))).toI => (pX L k) -/
/-! rep ((L.getD k.toNat []).tail.headD (Dat.n (0 : Int))).toI => (pY L k) -/
/-! rep (((L2.getD k.toNat []).headD (Dat.n (0 : Int))).toI) => (pX L2 k) -/
/-! rep (((L2.getD k.toNat []).tail.headD (Dat.n (0 : Int))).toI) => (pY L2 k) -/
/-! rep ((L2.getD k.toNat []).headD (Dat.n (0 : Int))).toI => (pX L2 k) -/
/-! rep ((L2.getD k.toNat []).tail.headD (Dat.n (0 : Int))).toI => (pY L2 k) -/

noncomputable def bdRf : Code := loopAt (Try.f53.body.getD .skip) 0
def kRf : List Bool := maskOf 38 [1,2,5]
def xRf (e : Ex) : List Bool := match e with
  | .exit _ => maskOf 38 [1,2]
  | .ret => maskOf 38 [4]
  | .normal => maskOf 38 [1,2,5]
def KRf (e : Ex) (st : St) : Option (Ex × St) := some (e, cutC 0 1 (xRf e) st)
set_option maxRecDepth 20000 in
theorem stepRf (a : Int) (b : Int) (c : Int) (d : Int) (k : Int) (L : List (List Dat)) (own : Bool) (mark : Bool) (n : Nat) : evLoop ΓRs Try.prog L0 (cutC 0 1 kRf) bdRf (n + 1) (mk kRf [.row 0, .ptr 0 0, .v (I k)] ⟨[[.v (I a), .v (I b), .v (I c), .v (I d)]], [true], [rP L own mark]⟩) KRf =
    (bif decide (k < (L.length : Int)) then (bif decide ((0 : Int) ≤ k) && decide (k < (L.length : Int)) then (bif (L.length : Int) == (0 : Int) then none else (bif decide ((0 : Int) ≤ nx L k) && decide (nx L k < (L.length : Int)) then (bif mtR a b c d (pX L k) (pY L k) (pX L (nx L k)) (pY L (nx L k)) then some (.ret, mk (xRf .ret) [.v (I 0)] ⟨[], [], [.live ⟨24, [.num .i64, .num .i64], L, own, mark⟩]⟩) else evLoop ΓRs Try.prog L0 (cutC 0 1 kRf) bdRf n (mk kRf [.row 0, .ptr 0 0, .v (I (wI (k + (1 : Int))))] ⟨[[.v (I a), .v (I b), .v (I c), .v (I d)]], [true], [.live ⟨24, [.num .i64, .num .i64], L, own, mark⟩]⟩) KRf) else none)) else none) else some ((.exit 0), mk (xRf (.exit 0)) [.row 0, .ptr 0 0] ⟨[[.v (I a), .v (I b), .v (I c), .v (I d)]], [true], [.live ⟨24, [.num .i64, .num .i64], L, own, mark⟩]⟩)) := by kernel_rfl
noncomputable def ERf (n : Nat) (a : Int) (b : Int) (c : Int) (d : Int) (k : Int) (L : List (List Dat)) (own : Bool) (mark : Bool) : Option (Ex × St) :=
  evLoop ΓRs Try.prog L0 (cutC 0 1 kRf) bdRf n (mk kRf [.row 0, .ptr 0 0, .v (I k)] ⟨[[.v (I a), .v (I b), .v (I c), .v (I d)]], [true], [rP L own mark]⟩) KRf
def rlDoc (a b c d : Int) (L : List (List Dat)) (k : Int) : Bool := mtR a b c d (pX L k) (pY L k) (pX L (nx L k)) (pY L (nx L k))
def lfRf (a b c d : Int) (L : List (List Dat)) (own mark : Bool) : LT := .br (anyN (rlDoc a b c d L) L.length 0) (.leaf .ret (mk (xRf .ret) [.v (I 0)] ⟨[], [], [rP L own mark]⟩)) (.leaf (.exit 0) (mk (xRf (.exit 0)) [.row 0, .ptr 0 0] ⟨[[.v (I a), .v (I b), .v (I c), .v (I d)]], [true], [rP L own mark]⟩))
theorem loopRf (a b c d : Int) (L : List (List Dat)) (own mark : Bool) (hl : L.length ≤ 1000000) : ERf (L.length + 1) a b c d 0 L own mark = some (lfRf a b c d L own mark).pick := by
  have h := findLoop (rlDoc a b c d L) (L.length : Int) (fun n k => ERf n a b c d k L own mark) (some (.exit 0, mk (xRf (.exit 0)) [.row 0, .ptr 0 0] ⟨[[.v (I a), .v (I b), .v (I c), .v (I d)]], [true], [rP L own mark]⟩)) (some (.ret, mk (xRf .ret) [.v (I 0)] ⟨[], [], [rP L own mark]⟩)) (fun n k hk => ?_) (fun n k hk => ?_) L.length 0 (by omega) (by omega)
  · refine h.trans ?_
    unfold lfRf
    cases anyN (rlDoc a b c d L) L.length 0 <;> rfl
  · refine (stepRf a b c d k L own mark n).trans ?_
    rw [decide_eq_false hk]
    rfl
  · refine (stepRf a b c d k L own mark n).trans ?_
    have e : atG L k = true := atG_iff.2 (by omega)
    have n1 := nx_in e
    have l0 : (L.length : Int) ≠ 0 := by omega
    rw [decide_eq_true hk.2, decide_eq_true hk.1, beq_eq_false_iff_ne.2 l0, decide_eq_true n1.1, decide_eq_true n1.2, wI_id (n := k + 1) (by omega)]
    show (bif rlDoc a b c d L k then _ else _) = _
    cases rlDoc a b c d L k <;> rfl
def GRf (vals : List SV) (m : Mem) : Option (Bool × LT) :=
  match vals, m with
  | [.row 0, .ptr 0 0, .v (.int .i64 k)], ⟨[[.v (.int .i64 a), .v (.int .i64 b), .v (.int .i64 c), .v (.int .i64 d)]], [true], [.live ⟨24, [.num .i64, .num .i64], L, own, mark⟩]⟩ => some ((k == 0 && Nat.ble L.length 1000000), lfRf a b c d L own mark)
  | _, _ => none
noncomputable def ΛRf : LoopOrc := fun _ st => viaT 0 1 kRf GRf st
theorem loopOkRf (z : Base) (z1 : z.L.length = 0) (z2 : z.U.length = 1) : LoopOk ΛRf Try.prog z bdRf := by
  refine loop_okT (Λ := L0) (kx := xRf) OkRs mixed z1 z2 (fun b hb st t h => by cases h) (G := GRf) (fun _ => rfl) ?_
  intro vals m t h
  unfold GRf at h
  split at h
  · rename_i k a b c d L own mark
    obtain ⟨h1, rfl⟩ := some_t h
    simp only [Bool.and_eq_true, beq_iff_eq] at h1
    obtain ⟨rfl, hl⟩ := h1
    exact ⟨_, loopRf a b c d L own mark (Nat.le_of_ble_eq_true hl)⟩
  · cases h
theorem loopsRf : loopsOf (Try.f53.body.getD .skip) = [bdRf] := by kernel_rfl
def relDoc (a b c d : Int) (L : List (List Dat)) : Int := bif !boR a b c d then -1 else bif !areaR L then -1 else bif anyN (rlDoc a b c d L) L.length 0 then 0 else sideR L a b
set_option maxRecDepth 20000 in
theorem runRDoc (a : Int) (b : Int) (c : Int) (d : Int) (L : List (List Dat)) (own : Bool) (mark : Bool) : runG ΓRs ΛRf Try.prog Try.f53 [.v (.agg #[I a, I b, I c, I d]), .row 0] ⟨[], [], [rP L own mark]⟩ = 
    (bif !boR a b c d then some (.v (I (-1)), ⟨[], [], [.live ⟨24, [.num .i64, .num .i64], L, own, mark⟩]⟩) else (bif L.length.ble (1000000) then (bif !areaR L then some (.v (I (-1)), ⟨[], [], [.live ⟨24, [.num .i64, .num .i64], L, own, mark⟩]⟩) else (bif true && L.length.ble (1000000) then (bif anyN (rlDoc a b c d L) L.length (0 : Int) then some (.v (I 0), ⟨[], [], [.live ⟨24, [.num .i64, .num .i64], L, own, mark⟩]⟩) else (bif L.length.ble (1000000) then some (.v (I (sideR L a b)), ⟨[], [], [.live ⟨24, [.num .i64, .num .i64], L, own, mark⟩]⟩) else none)) else none)) else none)) := by kernel_rfl
def gRDoc (xs : List SV) (m : Mem) : Option (Bool × Value) :=
  match xs, m with
  | [.v (.agg ⟨[.int .i64 a, .int .i64 b, .int .i64 c, .int .i64 d]⟩), .row 0], ⟨[], [], [.live ⟨24, [.num .i64, .num .i64], L, own, mark⟩]⟩ => some (Nat.ble L.length 1000000, I (relDoc a b c d L))
  | _, _ => none
theorem gRDoc_ok : ∀ xs m r, gRDoc xs m = some (true, r) → CallOk Try.prog 53 xs m (.v r) m := by
  intro xs m r h
  unfold gRDoc at h
  split at h
  · rename_i a b c d L own mark
    obtain ⟨h1, rfl⟩ := some_t h
    refine runOk (Λ := ΛRf) OkRs Try.func53 rfl (fun z z1 z2 => oneLoop loopsRf (loopOkRf z z1 z2)) ?_
    refine (runRDoc a b c d L own mark).trans ?_
    rw [h1]
    unfold relDoc
    cases boR a b c d <;> cases areaR L <;> cases anyN (rlDoc a b c d L) L.length 0 <;> rfl
  · cases h
noncomputable def ΓRg1 : Orc := addRd 53 gRDoc ΓRs
theorem OkRg1 : ΓRg1.Ok Try.prog := addRd_ok OkRs gRDoc_ok
noncomputable def bdRh : Code := loopAt (Try.f52.body.getD .skip) 0
def kRh : List Bool := maskOf 33 [1,2,15,16,17]
def xRh (e : Ex) : List Bool := match e with
  | .exit _ => maskOf 33 [1,2]
  | .ret => maskOf 33 [4]
  | .normal => maskOf 33 [1,2,15,16,17]
def KRh (e : Ex) (st : St) : Option (Ex × St) := some (e, cutC 0 1 (xRh e) st)
set_option maxRecDepth 20000 in
theorem stepRh (a : Int) (b : Int) (c : Int) (d : Int) (k : Int) (nn : Int) (L : List (List Dat)) (own : Bool) (mark : Bool) (n : Nat) : evLoop ΓRg1 Try.prog L0 (cutC 0 1 kRh) bdRh (n + 1) (mk kRh [.row 0, .ptr 0 0, .row 0, .v (I nn), .v (I k)] ⟨[[.v (I a), .v (I b), .v (I c), .v (I d)]], [true], [rP L own mark]⟩) KRh =
    (bif decide (k < nn) then (bif decide ((0 : Int) ≤ k) && decide (k < (L.length : Int)) then (bif atG L k then (bif mtB a b c d (pX L k) (pY L k) (pX L (nx L k)) (pY L (nx L k)) then some (.ret, mk (xRh .ret) [.v (I 0)] ⟨[], [], [.live ⟨24, [.num .i64, .num .i64], L, own, mark⟩]⟩) else evLoop ΓRg1 Try.prog L0 (cutC 0 1 kRh) bdRh n (mk kRh [.row 0, .ptr 0 0, .row 0, .v (I nn), .v (I (wI (k + (1 : Int))))] ⟨[[.v (I a), .v (I b), .v (I c), .v (I d)]], [true], [.live ⟨24, [.num .i64, .num .i64], L, own, mark⟩]⟩) KRh) else none) else none) else some ((.exit 0), mk (xRh (.exit 0)) [.row 0, .ptr 0 0] ⟨[[.v (I a), .v (I b), .v (I c), .v (I d)]], [true], [.live ⟨24, [.num .i64, .num .i64], L, own, mark⟩]⟩)) := by kernel_rfl
noncomputable def ERh (n : Nat) (a : Int) (b : Int) (c : Int) (d : Int) (k : Int) (nn : Int) (L : List (List Dat)) (own : Bool) (mark : Bool) : Option (Ex × St) :=
  evLoop ΓRg1 Try.prog L0 (cutC 0 1 kRh) bdRh n (mk kRh [.row 0, .ptr 0 0, .row 0, .v (I nn), .v (I k)] ⟨[[.v (I a), .v (I b), .v (I c), .v (I d)]], [true], [rP L own mark]⟩) KRh
def rlBx (a b c d : Int) (L : List (List Dat)) (k : Int) : Bool := mtB a b c d (pX L k) (pY L k) (pX L (nx L k)) (pY L (nx L k))
def lfRh (a b c d : Int) (L : List (List Dat)) (own mark : Bool) : LT := .br (anyN (rlBx a b c d L) L.length 0) (.leaf .ret (mk (xRh .ret) [.v (I 0)] ⟨[], [], [rP L own mark]⟩)) (.leaf (.exit 0) (mk (xRh (.exit 0)) [.row 0, .ptr 0 0] ⟨[[.v (I a), .v (I b), .v (I c), .v (I d)]], [true], [rP L own mark]⟩))
theorem loopRh (a b c d : Int) (L : List (List Dat)) (own mark : Bool) (hl : L.length ≤ 1000000) : ERh (L.length + 1) a b c d 0 (L.length : Int) L own mark = some (lfRh a b c d L own mark).pick := by
  have h := findLoop (rlBx a b c d L) (L.length : Int) (fun n k => ERh n a b c d k (L.length : Int) L own mark) (some (.exit 0, mk (xRh (.exit 0)) [.row 0, .ptr 0 0] ⟨[[.v (I a), .v (I b), .v (I c), .v (I d)]], [true], [rP L own mark]⟩)) (some (.ret, mk (xRh .ret) [.v (I 0)] ⟨[], [], [rP L own mark]⟩)) (fun n k hk => ?_) (fun n k hk => ?_) L.length 0 (by omega) (by omega)
  · refine h.trans ?_
    unfold lfRh
    cases anyN (rlBx a b c d L) L.length 0 <;> rfl
  · refine (stepRh a b c d k (L.length : Int) L own mark n).trans ?_
    rw [decide_eq_false hk]
    rfl
  · refine (stepRh a b c d k (L.length : Int) L own mark n).trans ?_
    have e : atG L k = true := atG_iff.2 (by omega)
    have n1 := nx_in e
    rw [decide_eq_true hk.2, decide_eq_true hk.1, e, wI_id (n := k + 1) (by omega)]
    show (bif rlBx a b c d L k then _ else _) = _
    cases rlBx a b c d L k <;> rfl
def GRh (vals : List SV) (m : Mem) : Option (Bool × LT) :=
  match vals, m with
  | [.row 0, .ptr 0 0, .row 0, .v (.int .i64 nn), .v (.int .i64 k)], ⟨[[.v (.int .i64 a), .v (.int .i64 b), .v (.int .i64 c), .v (.int .i64 d)]], [true], [.live ⟨24, [.num .i64, .num .i64], L, own, mark⟩]⟩ => some (nn == (L.length : Int) && (k == 0 && Nat.ble L.length 1000000), lfRh a b c d L own mark)
  | _, _ => none
noncomputable def ΛRh : LoopOrc := fun _ st => viaT 0 1 kRh GRh st
theorem loopOkRh (z : Base) (z1 : z.L.length = 0) (z2 : z.U.length = 1) : LoopOk ΛRh Try.prog z bdRh := by
  refine loop_okT (Λ := L0) (kx := xRh) OkRg1 mixed z1 z2 (fun b hb st t h => by cases h) (G := GRh) (fun _ => rfl) ?_
  intro vals m t h
  unfold GRh at h
  split at h
  · rename_i nn k a b c d L own mark
    obtain ⟨h1, rfl⟩ := some_t h
    simp only [Bool.and_eq_true, beq_iff_eq] at h1
    obtain ⟨rfl, rfl, hl⟩ := h1
    exact ⟨_, loopRh a b c d L own mark (Nat.le_of_ble_eq_true hl)⟩
  · cases h
theorem loopsRh : loopsOf (Try.f52.body.getD .skip) = [bdRh] := by kernel_rfl
def relBx (a b c d : Int) (L : List (List Dat)) : Int := bif !boR a b c d then -1 else bif !areaB L then -1 else bif anyN (rlBx a b c d L) L.length 0 then 0 else sideI L a b
set_option maxRecDepth 20000 in
theorem runRBx (a : Int) (b : Int) (c : Int) (d : Int) (L : List (List Dat)) (own : Bool) (mark : Bool) : runG ΓRg1 ΛRh Try.prog Try.f52 [.v (.agg #[I a, I b, I c, I d]), .row 0] ⟨[], [], [rP L own mark]⟩ = 
    (bif !boR a b c d then some (.v (I (-1)), ⟨[], [], [.live ⟨24, [.num .i64, .num .i64], L, own, mark⟩]⟩) else (bif L.length.ble (1000000) then (bif !areaB L then some (.v (I (-1)), ⟨[], [], [.live ⟨24, [.num .i64, .num .i64], L, own, mark⟩]⟩) else (bif (L.length : Int) == (L.length : Int) && (true && L.length.ble (1000000)) then (bif anyN (rlBx a b c d L) L.length (0 : Int) then some (.v (I 0), ⟨[], [], [.live ⟨24, [.num .i64, .num .i64], L, own, mark⟩]⟩) else (bif L.length.ble (1000000) then some (.v (I (sideI L a b)), ⟨[], [], [.live ⟨24, [.num .i64, .num .i64], L, own, mark⟩]⟩) else none)) else none)) else none)) := by kernel_rfl
def gRBx (xs : List SV) (m : Mem) : Option (Bool × Value) :=
  match xs, m with
  | [.v (.agg ⟨[.int .i64 a, .int .i64 b, .int .i64 c, .int .i64 d]⟩), .row 0], ⟨[], [], [.live ⟨24, [.num .i64, .num .i64], L, own, mark⟩]⟩ => some (Nat.ble L.length 1000000, I (relBx a b c d L))
  | _, _ => none
theorem gRBx_ok : ∀ xs m r, gRBx xs m = some (true, r) → CallOk Try.prog 52 xs m (.v r) m := by
  intro xs m r h
  unfold gRBx at h
  split at h
  · rename_i a b c d L own mark
    obtain ⟨h1, rfl⟩ := some_t h
    refine runOk (Λ := ΛRh) OkRg1 Try.func52 rfl (fun z z1 z2 => oneLoop loopsRh (loopOkRh z z1 z2)) ?_
    refine (runRBx a b c d L own mark).trans ?_
    rw [h1, beq_self_eq_true]
    unfold relBx
    cases boR a b c d <;> cases areaB L <;> cases anyN (rlBx a b c d L) L.length 0 <;> rfl
  · cases h
noncomputable def ΓRg2 : Orc := addRd 52 gRBx ΓRg1
theorem OkRg2 : ΓRg2.Ok Try.prog := addRd_ok OkRg1 gRBx_ok
noncomputable def bdRi : Code := loopAt (Try.f26.body.getD .skip) 0
def kRi : List Bool := maskOf 26 [0,1,5]
def xRi (e : Ex) : List Bool := match e with
  | .exit _ => maskOf 26 []
  | .ret => maskOf 26 [4]
  | .normal => maskOf 26 [0,1,5]
def KRi (e : Ex) (st : St) : Option (Ex × St) := some (e, cutC 0 2 (xRi e) st)
set_option maxRecDepth 20000 in
theorem stepRi (k : Int) (L : List (List Dat)) (own : Bool) (mark : Bool) (L2 : List (List Dat)) (own2 : Bool) (mark2 : Bool) (n : Nat) : evLoop ΓRg2 Try.prog L0 (cutC 0 2 kRi) bdRi (n + 1) (mk kRi [.row 0, .row 1, .v (I k)] ⟨[], [], [rP L own mark, rP L2 own2 mark2]⟩) KRi =
    (bif decide (k < (L.length : Int)) then (bif decide ((0 : Int) ≤ k) && decide (k < (L.length : Int)) then (bif decide ((0 : Int) ≤ k) && decide (k < (L2.length : Int)) then (bif !((pX L k) == (pX L2 k) && ((pY L k) == (pY L2 k) && true)) then some (.ret, mk (xRi .ret) [.v (Bo false)] ⟨[], [], [.live ⟨24, [.num .i64, .num .i64], L, own, mark⟩, .live ⟨24, [.num .i64, .num .i64], L2, own2, mark2⟩]⟩) else evLoop ΓRg2 Try.prog L0 (cutC 0 2 kRi) bdRi n (mk kRi [.row 0, .row 1, .v (I (wI (k + (1 : Int))))] ⟨[], [], [.live ⟨24, [.num .i64, .num .i64], L, own, mark⟩, .live ⟨24, [.num .i64, .num .i64], L2, own2, mark2⟩]⟩) KRi) else none) else none) else some ((.exit 0), mk (xRi (.exit 0)) [] ⟨[], [], [.live ⟨24, [.num .i64, .num .i64], L, own, mark⟩, .live ⟨24, [.num .i64, .num .i64], L2, own2, mark2⟩]⟩)) := by kernel_rfl
noncomputable def ERi (n : Nat) (k : Int) (L : List (List Dat)) (own : Bool) (mark : Bool) (L2 : List (List Dat)) (own2 : Bool) (mark2 : Bool) : Option (Ex × St) :=
  evLoop ΓRg2 Try.prog L0 (cutC 0 2 kRi) bdRi n (mk kRi [.row 0, .row 1, .v (I k)] ⟨[], [], [rP L own mark, rP L2 own2 mark2]⟩) KRi
def neP (L L2 : List (List Dat)) (k : Int) : Bool := !(pX L k == pX L2 k && (pY L k == pY L2 k && true))
def lfRi (L : List (List Dat)) (own mark : Bool) (L2 : List (List Dat)) (own2 mark2 : Bool) : LT := .br (anyN (neP L L2) L.length 0) (.leaf .ret (mk (xRi .ret) [.v (Bo false)] ⟨[], [], [rP L own mark, rP L2 own2 mark2]⟩)) (.leaf (.exit 0) (mk (xRi (.exit 0)) [] ⟨[], [], [rP L own mark, rP L2 own2 mark2]⟩))
theorem loopRi (L : List (List Dat)) (own mark : Bool) (L2 : List (List Dat)) (own2 mark2 : Bool) (hl : L.length ≤ 1000000) (he : (L.length : Int) = (L2.length : Int)) : ERi (L.length + 1) 0 L own mark L2 own2 mark2 = some (lfRi L own mark L2 own2 mark2).pick := by
  have h := findLoop (neP L L2) (L.length : Int) (fun n k => ERi n k L own mark L2 own2 mark2) (some (.exit 0, mk (xRi (.exit 0)) [] ⟨[], [], [rP L own mark, rP L2 own2 mark2]⟩)) (some (.ret, mk (xRi .ret) [.v (Bo false)] ⟨[], [], [rP L own mark, rP L2 own2 mark2]⟩)) (fun n k hk => ?_) (fun n k hk => ?_) L.length 0 (by omega) (by omega)
  · refine h.trans ?_
    unfold lfRi
    cases anyN (neP L L2) L.length 0 <;> rfl
  · refine (stepRi k L own mark L2 own2 mark2 n).trans ?_
    rw [decide_eq_false hk]
    rfl
  · refine (stepRi k L own mark L2 own2 mark2 n).trans ?_
    rw [decide_eq_true hk.2, decide_eq_true hk.1, decide_eq_true (show k < (L2.length : Int) by omega), wI_id (n := k + 1) (by omega)]
    unfold neP
    cases pX L k == pX L2 k && (pY L k == pY L2 k && true) <;> rfl
def GRi (vals : List SV) (m : Mem) : Option (Bool × LT) :=
  match vals, m with
  | [.row 0, .row 1, .v (.int .i64 k)], ⟨[], [], [.live ⟨24, [.num .i64, .num .i64], L, own, mark⟩, .live ⟨24, [.num .i64, .num .i64], L2, own2, mark2⟩]⟩ => some (k == 0 && (Nat.ble L.length 1000000 && (L.length : Int) == (L2.length : Int)), lfRi L own mark L2 own2 mark2)
  | _, _ => none
noncomputable def ΛRi : LoopOrc := fun _ st => viaT 0 2 kRi GRi st
theorem loopOkRi (z : Base) (z1 : z.L.length = 0) (z2 : z.U.length = 2) : LoopOk ΛRi Try.prog z bdRi := by
  refine loop_okT (Λ := L0) (kx := xRi) OkRg2 mixed z1 z2 (fun b hb st t h => by cases h) (G := GRi) (fun _ => rfl) ?_
  intro vals m t h
  unfold GRi at h
  split at h
  · rename_i k L own mark L2 own2 mark2
    obtain ⟨h1, rfl⟩ := some_t h
    simp only [Bool.and_eq_true, beq_iff_eq] at h1
    obtain ⟨rfl, hl, he⟩ := h1
    exact ⟨_, loopRi L own mark L2 own2 mark2 (Nat.le_of_ble_eq_true hl) he⟩
  · cases h
theorem loopsRi : loopsOf (Try.f26.body.getD .skip) = [bdRi] := by kernel_rfl
def sameB (L L2 : List (List Dat)) : Bool := (L.length : Int) == (L2.length : Int) && !anyN (neP L L2) L.length 0
set_option maxRecDepth 20000 in
theorem runRsm (L : List (List Dat)) (own : Bool) (mark : Bool) (L2 : List (List Dat)) (own2 : Bool) (mark2 : Bool) : runG ΓRg2 ΛRi Try.prog Try.f26 [.row 0, .row 1] ⟨[], [], [rP L own mark, rP L2 own2 mark2]⟩ = 
    (bif (L.length : Int) != (L2.length : Int) then some (.v (Bo false), ⟨[], [], [.live ⟨24, [.num .i64, .num .i64], L, own, mark⟩, .live ⟨24, [.num .i64, .num .i64], L2, own2, mark2⟩]⟩) else (bif true && (L.length.ble (1000000) && (L.length : Int) == (L2.length : Int)) then (bif anyN (neP L L2) L.length (0 : Int) then some (.v (Bo false), ⟨[], [], [.live ⟨24, [.num .i64, .num .i64], L, own, mark⟩, .live ⟨24, [.num .i64, .num .i64], L2, own2, mark2⟩]⟩) else some (.v (Bo true), ⟨[], [], [.live ⟨24, [.num .i64, .num .i64], L, own, mark⟩, .live ⟨24, [.num .i64, .num .i64], L2, own2, mark2⟩]⟩)) else none)) := by kernel_rfl
def gRsm (xs : List SV) (m : Mem) : Option (Bool × Value) :=
  match xs, m with
  | [.row 0, .row 1], ⟨[], [], [.live ⟨24, [.num .i64, .num .i64], L, own, mark⟩, .live ⟨24, [.num .i64, .num .i64], L2, own2, mark2⟩]⟩ => some (Nat.ble L.length 1000000, Bo (sameB L L2))
  | _, _ => none
theorem gRsm_ok : ∀ xs m r, gRsm xs m = some (true, r) → CallOk Try.prog 26 xs m (.v r) m := by
  intro xs m r h
  unfold gRsm at h
  split at h
  · rename_i L own mark L2 own2 mark2
    obtain ⟨h1, rfl⟩ := some_t h
    refine runOk (Λ := ΛRi) OkRg2 Try.func26 rfl (fun z z1 z2 => oneLoop loopsRi (loopOkRi z z1 z2)) ?_
    refine (runRsm L own mark L2 own2 mark2).trans ?_
    rw [h1]
    unfold sameB
    simp only [bne]
    cases (L.length : Int) == (L2.length : Int) <;> cases anyN (neP L L2) L.length 0 <;> rfl
  · cases h
noncomputable def ΓRg3 : Orc := addRd 26 gRsm ΓRg2
theorem OkRg3 : ΓRg3.Ok Try.prog := addRd_ok OkRg2 gRsm_ok
end Go.Proofs.Ytcjkkfhdnealpaa

