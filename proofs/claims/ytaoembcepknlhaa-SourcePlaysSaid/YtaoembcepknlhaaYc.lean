/-
  Whatever comes, cycle by cycle, a source is the document's: a law over values.
-/
import Derived.Test.YtaoembcepknlhaaYb
import Derived.Test.YtaoembcepknlhaaYa
import Derived.Test.YtaoembcepknlhaaSw
import Derived.Test.YtaoembcepknlhaaSx
import Derived.DataShut
namespace Go.Proofs.Ytaoembcepknlhaa
open Go Go.Proofs Go.Sx
set_option linter.unusedVariables false
/-! norm -/
/-! cast -/
/-! rep [CK.sl 32 [CK0.num IntKind.i64, CK0.num IntKind.i64, CK0.num IntKind.i64, CK0.num IntKind.i64, CK0.num IntKind.i64, CK0.num IntKind.i64, CK0.num IntKind.i64, CK0.num IntKind.i64]] => kAv -/
/-! rep [.num .i64, .num .i64, .num .i64, .num .i64, .num .i64, .num .i64, .num .i64, .num .i64] => kNv -/
/-! rep (dropT (0 : Nat) (LL.getD k.toNat [])) => (LL.getD k.toNat []) -/
/-! rep (((LL.getD k.toNat []).headD (Dat.n (0 : Int))).toL) => (elL LL k) -/
/-! rep ((LL.getD k.toNat []).headD (Dat.n (0 : Int))).toL => (elL LL k) -/
/-! rep (((elL LL k).getD (wI (((elL LL k).length : Int) - (1 : Int))).toNat []).headD (Dat.n (0 : Int))).toI => (nv0 (elL LL k)) -/
/-! rep (((elL LL k).getD (wI (((elL LL k).length : Int) - (1 : Int))).toNat []).tail.headD (Dat.n (0 : Int))).toI => (nv1 (elL LL k)) -/
/-! rep (((elL LL k).getD (wI (((elL LL k).length : Int) - (1 : Int))).toNat []).tail.tail.headD (Dat.n (0 : Int))).toI => (nv2 (elL LL k)) -/
/-! rep (((elL LL k).getD (wI (((elL LL k).length : Int) - (1 : Int))).toNat []).tail.tail.tail.headD (Dat.n (0 : Int))).toI => (nv3 (elL LL k)) -/
/-! rep (((elL LL k).getD (wI (((elL LL k).length : Int) - (1 : Int))).toNat []).tail.tail.tail.tail.headD (Dat.n (0 : Int))).toI => (nv4 (elL LL k)) -/
/-! rep (((elL LL k).getD (wI (((elL LL k).length : Int) - (1 : Int))).toNat []).tail.tail.tail.tail.tail.headD (Dat.n (0 : Int))).toI => (nv5 (elL LL k)) -/
/-! rep (((elL LL k).getD (wI (((elL LL k).length : Int) - (1 : Int))).toNat []).tail.tail.tail.tail.tail.tail.headD (Dat.n (0 : Int))).toI => (nv6 (elL LL k)) -/
/-! rep (((elL LL k).getD (wI (((elL LL k).length : Int) - (1 : Int))).toNat []).tail.tail.tail.tail.tail.tail.tail.headD (Dat.n (0 : Int))).toI => (nv7 (elL LL k)) -/
/-! rep ([] ++ (elL LL k)) => (elL LL k) -/
/-! rep ((A.getD (wI ((A.length : Int) - (1 : Int))).toNat []).headD (Dat.n (0 : Int))).toI => (nv0 A) -/
/-! rep ((A.getD (wI ((A.length : Int) - (1 : Int))).toNat []).tail.headD (Dat.n (0 : Int))).toI => (nv1 A) -/
/-! rep ((A.getD (wI ((A.length : Int) - (1 : Int))).toNat []).tail.tail.headD (Dat.n (0 : Int))).toI => (nv2 A) -/
/-! rep ((A.getD (wI ((A.length : Int) - (1 : Int))).toNat []).tail.tail.tail.headD (Dat.n (0 : Int))).toI => (nv3 A) -/
/-! rep ((A.getD (wI ((A.length : Int) - (1 : Int))).toNat []).tail.tail.tail.tail.headD (Dat.n (0 : Int))).toI => (nv4 A) -/
/-! rep ((A.getD (wI ((A.length : Int) - (1 : Int))).toNat []).tail.tail.tail.tail.tail.headD (Dat.n (0 : Int))).toI => (nv5 A) -/
/-! rep ((A.getD (wI ((A.length : Int) - (1 : Int))).toNat []).tail.tail.tail.tail.tail.tail.headD (Dat.n (0 : Int))).toI => (nv6 A) -/
/-! rep ((A.getD (wI ((A.length : Int) - (1 : Int))).toNat []).tail.tail.tail.tail.tail.tail.tail.headD (Dat.n (0 : Int))).toI => (nv7 A) -/
/-- The elements of a list of lists. -/
def elL (LL : List (List Dat)) (k : Int) : List (List Dat) := ((LL.getD k.toNat []).headD (.n 0)).toL
abbrev kAv : List CK := [.sl 32 [.num .i64, .num .i64, .num .i64, .num .i64, .num .i64, .num .i64, .num .i64, .num .i64]]
abbrev rA (LL : List (List Dat)) (own mark : Bool) : RowS := .live ⟨35, kAv, LL, own, mark⟩
noncomputable def Γl0 : Orc := addVal 7 gAwake15 ΓSo
theorem Okl0 : Γl0.Ok Try.prog := addVal_ok OkSo gAwake15_ok

noncomputable def bdFl : Code := loopAt (Try.f8.body.getD .skip) 0
def kFl : List Bool := maskOf 18 [0,5,6,7]
def xFl (e : Ex) : List Bool := match e with
  | .exit _ => maskOf 18 [0]
  | .ret => maskOf 18 [2]
  | .normal => maskOf 18 [0,5,6,7]
def KFl (e : Ex) (st : St) : Option (Ex × St) := some (e, cutC 0 1 (xFl e) st)
set_option maxRecDepth 20000 in
theorem stepFl (nn : Int) (k : Int) (LL : List (List Dat)) (own : Bool) (mark : Bool) (n : Nat) : evLoop Γl0 Try.prog L0 (cutC 0 1 kFl) bdFl (n + 1) (mk kFl [.row 0, .row 0, .v (I nn), .v (I k)] ⟨[], [], [rA LL own mark]⟩) KFl =
    (bif decide (k < nn) then (bif decide ((0 : Int) ≤ k) && decide (k < (LL.length : Int)) then (bif decide (((elL LL k).length : Int) > (5 : Int)) then some (.ret, mk (xFl .ret) [.v (Bo false)] ⟨[], [], [.live ⟨35, kAv, LL, own, mark⟩]⟩) else evLoop Γl0 Try.prog L0 (cutC 0 1 kFl) bdFl n (mk kFl [.row 0, .row 0, .v (I nn), .v (I (wI (k + (1 : Int))))] ⟨[], [], [.live ⟨35, kAv, LL, own, mark⟩]⟩) KFl) else none) else some ((.exit 0), mk (xFl (.exit 0)) [.row 0] ⟨[], [], [.live ⟨35, kAv, LL, own, mark⟩]⟩)) := by kernel_rfl
noncomputable def EFl (n : Nat) (nn : Int) (k : Int) (LL : List (List Dat)) (own : Bool) (mark : Bool) : Option (Ex × St) :=
  evLoop Γl0 Try.prog L0 (cutC 0 1 kFl) bdFl n (mk kFl [.row 0, .row 0, .v (I nn), .v (I k)] ⟨[], [], [rA LL own mark]⟩) KFl
def bigL (LL : List (List Dat)) (k : Int) : Bool := decide (((elL LL k).length : Int) > 5)
def lfFl (LL : List (List Dat)) (own mark : Bool) : LT := .br (anyN (bigL LL) LL.length 0) (.leaf .ret (mk (xFl .ret) [.v (Bo false)] ⟨[], [], [rA LL own mark]⟩)) (.leaf (.exit 0) (mk (xFl (.exit 0)) [.row 0] ⟨[], [], [rA LL own mark]⟩))
theorem loopFl (LL : List (List Dat)) (own mark : Bool) (hl : LL.length ≤ 9223372036854775807) : EFl (LL.length + 1) (LL.length : Int) 0 LL own mark = some (lfFl LL own mark).pick := by
  have h := findLoop (bigL LL) (LL.length : Int) (fun n k => EFl n (LL.length : Int) k LL own mark) (some (.exit 0, mk (xFl (.exit 0)) [.row 0] ⟨[], [], [rA LL own mark]⟩)) (some (.ret, mk (xFl .ret) [.v (Bo false)] ⟨[], [], [rA LL own mark]⟩)) (fun n k hk => ?_) (fun n k hk => ?_) LL.length 0 (by omega) (by omega)
  · refine h.trans ?_
    unfold lfFl
    cases anyN (bigL LL) LL.length 0 <;> rfl
  · refine (stepFl (LL.length : Int) k LL own mark n).trans ?_
    rw [decide_eq_false hk]
    rfl
  · refine (stepFl (LL.length : Int) k LL own mark n).trans ?_
    rw [decide_eq_true hk.2, decide_eq_true hk.1, wI_id (n := k + 1) (by omega)]
    unfold bigL
    cases decide (((elL LL k).length : Int) > 5) <;> rfl
def GFl (vals : List SV) (m : Mem) : Option (Bool × LT) :=
  match vals, m with
  | [.row 0, .row 0, .v (.int .i64 nn), .v (.int .i64 k)], ⟨[], [], [.live ⟨35, [.sl 32 [.num .i64, .num .i64, .num .i64, .num .i64, .num .i64, .num .i64, .num .i64, .num .i64]], LL, own, mark⟩]⟩ => some (k == 0 && (nn == (LL.length : Int) && Nat.ble LL.length 9223372036854775807), lfFl LL own mark)
  | _, _ => none
noncomputable def ΛFl : LoopOrc := fun _ st => viaT 0 1 kFl GFl st
theorem loopOkFl (z : Base) (z1 : z.L.length = 0) (z2 : z.U.length = 1) : LoopOk ΛFl Try.prog z bdFl := by
  refine loop_okT (Λ := L0) (kx := xFl) Okl0 mixed z1 z2 (fun b hb st t h => by cases h) (G := GFl) (fun _ => rfl) ?_
  intro vals m t h
  unfold GFl at h
  split at h
  · rename_i nn k LL own mark
    obtain ⟨h1, rfl⟩ := some_t h
    simp only [Bool.and_eq_true, beq_iff_eq] at h1
    obtain ⟨rfl, rfl, hl⟩ := h1
    exact ⟨_, loopFl LL own mark (Nat.le_of_ble_eq_true hl)⟩
  · cases h
theorem loopsFl : loopsOf (Try.f8.body.getD .skip) = [bdFl] := by kernel_rfl
def fwB (LL : List (List Dat)) : Bool := !anyN (bigL LL) LL.length 0 && decide ((LL.length : Int) ≤ 100)
set_option maxRecDepth 20000 in
theorem runRfl (LL : List (List Dat)) (own : Bool) (mark : Bool) : runG Γl0 ΛFl Try.prog Try.f8 [.row 0] ⟨[], [], [rA LL own mark]⟩ = 
    (bif true && ((LL.length : Int) == (LL.length : Int) && LL.length.ble (9223372036854775807)) then (bif anyN (bigL LL) LL.length (0 : Int) then some (.v (Bo false), ⟨[], [], [.live ⟨35, kAv, LL, own, mark⟩]⟩) else some (.v (Bo (decide ((LL.length : Int) ≤ (100 : Int)))), ⟨[], [], [.live ⟨35, kAv, LL, own, mark⟩]⟩)) else none) := by kernel_rfl
def gRfl (xs : List SV) (m : Mem) : Option (Bool × Value) :=
  match xs, m with
  | [.row 0], ⟨[], [], [.live ⟨35, [.sl 32 [.num .i64, .num .i64, .num .i64, .num .i64, .num .i64, .num .i64, .num .i64, .num .i64]], LL, own, mark⟩]⟩ => some (Nat.ble LL.length 9223372036854775807, Bo (fwB LL))
  | _, _ => none
theorem gRfl_ok : ∀ xs m r, gRfl xs m = some (true, r) → CallOk Try.prog 8 xs m (.v r) m := by
  intro xs m r h
  unfold gRfl at h
  split at h
  · rename_i LL own mark
    obtain ⟨h1, rfl⟩ := some_t h
    refine runOk (Λ := ΛFl) Okl0 Try.func8 rfl (fun z z1 z2 => oneLoop loopsFl (loopOkFl z z1 z2)) ?_
    refine (runRfl LL own mark).trans ?_
    rw [h1, beq_self_eq_true]
    unfold fwB
    cases anyN (bigL LL) LL.length 0 <;> rfl
  · cases h
noncomputable def Γl1 : Orc := addRd 8 gRfl Γl0
theorem Okl1 : Γl1.Ok Try.prog := addRd_ok Okl0 gRfl_ok
noncomputable def ΓSA : Orc := addCl 9 gSnw Γl1
theorem OkSA : ΓSA.Ok Try.prog := addCl_ok Okl1 gSnw_ok
noncomputable def ΓSB : Orc := addCl 9 gSnx Γl1
theorem OkSB : ΓSB.Ok Try.prog := addCl_ok Okl1 gSnx_ok
noncomputable def bdSp : Code := loopAt (Try.f3.body.getD .skip) 0
def kSp : List Bool := maskOf 105 [5,6,46,47,48]
def xSp (e : Ex) : List Bool := match e with
  | .exit _ => maskOf 105 []
  | .ret => maskOf 105 [4]
  | .normal => maskOf 105 [5,6,46,47,48]
def KSp (e : Ex) (st : St) : Option (Ex × St) := some (e, cutC 0 2 (xSp e) st)
set_option maxRecDepth 20000 in
theorem stepSp (r5 : Int) (r6 : Int) (l1 : Int) (l2 : Int) (l3 : Int) (l4 : Int) (l5 : Int) (l6 : Int) (l7 : Int) (l8 : Int) (hs : Bool) (t : Int) (nn : Int) (k : Int) (e1 : TypeId) (k1 : List CK) (L1 : List (List Dat)) (o1 : Bool) (m1 : Bool) (LL : List (List Dat)) (n : Nat) : evLoop ΓSA Try.prog L0 (cutC 0 2 kSp) bdSp (n + 1) (mk kSp [.ptr 0 0, .ptr 1 0, .row 1, .v (I nn), .v (I k)] ⟨[[.v (I r5), .v (I r6), .ptr 2 0, .v (I l1), .v (I l2), .v (I l3), .v (I l4), .v (I l5), .v (I l6), .v (I l7), .v (I l8), .v (Bo hs)], [.v (I r5), .v (I r6), .v (I l1), .v (I l2), .v (I l3), .v (I l4), .v (I l5), .v (I l6), .v (I l7), .v (I l8), .v (Bo hs), .v (I t)], [.v (I 1000000), .v (I t)]], [true, true, true], [.live ⟨e1, k1, L1, o1, m1⟩, rA LL false false]⟩) KSp =
    (bif decide (k < nn) then (bif decide ((0 : Int) ≤ k) && decide (k < (LL.length : Int)) then (bif decide (((0 : Nat) + (elL LL k).length) * (64 : Nat) ≤ (140737488355328 : Nat) ∧ (0 : Nat) + (elL LL k).length ≤ (9223372036854775807 : Nat)) then (bif (elL LL k).length.ble (1000000) && (i64B (nv5 (elL LL k)) && (i64B (nv6 (elL LL k)) && (i64B (nv7 (elL LL k)) && (i64B l6 && (i64B l7 && (i64B l8 && (decide ((0 : Int) ≤ r5 ∧ r5 < (9223372036854775808 : Int)) && decide ((0 : Int) ≤ t ∧ t ≤ (1000000 : Int))))))))) then (bif (elL LL k).length.ble (1000000) then (bif !(pk (faI (elL LL k) hs l1 l6 l7 l8 (r5 * (t + (1 : Int))) == (0 : Int)) (nv0 (elL LL k)) (0 : Int) == pk (faR (elL LL k) hs l1 l6 l7 l8 (wI (r5 * wI (t + (1 : Int)))) == (0 : Int)) (nv0 (elL LL k)) (0 : Int) && (pk (faI (elL LL k) hs l1 l6 l7 l8 (r5 * (t + (1 : Int))) == (0 : Int)) (nv1 (elL LL k)) (0 : Int) == pk (faR (elL LL k) hs l1 l6 l7 l8 (wI (r5 * wI (t + (1 : Int)))) == (0 : Int)) (nv1 (elL LL k)) (0 : Int) && (pk (faI (elL LL k) hs l1 l6 l7 l8 (r5 * (t + (1 : Int))) == (0 : Int)) (nv2 (elL LL k)) (0 : Int) == pk (faR (elL LL k) hs l1 l6 l7 l8 (wI (r5 * wI (t + (1 : Int)))) == (0 : Int)) (nv2 (elL LL k)) (0 : Int) && (pk (faI (elL LL k) hs l1 l6 l7 l8 (r5 * (t + (1 : Int))) == (0 : Int)) (nv3 (elL LL k)) (0 : Int) == pk (faR (elL LL k) hs l1 l6 l7 l8 (wI (r5 * wI (t + (1 : Int)))) == (0 : Int)) (nv3 (elL LL k)) (0 : Int) && (pk (faI (elL LL k) hs l1 l6 l7 l8 (r5 * (t + (1 : Int))) == (0 : Int)) (nv4 (elL LL k)) (0 : Int) == pk (faR (elL LL k) hs l1 l6 l7 l8 (wI (r5 * wI (t + (1 : Int)))) == (0 : Int)) (nv4 (elL LL k)) (0 : Int) && (pk (faI (elL LL k) hs l1 l6 l7 l8 (r5 * (t + (1 : Int))) == (0 : Int)) (nv5 (elL LL k)) (0 : Int) == pk (faR (elL LL k) hs l1 l6 l7 l8 (wI (r5 * wI (t + (1 : Int)))) == (0 : Int)) (nv5 (elL LL k)) (0 : Int) && (pk (faI (elL LL k) hs l1 l6 l7 l8 (r5 * (t + (1 : Int))) == (0 : Int)) (nv6 (elL LL k)) (0 : Int) == pk (faR (elL LL k) hs l1 l6 l7 l8 (wI (r5 * wI (t + (1 : Int)))) == (0 : Int)) (nv6 (elL LL k)) (0 : Int) && (pk (faI (elL LL k) hs l1 l6 l7 l8 (r5 * (t + (1 : Int))) == (0 : Int)) (nv7 (elL LL k)) (0 : Int) == pk (faR (elL LL k) hs l1 l6 l7 l8 (wI (r5 * wI (t + (1 : Int)))) == (0 : Int)) (nv7 (elL LL k)) (0 : Int) && true)))))))) then some (.ret, mk (xSp .ret) [.v (Bo false)] ⟨[], [], [.live ⟨e1, k1, L1, o1, m1⟩, .live ⟨35, kAv, LL, false, false⟩]⟩) else (bif faI (elL LL k) hs l1 l6 l7 l8 (r5 * (t + (1 : Int))) != faR (elL LL k) hs l1 l6 l7 l8 (wI (r5 * wI (t + (1 : Int)))) then some (.ret, mk (xSp .ret) [.v (Bo false)] ⟨[], [], [.live ⟨e1, k1, L1, o1, m1⟩, .live ⟨35, kAv, LL, false, false⟩]⟩) else (bif !(pk (faI (elL LL k) hs l1 l6 l7 l8 (r5 * (t + (1 : Int))) == (0 : Int)) (nv0 (elL LL k)) (gN (decide (addN' (1000000 : Int) t (1 : Int) > r6)) l1) == pk (faR (elL LL k) hs l1 l6 l7 l8 (wI (r5 * wI (t + (1 : Int)))) == (0 : Int)) (nv0 (elL LL k)) (gN (decide (odI t > r6)) l1) && (pk (faI (elL LL k) hs l1 l6 l7 l8 (r5 * (t + (1 : Int))) == (0 : Int)) (nv1 (elL LL k)) (gN (decide (addN' (1000000 : Int) t (1 : Int) > r6)) l2) == pk (faR (elL LL k) hs l1 l6 l7 l8 (wI (r5 * wI (t + (1 : Int)))) == (0 : Int)) (nv1 (elL LL k)) (gN (decide (odI t > r6)) l2) && (pk (faI (elL LL k) hs l1 l6 l7 l8 (r5 * (t + (1 : Int))) == (0 : Int)) (nv2 (elL LL k)) (gN (decide (addN' (1000000 : Int) t (1 : Int) > r6)) l3) == pk (faR (elL LL k) hs l1 l6 l7 l8 (wI (r5 * wI (t + (1 : Int)))) == (0 : Int)) (nv2 (elL LL k)) (gN (decide (odI t > r6)) l3) && (pk (faI (elL LL k) hs l1 l6 l7 l8 (r5 * (t + (1 : Int))) == (0 : Int)) (nv3 (elL LL k)) (gN (decide (addN' (1000000 : Int) t (1 : Int) > r6)) l4) == pk (faR (elL LL k) hs l1 l6 l7 l8 (wI (r5 * wI (t + (1 : Int)))) == (0 : Int)) (nv3 (elL LL k)) (gN (decide (odI t > r6)) l4) && (pk (faI (elL LL k) hs l1 l6 l7 l8 (r5 * (t + (1 : Int))) == (0 : Int)) (nv4 (elL LL k)) (gN (decide (addN' (1000000 : Int) t (1 : Int) > r6)) l5) == pk (faR (elL LL k) hs l1 l6 l7 l8 (wI (r5 * wI (t + (1 : Int)))) == (0 : Int)) (nv4 (elL LL k)) (gN (decide (odI t > r6)) l5) && (pk (faI (elL LL k) hs l1 l6 l7 l8 (r5 * (t + (1 : Int))) == (0 : Int)) (nv5 (elL LL k)) (gN (decide (addN' (1000000 : Int) t (1 : Int) > r6)) l6) == pk (faR (elL LL k) hs l1 l6 l7 l8 (wI (r5 * wI (t + (1 : Int)))) == (0 : Int)) (nv5 (elL LL k)) (gN (decide (odI t > r6)) l6) && (pk (faI (elL LL k) hs l1 l6 l7 l8 (r5 * (t + (1 : Int))) == (0 : Int)) (nv6 (elL LL k)) (gN (decide (addN' (1000000 : Int) t (1 : Int) > r6)) l7) == pk (faR (elL LL k) hs l1 l6 l7 l8 (wI (r5 * wI (t + (1 : Int)))) == (0 : Int)) (nv6 (elL LL k)) (gN (decide (odI t > r6)) l7) && (pk (faI (elL LL k) hs l1 l6 l7 l8 (r5 * (t + (1 : Int))) == (0 : Int)) (nv7 (elL LL k)) (gN (decide (addN' (1000000 : Int) t (1 : Int) > r6)) l8) == pk (faR (elL LL k) hs l1 l6 l7 l8 (wI (r5 * wI (t + (1 : Int)))) == (0 : Int)) (nv7 (elL LL k)) (gN (decide (odI t > r6)) l8) && true)))))))) then some (.ret, mk (xSp .ret) [.v (Bo false)] ⟨[], [], [.live ⟨e1, k1, L1, o1, m1⟩, .live ⟨35, kAv, LL, false, false⟩]⟩) else (bif !(bif faI (elL LL k) hs l1 l6 l7 l8 (r5 * (t + (1 : Int))) == (0 : Int) then true else gB' (decide (addN' (1000000 : Int) t (1 : Int) > r6)) hs) == bif faR (elL LL k) hs l1 l6 l7 l8 (wI (r5 * wI (t + (1 : Int)))) == (0 : Int) then true else gB' (decide (odI t > r6)) hs then some (.ret, mk (xSp .ret) [.v (Bo false)] ⟨[], [], [.live ⟨e1, k1, L1, o1, m1⟩, .live ⟨35, kAv, LL, false, false⟩]⟩) else (bif pk (faI (elL LL k) hs l1 l6 l7 l8 (r5 * (t + (1 : Int))) == (0 : Int)) (0 : Int) (addN' (1000000 : Int) t (1 : Int)) != pk (faR (elL LL k) hs l1 l6 l7 l8 (wI (r5 * wI (t + (1 : Int)))) == (0 : Int)) (0 : Int) (odI t) then some (.ret, mk (xSp .ret) [.v (Bo false)] ⟨[], [], [.live ⟨e1, k1, L1, o1, m1⟩, .live ⟨35, kAv, LL, false, false⟩]⟩) else evLoop ΓSA Try.prog L0 (cutC 0 2 kSp) bdSp n (mk kSp [.ptr 0 0, .ptr 1 0, .row 1, .v (I nn), .v (I (wI (k + (1 : Int))))] ⟨[[.v (I r5), .v (I r6), .ptr 2 0, .v (I (pk (faI (elL LL k) hs l1 l6 l7 l8 (r5 * (t + (1 : Int))) == (0 : Int)) (nv0 (elL LL k)) (gN (decide (addN' (1000000 : Int) t (1 : Int) > r6)) l1))), .v (I (pk (faI (elL LL k) hs l1 l6 l7 l8 (r5 * (t + (1 : Int))) == (0 : Int)) (nv1 (elL LL k)) (gN (decide (addN' (1000000 : Int) t (1 : Int) > r6)) l2))), .v (I (pk (faI (elL LL k) hs l1 l6 l7 l8 (r5 * (t + (1 : Int))) == (0 : Int)) (nv2 (elL LL k)) (gN (decide (addN' (1000000 : Int) t (1 : Int) > r6)) l3))), .v (I (pk (faI (elL LL k) hs l1 l6 l7 l8 (r5 * (t + (1 : Int))) == (0 : Int)) (nv3 (elL LL k)) (gN (decide (addN' (1000000 : Int) t (1 : Int) > r6)) l4))), .v (I (pk (faI (elL LL k) hs l1 l6 l7 l8 (r5 * (t + (1 : Int))) == (0 : Int)) (nv4 (elL LL k)) (gN (decide (addN' (1000000 : Int) t (1 : Int) > r6)) l5))), .v (I (pk (faI (elL LL k) hs l1 l6 l7 l8 (r5 * (t + (1 : Int))) == (0 : Int)) (nv5 (elL LL k)) (gN (decide (addN' (1000000 : Int) t (1 : Int) > r6)) l6))), .v (I (pk (faI (elL LL k) hs l1 l6 l7 l8 (r5 * (t + (1 : Int))) == (0 : Int)) (nv6 (elL LL k)) (gN (decide (addN' (1000000 : Int) t (1 : Int) > r6)) l7))), .v (I (pk (faI (elL LL k) hs l1 l6 l7 l8 (r5 * (t + (1 : Int))) == (0 : Int)) (nv7 (elL LL k)) (gN (decide (addN' (1000000 : Int) t (1 : Int) > r6)) l8))), .v (Bo (bif faI (elL LL k) hs l1 l6 l7 l8 (r5 * (t + (1 : Int))) == (0 : Int) then true else gB' (decide (addN' (1000000 : Int) t (1 : Int) > r6)) hs))], [.v (I r5), .v (I r6), .v (I (pk (faR (elL LL k) hs l1 l6 l7 l8 (wI (r5 * wI (t + (1 : Int)))) == (0 : Int)) (nv0 (elL LL k)) (gN (decide (odI t > r6)) l1))), .v (I (pk (faR (elL LL k) hs l1 l6 l7 l8 (wI (r5 * wI (t + (1 : Int)))) == (0 : Int)) (nv1 (elL LL k)) (gN (decide (odI t > r6)) l2))), .v (I (pk (faR (elL LL k) hs l1 l6 l7 l8 (wI (r5 * wI (t + (1 : Int)))) == (0 : Int)) (nv2 (elL LL k)) (gN (decide (odI t > r6)) l3))), .v (I (pk (faR (elL LL k) hs l1 l6 l7 l8 (wI (r5 * wI (t + (1 : Int)))) == (0 : Int)) (nv3 (elL LL k)) (gN (decide (odI t > r6)) l4))), .v (I (pk (faR (elL LL k) hs l1 l6 l7 l8 (wI (r5 * wI (t + (1 : Int)))) == (0 : Int)) (nv4 (elL LL k)) (gN (decide (odI t > r6)) l5))), .v (I (pk (faR (elL LL k) hs l1 l6 l7 l8 (wI (r5 * wI (t + (1 : Int)))) == (0 : Int)) (nv5 (elL LL k)) (gN (decide (odI t > r6)) l6))), .v (I (pk (faR (elL LL k) hs l1 l6 l7 l8 (wI (r5 * wI (t + (1 : Int)))) == (0 : Int)) (nv6 (elL LL k)) (gN (decide (odI t > r6)) l7))), .v (I (pk (faR (elL LL k) hs l1 l6 l7 l8 (wI (r5 * wI (t + (1 : Int)))) == (0 : Int)) (nv7 (elL LL k)) (gN (decide (odI t > r6)) l8))), .v (Bo (bif faR (elL LL k) hs l1 l6 l7 l8 (wI (r5 * wI (t + (1 : Int)))) == (0 : Int) then true else gB' (decide (odI t > r6)) hs)), .v (I (pk (faR (elL LL k) hs l1 l6 l7 l8 (wI (r5 * wI (t + (1 : Int)))) == (0 : Int)) (0 : Int) (odI t)))], [.v (I 1000000), .v (I (pk (faI (elL LL k) hs l1 l6 l7 l8 (r5 * (t + (1 : Int))) == (0 : Int)) (0 : Int) (addN' (1000000 : Int) t (1 : Int))))]], [true, true, true], [.live ⟨e1, k1, L1, o1, m1⟩, .live ⟨35, kAv, LL, false, false⟩]⟩) KSp))))) else none) else none) else none) else none) else some ((.exit 0), mk (xSp (.exit 0)) [] ⟨[], [], [.live ⟨e1, k1, L1, o1, m1⟩, .live ⟨35, kAv, LL, false, false⟩]⟩)) := by kernel_rfl
noncomputable def ESp (n : Nat) (r5 : Int) (r6 : Int) (l1 : Int) (l2 : Int) (l3 : Int) (l4 : Int) (l5 : Int) (l6 : Int) (l7 : Int) (l8 : Int) (hs : Bool) (t : Int) (nn : Int) (k : Int) (e1 : TypeId) (k1 : List CK) (L1 : List (List Dat)) (o1 : Bool) (m1 : Bool) (LL : List (List Dat)) : Option (Ex × St) :=
  evLoop ΓSA Try.prog L0 (cutC 0 2 kSp) bdSp n (mk kSp [.ptr 0 0, .ptr 1 0, .row 1, .v (I nn), .v (I k)] ⟨[[.v (I r5), .v (I r6), .ptr 2 0, .v (I l1), .v (I l2), .v (I l3), .v (I l4), .v (I l5), .v (I l6), .v (I l7), .v (I l8), .v (Bo hs)], [.v (I r5), .v (I r6), .v (I l1), .v (I l2), .v (I l3), .v (I l4), .v (I l5), .v (I l6), .v (I l7), .v (I l8), .v (Bo hs), .v (I t)], [.v (I 1000000), .v (I t)]], [true, true, true], [.live ⟨e1, k1, L1, o1, m1⟩, rA LL false false]⟩) KSp
structure SS where
  l1 : Int
  l2 : Int
  l3 : Int
  l4 : Int
  l5 : Int
  l6 : Int
  l7 : Int
  l8 : Int
  hs : Bool
  t : Int
def okF (r5 : Int) (LL : List (List Dat)) (k : Int) (s : SS) : Bool := faI (elL LL k) s.hs s.l1 s.l6 s.l7 s.l8 (r5 * (s.t + 1)) == 0
def stS (r5 r6 : Int) (LL : List (List Dat)) (k : Int) (s : SS) : SS := ⟨pk (okF r5 LL k s) (nv0 (elL LL k)) (gN (decide (addN' 1000000 s.t 1 > r6)) s.l1), pk (okF r5 LL k s) (nv1 (elL LL k)) (gN (decide (addN' 1000000 s.t 1 > r6)) s.l2), pk (okF r5 LL k s) (nv2 (elL LL k)) (gN (decide (addN' 1000000 s.t 1 > r6)) s.l3), pk (okF r5 LL k s) (nv3 (elL LL k)) (gN (decide (addN' 1000000 s.t 1 > r6)) s.l4), pk (okF r5 LL k s) (nv4 (elL LL k)) (gN (decide (addN' 1000000 s.t 1 > r6)) s.l5), pk (okF r5 LL k s) (nv5 (elL LL k)) (gN (decide (addN' 1000000 s.t 1 > r6)) s.l6), pk (okF r5 LL k s) (nv6 (elL LL k)) (gN (decide (addN' 1000000 s.t 1 > r6)) s.l7), pk (okF r5 LL k s) (nv7 (elL LL k)) (gN (decide (addN' 1000000 s.t 1 > r6)) s.l8), bif okF r5 LL k s then true else gB' (decide (addN' 1000000 s.t 1 > r6)) s.hs, pk (okF r5 LL k s) (clampI 0 1000000) (addN' 1000000 s.t 1)⟩
def bd6 (a : Int) : Prop := -65536 ≤ a ∧ a ≤ 65536
def stI (s : SS) : Prop := (0 ≤ s.t ∧ s.t ≤ 1000000) ∧ bd6 s.l6 ∧ bd6 s.l7 ∧ bd6 s.l8
theorem addT {t : Int} (h0 : 0 ≤ t) (h1 : t ≤ 1000000) : addN' 1000000 t 1 = (if (1000000 : Int) < t + 1 then 1000000 else t + 1) := by
  by_cases h : t = 1000000
  · subst h; decide
  unfold addN'
  rw [wI_id (n := 1000000 - t) (by omega)]
  have : clampI 1 (1000000 - t) = 1 := by
    unfold clampI
    have h2 : ¬ (1000000 - t < 1) := by omega
    rw [if_neg h2]
    rfl
  rw [this, wI_id (n := t + 1) (by omega), if_neg (by omega)]
theorem odT {t : Int} (h0 : 0 ≤ t) (h1 : t ≤ 1000000) : odI t = addN' 1000000 t 1 := by
  rw [addT h0 h1]
  unfold odI
  rw [wI_id (n := t + 1) (by omega)]
theorem c62_is (a : Int) : (a < -4611686018427387904 ∧ c62 a = -4611686018427387904) ∨ (a > 4611686018427387904 ∧ c62 a = 4611686018427387904) ∨ ((-4611686018427387904 ≤ a ∧ a ≤ 4611686018427387904) ∧ c62 a = a) := by
  unfold c62
  repeat' split
  all_goals omega
theorem mor_st {a b P : Int} (hb : bd6 b) (hP : 0 ≤ P ∧ P < 1152921504606846976) : stB (c62 a) b P = morB a b P := by
  unfold bd6 at hb
  unfold stB morB
  have hc := c62_is a
  generalize c62 a = c at *
  rw [wI_id (n := c - b) (by omega), wI_id (n := b - c) (by omega)]
  rw [show decide (c - b > P) = decide (a - b > P) from decide_eq_decide.2 (by omega), show decide (b - c > P) = decide (b - a > P) from decide_eq_decide.2 (by omega)]
  cases decide (a - b > P) <;> rfl
theorem prod60 {r t : Int} (h0 : 0 ≤ r) (h1 : r ≤ 1099511627776) (t0 : 0 ≤ t) (t1 : t ≤ 1000001) : 0 ≤ r * t ∧ r * t < 1152921504606846976 := by
  refine ⟨Int.mul_nonneg h0 t0, ?_⟩
  have a := Int.mul_le_mul_of_nonneg_right h1 t0
  omega
theorem far_eq {A : List (List Dat)} {hs : Bool} {l1 l6 l7 l8 P : Int} (h6 : bd6 l6) (h7 : bd6 l7) (h8 : bd6 l8) (hP : 0 ≤ P ∧ P < 1152921504606846976) : faR A hs l1 l6 l7 l8 P = faI A hs l1 l6 l7 l8 P := by
  unfold faR faI jmR jmB
  rw [mor_st h6 hP, mor_st h7 hP, mor_st h8 hP]
theorem bey_no {n m : Int} (hm : 0 ≤ m ∧ m ≤ 1073741824) (h : beyB n m = false) : -m ≤ n ∧ n ≤ m := by
  unfold beyB at h
  rw [wI_id (n := 0 - m) (by omega)] at h
  by_cases a : n < 0 - m
  · rw [decide_eq_true a] at h; cases h
  · rw [decide_eq_false a] at h
    have := of_decide_eq_false h
    omega
theorem fa_no {A : List (List Dat)} {hs : Bool} {l1 l6 l7 l8 P : Int} (h : faI A hs l1 l6 l7 l8 P = 0) : (A.length : Int) ≠ 0 ∧ (hs && nv0 A == l1) = false ∧ (nv1 A != 0) = false ∧ farB (nv2 A) (nv3 A) (nv4 A) (nv5 A) (nv6 A) (nv7 A) = false ∧ (hs && jmB (nv5 A) (nv6 A) (nv7 A) l6 l7 l8 P) = false := by
  unfold faI at h
  by_cases e : (A.length : Int) = 0
  · rw [e] at h; cases h
  rw [beq_eq_false_iff_ne.2 e] at h
  simp only [cond_false] at h
  refine ⟨e, ?_⟩
  generalize (hs && nv0 A == l1) = a at *
  generalize (nv1 A != 0) = b at *
  generalize farB (nv2 A) (nv3 A) (nv4 A) (nv5 A) (nv6 A) (nv7 A) = c at *
  generalize (hs && jmB (nv5 A) (nv6 A) (nv7 A) l6 l7 l8 P) = d at *
  revert h
  cases a <;> cases b <;> cases c <;> cases d <;> decide
theorem far_no {x y z a b c : Int} (h : farB x y z a b c = false) : bd6 a ∧ bd6 b ∧ bd6 c := by
  unfold farB at h
  simp only [Bool.or_eq_false_iff] at h
  exact ⟨bey_no (by omega) h.2.2.2.1, bey_no (by omega) h.2.2.2.2.1, bey_no (by omega) h.2.2.2.2.2⟩
theorem gN_bd {b : Bool} {x : Int} (h : bd6 x) : bd6 (gN b x) := by
  cases b
  · exact h
  · exact ⟨by show (-65536 : Int) ≤ 0; omega, by show (0 : Int) ≤ 65536; omega⟩
theorem stI_next {r5 r6 : Int} {LL : List (List Dat)} {k : Int} {s : SS} (h : stI s) : stI (stS r5 r6 LL k s) := by
  obtain ⟨⟨h0, h1⟩, h6, h7, h8⟩ := h
  have ha := addT h0 h1
  cases hf : okF r5 LL k s
  · unfold stI stS
    rw [hf]
    refine ⟨?_, gN_bd h6, gN_bd h7, gN_bd h8⟩
    show 0 ≤ addN' 1000000 s.t 1 ∧ addN' 1000000 s.t 1 ≤ 1000000
    rw [ha]
    split <;> omega
  · have hz := fa_no (beq_iff_eq.1 hf)
    have hb := far_no hz.2.2.2.1
    unfold stI stS
    rw [hf]
    exact ⟨⟨by show (0 : Int) ≤ clampI 0 1000000; decide, by show clampI 0 1000000 ≤ (1000000 : Int); decide⟩, hb.1, hb.2.1, hb.2.2⟩
theorem i64_wf {x : Int} (h : (Lit.int .i64 x).wf = true) : -9223372036854775808 ≤ x ∧ x < 9223372036854775808 := by
  have h := (Lit.wf_int_iff .i64 x).1 h
  have e1 : IntKind.i64.min = -9223372036854775808 := by decide
  have e2 : IntKind.i64.max = 9223372036854775807 := by decide
  rw [e1, e2] at h
  omega
theorem i64_of {n : Int} (h : (Lit.int .i64 n).wf = true) : i64B n = true := by
  have := i64_wf h
  exact decide_eq_true (by omega)

theorem nv_zero : nv5 [] = 0 ∧ nv6 [] = 0 ∧ nv7 [] = 0 := ⟨rfl, rfl, rfl⟩
def wfA (A : List (List Dat)) : Prop := ∀ o ∈ A, WfL kNv o
theorem nv_wf {A : List (List Dat)} (h : wfA A) : i64B (nv5 A) = true ∧ i64B (nv6 A) = true ∧ i64B (nv7 A) = true := by
  have key : ∀ o : List Dat, (o = [] ∨ WfL kNv o) → i64B ((o.tail.tail.tail.tail.tail.headD (.n 0)).toI) = true ∧ i64B ((o.tail.tail.tail.tail.tail.tail.headD (.n 0)).toI) = true ∧ i64B ((o.tail.tail.tail.tail.tail.tail.tail.headD (.n 0)).toI) = true := by
    rintro o (rfl | ho)
    · exact ⟨rfl, rfl, rfl⟩
    · match o, ho with
      | [.n _, .n _, .n _, .n _, .n _, .n a, .n b, .n c], ho => exact ⟨i64_of ho.2.2.2.2.2.1, i64_of ho.2.2.2.2.2.2.1, i64_of ho.2.2.2.2.2.2.2.1⟩
  unfold nv5 nv6 nv7
  refine key _ ?_
  generalize (wI ((A.length : Int) - 1)).toNat = i
  rw [List.getD]
  cases hi : A[i]? with
  | none => exact .inl rfl
  | some o => exact .inr (h o (List.mem_of_getElem? hi))
theorem el_wf {LL : List (List Dat)} (hw : ∀ o ∈ LL, WfN kAv o) (k : Int) : wfA (elL LL k) := by
  unfold elL
  rw [List.getD]
  cases hi : LL[k.toNat]? with
  | none => intro o ho; cases ho
  | some l =>
    have := hw l (List.mem_of_getElem? hi)
    match l, this with
    | [.l (.slice none 0 0) A], h => exact h.1.1
theorem few_el {LL : List (List Dat)} (h : fwB LL = true) : (LL.length : Int) ≤ 100 ∧ ∀ k, 0 ≤ k → k < (LL.length : Int) → (elL LL k).length ≤ 5 := by
  unfold fwB at h
  rw [Bool.and_eq_true, Bool.not_eq_true'] at h
  refine ⟨of_decide_eq_true h.2, fun k h0 h1 => ?_⟩
  have := anyN_none.1 h.1 k h0 (by omega)
  have := of_decide_eq_false this
  omega
structure PlOk (r5 r6 : Int) (LL : List (List Dat)) : Prop where
  s : 1 ≤ r5 ∧ r5 ≤ 1099511627776
  few : fwB LL = true
  wf : ∀ o ∈ LL, WfN kAv o
def lfSp (e1 : TypeId) (k1 : List CK) (L1 : List (List Dat)) (o1 m1 : Bool) (LL : List (List Dat)) : LT := .leaf (.exit 0) (mk (xSp (.exit 0)) [] ⟨[], [], [.live ⟨e1, k1, L1, o1, m1⟩, rA LL false false]⟩)
theorem loopSp (r5 r6 : Int) (e1 : TypeId) (k1 : List CK) (L1 : List (List Dat)) (o1 m1 : Bool) (LL : List (List Dat)) (h : PlOk r5 r6 LL) : ESp (LL.length + 1) r5 r6 0 0 0 0 0 0 0 0 false 0 (LL.length : Int) 0 e1 k1 L1 o1 m1 LL = some (lfSp e1 k1 L1 o1 m1 LL).pick := by
  obtain ⟨hn, he⟩ := few_el h.few
  refine (foldAll (stS r5 r6 LL) (fun _ s => stI s) (LL.length : Int) (fun n k (s : SS) => ESp n r5 r6 s.l1 s.l2 s.l3 s.l4 s.l5 s.l6 s.l7 s.l8 s.hs s.t (LL.length : Int) k e1 k1 L1 o1 m1 LL) (fun _ => some (.exit 0, mk (xSp (.exit 0)) [] ⟨[], [], [.live ⟨e1, k1, L1, o1, m1⟩, rA LL false false]⟩)) (fun n k s hk _ => ?_) (fun k s _ hi => stI_next hi) (fun n k s hk hi => ?_) LL.length 0 ⟨0, 0, 0, 0, 0, 0, 0, 0, false, 0⟩ (by omega) (by omega) ⟨by show (0 : Int) ≤ 0 ∧ (0 : Int) ≤ 1000000; omega, by unfold bd6; show -65536 ≤ (0 : Int) ∧ (0 : Int) ≤ 65536; omega, by unfold bd6; show -65536 ≤ (0 : Int) ∧ (0 : Int) ≤ 65536; omega, by unfold bd6; show -65536 ≤ (0 : Int) ∧ (0 : Int) ≤ 65536; omega⟩).trans rfl
  · refine (stepSp r5 r6 _ _ _ _ _ _ _ _ _ _ (LL.length : Int) k e1 k1 L1 o1 m1 LL n).trans ?_
    rw [decide_eq_false hk]
    rfl
  · have hl := he k hk.1 hk.2
    obtain ⟨w5, w6, w7⟩ := nv_wf (el_wf h.wf k)
    obtain ⟨⟨t0, t1⟩, b6, b7, b8⟩ := hi
    have hP := prod60 (r := r5) (t := s.t + 1) (by have := h.s; omega) h.s.2 (by omega) (by omega)
    have e1' : wI (s.t + 1) = s.t + 1 := wI_id (by omega)
    have e2' : wI (r5 * (s.t + 1)) = r5 * (s.t + 1) := wI_id (by omega)
    have i6 : i64B s.l6 = true := decide_eq_true (by unfold bd6 at b6; omega)
    have i7 : i64B s.l7 = true := decide_eq_true (by unfold bd6 at b7; omega)
    have i8 : i64B s.l8 = true := decide_eq_true (by unfold bd6 at b8; omega)
    have hs := h.s
    refine (stepSp r5 r6 _ _ _ _ _ _ _ _ _ _ (LL.length : Int) k e1 k1 L1 o1 m1 LL n).trans ?_
    rw [decide_eq_true hk.2, decide_eq_true hk.1, decide_eq_true (show (0 + (elL LL k).length) * 64 ≤ 140737488355328 ∧ 0 + (elL LL k).length ≤ 9223372036854775807 by omega), Nat.ble_eq_true_of_le (show (elL LL k).length ≤ 1000000 by omega), w5, w6, w7, i6, i7, i8, decide_eq_true (show 0 ≤ r5 ∧ r5 < 9223372036854775808 by omega), decide_eq_true (show 0 ≤ s.t ∧ s.t ≤ 1000000 from ⟨t0, t1⟩), e1', e2', odT t0 t1, wI_id (n := k + 1) (by omega)]
    simp only [far_eq b6 b7 b8 hP, beq_self_eq_true, bne_self_eq_false, Bool.and_self, Bool.not_true, cond_true, cond_false]
    rfl
noncomputable def GSp (vals : List SV) (m : Mem) : Option (Bool × LT) :=
  match vals, m with
  | [.ptr 0 0, .ptr 1 0, .row 1, .v (.int .i64 nn), .v (.int .i64 k)], ⟨(.v (.int .i64 r5) :: .v (.int .i64 r6) :: b0) :: B, lv, [.live ⟨e1, k1, L1, o1, m1⟩, .live ⟨e2, k2, LL, o2, m2⟩]⟩ => some (isT ((nn = (LL.length : Int) ∧ k = 0) ∧ (b0 = [.ptr 2 0, .v (I 0), .v (I 0), .v (I 0), .v (I 0), .v (I 0), .v (I 0), .v (I 0), .v (I 0), .v (Bo false)] ∧ B = [[.v (I r5), .v (I r6), .v (I 0), .v (I 0), .v (I 0), .v (I 0), .v (I 0), .v (I 0), .v (I 0), .v (I 0), .v (Bo false), .v (I 0)], [.v (I 1000000), .v (I 0)]] ∧ lv = [true, true, true] ∧ RowS.live ⟨e2, k2, LL, o2, m2⟩ = rA LL false false) ∧ PlOk r5 r6 LL), lfSp e1 k1 L1 o1 m1 LL)
  | _, _ => none
noncomputable def ΛSp : LoopOrc := fun _ st => viaT 0 2 kSp GSp st
theorem loopOkSp (z : Base) (z1 : z.L.length = 0) (z2 : z.U.length = 2) : LoopOk ΛSp Try.prog z bdSp := by
  refine loop_okT (Λ := L0) (kx := xSp) OkSA mixed z1 z2 (fun b hb st t h => by cases h) (G := GSp) (fun _ => rfl) ?_
  intro vals m t h
  unfold GSp at h
  split at h
  · rename_i nn k r5 r6 b0 B lv e1 k1 L1 o1 m1 e2 k2 LL o2 m2
    obtain ⟨h1, rfl⟩ := some_t h
    rw [isT_iff] at h1
    obtain ⟨⟨rfl, rfl⟩, ⟨rfl, rfl, rfl, hr⟩, h2⟩ := h1
    rw [hr]
    exact ⟨_, loopSp r5 r6 e1 k1 L1 o1 m1 LL h2⟩
  · cases h
theorem loopsSp : loopsOf (Try.f3.body.getD .skip) = [bdSp] := by kernel_rfl
set_option maxRecDepth 20000 in
theorem treeSpA (r1 : Int) (r2 : Int) (r3 : Int) (r4 : Int) (r5 : Int) (r6 : Int) (r7 : Int) (r8 : Int) (e1 : TypeId) (k1 : List CK) (L1 : List (List Dat)) (o1 : Bool) (m1 : Bool) (LL : List (List Dat)) : runG ΓSA ΛSp Try.prog Try.f3 [.ag [.row 0, .v (I r1), .v (I r2), .v (I r3), .v (I r4), .v (I r5), .v (I r6), .v (I r7), .v (I r8)], .row 1] ⟨[], [], [.live ⟨e1, k1, L1, o1, m1⟩, rA LL false false]⟩ = 
    (bif LL.length.ble (9223372036854775807) then (bif !fwB LL then some (.v (Bo true), ⟨[], [], [.live ⟨e1, k1, L1, o1, m1⟩, .live ⟨35, kAv, LL, false, false⟩]⟩) else (bif decide ((1 : Int) ≤ r5) && decide ((1 : Int) ≤ r6) then (bif decide (r5 < (1 : Int)) then some (.v (Bo false), ⟨[], [], [.live ⟨e1, k1, L1, o1, m1⟩, .live ⟨35, kAv, LL, false, false⟩]⟩) else (bif decide (r6 < (1 : Int)) then some (.v (Bo false), ⟨[], [], [.live ⟨e1, k1, L1, o1, m1⟩, .live ⟨35, kAv, LL, false, false⟩]⟩) else (bif decide (r5 > (1099511627776 : Int)) then some (.v (Bo true), ⟨[], [], [.live ⟨e1, k1, L1, o1, m1⟩, .live ⟨35, kAv, LL, false, false⟩]⟩) else (bif isT (((LL.length : Int) = (LL.length : Int) ∧ (0 : Int) = (0 : Int)) ∧ ([SA.ptr (2 : Nat) (0 : Nat), SA.v (Value.int IntKind.i64 (0 : Int)), SA.v (Value.int IntKind.i64 (0 : Int)), SA.v (Value.int IntKind.i64 (0 : Int)), SA.v (Value.int IntKind.i64 (0 : Int)), SA.v (Value.int IntKind.i64 (0 : Int)), SA.v (Value.int IntKind.i64 (0 : Int)), SA.v (Value.int IntKind.i64 (0 : Int)), SA.v (Value.int IntKind.i64 (0 : Int)), SA.v (Value.bool false)] = [SA.ptr (2 : Nat) (0 : Nat), SA.v (I (0 : Int)), SA.v (I (0 : Int)), SA.v (I (0 : Int)), SA.v (I (0 : Int)), SA.v (I (0 : Int)), SA.v (I (0 : Int)), SA.v (I (0 : Int)), SA.v (I (0 : Int)), SA.v (Bo false)] ∧ [[SA.v (Value.int IntKind.i64 r5), SA.v (Value.int IntKind.i64 r6), SA.v (Value.int IntKind.i64 (0 : Int)), SA.v (Value.int IntKind.i64 (0 : Int)), SA.v (Value.int IntKind.i64 (0 : Int)), SA.v (Value.int IntKind.i64 (0 : Int)), SA.v (Value.int IntKind.i64 (0 : Int)), SA.v (Value.int IntKind.i64 (0 : Int)), SA.v (Value.int IntKind.i64 (0 : Int)), SA.v (Value.int IntKind.i64 (0 : Int)), SA.v (Value.bool false), SA.v (Value.int IntKind.i64 (0 : Int))], [SA.v (Value.int IntKind.i64 (1000000 : Int)), SA.v (Value.int IntKind.i64 (0 : Int))]] = [[SA.v (I r5), SA.v (I r6), SA.v (I (0 : Int)), SA.v (I (0 : Int)), SA.v (I (0 : Int)), SA.v (I (0 : Int)), SA.v (I (0 : Int)), SA.v (I (0 : Int)), SA.v (I (0 : Int)), SA.v (I (0 : Int)), SA.v (Bo false), SA.v (I (0 : Int))], [SA.v (I (1000000 : Int)), SA.v (I (0 : Int))]] ∧ List.map (fun x => true) [[SA.v (Value.int IntKind.i64 r5), SA.v (Value.int IntKind.i64 r6), SA.ptr (2 : Nat) (0 : Nat), SA.v (Value.int IntKind.i64 (0 : Int)), SA.v (Value.int IntKind.i64 (0 : Int)), SA.v (Value.int IntKind.i64 (0 : Int)), SA.v (Value.int IntKind.i64 (0 : Int)), SA.v (Value.int IntKind.i64 (0 : Int)), SA.v (Value.int IntKind.i64 (0 : Int)), SA.v (Value.int IntKind.i64 (0 : Int)), SA.v (Value.int IntKind.i64 (0 : Int)), SA.v (Value.bool false)], [SA.v (Value.int IntKind.i64 r5), SA.v (Value.int IntKind.i64 r6), SA.v (Value.int IntKind.i64 (0 : Int)), SA.v (Value.int IntKind.i64 (0 : Int)), SA.v (Value.int IntKind.i64 (0 : Int)), SA.v (Value.int IntKind.i64 (0 : Int)), SA.v (Value.int IntKind.i64 (0 : Int)), SA.v (Value.int IntKind.i64 (0 : Int)), SA.v (Value.int IntKind.i64 (0 : Int)), SA.v (Value.int IntKind.i64 (0 : Int)), SA.v (Value.bool false), SA.v (Value.int IntKind.i64 (0 : Int))], [SA.v (Value.int IntKind.i64 (1000000 : Int)), SA.v (Value.int IntKind.i64 (0 : Int))]] = [true, true, true] ∧ RowS.live { e := 35, ks := kAv, L := LL, own := false, mark := false : RowC } = rA LL false false) ∧ PlOk r5 r6 LL) then some (.v (Bo true), ⟨[], [], [.live ⟨e1, k1, L1, o1, m1⟩, .live ⟨35, kAv, LL, false, false⟩]⟩) else none)))) else none)) else none) := by kernel_rfl
set_option maxRecDepth 20000 in
theorem treeSpB (r1 : Int) (r2 : Int) (r3 : Int) (r4 : Int) (r5 : Int) (r6 : Int) (r7 : Int) (r8 : Int) (e1 : TypeId) (k1 : List CK) (L1 : List (List Dat)) (o1 : Bool) (m1 : Bool) (LL : List (List Dat)) : runG ΓSB ΛSp Try.prog Try.f3 [.ag [.row 0, .v (I r1), .v (I r2), .v (I r3), .v (I r4), .v (I r5), .v (I r6), .v (I r7), .v (I r8)], .row 1] ⟨[], [], [.live ⟨e1, k1, L1, o1, m1⟩, rA LL false false]⟩ = 
    (bif LL.length.ble (9223372036854775807) then (bif !fwB LL then some (.v (Bo true), ⟨[], [], [.live ⟨e1, k1, L1, o1, m1⟩, .live ⟨35, kAv, LL, false, false⟩]⟩) else (bif !(decide ((1 : Int) ≤ r5) && decide ((1 : Int) ≤ r6)) then (bif decide (r5 < (1 : Int)) then some (.v (Bo true), ⟨[], [], [.live ⟨e1, k1, L1, o1, m1⟩, .live ⟨35, kAv, LL, false, false⟩]⟩) else (bif decide (r6 < (1 : Int)) then some (.v (Bo true), ⟨[], [], [.live ⟨e1, k1, L1, o1, m1⟩, .live ⟨35, kAv, LL, false, false⟩]⟩) else some (.v (Bo false), ⟨[], [], [.live ⟨e1, k1, L1, o1, m1⟩, .live ⟨35, kAv, LL, false, false⟩]⟩))) else none)) else none) := by kernel_rfl
noncomputable def ΓSl : Orc := Γl1
theorem OkSl : ΓSl.Ok Try.prog := Okl1
end Go.Proofs.Ytaoembcepknlhaa

namespace Go.Proofs.Ytaoembcepknlhaa
open Go Go.Proofs Go.Sx
set_option linter.unusedVariables false
abbrev kPh : List CK := [.sl 60 [.num .i64, .num .i64], .num .i64, .num .i64, .num .i64, .num .i64]
def kR : List TK := [.r 63 kPh, .p (.num .i64), .p (.num .i64), .p (.num .i64), .p (.num .i64), .p (.num .i64), .p (.num .i64), .p (.num .i64), .p (.num .i64)]
theorem rul_is {xs : List TD} (h : WfT kR xs) : ∃ L r1 r2 r3 r4 r5 r6 r7 r8, xs = [.L L, .d (.n r1), .d (.n r2), .d (.n r3), .d (.n r4), .d (.n r5), .d (.n r6), .d (.n r7), .d (.n r8)] := by
  match xs, h with
  | [.L L, .d (.n r1), .d (.n r2), .d (.n r3), .d (.n r4), .d (.n r5), .d (.n r6), .d (.n r7), .d (.n r8)], h =>
    exact ⟨L, r1, r2, r3, r4, r5, r6, r7, r8, rfl⟩
theorem rows_kR {xs : List TD} (h : WfT kR xs) : (in0Rows (tkIn kR xs)).length = 1 := by
  obtain ⟨L, r1, r2, r3, r4, r5, r6, r7, r8, rfl⟩ := rul_is h
  rfl
abbrev mSp (e1 : TypeId) (k1 : List CK) (L1 : List (List Dat)) (o1 m1 : Bool) (LL : List (List Dat)) : Mem := ⟨[], [], [.live ⟨e1, k1, L1, o1, m1⟩, rA LL false false]⟩
theorem sourcePlays (r1 r2 r3 r4 r5 r6 r7 r8 : Int) (e1 : TypeId) (k1 : List CK) (L1 : List (List Dat)) (o1 m1 : Bool) (LL : List (List Dat)) (hw : ∀ o ∈ LL, WfN kAv o) (hn : LL.length ≤ 9223372036854775807) :
    ∃ Γ : Orc, Γ.Ok Try.prog ∧ runG Γ ΛSp Try.prog Try.f3 [.ag [.row 0, .v (I r1), .v (I r2), .v (I r3), .v (I r4), .v (I r5), .v (I r6), .v (I r7), .v (I r8)], .row 1] (mSp e1 k1 L1 o1 m1 LL) = some (.v (Bo true), mSp e1 k1 L1 o1 m1 LL) := by
  by_cases h : 1 ≤ r5 ∧ 1 ≤ r6
  · refine ⟨ΓSA, OkSA, (treeSpA r1 r2 r3 r4 r5 r6 r7 r8 e1 k1 L1 o1 m1 LL).trans ?_⟩
    rw [Nat.ble_eq_true_of_le hn]
    cases hf : fwB LL
    · rfl
    rw [decide_eq_true h.1, decide_eq_true h.2, decide_eq_false (show ¬ r5 < 1 by omega), decide_eq_false (show ¬ r6 < 1 by omega)]
    by_cases h5 : r5 > 1099511627776
    · rw [decide_eq_true h5]; rfl
    · rw [decide_eq_false h5, isT_of]
      · rfl
      · exact ⟨⟨rfl, rfl⟩, ⟨rfl, rfl, rfl, rfl⟩, ⟨⟨h.1, by omega⟩, hf, hw⟩⟩
  · refine ⟨ΓSB, OkSB, (treeSpB r1 r2 r3 r4 r5 r6 r7 r8 e1 k1 L1 o1 m1 LL).trans ?_⟩
    rw [Nat.ble_eq_true_of_le hn]
    cases hf : fwB LL
    · rfl
    have e : (!(decide ((1 : Int) ≤ r5) && decide ((1 : Int) ≤ r6))) = true := by
      by_cases a : 1 ≤ r5
      · rw [decide_eq_false (show ¬ (1 : Int) ≤ r6 from fun b => h ⟨a, b⟩), Bool.and_false]; rfl
      · rw [decide_eq_false a]; rfl
    rw [e]
    by_cases a : r5 < 1
    · rw [decide_eq_true a]; rfl
    · rw [decide_eq_false a, decide_eq_true (show r6 < 1 by omega)]; rfl
theorem sourcePlaysLaw (l0 : List TD) (l1 : List (List Dat)) (w0 : WfT kR l0) (w1 : ∀ o ∈ l1, WfN kAv o) (n1 : l1.length ≤ 281474976710656) : ∃ Γ Λ m', Γ.Ok Try.prog ∧ (∀ z : Base, z.L.length = 0 → z.U.length = 2 → ∀ b ∈ loopsOf (Try.f3.body.getD .skip), LoopOk Λ Try.prog z b) ∧ runG Γ Λ Try.prog Try.f3 (inArgs [.ag (tkIn kR l0), .row 35 kAv l1] 0) (inMem [.ag (tkIn kR l0), .row 35 kAv l1]) = some (.v (.bool true), m') := by
  obtain ⟨L, r1, r2, r3, r4, r5, r6, r7, r8, rfl⟩ := rul_is w0
  obtain ⟨Γ, hΓ, h⟩ := sourcePlays r1 r2 r3 r4 r5 r6 r7 r8 63 kPh L false false l1 w1 (by omega)
  exact ⟨Γ, ΛSp, _, hΓ, fun z z1 z2 => oneLoop loopsSp (loopOkSp z z1 z2), h⟩
end Go.Proofs.Ytaoembcepknlhaa

