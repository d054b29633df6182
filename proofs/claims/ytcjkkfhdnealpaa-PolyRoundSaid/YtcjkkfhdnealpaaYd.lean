/-
  What is known of this program: bounds, Left, Move, and rows turned round.
-/
import Derived.Test.YtcjkkfhdnealpaaYc
import Derived.Test.YtcjkkfhdnealpaaSw
namespace Go.Proofs.Ytcjkkfhdnealpaa
open Go Go.Proofs Go.Sx
set_option linter.unusedVariables false
/-! norm -/
/-! cast -/

/-! rep (((L.getD k.toNat []).headD (Dat.n (0 : Int))).toI) => (pX L k) -/
/-! rep (((L.getD k.toNat []).tail.headD (Dat.n (0 : Int))).toI) => (pY L k) -/
/-! rep ((L.getD k.toNat []).headD (Dat.n (0 : Int))).toI => (pX L k) -/
/-! rep ((L.getD k.toNat []).tail.headD (Dat.n (0 : Int))).toI => (pY L k) -/
/-! rep ((L.getD (0 : Nat) []).headD (Dat.n (0 : Int))).toI => (pX L 0) -/
/-! rep ((L.getD (0 : Nat) []).tail.headD (Dat.n (0 : Int))).toI => (pY L 0) -/
/-! rep ((L.getD 0 []).headD (Dat.n (0 : Int))).toI => (pX L 0) -/
/-! rep ((L.getD 0 []).tail.headD (Dat.n (0 : Int))).toI => (pY L 0) -/

abbrev I4 := Int × Int × Int × Int
def bdS (L : List (List Dat)) (k : Int) (s : I4) : I4 := (mn s.1 (pX L k), mn s.2.1 (pY L k), mx s.2.2.1 (pX L k), mx s.2.2.2 (pY L k))
/-- The least numbers, and the greatest ones. -/
def bdB (L : List (List Dat)) : I4 := foF (bdS L) L.length 0 (pX L 0, pY L 0, pX L 0, pY L 0)
noncomputable def bdBd : Code := loopAt (Try.f29.body.getD .skip) 0
def kBd : List Bool := maskOf 63 [0,2,3,4]
def xBd (e : Ex) : List Bool := match e with
  | .exit _ => maskOf 63 [2,3]
  | .ret => maskOf 63 [2]
  | .normal => maskOf 63 [0,2,3,4]
def KBd (e : Ex) (st : St) : Option (Ex × St) := some (e, cutC 0 1 (xBd e) st)
set_option maxRecDepth 20000 in
theorem stepBd (L : List (List Dat)) (own : Bool) (mark : Bool) (a : Int) (b : Int) (c : Int) (d : Int) (k : Int) (n : Nat) : evLoop ΓLb Try.prog L0 (cutC 0 1 kBd) bdBd (n + 1) (mk kBd [.row 0, .ptr 0 0, .ptr 1 0, .v (I k)] ⟨[[.v (I 0), .v (I 0), .v (I 0), .v (I 0)], [.v (I a), .v (I b), .v (I c), .v (I d)]], [true, true], [rP L own mark]⟩) KBd =
    (bif decide (k < (L.length : Int)) then (bif decide ((0 : Int) ≤ k) && decide (k < (L.length : Int)) then (bif decide ((0 : Int) ≤ k) && decide (k < (L.length : Int)) then (bif decide ((0 : Int) ≤ k) && decide (k < (L.length : Int)) then (bif decide ((0 : Int) ≤ k) && decide (k < (L.length : Int)) then evLoop ΓLb Try.prog L0 (cutC 0 1 kBd) bdBd n (mk kBd [.row 0, .ptr 0 0, .ptr 1 0, .v (I (wI (k + (1 : Int))))] ⟨[[.v (I 0), .v (I 0), .v (I 0), .v (I 0)], [.v (I (if (pX L k) < a then (pX L k) else a)), .v (I (if (pY L k) < b then (pY L k) else b)), .v (I (if (pX L k) > c then (pX L k) else c)), .v (I (if (pY L k) > d then (pY L k) else d))]], [true, true], [.live ⟨24, [.num .i64, .num .i64], L, own, mark⟩]⟩) KBd else none) else none) else none) else none) else some ((.exit 0), mk (xBd (.exit 0)) [.ptr 0 0, .ptr 1 0] ⟨[[.v (I 0), .v (I 0), .v (I 0), .v (I 0)], [.v (I a), .v (I b), .v (I c), .v (I d)]], [true, true], [.live ⟨24, [.num .i64, .num .i64], L, own, mark⟩]⟩)) := by kernel_rfl
noncomputable def EBd (n : Nat) (L : List (List Dat)) (own : Bool) (mark : Bool) (a : Int) (b : Int) (c : Int) (d : Int) (k : Int) : Option (Ex × St) :=
  evLoop ΓLb Try.prog L0 (cutC 0 1 kBd) bdBd n (mk kBd [.row 0, .ptr 0 0, .ptr 1 0, .v (I k)] ⟨[[.v (I 0), .v (I 0), .v (I 0), .v (I 0)], [.v (I a), .v (I b), .v (I c), .v (I d)]], [true, true], [rP L own mark]⟩) KBd
theorem loopBd (L : List (List Dat)) (own mark : Bool) (hl : L.length ≤ 1000000) : EBd (L.length + 1) L own mark (pX L 0) (pY L 0) (pX L 0) (pY L 0) 0 = some (.exit 0, mk (xBd (.exit 0)) [.ptr 0 0, .ptr 1 0] ⟨[[.v (I 0), .v (I 0), .v (I 0), .v (I 0)], [.v (I (bdB L).1), .v (I (bdB L).2.1), .v (I (bdB L).2.2.1), .v (I (bdB L).2.2.2)]], [true, true], [rP L own mark]⟩) := by
  refine foldAll (bdS L) (fun _ _ => True) (L.length : Int) (fun n k s => EBd n L own mark s.1 s.2.1 s.2.2.1 s.2.2.2 k) (fun s => some (.exit 0, mk (xBd (.exit 0)) [.ptr 0 0, .ptr 1 0] ⟨[[.v (I 0), .v (I 0), .v (I 0), .v (I 0)], [.v (I s.1), .v (I s.2.1), .v (I s.2.2.1), .v (I s.2.2.2)]], [true, true], [rP L own mark]⟩)) (fun n k s hk _ => ?_) (fun _ _ _ _ => trivial) (fun n k s hk _ => ?_) L.length 0 (pX L 0, pY L 0, pX L 0, pY L 0) (by omega) (by omega) trivial
  · refine (stepBd L own mark s.1 s.2.1 s.2.2.1 s.2.2.2 k n).trans ?_
    rw [decide_eq_false hk]
    rfl
  · refine (stepBd L own mark s.1 s.2.1 s.2.2.1 s.2.2.2 k n).trans ?_
    rw [decide_eq_true hk.2, decide_eq_true hk.1, wI_id (n := k + 1) (by omega)]
    rfl
def GBd (vals : List SV) (m : Mem) : Option (Bool × LT) :=
  match vals, m with
  | [.row 0, .ptr 0 0, .ptr 1 0, .v (.int .i64 k)], ⟨[[.v (.int .i64 z1), .v (.int .i64 z2), .v (.int .i64 z3), .v (.int .i64 z4)], [.v (.int .i64 a), .v (.int .i64 b), .v (.int .i64 c), .v (.int .i64 d)]], [true, true], [.live ⟨24, [.num .i64, .num .i64], L, own, mark⟩]⟩ => some ((k == 0 && (z1 == 0 && (z2 == 0 && (z3 == 0 && (z4 == 0 && (a == pX L 0 && (b == pY L 0 && (c == pX L 0 && (d == pY L 0 && Nat.ble L.length 1000000))))))))), .leaf (.exit 0) (mk (xBd (.exit 0)) [.ptr 0 0, .ptr 1 0] ⟨[[.v (I 0), .v (I 0), .v (I 0), .v (I 0)], [.v (I (bdB L).1), .v (I (bdB L).2.1), .v (I (bdB L).2.2.1), .v (I (bdB L).2.2.2)]], [true, true], [rP L own mark]⟩))
  | _, _ => none
noncomputable def ΛBd : LoopOrc := fun _ st => viaT 0 1 kBd GBd st
theorem loopOkBd (z : Base) (z1 : z.L.length = 0) (z2 : z.U.length = 1) : LoopOk ΛBd Try.prog z bdBd := by
  refine loop_okT (Λ := L0) (kx := xBd) OkLb mixed z1 z2 (fun b hb st t h => by cases h) (G := GBd) (fun _ => rfl) ?_
  intro vals m t h
  unfold GBd at h
  split at h
  · rename_i k z1 z2 z3 z4 a b c d L own mark
    obtain ⟨h1, rfl⟩ := some_t h
    simp only [Bool.and_eq_true, beq_iff_eq] at h1
    obtain ⟨rfl, rfl, rfl, rfl, rfl, rfl, rfl, rfl, rfl, hl⟩ := h1
    exact ⟨_, loopBd L own mark (Nat.le_of_ble_eq_true hl)⟩
  · cases h
theorem loopsBd : loopsOf (Try.f29.body.getD .skip) = [bdBd] := by kernel_rfl
set_option maxRecDepth 20000 in
theorem runRbd (L : List (List Dat)) (own : Bool) (mark : Bool) : runG ΓLb ΛBd Try.prog Try.f29 [.row 0] ⟨[], [], [rP L own mark]⟩ = 
    (bif true && decide ((0 : Int) < (L.length : Int)) then (bif true && decide ((0 : Int) < (L.length : Int)) then (bif true && (true && (true && (true && (true && ((pX L 0) == pX L (0 : Int) && ((pY L 0) == pY L (0 : Int) && ((pX L 0) == pX L (0 : Int) && ((pY L 0) == pY L (0 : Int) && L.length.ble (1000000))))))))) then some (.v (.agg #[(I ((bdB L).fst)), (I ((bdB L).snd.fst)), (I ((bdB L).snd.snd.fst)), (I ((bdB L).snd.snd.snd))]), ⟨[], [], [.live ⟨24, [.num .i64, .num .i64], L, own, mark⟩]⟩) else none) else none) else none) := by kernel_rfl
def gRbd (xs : List SV) (m : Mem) : Option (Bool × Value) :=
  match xs, m with
  | [.row 0], ⟨[], [], [.live ⟨24, [.num .i64, .num .i64], L, own, mark⟩]⟩ => some (Nat.blt 0 L.length && Nat.ble L.length 1000000, .agg #[I (bdB L).1, I (bdB L).2.1, I (bdB L).2.2.1, I (bdB L).2.2.2])
  | _, _ => none
theorem gRbd_ok : ∀ xs m r, gRbd xs m = some (true, r) → CallOk Try.prog 29 xs m (.v r) m := by
  intro xs m r h
  unfold gRbd at h
  split at h
  · rename_i L own mark
    obtain ⟨h1, rfl⟩ := some_t h
    refine runOk (Λ := ΛBd) OkLb Try.func29 rfl (fun z z1 z2 => oneLoop loopsBd (loopOkBd z z1 z2)) ?_
    refine (runRbd L own mark).trans ?_
    rw [Bool.and_eq_true] at h1
    have hb : 0 < (L.length : Int) := by have : 0 < L.length := Nat.le_of_ble_eq_true h1.1; omega
    simp only [decide_eq_true hb, beq_self_eq_true, h1.2, Bool.and_self]
    rfl
  · cases h
noncomputable def ΓBd1 : Orc := addRd 29 gRbd ΓLb
theorem OkBd1 : ΓBd1.Ok Try.prog := addRd_ok OkLb gRbd_ok
noncomputable def bdBe : Code := loopAt (Try.f17.body.getD .skip) 0
def kBe : List Bool := maskOf 54 [2,4,18,19,20]
def xBe (e : Ex) : List Bool := match e with
  | .exit _ => maskOf 54 [2,4]
  | .ret => maskOf 54 [2,3]
  | .normal => maskOf 54 [2,4,18,19,20]
def KBe (e : Ex) (st : St) : Option (Ex × St) := some (e, cutC 0 1 (xBe e) st)
set_option maxRecDepth 20000 in
theorem stepBe (L : List (List Dat)) (own : Bool) (mark : Bool) (a : Int) (b : Int) (c : Int) (d : Int) (nn : Int) (k : Int) (n : Nat) : evLoop ΓLb Try.prog L0 (cutC 0 1 kBe) bdBe (n + 1) (mk kBe [.ptr 0 0, .ptr 1 0, .row 0, .v (I nn), .v (I k)] ⟨[[.v (I 0), .v (I 0), .v (I 0), .v (I 0)], [.v (I a), .v (I b), .v (I c), .v (I d)]], [true, true], [rP L own mark]⟩) KBe =
    (bif decide (k < nn) then (bif decide ((0 : Int) ≤ k) && decide (k < (L.length : Int)) then evLoop ΓLb Try.prog L0 (cutC 0 1 kBe) bdBe n (mk kBe [.ptr 0 0, .ptr 1 0, .row 0, .v (I nn), .v (I (wI (k + (1 : Int))))] ⟨[[.v (I 0), .v (I 0), .v (I 0), .v (I 0)], [.v (I (if (pX L k) < a then (pX L k) else a)), .v (I (if (pY L k) < b then (pY L k) else b)), .v (I (if (pX L k) > c then (pX L k) else c)), .v (I (if (pY L k) > d then (pY L k) else d))]], [true, true], [.live ⟨24, [.num .i64, .num .i64], L, own, mark⟩]⟩) KBe else none) else some ((.exit 0), mk (xBe (.exit 0)) [.ptr 0 0, .ptr 1 0] ⟨[[.v (I 0), .v (I 0), .v (I 0), .v (I 0)], [.v (I a), .v (I b), .v (I c), .v (I d)]], [true, true], [.live ⟨24, [.num .i64, .num .i64], L, own, mark⟩]⟩)) := by kernel_rfl
noncomputable def EBe (n : Nat) (L : List (List Dat)) (own : Bool) (mark : Bool) (a : Int) (b : Int) (c : Int) (d : Int) (nn : Int) (k : Int) : Option (Ex × St) :=
  evLoop ΓLb Try.prog L0 (cutC 0 1 kBe) bdBe n (mk kBe [.ptr 0 0, .ptr 1 0, .row 0, .v (I nn), .v (I k)] ⟨[[.v (I 0), .v (I 0), .v (I 0), .v (I 0)], [.v (I a), .v (I b), .v (I c), .v (I d)]], [true, true], [rP L own mark]⟩) KBe
theorem loopBe (L : List (List Dat)) (own mark : Bool) (hl : L.length ≤ 1000000) : EBe (L.length + 1) L own mark (pX L 0) (pY L 0) (pX L 0) (pY L 0) (L.length : Int) 0 = some (.exit 0, mk (xBe (.exit 0)) [.ptr 0 0, .ptr 1 0] ⟨[[.v (I 0), .v (I 0), .v (I 0), .v (I 0)], [.v (I (bdB L).1), .v (I (bdB L).2.1), .v (I (bdB L).2.2.1), .v (I (bdB L).2.2.2)]], [true, true], [rP L own mark]⟩) := by
  refine foldAll (bdS L) (fun _ _ => True) (L.length : Int) (fun n k s => EBe n L own mark s.1 s.2.1 s.2.2.1 s.2.2.2 (L.length : Int) k) (fun s => some (.exit 0, mk (xBe (.exit 0)) [.ptr 0 0, .ptr 1 0] ⟨[[.v (I 0), .v (I 0), .v (I 0), .v (I 0)], [.v (I s.1), .v (I s.2.1), .v (I s.2.2.1), .v (I s.2.2.2)]], [true, true], [rP L own mark]⟩)) (fun n k s hk _ => ?_) (fun _ _ _ _ => trivial) (fun n k s hk _ => ?_) L.length 0 (pX L 0, pY L 0, pX L 0, pY L 0) (by omega) (by omega) trivial
  · refine (stepBe L own mark s.1 s.2.1 s.2.2.1 s.2.2.2 (L.length : Int) k n).trans ?_
    rw [decide_eq_false hk]
    rfl
  · refine (stepBe L own mark s.1 s.2.1 s.2.2.1 s.2.2.2 (L.length : Int) k n).trans ?_
    rw [decide_eq_true hk.2, decide_eq_true hk.1, wI_id (n := k + 1) (by omega)]
    rfl
def GBe (vals : List SV) (m : Mem) : Option (Bool × LT) :=
  match vals, m with
  | [.ptr 0 0, .ptr 1 0, .row 0, .v (.int .i64 nn), .v (.int .i64 k)], ⟨[[.v (.int .i64 z1), .v (.int .i64 z2), .v (.int .i64 z3), .v (.int .i64 z4)], [.v (.int .i64 a), .v (.int .i64 b), .v (.int .i64 c), .v (.int .i64 d)]], [true, true], [.live ⟨24, [.num .i64, .num .i64], L, own, mark⟩]⟩ => some (nn == (L.length : Int) && (k == 0 && (z1 == 0 && (z2 == 0 && (z3 == 0 && (z4 == 0 && (a == pX L 0 && (b == pY L 0 && (c == pX L 0 && (d == pY L 0 && Nat.ble L.length 1000000))))))))), .leaf (.exit 0) (mk (xBe (.exit 0)) [.ptr 0 0, .ptr 1 0] ⟨[[.v (I 0), .v (I 0), .v (I 0), .v (I 0)], [.v (I (bdB L).1), .v (I (bdB L).2.1), .v (I (bdB L).2.2.1), .v (I (bdB L).2.2.2)]], [true, true], [rP L own mark]⟩))
  | _, _ => none
noncomputable def ΛBe : LoopOrc := fun _ st => viaT 0 1 kBe GBe st
theorem loopOkBe (z : Base) (z1 : z.L.length = 0) (z2 : z.U.length = 1) : LoopOk ΛBe Try.prog z bdBe := by
  refine loop_okT (Λ := L0) (kx := xBe) OkLb mixed z1 z2 (fun b hb st t h => by cases h) (G := GBe) (fun _ => rfl) ?_
  intro vals m t h
  unfold GBe at h
  split at h
  · rename_i nn k z1 z2 z3 z4 a b c d L own mark
    obtain ⟨h1, rfl⟩ := some_t h
    simp only [Bool.and_eq_true, beq_iff_eq] at h1
    obtain ⟨rfl, rfl, rfl, rfl, rfl, rfl, rfl, rfl, rfl, rfl, hl⟩ := h1
    exact ⟨_, loopBe L own mark (Nat.le_of_ble_eq_true hl)⟩
  · cases h
theorem loopsBe : loopsOf (Try.f17.body.getD .skip) = [bdBe] := by kernel_rfl
abbrev bdV (L : List (List Dat)) (x : Int) : Int := bif areaB L then x else 0
set_option maxRecDepth 20000 in
theorem runBde (L : List (List Dat)) (own : Bool) (mark : Bool) : runG ΓBd1 ΛBe Try.prog Try.f17 [.row 0] ⟨[], [], [rP L own mark]⟩ = 
    (bif L.length.ble (1000000) then (bif !areaB L then some (.v (.tuple #[(.agg #[(I 0), (I 0), (I 0), (I 0)]), (Bo false)]), ⟨[], [], [.live ⟨24, [.num .i64, .num .i64], L, own, mark⟩]⟩) else (bif true && decide ((0 : Int) < (L.length : Int)) then (bif true && decide ((0 : Int) < (L.length : Int)) then (bif (L.length : Int) == (L.length : Int) && (true && (true && (true && (true && (true && ((pX L 0) == pX L (0 : Int) && ((pY L 0) == pY L (0 : Int) && ((pX L 0) == pX L (0 : Int) && ((pY L 0) == pY L (0 : Int) && L.length.ble (1000000)))))))))) then some (.v (.tuple #[(.agg #[(I ((bdB L).fst)), (I ((bdB L).snd.fst)), (I ((bdB L).snd.snd.fst)), (I ((bdB L).snd.snd.snd))]), (Bo true)]), ⟨[], [], [.live ⟨24, [.num .i64, .num .i64], L, own, mark⟩]⟩) else none) else none) else none)) else none) := by kernel_rfl
def gBde (xs : List SV) (m : Mem) : Option (Bool × Value) :=
  match xs, m with
  | [.row 0], ⟨[], [], [.live ⟨24, [.num .i64, .num .i64], L, own, mark⟩]⟩ => some (Nat.ble L.length 1000000, .tuple #[.agg #[I (bdV L (bdB L).1), I (bdV L (bdB L).2.1), I (bdV L (bdB L).2.2.1), I (bdV L (bdB L).2.2.2)], Bo (areaB L)])
  | _, _ => none
theorem gBde_ok : ∀ xs m r, gBde xs m = some (true, r) → CallOk Try.prog 17 xs m (.v r) m := by
  intro xs m r h
  unfold gBde at h
  split at h
  · rename_i L own mark
    obtain ⟨h1, rfl⟩ := some_t h
    refine runOk (Λ := ΛBe) OkBd1 Try.func17 rfl (fun z z1 z2 => oneLoop loopsBe (loopOkBe z z1 z2)) ?_
    refine (runBde L own mark).trans ?_
    rw [h1]
    cases ha : areaB L
    · simp only [bdV, ha]; rfl
    · have hb : 0 < (L.length : Int) := by have := (isArea ha).lo; omega
      simp only [decide_eq_true hb, beq_self_eq_true, Bool.and_self, bdV, ha]
      rfl
  · cases h
noncomputable def ΓBd2 : Orc := addRd 17 gBde ΓBd1
theorem OkBd2 : ΓBd2.Ok Try.prog := addRd_ok OkBd1 gBde_ok
set_option maxRecDepth 20000 in
theorem runFew (L : List (List Dat)) (own : Bool) (mark : Bool) : runG ΓBd2 L0 Try.prog Try.f16 [.row 0] ⟨[], [], [rP L own mark]⟩ = 
    some (.v (Bo (decide ((L.length : Int) ≤ (12 : Int)))), ⟨[], [], [.live ⟨24, [.num .i64, .num .i64], L, own, mark⟩]⟩) := by kernel_rfl
def gFew (xs : List SV) (m : Mem) : Option (Bool × Value) :=
  match xs, m with
  | [.row 0], ⟨[], [], [.live ⟨24, [.num .i64, .num .i64], L, own, mark⟩]⟩ => some (true, Bo (decide ((L.length : Int) ≤ 12)))
  | _, _ => none
theorem gFew_ok : ∀ xs m r, gFew xs m = some (true, r) → CallOk Try.prog 16 xs m (.v r) m := by
  intro xs m r h
  unfold gFew at h
  split at h
  · rename_i L own mark
    obtain ⟨h1, rfl⟩ := some_t h
    refine runOk (Λ := L0) OkBd2 Try.func16 rfl (fun z _ _ => l0Ok' _ z) ?_
    refine (runFew L own mark).trans ?_
    rfl
  · cases h
noncomputable def ΓBd3 : Orc := addRd 16 gFew ΓBd2
theorem OkBd3 : ΓBd3.Ok Try.prog := addRd_ok OkBd2 gFew_ok
noncomputable def ΓBd : Orc := ΓBd3
theorem OkBd : ΓBd.Ok Try.prog := OkBd3
end Go.Proofs.Ytcjkkfhdnealpaa

namespace Go.Proofs.Ytcjkkfhdnealpaa
open Go Go.Proofs Go.Sx
set_option linter.unusedVariables false
/-! norm -/
/-! cast -/

/-! rep ((L.getD ((wI (k + (1 : Int))).tmod (L.length : Int)).toNat []).headD (Dat.n (0 : Int))).toI => (pX L (nx L k)) -/
/-! rep ((L.getD ((wI (k + (1 : Int))).tmod (L.length : Int)).toNat []).tail.headD (Dat.n (0 : Int))).toI => (pY L (nx L k)) -/
/-! rep (wI (k + (1 : Int))).tmod (L.length : Int) => nx L k -/
/-! rep (((L.getD k.toNat []).headD (Dat.n (0 : Int))).toI) => (pX L k) -/
/-! rep (((L.getD k.toNat []).tail.headD (Dat.n (0 : Int))).toI) => (pY L k) -/
/-! rep ((L.getD k.toNat []).headD (Dat.n (0 : Int))).toI => (pX L k) -/
/-! rep ((L.getD k.toNat []).tail.headD (Dat.n (0 : Int))).toI => (pY L k) -/

end Go.Proofs.Ytcjkkfhdnealpaa

namespace Go.Proofs.Ytcjkkfhdnealpaa
open Go Go.Proofs Go.Sx
set_option linter.unusedVariables false
end Go.Proofs.Ytcjkkfhdnealpaa

namespace Go.Proofs.Ytcjkkfhdnealpaa
open Go Go.Proofs Go.Sx
set_option linter.unusedVariables false
end Go.Proofs.Ytcjkkfhdnealpaa

namespace Go.Proofs.Ytcjkkfhdnealpaa
open Go Go.Proofs Go.Sx
set_option linter.unusedVariables false
/-! norm -/
/-! cast -/
/-- A number of 128 bits with much room above and below it. -/
def smW (a b : Int) : Bool := inW a b && decide (-1267650600228229401496703205376 ≤ wv a b ∧ wv a b ≤ 1267650600228229401496703205376)
set_option maxRecDepth 20000 in
theorem runWSub (a b c d : Int) : runG ΓBd L0 Try.prog Try.f69 [.v (Wd a b), .v (Wd c d)] M0 = 
    (bif decide ((0 : Int) ≤ b ∧ (0 : Int) ≤ d ∧ d < (18446744073709551616 : Int) ∧ (0 : Int) ≤ (0 : Int) ∧ (0 : Int) ≤ (1 : Int)) then (bif decide ((0 : Int) ≤ IntKind.u64.wrap a ∧ (0 : Int) ≤ IntKind.u64.wrap c ∧ IntKind.u64.wrap c < (18446744073709551616 : Int) ∧ (0 : Int) ≤ subC3 b d (0 : Int) ∧ subC3 b d (0 : Int) ≤ (1 : Int)) then (bif !decide (a < (0 : Int)) == decide (c < (0 : Int)) then (bif !decide (wI (subS3 (IntKind.u64.wrap a) (IntKind.u64.wrap c) (subC3 b d (0 : Int))) < (0 : Int)) == decide (a < (0 : Int)) then some (.v (.tuple #[(.agg #[(I 0), (.int .u64 0)]), (Bo false)]), M0) else some (.v (.tuple #[(.agg #[(I (wI (subS3 (IntKind.u64.wrap a) (IntKind.u64.wrap c) (subC3 b d (0 : Int))))), (.int .u64 (subS3 b d (0 : Int)))]), (Bo true)]), M0)) else some (.v (.tuple #[(.agg #[(I (wI (subS3 (IntKind.u64.wrap a) (IntKind.u64.wrap c) (subC3 b d (0 : Int))))), (.int .u64 (subS3 b d (0 : Int)))]), (Bo true)]), M0)) else none) else none) := by kernel_rfl
set_option maxRecDepth 20000 in
theorem runWSign (a b : Int) : runG ΓBd L0 Try.prog Try.f70 [.v (Wd a b)] M0 = 
    (bif inW a b && true then some (.v (I (cmpI (wv a b) (0 : Int))), M0) else none) := by kernel_rfl
set_option maxRecDepth 20000 in
theorem runRAdd (a b c d : Int) : runG ΓBd L0 Try.prog Try.f71 [.v (Wd a b), .v (Wd c d)] M0 = 
    (bif inU b && inU d then (bif decide (a < (0 : Int)) == decide (c < (0 : Int)) then (bif !decide (pHi (wv a b + wv c d) < (0 : Int)) == decide (a < (0 : Int)) then some (.v (.tuple #[(.agg #[(I 0), (.int .u64 0)]), (Bo false)]), M0) else some (.v (.tuple #[(.agg #[(I (pHi (wv a b + wv c d))), (.int .u64 (pLo (wv a b + wv c d)))]), (Bo true)]), M0)) else some (.v (.tuple #[(.agg #[(I (pHi (wv a b + wv c d))), (.int .u64 (pLo (wv a b + wv c d)))]), (Bo true)]), M0)) else none) := by kernel_rfl
set_option maxRecDepth 20000 in
theorem runRSub (a b c d : Int) : runG ΓBd L0 Try.prog Try.f73 [.v (Wd a b), .v (Wd c d)] M0 = 
    (bif inU d then (bif inU b && inU (pLo (-wv c d)) then (bif !decide (a < (0 : Int)) == decide (c < (0 : Int)) then (bif !decide (pHi (wv a b + wv (pHi (-wv c d)) (pLo (-wv c d))) < (0 : Int)) == decide (a < (0 : Int)) then some (.v (.tuple #[(.agg #[(I 0), (.int .u64 0)]), (Bo false)]), M0) else some (.v (.tuple #[(.agg #[(I (pHi (wv a b + wv (pHi (-wv c d)) (pLo (-wv c d))))), (.int .u64 (pLo (wv a b + wv (pHi (-wv c d)) (pLo (-wv c d)))))]), (Bo true)]), M0)) else some (.v (.tuple #[(.agg #[(I (pHi (wv a b + wv (pHi (-wv c d)) (pLo (-wv c d))))), (.int .u64 (pLo (wv a b + wv (pHi (-wv c d)) (pLo (-wv c d)))))]), (Bo true)]), M0)) else none) else none) := by kernel_rfl
theorem smW_iff {a b : Int} : smW a b = true ↔ inW a b = true ∧ -1267650600228229401496703205376 ≤ wv a b ∧ wv a b ≤ 1267650600228229401496703205376 := by
  unfold smW
  rw [Bool.and_eq_true, decide_eq_true_eq]
theorem wI_mod {m : Int} (h1 : -9223372036854775808 ≤ m) (h2 : m < 9223372036854775808) : wI (m % 18446744073709551616) = m := by
  have e : wI (m % 18446744073709551616) = wr true .i64 (m % 18446744073709551616) := (wr_eq true .i64 _).symm
  rw [e]
  simp only [wr]
  split
  · rename_i h
    have := of_decide_eq_true h
    omega
  · rename_i h
    have := of_decide_eq_false h
    omega
theorem ok_small {n : Int} (h1 : -2535301200456458802993406410752 ≤ n) (h2 : n ≤ 2535301200456458802993406410752) : okW n = true ∧ hiW n = n / 18446744073709551616 ∧ loW n = n % 18446744073709551616 := okW_of (by omega) (by omega)
def gWSub (vs : List Value) : Option (Bool × Value) :=
  match vs with
  | [.agg ⟨[.int .i64 a, .int .u64 b]⟩, .agg ⟨[.int .i64 c, .int .u64 d]⟩] => some (smW a b && smW c d, .tuple #[Wd (hiW (wv a b - wv c d)) (loW (wv a b - wv c d)), Bo true])
  | _ => none
theorem gWSub_ok : ∀ vs r, gWSub vs = some (true, r) → ∀ m, CallOk Try.prog 69 (vs.map .v) m (.v r) m := by
  intro vs r h
  unfold gWSub at h
  split at h
  · rename_i a b c d
    obtain ⟨h1, rfl⟩ := some_t h
    refine runV (vs := [Wd a b, Wd c d]) (Λ := L0) (m' := M0) OkBd Try.func69 rfl (fun z _ _ => l0Ok' _ z) ?_
    refine (runWSub a b c d).trans ?_
    rw [Bool.and_eq_true, smW_iff, smW_iff, inW_iff, inW_iff] at h1
    obtain ⟨⟨⟨⟨a1, a2⟩, b1, b2⟩, x1, x2⟩, ⟨⟨c1, c2⟩, d1, d2⟩, y1, y2⟩ := h1
    unfold wv at x1 x2 y1 y2 ⊢
    obtain ⟨e1, e2, e3⟩ := ok_small (n := a * 18446744073709551616 + b - (c * 18446744073709551616 + d)) (by omega) (by omega)
    have u1 : IntKind.u64.wrap a = a % 18446744073709551616 := wrU a
    have u2 : IntKind.u64.wrap c = c % 18446744073709551616 := wrU c
    have br : subC3 b d 0 = 0 ∧ d ≤ b ∨ subC3 b d 0 = 1 ∧ b < d := by
      unfold subC3
      by_cases q : b < d + 0
      · rw [decide_eq_true q]; right; exact ⟨rfl, by omega⟩
      · rw [decide_eq_false q]; left; exact ⟨rfl, by omega⟩
    have hi : wI (subS3 (IntKind.u64.wrap a) (IntKind.u64.wrap c) (subC3 b d 0)) = a - c - subC3 b d 0 := by
      unfold subS3
      rw [u1, u2, show (a % 18446744073709551616 - c % 18446744073709551616 - subC3 b d 0) % 18446744073709551616 = (a - c - subC3 b d 0) % 18446744073709551616 by omega]
      exact wI_mod (by omega) (by omega)
    have lo : subS3 b d 0 = (b - d) % 18446744073709551616 := by unfold subS3; rw [Int.sub_zero]
    have f1 : a - c - subC3 b d 0 = hiW (a * 18446744073709551616 + b - (c * 18446744073709551616 + d)) := by rw [e2]; omega
    have f2 : (b - d) % 18446744073709551616 = loW (a * 18446744073709551616 + b - (c * 18446744073709551616 + d)) := by rw [e3]; omega
    rw [decide_eq_true (show (0 : Int) ≤ b ∧ (0 : Int) ≤ d ∧ d < 18446744073709551616 ∧ (0 : Int) ≤ 0 ∧ (0 : Int) ≤ 1 by omega), decide_eq_true (show (0 : Int) ≤ IntKind.u64.wrap a ∧ (0 : Int) ≤ IntKind.u64.wrap c ∧ IntKind.u64.wrap c < 18446744073709551616 ∧ (0 : Int) ≤ subC3 b d 0 ∧ subC3 b d 0 ≤ 1 by omega), hi, lo, f1, f2]
    simp only [cond_true]
    by_cases s1 : a < 0 <;> by_cases s2 : c < 0
    · rw [decide_eq_true s1, decide_eq_true s2]; rfl
    · rw [decide_eq_true s1, decide_eq_false s2, decide_eq_true (show hiW (a * 18446744073709551616 + b - (c * 18446744073709551616 + d)) < 0 by omega)]; rfl
    · rw [decide_eq_false s1, decide_eq_true s2, decide_eq_false (show ¬ hiW (a * 18446744073709551616 + b - (c * 18446744073709551616 + d)) < 0 by omega)]; rfl
    · rw [decide_eq_false s1, decide_eq_false s2]; rfl
  · cases h
noncomputable def ΓLf1 : Orc := addVal 69 gWSub ΓBd
theorem OkLf1 : ΓLf1.Ok Try.prog := addVal_ok OkBd gWSub_ok
def gWSign (vs : List Value) : Option (Bool × Value) :=
  match vs with
  | [.agg ⟨[.int .i64 a, .int .u64 b]⟩] => some (inW a b, I (cmpI (wv a b) 0))
  | _ => none
theorem gWSign_ok : ∀ vs r, gWSign vs = some (true, r) → ∀ m, CallOk Try.prog 70 (vs.map .v) m (.v r) m := by
  intro vs r h
  unfold gWSign at h
  split at h
  · rename_i a b
    obtain ⟨h1, rfl⟩ := some_t h
    refine runV (vs := [Wd a b]) (Λ := L0) (m' := M0) OkBd Try.func70 rfl (fun z _ _ => l0Ok' _ z) ?_
    exact (runWSign a b).trans (by rw [h1]; rfl)
  · cases h
noncomputable def ΓLf2 : Orc := addVal 70 gWSign ΓLf1
theorem OkLf2 : ΓLf2.Ok Try.prog := addVal_ok OkLf1 gWSign_ok
def gRAdd (vs : List Value) : Option (Bool × Value) :=
  match vs with
  | [.agg ⟨[.int .i64 a, .int .u64 b]⟩, .agg ⟨[.int .i64 c, .int .u64 d]⟩] => some (smW a b && smW c d, .tuple #[Wd (hiW (wv a b + wv c d)) (loW (wv a b + wv c d)), Bo true])
  | _ => none
theorem gRAdd_ok : ∀ vs r, gRAdd vs = some (true, r) → ∀ m, CallOk Try.prog 71 (vs.map .v) m (.v r) m := by
  intro vs r h
  unfold gRAdd at h
  split at h
  · rename_i a b c d
    obtain ⟨h1, rfl⟩ := some_t h
    refine runV (vs := [Wd a b, Wd c d]) (Λ := L0) (m' := M0) OkBd Try.func71 rfl (fun z _ _ => l0Ok' _ z) ?_
    refine (runRAdd a b c d).trans ?_
    rw [Bool.and_eq_true, smW_iff, smW_iff, inW_iff, inW_iff] at h1
    obtain ⟨⟨⟨⟨a1, a2⟩, b1, b2⟩, x1, x2⟩, ⟨⟨c1, c2⟩, d1, d2⟩, y1, y2⟩ := h1
    obtain ⟨e1, e2, e3⟩ := ok_small (n := wv a b + wv c d) (by omega) (by omega)
    obtain ⟨p1, p2⟩ := p_ok e1
    rw [p1, p2, inU_iff.2 ⟨b1, b2⟩, inU_iff.2 ⟨d1, d2⟩]
    simp only [Bool.and_self, cond_true]
    have w1 : wv a b = a * 18446744073709551616 + b := rfl
    have w2 : wv c d = c * 18446744073709551616 + d := rfl
    by_cases s1 : a < 0 <;> by_cases s2 : c < 0
    · rw [decide_eq_true s1, decide_eq_true s2, decide_eq_true (show hiW (wv a b + wv c d) < 0 by omega)]; rfl
    · rw [decide_eq_true s1, decide_eq_false s2]; rfl
    · rw [decide_eq_false s1, decide_eq_true s2]; rfl
    · rw [decide_eq_false s1, decide_eq_false s2, decide_eq_false (show ¬ hiW (wv a b + wv c d) < 0 by omega)]; rfl
  · cases h
noncomputable def ΓLf3 : Orc := addVal 71 gRAdd ΓLf2
theorem OkLf3 : ΓLf3.Ok Try.prog := addVal_ok OkLf2 gRAdd_ok
theorem gRSub_ok : ∀ vs r, gWSub vs = some (true, r) → ∀ m, CallOk Try.prog 73 (vs.map .v) m (.v r) m := by
  intro vs r h
  unfold gWSub at h
  split at h
  · rename_i a b c d
    obtain ⟨h1, rfl⟩ := some_t h
    refine runV (vs := [Wd a b, Wd c d]) (Λ := L0) (m' := M0) OkBd Try.func73 rfl (fun z _ _ => l0Ok' _ z) ?_
    refine (runRSub a b c d).trans ?_
    rw [Bool.and_eq_true, smW_iff, smW_iff, inW_iff, inW_iff] at h1
    obtain ⟨⟨⟨⟨a1, a2⟩, b1, b2⟩, x1, x2⟩, ⟨⟨c1, c2⟩, d1, d2⟩, y1, y2⟩ := h1
    obtain ⟨q1, q2, q3⟩ := ok_small (n := -wv c d) (by omega) (by omega)
    obtain ⟨r1, r2⟩ := p_ok q1
    obtain ⟨v1, v2⟩ := wv_Wn q1
    rw [inW_iff] at v2
    rw [r1, r2, v1, ← Int.sub_eq_add_neg]
    obtain ⟨e1, e2, e3⟩ := ok_small (n := wv a b - wv c d) (by omega) (by omega)
    obtain ⟨p1, p2⟩ := p_ok e1
    rw [p1, p2, inU_iff.2 ⟨b1, b2⟩, inU_iff.2 ⟨d1, d2⟩, inU_iff.2 v2.2]
    simp only [Bool.and_self, cond_true]
    have w1 : wv a b = a * 18446744073709551616 + b := rfl
    have w2 : wv c d = c * 18446744073709551616 + d := rfl
    by_cases s1 : a < 0 <;> by_cases s2 : c < 0
    · rw [decide_eq_true s1, decide_eq_true s2]; rfl
    · rw [decide_eq_true s1, decide_eq_false s2, decide_eq_true (show hiW (wv a b - wv c d) < 0 by omega)]; rfl
    · rw [decide_eq_false s1, decide_eq_true s2, decide_eq_false (show ¬ hiW (wv a b - wv c d) < 0 by omega)]; rfl
    · rw [decide_eq_false s1, decide_eq_false s2]; rfl
  · cases h
noncomputable def ΓLf0 : Orc := addVal 73 gWSub ΓLf3
theorem OkLf0 : ΓLf0.Ok Try.prog := addVal_ok OkLf3 gRSub_ok
end Go.Proofs.Ytcjkkfhdnealpaa

namespace Go.Proofs.Ytcjkkfhdnealpaa
open Go Go.Proofs Go.Sx
set_option linter.unusedVariables false
/-! norm -/
/-! cast -/

/-! rep ((L.getD ((wI (k + (1 : Int))).tmod (L.length : Int)).toNat []).headD (Dat.n (0 : Int))).toI => (pX L (nx L k)) -/
/-! rep ((L.getD ((wI (k + (1 : Int))).tmod (L.length : Int)).toNat []).tail.headD (Dat.n (0 : Int))).toI => (pY L (nx L k)) -/
/-! rep (wI (k + (1 : Int))).tmod (L.length : Int) => nx L k -/
/-! rep (((L.getD k.toNat []).headD (Dat.n (0 : Int))).toI) => (pX L k) -/
/-! rep (((L.getD k.toNat []).tail.headD (Dat.n (0 : Int))).toI) => (pY L k) -/
/-! rep ((L.getD k.toNat []).headD (Dat.n (0 : Int))).toI => (pX L k) -/
/-! rep ((L.getD k.toNat []).tail.headD (Dat.n (0 : Int))).toI => (pY L k) -/

noncomputable def bdLf : Code := loopAt (Try.f25.body.getD .skip) 0
def kLf : List Bool := maskOf 49 [0,3,4]
def xLf (e : Ex) : List Bool := match e with
  | .exit _ => maskOf 49 [3]
  | .ret => maskOf 49 [2]
  | .normal => maskOf 49 [0,3,4]
def KLf (e : Ex) (st : St) : Option (Ex × St) := some (e, cutC 0 1 (xLf e) st)
set_option maxRecDepth 20000 in
theorem stepLf (L : List (List Dat)) (own : Bool) (mark : Bool) (a : Int) (b : Int) (k : Int) (n : Nat) : evLoop ΓLf0 Try.prog L0 (cutC 0 1 kLf) bdLf (n + 1) (mk kLf [.row 0, .ptr 0 0, .v (I k)] ⟨[[.v (I a), .v (UU b)]], [true], [rP L own mark]⟩) KLf =
    (bif decide (k < (L.length : Int)) then (bif atG L k then (bif decide ((0 : Int) ≤ k) && decide (k < (L.length : Int)) then (bif inI (pX L k) && inI (pY L (nx L k)) then (bif smW a b && smW (pHi ((pX L k) * pY L (nx L k))) (pLo ((pX L k) * pY L (nx L k))) then (same ((bif decide ((0 : Int) ≤ k) && decide (k < (L.length : Int)) then (bif inI (pY L k) && inI (pX L (nx L k)) then (bif smW (hiW (wv a b + wv (pHi ((pX L k) * pY L (nx L k))) (pLo ((pX L k) * pY L (nx L k))))) (loW (wv a b + wv (pHi ((pX L k) * pY L (nx L k))) (pLo ((pX L k) * pY L (nx L k))))) && smW (pHi ((pY L k) * pX L (nx L k))) (pLo ((pY L k) * pX L (nx L k))) then (same (evLoop ΓLf0 Try.prog L0 (cutC 0 1 kLf) bdLf n (mk kLf [.row 0, .ptr 0 0, .v (I (wI (k + (1 : Int))))] ⟨[[.v (I (hiW (wv (hiW (wv a b + wv (pHi ((pX L k) * pY L (nx L k))) (pLo ((pX L k) * pY L (nx L k))))) (loW (wv a b + wv (pHi ((pX L k) * pY L (nx L k))) (pLo ((pX L k) * pY L (nx L k))))) - wv (pHi ((pY L k) * pX L (nx L k))) (pLo ((pY L k) * pX L (nx L k)))))), .v (.int .u64 (loW (wv (hiW (wv a b + wv (pHi ((pX L k) * pY L (nx L k))) (pLo ((pX L k) * pY L (nx L k))))) (loW (wv a b + wv (pHi ((pX L k) * pY L (nx L k))) (pLo ((pX L k) * pY L (nx L k))))) - wv (pHi ((pY L k) * pX L (nx L k))) (pLo ((pY L k) * pX L (nx L k))))))]], [true], [.live ⟨24, [.num .i64, .num .i64], L, own, mark⟩]⟩) KLf) (evLoop ΓLf0 Try.prog L0 (cutC 0 1 kLf) bdLf n (mk kLf [.row 0, .ptr 0 0, .v (I (wI (k + (1 : Int))))] ⟨[[.v (I (hiW (wv (hiW (wv a b + wv (pHi ((pX L k) * pY L (nx L k))) (pLo ((pX L k) * pY L (nx L k))))) (loW (wv a b + wv (pHi ((pX L k) * pY L (nx L k))) (pLo ((pX L k) * pY L (nx L k))))) - wv (pHi ((pY L k) * pX L (nx L k))) (pLo ((pY L k) * pX L (nx L k)))))), .v (.int .u64 (loW (wv (hiW (wv a b + wv (pHi ((pX L k) * pY L (nx L k))) (pLo ((pX L k) * pY L (nx L k))))) (loW (wv a b + wv (pHi ((pX L k) * pY L (nx L k))) (pLo ((pX L k) * pY L (nx L k))))) - wv (pHi ((pY L k) * pX L (nx L k))) (pLo ((pY L k) * pX L (nx L k))))))]], [true], [.live ⟨24, [.num .i64, .num .i64], L, own, mark⟩]⟩) KLf)) else none) else none) else none)) ((bif decide ((0 : Int) ≤ k) && decide (k < (L.length : Int)) then (bif inI (pY L k) && inI (pX L (nx L k)) then (bif smW (hiW (wv a b + wv (pHi ((pX L k) * pY L (nx L k))) (pLo ((pX L k) * pY L (nx L k))))) (loW (wv a b + wv (pHi ((pX L k) * pY L (nx L k))) (pLo ((pX L k) * pY L (nx L k))))) && smW (pHi ((pY L k) * pX L (nx L k))) (pLo ((pY L k) * pX L (nx L k))) then (same (evLoop ΓLf0 Try.prog L0 (cutC 0 1 kLf) bdLf n (mk kLf [.row 0, .ptr 0 0, .v (I (wI (k + (1 : Int))))] ⟨[[.v (I (hiW (wv (hiW (wv a b + wv (pHi ((pX L k) * pY L (nx L k))) (pLo ((pX L k) * pY L (nx L k))))) (loW (wv a b + wv (pHi ((pX L k) * pY L (nx L k))) (pLo ((pX L k) * pY L (nx L k))))) - wv (pHi ((pY L k) * pX L (nx L k))) (pLo ((pY L k) * pX L (nx L k)))))), .v (.int .u64 (loW (wv (hiW (wv a b + wv (pHi ((pX L k) * pY L (nx L k))) (pLo ((pX L k) * pY L (nx L k))))) (loW (wv a b + wv (pHi ((pX L k) * pY L (nx L k))) (pLo ((pX L k) * pY L (nx L k))))) - wv (pHi ((pY L k) * pX L (nx L k))) (pLo ((pY L k) * pX L (nx L k))))))]], [true], [.live ⟨24, [.num .i64, .num .i64], L, own, mark⟩]⟩) KLf) (evLoop ΓLf0 Try.prog L0 (cutC 0 1 kLf) bdLf n (mk kLf [.row 0, .ptr 0 0, .v (I (wI (k + (1 : Int))))] ⟨[[.v (I (hiW (wv (hiW (wv a b + wv (pHi ((pX L k) * pY L (nx L k))) (pLo ((pX L k) * pY L (nx L k))))) (loW (wv a b + wv (pHi ((pX L k) * pY L (nx L k))) (pLo ((pX L k) * pY L (nx L k))))) - wv (pHi ((pY L k) * pX L (nx L k))) (pLo ((pY L k) * pX L (nx L k)))))), .v (.int .u64 (loW (wv (hiW (wv a b + wv (pHi ((pX L k) * pY L (nx L k))) (pLo ((pX L k) * pY L (nx L k))))) (loW (wv a b + wv (pHi ((pX L k) * pY L (nx L k))) (pLo ((pX L k) * pY L (nx L k))))) - wv (pHi ((pY L k) * pX L (nx L k))) (pLo ((pY L k) * pX L (nx L k))))))]], [true], [.live ⟨24, [.num .i64, .num .i64], L, own, mark⟩]⟩) KLf)) else none) else none) else none))) else none) else none) else none) else none) else some ((.exit 0), mk (xLf (.exit 0)) [.ptr 0 0] ⟨[[.v (I a), .v (.int .u64 b)]], [true], [.live ⟨24, [.num .i64, .num .i64], L, own, mark⟩]⟩)) := by kernel_rfl
noncomputable def ELf (n : Nat) (L : List (List Dat)) (own : Bool) (mark : Bool) (a : Int) (b : Int) (k : Int) : Option (Ex × St) :=
  evLoop ΓLf0 Try.prog L0 (cutC 0 1 kLf) bdLf n (mk kLf [.row 0, .ptr 0 0, .v (I k)] ⟨[[.v (I a), .v (UU b)]], [true], [rP L own mark]⟩) KLf
noncomputable def bdLg : Code := loopAt (Try.f24.body.getD .skip) 0
def kLg : List Bool := maskOf 46 [0,3,12,13]
def xLg (e : Ex) : List Bool := match e with
  | .exit _ => maskOf 46 [3]
  | .ret => maskOf 46 [2]
  | .normal => maskOf 46 [0,3,12,13]
def KLg (e : Ex) (st : St) : Option (Ex × St) := some (e, cutC 0 1 (xLg e) st)
set_option maxRecDepth 20000 in
theorem stepLg (L : List (List Dat)) (own : Bool) (mark : Bool) (a : Int) (b : Int) (nn : Int) (k : Int) (n : Nat) : evLoop ΓLf0 Try.prog L0 (cutC 0 1 kLg) bdLg (n + 1) (mk kLg [.row 0, .ptr 0 0, .v (I nn), .v (I k)] ⟨[[.v (I a), .v (UU b)]], [true], [rP L own mark]⟩) KLg =
    (bif decide (k < nn) then (bif atG L k then (bif inI (pX L k) && inI (pY L (nx L k)) then (bif inW a b && inW (hiW (pX L k * pY L (nx L k))) (loW (pX L k * pY L (nx L k))) then (same ((bif inI (pY L k) && inI (pX L (nx L k)) then (bif smW (hiW (wv a b + wv (hiW (pX L k * pY L (nx L k))) (loW (pX L k * pY L (nx L k))))) (loW (wv a b + wv (hiW (pX L k * pY L (nx L k))) (loW (pX L k * pY L (nx L k))))) && smW (hiW (pY L k * pX L (nx L k))) (loW (pY L k * pX L (nx L k))) then (same (evLoop ΓLf0 Try.prog L0 (cutC 0 1 kLg) bdLg n (mk kLg [.row 0, .ptr 0 0, .v (I nn), .v (I (wI (k + (1 : Int))))] ⟨[[.v (I (hiW (wv (hiW (wv a b + wv (hiW (pX L k * pY L (nx L k))) (loW (pX L k * pY L (nx L k))))) (loW (wv a b + wv (hiW (pX L k * pY L (nx L k))) (loW (pX L k * pY L (nx L k))))) - wv (hiW (pY L k * pX L (nx L k))) (loW (pY L k * pX L (nx L k)))))), .v (.int .u64 (loW (wv (hiW (wv a b + wv (hiW (pX L k * pY L (nx L k))) (loW (pX L k * pY L (nx L k))))) (loW (wv a b + wv (hiW (pX L k * pY L (nx L k))) (loW (pX L k * pY L (nx L k))))) - wv (hiW (pY L k * pX L (nx L k))) (loW (pY L k * pX L (nx L k))))))]], [true], [.live ⟨24, [.num .i64, .num .i64], L, own, mark⟩]⟩) KLg) (evLoop ΓLf0 Try.prog L0 (cutC 0 1 kLg) bdLg n (mk kLg [.row 0, .ptr 0 0, .v (I nn), .v (I (wI (k + (1 : Int))))] ⟨[[.v (I (hiW (wv (hiW (wv a b + wv (hiW (pX L k * pY L (nx L k))) (loW (pX L k * pY L (nx L k))))) (loW (wv a b + wv (hiW (pX L k * pY L (nx L k))) (loW (pX L k * pY L (nx L k))))) - wv (hiW (pY L k * pX L (nx L k))) (loW (pY L k * pX L (nx L k)))))), .v (.int .u64 (loW (wv (hiW (wv a b + wv (hiW (pX L k * pY L (nx L k))) (loW (pX L k * pY L (nx L k))))) (loW (wv a b + wv (hiW (pX L k * pY L (nx L k))) (loW (pX L k * pY L (nx L k))))) - wv (hiW (pY L k * pX L (nx L k))) (loW (pY L k * pX L (nx L k))))))]], [true], [.live ⟨24, [.num .i64, .num .i64], L, own, mark⟩]⟩) KLg)) else none) else none)) ((bif inI (pY L k) && inI (pX L (nx L k)) then (bif smW (hiW (wv a b + wv (hiW (pX L k * pY L (nx L k))) (loW (pX L k * pY L (nx L k))))) (loW (wv a b + wv (hiW (pX L k * pY L (nx L k))) (loW (pX L k * pY L (nx L k))))) && smW (hiW (pY L k * pX L (nx L k))) (loW (pY L k * pX L (nx L k))) then (same (evLoop ΓLf0 Try.prog L0 (cutC 0 1 kLg) bdLg n (mk kLg [.row 0, .ptr 0 0, .v (I nn), .v (I (wI (k + (1 : Int))))] ⟨[[.v (I (hiW (wv (hiW (wv a b + wv (hiW (pX L k * pY L (nx L k))) (loW (pX L k * pY L (nx L k))))) (loW (wv a b + wv (hiW (pX L k * pY L (nx L k))) (loW (pX L k * pY L (nx L k))))) - wv (hiW (pY L k * pX L (nx L k))) (loW (pY L k * pX L (nx L k)))))), .v (.int .u64 (loW (wv (hiW (wv a b + wv (hiW (pX L k * pY L (nx L k))) (loW (pX L k * pY L (nx L k))))) (loW (wv a b + wv (hiW (pX L k * pY L (nx L k))) (loW (pX L k * pY L (nx L k))))) - wv (hiW (pY L k * pX L (nx L k))) (loW (pY L k * pX L (nx L k))))))]], [true], [.live ⟨24, [.num .i64, .num .i64], L, own, mark⟩]⟩) KLg) (evLoop ΓLf0 Try.prog L0 (cutC 0 1 kLg) bdLg n (mk kLg [.row 0, .ptr 0 0, .v (I nn), .v (I (wI (k + (1 : Int))))] ⟨[[.v (I (hiW (wv (hiW (wv a b + wv (hiW (pX L k * pY L (nx L k))) (loW (pX L k * pY L (nx L k))))) (loW (wv a b + wv (hiW (pX L k * pY L (nx L k))) (loW (pX L k * pY L (nx L k))))) - wv (hiW (pY L k * pX L (nx L k))) (loW (pY L k * pX L (nx L k)))))), .v (.int .u64 (loW (wv (hiW (wv a b + wv (hiW (pX L k * pY L (nx L k))) (loW (pX L k * pY L (nx L k))))) (loW (wv a b + wv (hiW (pX L k * pY L (nx L k))) (loW (pX L k * pY L (nx L k))))) - wv (hiW (pY L k * pX L (nx L k))) (loW (pY L k * pX L (nx L k))))))]], [true], [.live ⟨24, [.num .i64, .num .i64], L, own, mark⟩]⟩) KLg)) else none) else none))) else none) else none) else none) else some ((.exit 0), mk (xLg (.exit 0)) [.ptr 0 0] ⟨[[.v (I a), .v (.int .u64 b)]], [true], [.live ⟨24, [.num .i64, .num .i64], L, own, mark⟩]⟩)) := by kernel_rfl
noncomputable def ELg (n : Nat) (L : List (List Dat)) (own : Bool) (mark : Bool) (a : Int) (b : Int) (nn : Int) (k : Int) : Option (Ex × St) :=
  evLoop ΓLf0 Try.prog L0 (cutC 0 1 kLg) bdLg n (mk kLg [.row 0, .ptr 0 0, .v (I nn), .v (I k)] ⟨[[.v (I a), .v (UU b)]], [true], [rP L own mark]⟩) KLg
theorem prod_bd {u v : Int} (h1 : -1073741824 ≤ u) (h2 : u ≤ 1073741824) (h3 : -1073741824 ≤ v) (h4 : v ≤ 1073741824) : -1152921504606846976 ≤ u * v ∧ u * v ≤ 1152921504606846976 := by
  have a1 := mul_nn (show 0 ≤ 1073741824 - u by omega) (show 0 ≤ 1073741824 + v by omega)
  have a2 := mul_nn (show 0 ≤ 1073741824 + u by omega) (show 0 ≤ 1073741824 - v by omega)
  have a3 := mul_nn (show 0 ≤ 1073741824 - u by omega) (show 0 ≤ 1073741824 - v by omega)
  have a4 := mul_nn (show 0 ≤ 1073741824 + u by omega) (show 0 ≤ 1073741824 + v by omega)
  have e1 : (1073741824 - u) * (1073741824 + v) = 1152921504606846976 + 1073741824 * v - 1073741824 * u - u * v := by grind
  have e2 : (1073741824 + u) * (1073741824 - v) = 1152921504606846976 - 1073741824 * v + 1073741824 * u - u * v := by grind
  have e3 : (1073741824 - u) * (1073741824 - v) = 1152921504606846976 - 1073741824 * v - 1073741824 * u + u * v := by grind
  have e4 : (1073741824 + u) * (1073741824 + v) = 1152921504606846976 + 1073741824 * v + 1073741824 * u + u * v := by grind
  omega
theorem sm_of {n : Int} (h1 : -1267650600228229401496703205376 ≤ n) (h2 : n ≤ 1267650600228229401496703205376) : okW n = true ∧ wv (hiW n) (loW n) = n ∧ smW (hiW n) (loW n) = true ∧ inW (hiW n) (loW n) = true := by
  obtain ⟨e1, _, _⟩ := ok_small (n := n) (by omega) (by omega)
  obtain ⟨v1, v2⟩ := wv_Wn e1
  exact ⟨e1, v1, smW_iff.2 ⟨v2, by omega, by omega⟩, v2⟩
def arS (L : List (List Dat)) (k s : Int) : Int := s + pX L k * pY L (nx L k) - pY L k * pX L (nx L k)
/-- Twice the area. -/
def area2 (L : List (List Dat)) : Int := foF (arS L) L.length 0 0
def arI (k s : Int) : Prop := -(k * 4611686018427387904) ≤ s ∧ s ≤ k * 4611686018427387904
theorem ar_bd {L : List (List Dat)} (h : IsArea L) {k : Int} (k0 : 0 ≤ k) (k1 : k < (L.length : Int)) : (-1152921504606846976 ≤ pX L k * pY L (nx L k) ∧ pX L k * pY L (nx L k) ≤ 1152921504606846976) ∧ (-1152921504606846976 ≤ pY L k * pX L (nx L k) ∧ pY L k * pX L (nx L k) ≤ 1152921504606846976) := by
  have n := nx_lt h k0 k1
  have a := h.near k k0 k1
  have b := h.near _ n.1 n.2
  exact ⟨prod_bd (by omega) (by omega) (by omega) (by omega), prod_bd (by omega) (by omega) (by omega) (by omega)⟩
theorem ar_step {L : List (List Dat)} (h : IsArea L) {k s : Int} (k0 : 0 ≤ k) (k1 : k < (L.length : Int)) (hi : arI k s) : arI (k + 1) (arS L k s) := by
  obtain ⟨b1, b2⟩ := ar_bd h k0 k1
  unfold arI arS at *
  omega
theorem in_near {n : Int} (h1 : -1073741824 ≤ n) (h2 : n ≤ 1073741824) : inI n = true := inI_iff.2 (by omega)
theorem loopLf (L : List (List Dat)) (own mark : Bool) (ha : areaB L = true) : ELf (L.length + 1) L own mark 0 0 0 = some (.exit 0, mk (xLf (.exit 0)) [.ptr 0 0] ⟨[[.v (I (hiW (area2 L))), .v (UU (loW (area2 L)))]], [true], [rP L own mark]⟩) := by
  have h := isArea ha
  have l1 := h.lo
  have l2 := h.hi
  refine foldAll (arS L) arI (L.length : Int) (fun n k s => ELf n L own mark (hiW s) (loW s) k) (fun s => some (.exit 0, mk (xLf (.exit 0)) [.ptr 0 0] ⟨[[.v (I (hiW s)), .v (UU (loW s))]], [true], [rP L own mark]⟩)) (fun n k s hk _ => ?_) (fun k s hk hi => ar_step h hk.1 hk.2 hi) (fun n k s hk hi => ?_) L.length 0 0 (by omega) (by omega) (by unfold arI; omega)
  · refine (stepLf L own mark (hiW s) (loW s) k n).trans ?_
    rw [decide_eq_false hk]
    rfl
  · refine (stepLf L own mark (hiW s) (loW s) k n).trans ?_
    have n1 := nx_lt h hk.1 hk.2
    have na := h.near k hk.1 hk.2
    have nb := h.near _ n1.1 n1.2
    obtain ⟨b1, b2⟩ := ar_bd h hk.1 hk.2
    unfold arI at hi
    have at1 : atG L k = true := atG_iff.2 (by omega)
    obtain ⟨s1, s2, s3, s4⟩ := sm_of (n := s) (by omega) (by omega)
    obtain ⟨x1, x2, x3, x4⟩ := sm_of (n := pX L k * pY L (nx L k)) (by omega) (by omega)
    obtain ⟨y1, y2, y3, y4⟩ := sm_of (n := pY L k * pX L (nx L k)) (by omega) (by omega)
    obtain ⟨t1, t2, t3, t4⟩ := sm_of (n := s + pX L k * pY L (nx L k)) (by omega) (by omega)
    have i1 := in_near (n := pX L k) (by omega) (by omega)
    have i2 := in_near (n := pY L k) (by omega) (by omega)
    have i3 := in_near (n := pX L (nx L k)) (by omega) (by omega)
    have i4 := in_near (n := pY L (nx L k)) (by omega) (by omega)
    obtain ⟨p1, p2⟩ := p_ok x1
    obtain ⟨p3, p4⟩ := p_ok y1
    rw [p1, p2, p3, p4]
    simp only [same_self, decide_eq_true hk.2, at1, i1, i2, i3, i4, decide_eq_true hk.1, s3, x3, y3, s2, x2, y2, t2, t3, Bool.and_self, cond_true, wI_id (n := k + 1) (show -9223372036854775808 ≤ k + 1 ∧ k + 1 < 9223372036854775808 by omega)]
    rfl
theorem loopLg (L : List (List Dat)) (own mark : Bool) (ha : areaB L = true) : ELg (L.length + 1) L own mark 0 0 (L.length : Int) 0 = some (.exit 0, mk (xLg (.exit 0)) [.ptr 0 0] ⟨[[.v (I (hiW (area2 L))), .v (UU (loW (area2 L)))]], [true], [rP L own mark]⟩) := by
  have h := isArea ha
  have l1 := h.lo
  have l2 := h.hi
  refine foldAll (arS L) arI (L.length : Int) (fun n k s => ELg n L own mark (hiW s) (loW s) (L.length : Int) k) (fun s => some (.exit 0, mk (xLg (.exit 0)) [.ptr 0 0] ⟨[[.v (I (hiW s)), .v (UU (loW s))]], [true], [rP L own mark]⟩)) (fun n k s hk _ => ?_) (fun k s hk hi => ar_step h hk.1 hk.2 hi) (fun n k s hk hi => ?_) L.length 0 0 (by omega) (by omega) (by unfold arI; omega)
  · refine (stepLg L own mark (hiW s) (loW s) (L.length : Int) k n).trans ?_
    rw [decide_eq_false hk]
    rfl
  · refine (stepLg L own mark (hiW s) (loW s) (L.length : Int) k n).trans ?_
    have n1 := nx_lt h hk.1 hk.2
    have na := h.near k hk.1 hk.2
    have nb := h.near _ n1.1 n1.2
    obtain ⟨b1, b2⟩ := ar_bd h hk.1 hk.2
    unfold arI at hi
    have at1 : atG L k = true := atG_iff.2 (by omega)
    obtain ⟨s1, s2, s3, s4⟩ := sm_of (n := s) (by omega) (by omega)
    obtain ⟨x1, x2, x3, x4⟩ := sm_of (n := pX L k * pY L (nx L k)) (by omega) (by omega)
    obtain ⟨y1, y2, y3, y4⟩ := sm_of (n := pY L k * pX L (nx L k)) (by omega) (by omega)
    obtain ⟨t1, t2, t3, t4⟩ := sm_of (n := s + pX L k * pY L (nx L k)) (by omega) (by omega)
    have i1 := in_near (n := pX L k) (by omega) (by omega)
    have i2 := in_near (n := pY L k) (by omega) (by omega)
    have i3 := in_near (n := pX L (nx L k)) (by omega) (by omega)
    have i4 := in_near (n := pY L (nx L k)) (by omega) (by omega)
    simp only [same_self, decide_eq_true hk.2, at1, i1, i2, i3, i4, s4, x4, y3, s2, x2, y2, t2, t3, Bool.and_self, cond_true, wI_id (n := k + 1) (show -9223372036854775808 ≤ k + 1 ∧ k + 1 < 9223372036854775808 by omega)]
    rfl
def leftB (L : List (List Dat)) : Bool := areaB L && decide (0 < area2 L)
theorem ar2_in {L : List (List Dat)} (ha : areaB L = true) : inW (hiW (area2 L)) (loW (area2 L)) = true ∧ wv (hiW (area2 L)) (loW (area2 L)) = area2 L := by
  have h := isArea ha
  have := foF_inv (f := arS L) (N := (L.length : Int)) (I := arI) (fun k s hk hi => ar_step h hk.1 hk.2 hi) L.length 0 0 (by omega) (by omega) (by unfold arI; omega)
  have l2 := h.hi
  rw [show (0 : Int) + (L.length : Int) = (L.length : Int) by omega] at this
  have t1 := this.1
  have t2 := this.2
  obtain ⟨_, e2, _, e4⟩ := sm_of (n := area2 L) (by unfold area2; omega) (by unfold area2; omega)
  exact ⟨e4, e2⟩
def GLf (vals : List SV) (m : Mem) : Option (Bool × LT) :=
  match vals, m with
  | [.row 0, .ptr 0 0, .v (.int .i64 k)], ⟨[[.v (.int .i64 a), .v (.int .u64 b)]], [true], [.live ⟨24, [.num .i64, .num .i64], L, own, mark⟩]⟩ => some (k == 0 && (a == 0 && (b == 0 && areaB L)), .leaf (.exit 0) (mk (xLf (.exit 0)) [.ptr 0 0] ⟨[[.v (I (hiW (area2 L))), .v (UU (loW (area2 L)))]], [true], [rP L own mark]⟩))
  | _, _ => none
noncomputable def ΛLf : LoopOrc := fun _ st => viaT 0 1 kLf GLf st
theorem loopOkLf (z : Base) (z1 : z.L.length = 0) (z2 : z.U.length = 1) : LoopOk ΛLf Try.prog z bdLf := by
  refine loop_okT (Λ := L0) (kx := xLf) OkLf0 mixed z1 z2 (fun b hb st t h => by cases h) (G := GLf) (fun _ => rfl) ?_
  intro vals m t h
  unfold GLf at h
  split at h
  · rename_i k a b L own mark
    obtain ⟨h1, rfl⟩ := some_t h
    simp only [Bool.and_eq_true, beq_iff_eq] at h1
    obtain ⟨rfl, rfl, rfl, ha⟩ := h1
    exact ⟨_, loopLf L own mark ha⟩
  · cases h
theorem loopsLf : loopsOf (Try.f25.body.getD .skip) = [bdLf] := by kernel_rfl
set_option maxRecDepth 20000 in
theorem runRlf (L : List (List Dat)) (own : Bool) (mark : Bool) : runG ΓLf0 ΛLf Try.prog Try.f25 [.row 0] ⟨[], [], [rP L own mark]⟩ = 
    (bif L.length.ble (1000000) then (bif !areaR L then some (.v (Bo false), ⟨[], [], [.live ⟨24, [.num .i64, .num .i64], L, own, mark⟩]⟩) else (bif true && (true && (true && areaB L)) then (bif inW (hiW (area2 L)) (loW (area2 L)) && true then some (.v (Bo (decide (cmpI (wv (hiW (area2 L)) (loW (area2 L))) (0 : Int) > (0 : Int)))), ⟨[], [], [.live ⟨24, [.num .i64, .num .i64], L, own, mark⟩]⟩) else none) else none)) else none) := by kernel_rfl
def gRlf (xs : List SV) (m : Mem) : Option (Bool × Value) :=
  match xs, m with
  | [.row 0], ⟨[], [], [.live ⟨24, [.num .i64, .num .i64], L, own, mark⟩]⟩ => some (Nat.ble L.length 1000000, Bo (leftB L))
  | _, _ => none
theorem gRlf_ok : ∀ xs m r, gRlf xs m = some (true, r) → CallOk Try.prog 25 xs m (.v r) m := by
  intro xs m r h
  unfold gRlf at h
  split at h
  · rename_i L own mark
    obtain ⟨h1, rfl⟩ := some_t h
    refine runOk (Λ := ΛLf) OkLf0 Try.func25 rfl (fun z z1 z2 => oneLoop loopsLf (loopOkLf z z1 z2)) ?_
    refine (runRlf L own mark).trans ?_
    rw [h1]
    unfold leftB
    cases ha : areaB L
    · simp only [area_eq, ha, Bool.not_false, cond_true, Bool.false_and]
    · obtain ⟨e1, e2⟩ := ar2_in ha
      simp only [area_eq, ha, e1, e2, Bool.not_true, cond_false, cond_true, Bool.and_self, Bool.true_and]
      by_cases q : 0 < area2 L
      · rw [decide_eq_true q, decide_eq_true (cmpI_pos.2 q)]
      · rw [decide_eq_false q, decide_eq_false (fun x => q (cmpI_pos.1 x))]
  · cases h
noncomputable def ΓLf4 : Orc := addRd 25 gRlf ΓLf0
theorem OkLf4 : ΓLf4.Ok Try.prog := addRd_ok OkLf0 gRlf_ok
def GLg (vals : List SV) (m : Mem) : Option (Bool × LT) :=
  match vals, m with
  | [.row 0, .ptr 0 0, .v (.int .i64 nn), .v (.int .i64 k)], ⟨[[.v (.int .i64 a), .v (.int .u64 b)]], [true], [.live ⟨24, [.num .i64, .num .i64], L, own, mark⟩]⟩ => some (nn == (L.length : Int) && (k == 0 && (a == 0 && (b == 0 && areaB L))), .leaf (.exit 0) (mk (xLg (.exit 0)) [.ptr 0 0] ⟨[[.v (I (hiW (area2 L))), .v (UU (loW (area2 L)))]], [true], [rP L own mark]⟩))
  | _, _ => none
noncomputable def ΛLg : LoopOrc := fun _ st => viaT 0 1 kLg GLg st
theorem loopOkLg (z : Base) (z1 : z.L.length = 0) (z2 : z.U.length = 1) : LoopOk ΛLg Try.prog z bdLg := by
  refine loop_okT (Λ := L0) (kx := xLg) OkLf0 mixed z1 z2 (fun b hb st t h => by cases h) (G := GLg) (fun _ => rfl) ?_
  intro vals m t h
  unfold GLg at h
  split at h
  · rename_i nn k a b L own mark
    obtain ⟨h1, rfl⟩ := some_t h
    simp only [Bool.and_eq_true, beq_iff_eq] at h1
    obtain ⟨rfl, rfl, rfl, rfl, ha⟩ := h1
    exact ⟨_, loopLg L own mark ha⟩
  · cases h
theorem loopsLg : loopsOf (Try.f24.body.getD .skip) = [bdLg] := by kernel_rfl
set_option maxRecDepth 20000 in
theorem runPlf (L : List (List Dat)) (own : Bool) (mark : Bool) : runG ΓLf4 ΛLg Try.prog Try.f24 [.row 0] ⟨[], [], [rP L own mark]⟩ = 
    (bif L.length.ble (1000000) then (bif !areaB L then some (.v (Bo false), ⟨[], [], [.live ⟨24, [.num .i64, .num .i64], L, own, mark⟩]⟩) else (bif (L.length : Int) == (L.length : Int) && (true && (true && (true && areaB L))) then (bif inW (hiW (area2 L)) (loW (area2 L)) then some (.v (Bo (decide (cmpI (wv (hiW (area2 L)) (loW (area2 L))) (0 : Int) > (0 : Int)))), ⟨[], [], [.live ⟨24, [.num .i64, .num .i64], L, own, mark⟩]⟩) else none) else none)) else none) := by kernel_rfl
def gPlf (xs : List SV) (m : Mem) : Option (Bool × Value) :=
  match xs, m with
  | [.row 0], ⟨[], [], [.live ⟨24, [.num .i64, .num .i64], L, own, mark⟩]⟩ => some (Nat.ble L.length 1000000, Bo (leftB L))
  | _, _ => none
theorem gPlf_ok : ∀ xs m r, gPlf xs m = some (true, r) → CallOk Try.prog 24 xs m (.v r) m := by
  intro xs m r h
  unfold gPlf at h
  split at h
  · rename_i L own mark
    obtain ⟨h1, rfl⟩ := some_t h
    refine runOk (Λ := ΛLg) OkLf4 Try.func24 rfl (fun z z1 z2 => oneLoop loopsLg (loopOkLg z z1 z2)) ?_
    refine (runPlf L own mark).trans ?_
    rw [h1]
    unfold leftB
    cases ha : areaB L
    · simp only [Bool.not_false, cond_true, Bool.false_and]
    · obtain ⟨e1, e2⟩ := ar2_in ha
      simp only [e1, e2, Bool.not_true, cond_false, cond_true, beq_self_eq_true, Bool.and_self, Bool.true_and]
      by_cases q : 0 < area2 L
      · rw [decide_eq_true q, decide_eq_true (cmpI_pos.2 q)]
      · rw [decide_eq_false q, decide_eq_false (fun x => q (cmpI_pos.1 x))]
  · cases h
noncomputable def ΓLf : Orc := addRd 24 gPlf ΓLf4
theorem OkLf : ΓLf.Ok Try.prog := addRd_ok OkLf4 gPlf_ok
end Go.Proofs.Ytcjkkfhdnealpaa

namespace Go.Proofs.Ytcjkkfhdnealpaa
open Go Go.Proofs Go.Sx
set_option linter.unusedVariables false
/-! norm -/
/-! cast -/

/-! repp ((L.getD ((wI ((L.length : Int) - k)).tmod (L.length : Int)).toNat []).headD (Dat.n (0 : Int))).toI ==> (pX L (pv L k)) -/
/-! repp ((L.getD ((wI ((L.length : Int) - k)).tmod (L.length : Int)).toNat []).tail.headD (Dat.n (0 : Int))).toI ==> (pY L (pv L k)) -/
/-! repp (wI ((L.length : Int) - k)).tmod (L.length : Int) ==> pv L k -/
/-! repp (List.brecOn.go (motive := fun x => List (List Dat) → List (List Dat)) L2 List.append._f).1 [[Dat.n (pX L (pv L k)), Dat.n (pY L (pv L k))]] ==> (L2 ++ [ptD L (pv L k)]) -/
/-! repp L2.length + [[Dat.n (pX L (pv L k)), Dat.n (pY L (pv L k))]].length ==> L2.length + 1 -/
/-! repp (bif moveB ((L.getD k.toNat []).headD (Dat.n (0 : Int))).toI ((L.getD k.toNat []).tail.headD (Dat.n (0 : Int))).toI x y then ((L.getD k.toNat []).headD (Dat.n (0 : Int))).toI + x else (0 : Int)) ==> (mvX L k x y) -/
/-! repp (bif moveB ((L.getD k.toNat []).headD (Dat.n (0 : Int))).toI ((L.getD k.toNat []).tail.headD (Dat.n (0 : Int))).toI x y then ((L.getD k.toNat []).tail.headD (Dat.n (0 : Int))).toI + y else (0 : Int)) ==> (mvY L k x y) -/
/-! repp (bif moveB (((L.getD k.toNat []).headD (Dat.n (0 : Int))).toI) (((L.getD k.toNat []).tail.headD (Dat.n (0 : Int))).toI) x y then (((L.getD k.toNat []).headD (Dat.n (0 : Int))).toI) + x else (0 : Int)) ==> (mvX L k x y) -/
/-! repp (bif moveB (((L.getD k.toNat []).headD (Dat.n (0 : Int))).toI) (((L.getD k.toNat []).tail.headD (Dat.n (0 : Int))).toI) x y then (((L.getD k.toNat []).tail.headD (Dat.n (0 : Int))).toI) + y else (0 : Int)) ==> (mvY L k x y) -/
/-! repp (List.brecOn.go (motive := fun x => List (List Dat) → List (List Dat)) L2 List.append._f).1 [[Dat.n (mvX L k x y), Dat.n (mvY L k x y)]] ==> (L2 ++ [[Dat.n (mvX L k x y), Dat.n (mvY L k x y)]]) -/
/-! repp Dat.n (mvX L k x y), Dat.n (mvY L k x y)]].length ==> Dat.n (mvX L k x y), Dat.n (mvY L k x y)]].length -/

/-! rep (((L.getD k.toNat []).headD (Dat.n (0 : Int))).toI) => (pX L k) -/
/-! rep (((L.getD k.toNat []).tail.headD (Dat.n (0 : Int))).toI) => (pY L k) -/
/-! rep ((L.getD k.toNat []).headD (Dat.n (0 : Int))).toI => (pX L k) -/
/-! rep ((L.getD k.toNat []).tail.headD (Dat.n (0 : Int))).toI => (pY L k) -/

def pv (L : List (List Dat)) (k : Int) : Int := (wI ((L.length : Int) - k)).tmod (L.length : Int)
def mvX (L : List (List Dat)) (k x y : Int) : Int := bif moveB (pX L k) (pY L k) x y then pX L k + x else 0
def mvY (L : List (List Dat)) (k x y : Int) : Int := bif moveB (pX L k) (pY L k) x y then pY L k + y else 0
noncomputable def bdBk : Code := loopAt (Try.f28.body.getD .skip) 0
def kBk : List Bool := maskOf 25 [0,3,4]
def xBk (e : Ex) : List Bool := match e with
  | .exit _ => maskOf 25 [3]
  | .ret => maskOf 25 [2]
  | .normal => maskOf 25 [0,3,4]
def KBk (e : Ex) (st : St) : Option (Ex × St) := some (e, cutC 0 1 (xBk e) st)
set_option maxRecDepth 20000 in
theorem stepBk (L : List (List Dat)) (own : Bool) (mark : Bool) (L2 : List (List Dat)) (k : Int) (n : Nat) : evLoop ΓLf Try.prog L0 (cutC 0 1 kBk) bdBk (n + 1) (mk kBk [.row 0, .row 1, .v (I k)] ⟨[], [], [rP L own mark, rP L2 true false]⟩) KBk =
    (bif decide (k < (L.length : Int)) then (bif (L.length : Int) == (0 : Int) then none else (bif decide ((0 : Int) ≤ pv L k) && decide (pv L k < (L.length : Int)) then (bif decide ((L2.length + 1) * (16 : Nat) ≤ (140737488355328 : Nat) ∧ L2.length + 1 ≤ (9223372036854775807 : Nat)) then evLoop ΓLf Try.prog L0 (cutC 0 1 kBk) bdBk n (mk kBk [.row 0, .row 1, .v (I (wI (k + (1 : Int))))] ⟨[], [], [.live ⟨24, [.num .i64, .num .i64], L, own, mark⟩, .live ⟨24, [.num .i64, .num .i64], (L2 ++ [ptD L (pv L k)]), true, false⟩]⟩) KBk else none) else none)) else some ((.exit 0), mk (xBk (.exit 0)) [.row 1] ⟨[], [], [.live ⟨24, [.num .i64, .num .i64], L, own, mark⟩, .live ⟨24, [.num .i64, .num .i64], L2, true, false⟩]⟩)) := by kernel_rfl
noncomputable def EBk (n : Nat) (L : List (List Dat)) (own : Bool) (mark : Bool) (L2 : List (List Dat)) (k : Int) : Option (Ex × St) :=
  evLoop ΓLf Try.prog L0 (cutC 0 1 kBk) bdBk n (mk kBk [.row 0, .row 1, .v (I k)] ⟨[], [], [rP L own mark, rP L2 true false]⟩) KBk
noncomputable def bdMv : Code := loopAt (Try.f30.body.getD .skip) 0
def kMv : List Bool := maskOf 40 [1,2,8,16,17,18]
def xMv (e : Ex) : List Bool := match e with
  | .exit _ => maskOf 40 [8]
  | .ret => maskOf 40 [6,7]
  | .normal => maskOf 40 [1,2,8,16,17,18]
def KMv (e : Ex) (st : St) : Option (Ex × St) := some (e, cutC 0 1 (xMv e) st)
set_option maxRecDepth 20000 in
theorem stepMv (L : List (List Dat)) (own : Bool) (mark : Bool) (L2 : List (List Dat)) (x : Int) (y : Int) (nn : Int) (k : Int) (n : Nat) : evLoop ΓLf Try.prog L0 (cutC 0 1 kMv) bdMv (n + 1) (mk kMv [.v (I x), .v (I y), .row 1, .row 0, .v (I nn), .v (I k)] ⟨[], [], [rP L own mark, rP L2 true false]⟩) KMv =
    (bif decide (k < nn) then (bif decide ((0 : Int) ≤ k) && decide (k < (L.length : Int)) then (bif inI (pX L k) && (inI (pY L k) && (inI x && inI y)) then (bif !moveB (pX L k) (pY L k) x y then some (.ret, mk (xMv .ret) [.row 1, .v (Bo false)] ⟨[], [], [.live ⟨24, [.num .i64, .num .i64], L, own, mark⟩, .live ⟨24, [.num .i64, .num .i64], [], true, false⟩]⟩) else (bif decide ((L2.length + [[Dat.n (mvX L k x y), Dat.n (mvY L k x y)]].length) * (16 : Nat) ≤ (140737488355328 : Nat) ∧ L2.length + [[Dat.n (mvX L k x y), Dat.n (mvY L k x y)]].length ≤ (9223372036854775807 : Nat)) then evLoop ΓLf Try.prog L0 (cutC 0 1 kMv) bdMv n (mk kMv [.v (I x), .v (I y), .row 1, .row 0, .v (I nn), .v (I (wI (k + (1 : Int))))] ⟨[], [], [.live ⟨24, [.num .i64, .num .i64], L, own, mark⟩, .live ⟨24, [.num .i64, .num .i64], (L2 ++ [[Dat.n (mvX L k x y), Dat.n (mvY L k x y)]]), true, false⟩]⟩) KMv else none)) else none) else none) else some ((.exit 0), mk (xMv (.exit 0)) [.row 1] ⟨[], [], [.live ⟨24, [.num .i64, .num .i64], L, own, mark⟩, .live ⟨24, [.num .i64, .num .i64], L2, true, false⟩]⟩)) := by kernel_rfl
noncomputable def EMv (n : Nat) (L : List (List Dat)) (own : Bool) (mark : Bool) (L2 : List (List Dat)) (x : Int) (y : Int) (nn : Int) (k : Int) : Option (Ex × St) :=
  evLoop ΓLf Try.prog L0 (cutC 0 1 kMv) bdMv n (mk kMv [.v (I x), .v (I y), .row 1, .row 0, .v (I nn), .v (I k)] ⟨[], [], [rP L own mark, rP L2 true false]⟩) KMv
theorem pv_val {L : List (List Dat)} {k : Int} (k0 : 0 ≤ k) (k1 : k < (L.length : Int)) (hl : L.length ≤ 1000000) : pv L k = if k = 0 then 0 else (L.length : Int) - k := by
  unfold pv
  rw [wI_id (by omega), Int.tmod_eq_emod_of_nonneg (by omega)]
  split
  · rename_i e; rw [e, Int.sub_zero, Int.emod_self]
  · exact Int.emod_eq_of_lt (by omega) (by omega)
def outL (L : List (List Dat)) : List (List Dat) := foF (fun k s => s ++ [ptD L (pv L k)]) L.length 0 []
theorem loopBk (L : List (List Dat)) (own mark : Bool) (hl : L.length ≤ 1000000) : EBk (L.length + 1) L own mark [] 0 = some (.exit 0, mk (xBk (.exit 0)) [.row 1] ⟨[], [], [rP L own mark, rP (outL L) true false]⟩) := by
  refine foldAll (fun k s => s ++ [ptD L (pv L k)]) (fun k s => (s.length : Int) = k) (L.length : Int) (fun n k s => EBk n L own mark s k) (fun s => some (.exit 0, mk (xBk (.exit 0)) [.row 1] ⟨[], [], [rP L own mark, rP s true false]⟩)) (fun n k s hk _ => ?_) (fun k s hk hi => by rw [List.length_append]; simp only [List.length_singleton]; omega) (fun n k s hk hi => ?_) L.length 0 [] (by omega) (by omega) rfl
  · refine (stepBk L own mark s k n).trans ?_
    rw [decide_eq_false hk]
    rfl
  · refine (stepBk L own mark s k n).trans ?_
    have e := pv_val hk.1 hk.2 hl
    have e1 : 0 ≤ pv L k ∧ pv L k < (L.length : Int) := by rw [e]; split <;> omega
    rw [decide_eq_true hk.2, beq_eq_false_iff_ne.2 (show (L.length : Int) ≠ 0 by omega), decide_eq_true e1.1, decide_eq_true e1.2, decide_eq_true (show (s.length + 1) * 16 ≤ 140737488355328 ∧ s.length + 1 ≤ 9223372036854775807 by omega), wI_id (n := k + 1) (by omega)]
    rfl
def GBk (vals : List SV) (m : Mem) : Option (Bool × LT) :=
  match vals, m with
  | [.row 0, .row 1, .v (.int .i64 k)], ⟨[], [], [.live ⟨24, [.num .i64, .num .i64], L, own, mark⟩, .live ⟨24, [.num .i64, .num .i64], [], true, false⟩]⟩ => some (k == 0 && Nat.ble L.length 1000000, .leaf (.exit 0) (mk (xBk (.exit 0)) [.row 1] ⟨[], [], [rP L own mark, rP (outL L) true false]⟩))
  | _, _ => none
noncomputable def ΛBk : LoopOrc := fun _ st => viaT 0 1 kBk GBk st
theorem loopOkBk (z : Base) (z1 : z.L.length = 0) (z2 : z.U.length = 1) : LoopOk ΛBk Try.prog z bdBk := by
  refine loop_okT (Λ := L0) (kx := xBk) OkLf mixed z1 z2 (fun b hb st t h => by cases h) (G := GBk) (fun _ => rfl) ?_
  intro vals m t h
  unfold GBk at h
  split at h
  · rename_i k L own mark
    obtain ⟨h1, rfl⟩ := some_t h
    simp only [Bool.and_eq_true, beq_iff_eq] at h1
    obtain ⟨rfl, hl⟩ := h1
    exact ⟨_, loopBk L own mark (Nat.le_of_ble_eq_true hl)⟩
  · cases h
theorem loopsBk : loopsOf (Try.f28.body.getD .skip) = [bdBk] := by kernel_rfl
/-! repp (Nat.brecOn.go (motive := fun x => Int → List (List Dat) → List (List Dat)) L.length (foF._f fun k s => s ++ [ptD L (pv L k)])).1 (0 : Int) [] ==> (outL L) -/
set_option maxRecDepth 20000 in
theorem runRBk (L : List (List Dat)) (own : Bool) (mark : Bool) : runG ΓLf ΛBk Try.prog Try.f28 [.row 0] ⟨[], [], [rP L own mark]⟩ = bif true && Nat.ble L.length 1000000 then some (.row 1, ⟨[], [], [rP L own mark, rP (outL L) true false]⟩) else none := by kernel_rfl
def gRBk (xs : List SV) (m : Mem) : Option (Bool × SV × Mem) :=
  match xs, m with
  | [.row 0], ⟨[], [], [.live ⟨24, [.num .i64, .num .i64], L, own, mark⟩]⟩ => some (Nat.ble L.length 1000000, .row 1, ⟨[], [], [rP L own mark, rP (outL L) true false]⟩)
  | _, _ => none
theorem gRBk_ok : ∀ xs m r m', gRBk xs m = some (true, r, m') → CallOk Try.prog 28 xs m r m' := by
  intro xs m r m' h
  unfold gRBk at h
  split at h
  · rename_i L own mark
    obtain ⟨h1, rfl, rfl⟩ := some_t2 h
    refine runOk (Λ := ΛBk) OkLf Try.func28 rfl (fun z z1 z2 => oneLoop loopsBk (loopOkBk z z1 z2)) ?_
    refine (runRBk L own mark).trans ?_
    rw [h1]
    rfl
  · cases h
noncomputable def ΓMv1 : Orc := addCl 28 gRBk ΓLf
theorem OkMv1 : ΓMv1.Ok Try.prog := addCl_ok OkLf gRBk_ok
def mvN (L : List (List Dat)) (x y k : Int) : Bool := !moveB (pX L k) (pY L k) x y
/-- Moved. -/
def mvL (L : List (List Dat)) (x y : Int) : List (List Dat) := foF (fun k s => s ++ [[.n (mvX L k x y), .n (mvY L k x y)]]) L.length 0 []
def lfMv (L : List (List Dat)) (own mark : Bool) (x y : Int) : LT := .br (anyN (mvN L x y) L.length 0) (.leaf .ret (mk (xMv .ret) [.row 1, .v (Bo false)] ⟨[], [], [rP L own mark, rP [] true false]⟩)) (.leaf (.exit 0) (mk (xMv (.exit 0)) [.row 1] ⟨[], [], [rP L own mark, rP (mvL L x y) true false]⟩))
theorem loopMv (L : List (List Dat)) (own mark : Bool) (x y : Int) (ha : areaB L = true) (hx : inI x = true) (hy : inI y = true) : EMv (L.length + 1) L own mark [] x y (L.length : Int) 0 = some (lfMv L own mark x y).pick := by
  have h := isArea ha
  have l1 := h.lo
  have l2 := h.hi
  have q := foldFind (mvN L x y) (fun k s => s ++ [[.n (mvX L k x y), .n (mvY L k x y)]]) (fun k s => (s.length : Int) = k) (L.length : Int) (fun n k s => EMv n L own mark s x y (L.length : Int) k) (fun s => some (.exit 0, mk (xMv (.exit 0)) [.row 1] ⟨[], [], [rP L own mark, rP s true false]⟩)) (some (.ret, mk (xMv .ret) [.row 1, .v (Bo false)] ⟨[], [], [rP L own mark, rP [] true false]⟩)) (fun n k s hk _ => ?_) (fun k s hk hi => by rw [List.length_append]; simp only [List.length_singleton]; omega) (fun n k s hk hi => ?_) L.length 0 [] (by omega) (by omega) rfl
  · refine q.trans ?_
    unfold lfMv
    cases anyN (mvN L x y) L.length 0 <;> rfl
  · refine (stepMv L own mark s x y (L.length : Int) k n).trans ?_
    rw [decide_eq_false hk]
    rfl
  · refine (stepMv L own mark s x y (L.length : Int) k n).trans ?_
    have na := h.near k hk.1 hk.2
    rw [decide_eq_true hk.2, decide_eq_true hk.1, in_near (n := pX L k) (by omega) (by omega), in_near (n := pY L k) (by omega) (by omega), hx, hy, decide_eq_true (show (s.length + [[Dat.n (mvX L k x y), Dat.n (mvY L k x y)]].length) * 16 ≤ 140737488355328 ∧ s.length + [[Dat.n (mvX L k x y), Dat.n (mvY L k x y)]].length ≤ 9223372036854775807 by simp only [List.length_singleton]; omega), wI_id (n := k + 1) (by omega)]
    unfold mvN
    cases moveB (pX L k) (pY L k) x y <;> rfl
def GMv (vals : List SV) (m : Mem) : Option (Bool × LT) :=
  match vals, m with
  | [.v (.int .i64 x), .v (.int .i64 y), .row 1, .row 0, .v (.int .i64 nn), .v (.int .i64 k)], ⟨[], [], [.live ⟨24, [.num .i64, .num .i64], L, own, mark⟩, .live ⟨24, [.num .i64, .num .i64], [], true, false⟩]⟩ => some (nn == (L.length : Int) && (k == 0 && (areaB L && (inI x && inI y))), lfMv L own mark x y)
  | _, _ => none
noncomputable def ΛMv : LoopOrc := fun _ st => viaT 0 1 kMv GMv st
theorem loopOkMv (z : Base) (z1 : z.L.length = 0) (z2 : z.U.length = 1) : LoopOk ΛMv Try.prog z bdMv := by
  refine loop_okT (Λ := L0) (kx := xMv) OkLf mixed z1 z2 (fun b hb st t h => by cases h) (G := GMv) (fun _ => rfl) ?_
  intro vals m t h
  unfold GMv at h
  split at h
  · rename_i x y nn k L own mark
    obtain ⟨h1, rfl⟩ := some_t h
    simp only [Bool.and_eq_true, beq_iff_eq] at h1
    obtain ⟨rfl, rfl, ha, hx, hy⟩ := h1
    exact ⟨_, loopMv L own mark x y ha hx hy⟩
  · cases h
theorem loopsMv : loopsOf (Try.f30.body.getD .skip) = [bdMv] := by kernel_rfl
set_option maxRecDepth 20000 in
theorem runPMove (L : List (List Dat)) (own : Bool) (mark : Bool) (x y : Int) : runG ΓLf ΛMv Try.prog Try.f30 [.row 0, .v (I x), .v (I y)] ⟨[], [], [rP L own mark]⟩ =
    (bif Nat.ble L.length 1000000 then (bif !areaB L then some (.tup [.one (.row 1), .one (.v (Bo false))], ⟨[], [], [rP L own mark, rP [] true false]⟩) else (bif (L.length : Int) == (L.length : Int) && (true && (areaB L && (inI x && inI y))) then (bif anyN (mvN L x y) L.length 0 then some (.tup [.one (.row 1), .one (.v (Bo false))], ⟨[], [], [rP L own mark, rP [] true false]⟩) else (bif Nat.ble (mvL L x y).length 1000000 then (bif !areaB (mvL L x y) then some (.tup [.one (.row 1), .one (.v (Bo false))], ⟨[], [], [rP L own mark, rP [] true false]⟩) else some (.tup [.one (.row 1), .one (.v (Bo true))], ⟨[], [], [rP L own mark, rP (mvL L x y) true false]⟩)) else none)) else none)) else none) := by kernel_rfl
def moveR (L : List (List Dat)) (x y : Int) : Bool := areaB L && (!anyN (mvN L x y) L.length 0 && areaB (mvL L x y))
def moveL (L : List (List Dat)) (x y : Int) : List (List Dat) := bif moveR L x y then mvL L x y else []
theorem mvL_app (g : Int → List Dat) : ∀ (m : Nat) (k : Int) (s : List (List Dat)), foF (fun k s => s ++ [g k]) m k s = s ++ (List.range m).map fun (i : Nat) => g (k + (i : Int))
  | 0, _, s => by show s = s ++ []; rw [List.append_nil]
  | m + 1, k, s => by
    show foF (fun k s => s ++ [g k]) m (k + 1) (s ++ [g k]) = _
    rw [mvL_app g m (k + 1), List.range_succ_eq_map, List.map_cons, List.map_map, List.append_assoc]
    congr 1
    show g k :: _ = g (k + ((0 : Nat) : Int)) :: _
    rw [show k + ((0 : Nat) : Int) = k by omega]
    congr 1
    apply List.map_congr_left
    intro i _
    show g (k + 1 + (i : Int)) = g (k + ((i + 1 : Nat) : Int))
    rw [show k + 1 + (i : Int) = k + ((i + 1 : Nat) : Int) by omega]
theorem app_len (g : Int → List Dat) (m : Nat) : (foF (fun k s => s ++ [g k]) m 0 []).length = m := by rw [mvL_app]; simp
def gMove2 (xs : List SV) (m : Mem) : Option (Bool × SV × Mem) :=
  match xs, m with
  | [.row 0, .v (.int .i64 x), .v (.int .i64 y)], ⟨[], [], [.live ⟨24, [.num .i64, .num .i64], L, own, mark⟩]⟩ => some (Nat.ble L.length 1000000 && (inI x && inI y), .tup [.one (.row 1), .one (.v (Bo (moveR L x y)))], ⟨[], [], [rP L own mark, rP (moveL L x y) true false]⟩)
  | _, _ => none
theorem gMove2_ok : ∀ xs m r m', gMove2 xs m = some (true, r, m') → CallOk Try.prog 30 xs m r m' := by
  intro xs m r m' h
  unfold gMove2 at h
  split at h
  · rename_i x y L own mark
    obtain ⟨h1, rfl, rfl⟩ := some_t2 h
    refine runOk (Λ := ΛMv) OkLf Try.func30 rfl (fun z z1 z2 => oneLoop loopsMv (loopOkMv z z1 z2)) ?_
    refine (runPMove L own mark x y).trans ?_
    rw [Bool.and_eq_true, Bool.and_eq_true] at h1
    have hm : Nat.ble (mvL L x y).length 1000000 = true := by unfold mvL; rw [app_len]; exact h1.1
    rw [h1.1, h1.2.1, h1.2.2, hm, beq_self_eq_true]
    unfold moveL moveR
    cases areaB L
    · rfl
    cases anyN (mvN L x y) L.length 0
    · cases areaB (mvL L x y) <;> rfl
    · rfl
  · cases h
noncomputable def ΓMv : Orc := addCl 30 gMove2 ΓMv1
theorem OkMv : ΓMv.Ok Try.prog := addCl_ok OkMv1 gMove2_ok
end Go.Proofs.Ytcjkkfhdnealpaa

namespace Go.Proofs.Ytcjkkfhdnealpaa
open Go Go.Proofs Go.Sx
set_option linter.unusedVariables false
/-! norm -/
/-! cast -/
end Go.Proofs.Ytcjkkfhdnealpaa

namespace Go.Proofs.Ytcjkkfhdnealpaa
open Go Go.Proofs Go.Sx
set_option linter.unusedVariables false
/-! norm -/
/-! cast -/
end Go.Proofs.Ytcjkkfhdnealpaa

namespace Go.Proofs.Ytcjkkfhdnealpaa
open Go Go.Proofs Go.Sx
set_option linter.unusedVariables false
theorem pX_of {L : List (List Dat)} {k : Int} {x y : Int} (h : L.getD k.toNat [] = [.n x, .n y]) : pX L k = x ∧ pY L k = y := by
  unfold pX pY
  rw [h]
  exact ⟨rfl, rfl⟩
theorem sw_get {L : List (List Dat)} {a b q : Int} (a0 : 0 ≤ a) (a1 : a < (L.length : Int)) (b0 : 0 ≤ b) (b1 : b < (L.length : Int)) (q0 : 0 ≤ q) :
    pX (swF L a b) q = (if q = b then pX L a else if q = a then pX L b else pX L q) ∧ pY (swF L a b) q = (if q = b then pY L a else if q = a then pY L b else pY L q) := by
  have g : (swF L a b).getD q.toNat [] = if q = b then ptD L a else if q = a then ptD L b else L.getD q.toNat [] := by
    unfold swF
    rw [List.getD_eq_getElem?_getD, List.getElem?_set]
    by_cases e1 : q = b
    · rw [if_pos (by omega), if_pos (by rw [List.length_set]; omega), if_pos e1]; rfl
    · rw [if_neg (by omega), if_neg e1, List.getElem?_set]
      by_cases e2 : q = a
      · rw [if_pos (by omega), if_pos (by omega), if_pos e2]; rfl
      · rw [if_neg (by omega), if_neg e2, List.getD_eq_getElem?_getD]
  by_cases e1 : q = b
  · rw [if_pos e1] at g; rw [if_pos e1, if_pos e1]; exact pX_of g
  · rw [if_neg e1] at g; rw [if_neg e1, if_neg e1]
    by_cases e2 : q = a
    · rw [if_pos e2] at g; rw [if_pos e2, if_pos e2]; exact pX_of g
    · rw [if_neg e2] at g; rw [if_neg e2, if_neg e2]
      unfold pX pY
      rw [g]
      exact ⟨rfl, rfl⟩
theorem rv_get {lo : Int} (l0 : 0 ≤ lo) : ∀ (m : Nat) (i j : Int) (L : List (List Dat)), 0 ≤ i → lo + j < (L.length : Int) → j - i ≤ m → ∀ q, 0 ≤ q → q < (L.length : Int) →
    pX (rvF lo m i j L) q = (if lo + i ≤ q ∧ q ≤ lo + j then pX L (2 * lo + i + j - q) else pX L q) ∧ pY (rvF lo m i j L) q = (if lo + i ≤ q ∧ q ≤ lo + j then pY L (2 * lo + i + j - q) else pY L q) := by
  have base : ∀ (i j : Int) (L : List (List Dat)), j ≤ i → ∀ q, pX L q = (if lo + i ≤ q ∧ q ≤ lo + j then pX L (2 * lo + i + j - q) else pX L q) ∧ pY L q = (if lo + i ≤ q ∧ q ≤ lo + j then pY L (2 * lo + i + j - q) else pY L q) := by
    intro i j L h q
    by_cases e : lo + i ≤ q ∧ q ≤ lo + j
    · rw [if_pos e, if_pos e, show 2 * lo + i + j - q = q by omega]; exact ⟨rfl, rfl⟩
    · rw [if_neg e, if_neg e]; exact ⟨rfl, rfl⟩
  intro m
  induction m with
  | zero => intro i j L h0 h1 h2 q q0 q1; exact base i j L (by omega) q
  | succ m ih =>
    intro i j L h0 h1 h2 q q0 q1
    unfold rvF
    by_cases hij : i < j
    · rw [decide_eq_true hij]
      simp only [cond_true]
      have hl : (swF L (lo + i) (lo + j)).length = L.length := swF_len _ _ _
      obtain ⟨e1, e2⟩ := ih (i + 1) (j - 1) (swF L (lo + i) (lo + j)) (by omega) (by rw [hl]; omega) (by omega) q q0 (by rw [hl]; exact q1)
      rw [e1, e2]
      have sw := fun r (r0 : 0 ≤ r) => sw_get (L := L) (a := lo + i) (b := lo + j) (by omega) (by omega) (by omega) (by omega) r0
      by_cases c1 : lo + (i + 1) ≤ q ∧ q ≤ lo + (j - 1)
      · rw [if_pos c1, if_pos c1, if_pos (by omega), if_pos (by omega), show 2 * lo + (i + 1) + (j - 1) - q = 2 * lo + i + j - q by omega]
        obtain ⟨f1, f2⟩ := sw (2 * lo + i + j - q) (by omega)
        rw [f1, f2, if_neg (by omega), if_neg (by omega), if_neg (by omega), if_neg (by omega)]
        exact ⟨rfl, rfl⟩
      · rw [if_neg c1, if_neg c1]
        obtain ⟨f1, f2⟩ := sw q q0
        rw [f1, f2]
        by_cases c2 : q = lo + j
        · rw [if_pos c2, if_pos c2, if_pos (by omega), if_pos (by omega), show 2 * lo + i + j - q = lo + i by omega]; exact ⟨rfl, rfl⟩
        · rw [if_neg c2, if_neg c2]
          by_cases c3 : q = lo + i
          · rw [if_pos c3, if_pos c3, if_pos (by omega), if_pos (by omega), show 2 * lo + i + j - q = lo + j by omega]; exact ⟨rfl, rfl⟩
          · rw [if_neg c3, if_neg c3, if_neg (by omega), if_neg (by omega)]; exact ⟨rfl, rfl⟩
    · rw [decide_eq_false hij]
      exact base i j L (by omega) q
theorem back_len (L : List (List Dat)) : (backL L).length = L.length := by
  unfold backL
  by_cases h : (L.length : Int) = 0
  · rw [beq_iff_eq.2 h]; show 0 = L.length; omega
  · rw [beq_eq_false_iff_ne.2 h]; exact rvF_len _ _ _ _ _
theorem back_get {L : List (List Dat)} {k : Int} (k0 : 0 ≤ k) (k1 : k < (L.length : Int)) (hl : L.length ≤ 1000000) : pX (backL L) k = pX L (pv L k) ∧ pY (backL L) k = pY L (pv L k) := by
  unfold backL
  rw [beq_eq_false_iff_ne.2 (show (L.length : Int) ≠ 0 by omega), pv_val k0 k1 hl]
  simp only [cond_false]
  unfold rvL
  obtain ⟨e1, e2⟩ := rv_get (lo := 1) (by omega) ((L.length : Int) - 1).toNat 0 ((L.length : Int) - 1 - 1) L (by omega) (by omega) (by omega) k k0 k1
  rw [e1, e2]
  by_cases e : k = 0
  · simp only [if_neg (show ¬ (1 + 0 ≤ k ∧ k ≤ 1 + ((L.length : Int) - 1 - 1)) by omega), if_pos e]
    rw [e]; exact ⟨rfl, rfl⟩
  · simp only [if_pos (show 1 + 0 ≤ k ∧ k ≤ 1 + ((L.length : Int) - 1 - 1) by omega), if_neg e]
    rw [show 2 * 1 + 0 + ((L.length : Int) - 1 - 1) - k = (L.length : Int) - k by omega]; exact ⟨rfl, rfl⟩
/-! Moved -/
theorem area_of {L : List (List Dat)} (h : IsArea L) : areaB L = true := by
  have h1 := h.lo
  have h2 := h.hi
  have e1 : anyN (pNpl L) L.length 0 = false := anyN_none.2 fun i i0 i1 => by unfold pNpl; rw [h.pl i i0 (by omega)]; rfl
  have e2 : anyN (pFar L) L.length 0 = false := anyN_none.2 fun i i0 i1 => by
    have := h.near i i0 (by omega)
    unfold pFar
    rw [fov_iff.2 (by omega), fov_iff.2 (by omega)]; rfl
  unfold areaB simB
  rw [anyF_eq, anyF_eq, e1, e2, decide_eq_false (show ¬ (L.length : Int) < 3 by omega), decide_eq_false (show ¬ (L.length : Int) > 8 by omega), (apB_iff L).2 h.apt]
  rfl
end Go.Proofs.Ytcjkkfhdnealpaa

