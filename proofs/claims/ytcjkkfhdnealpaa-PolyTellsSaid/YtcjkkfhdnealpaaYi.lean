/-
  What is known of this program: Move, and rows turned round; two laws of poly over values.
-/
import Derived.Test.YtcjkkfhdnealpaaYh
import Derived.Test.YtcjkkfhdnealpaaYe
namespace Go.Proofs.Ytcjkkfhdnealpaa
open Go Go.Proofs Go.Sx
set_option linter.unusedVariables false
/-! norm -/
/-! cast -/

/-! repp ((L.getD ((wI ((L.length : Int) - k)).tmod (L.length : Int)).toNat []).headD (Dat.n (0 : Int))).toI ==> (pX L (pv L k)) -/
/-! repp ((L.getD ((wI ((L.length : Int) - k)).tmod (L.length : Int)).toNat []).tail.headD (Dat.n (0 : Int))).toI ==> (pY L (pv L k)) -/
/-! repp (wI ((L.length : Int) - k)).tmod (L.length : Int) ==> pv L k -/
/-! repp (List.brecOn.go (motive := fun x => List (List Dat) → List (List Dat)) L2 List.append._f).1 [[Dat.n (pX L (pv L k)), Dat.n (pY L (pv L k))]] ==> (L2 ++ [ptD L (pv L k)]) -/
/-! repp L2.length + [[Dat.n (pX L (pv L k)), Dat.n (pY L (pv L k))]].length ==> L2.length + 1 -/
/-! repp (bif moveB ((L.getD k.toNat []).headD (Dat.n (0 : Int))).toI ((L.getD k.toNat []).tail.headD (Dat.n (0 : Int))).toI x y then ((L.getD k.toNat []).headD (Dat.n (0 : Int))).toI + x else (0 : Int)) ==> (mvX L k x y) -/
/-! repp (bif moveB ((L.getD k.toNat []).headD (Dat.n (0 : Int))).toI ((L.getD k.toNat []).tail.headD (Dat.n (0 : Int))).toI x y then ((L.getD k.toNat []).tail.headD (Dat.n (0 : Int))).toI + y else (0 : Int)) ==> (mvY L k x y) -/
/-! repp (bif moveB (((L.getD k.toNat []).headD (Dat.n (0 : Int))).toI) (((L.getD k.toNat []).tail.headD (Dat.n (0 : Int))).toI) x y then (((L.getD k.toNat []).headD (Dat.n (0 : Int))).toI) + x else (0 : Int)) ==> (mvX L k x y) -/
/-! repp (bif moveB (((L.getD k.toNat []).headD (Dat.n (0 : Int))).toI) (((L.getD k.toNat []).tail.headD (Dat.n (0 : Int))).toI) x y then (((L.getD k.toNat []).tail.headD (Dat.n (0 : Int))).toI) + y else (0 : Int)) ==> (mvY L k x y) -/
/-! repp (List.brecOn.go (motive := fun x => List (List Dat) → List (List Dat)) L2 List.append._f).1 [[Dat.n (mvX L k x y), Dat.n (mvY L k x y)]] ==> (L2 ++ [[Dat.n (mvX L k x y), Dat.n (mvY L k x y)]]) -/
/-! repp Dat.n (mvX L k x y), Dat.n (mvY L k x y)]].length ==> Dat.n (mvX L k x y), Dat.n (mvY L k x y)]].length -/

/-! rep (((L.getD k.toNat []).headD (Dat.n (0 : Int))).toI) => (pX L k) -/
/-! rep (((L.getD k.toNat []).tail.headD (Dat.n (0 : Int))).toI) => (pY L k) -/
/-! rep ((L.getD k.toNat []).headD (Dat.n (0 : Int))).toI => (pX L k) -/
/-! rep ((L.getD k.toNat []).tail.headD (Dat.n (0 : Int))).toI => (pY L k) -/

def pv (L : List (List Dat)) (k : Int) : Int := (wI ((L.length : Int) - k)).tmod (L.length : Int)
def mvX (L : List (List Dat)) (k x y : Int) : Int := bif moveB (pX L k) (pY L k) x y then pX L k + x else 0
def mvY (L : List (List Dat)) (k x y : Int) : Int := bif moveB (pX L k) (pY L k) x y then pY L k + y else 0
noncomputable def bdBk : Code := loopAt (Try.f28.body.getD .skip) 0
def kBk : List Bool := maskOf 25 [0,3,4]
def xBk (e : Ex) : List Bool := match e with
  | .exit _ => maskOf 25 [3]
  | .ret => maskOf 25 [2]
  | .normal => maskOf 25 [0,3,4]
def KBk (e : Ex) (st : St) : Option (Ex × St) := some (e, cutC 0 1 (xBk e) st)
set_option maxRecDepth 20000 in
theorem stepBk (L : List (List Dat)) (own : Bool) (mark : Bool) (L2 : List (List Dat)) (k : Int) (n : Nat) : evLoop ΓLf Try.prog L0 (cutC 0 1 kBk) bdBk (n + 1) (mk kBk [.row 0, .row 1, .v (I k)] ⟨[], [], [rP L own mark, rP L2 true false]⟩) KBk =
    (bif decide (k < (L.length : Int)) then (bif (L.length : Int) == (0 : Int) then none else (bif decide ((0 : Int) ≤ pv L k) && decide (pv L k < (L.length : Int)) then (bif decide ((L2.length + 1) * (16 : Nat) ≤ (140737488355328 : Nat) ∧ L2.length + 1 ≤ (9223372036854775807 : Nat)) then evLoop ΓLf Try.prog L0 (cutC 0 1 kBk) bdBk n (mk kBk [.row 0, .row 1, .v (I (wI (k + (1 : Int))))] ⟨[], [], [.live ⟨24, [.num .i64, .num .i64], L, own, mark⟩, .live ⟨24, [.num .i64, .num .i64], (L2 ++ [ptD L (pv L k)]), true, false⟩]⟩) KBk else none) else none)) else some ((.exit 0), mk (xBk (.exit 0)) [.row 1] ⟨[], [], [.live ⟨24, [.num .i64, .num .i64], L, own, mark⟩, .live ⟨24, [.num .i64, .num .i64], L2, true, false⟩]⟩)) := by kernel_rfl
noncomputable def EBk (n : Nat) (L : List (List Dat)) (own : Bool) (mark : Bool) (L2 : List (List Dat)) (k : Int) : Option (Ex × St) :=
  evLoop ΓLf Try.prog L0 (cutC 0 1 kBk) bdBk n (mk kBk [.row 0, .row 1, .v (I k)] ⟨[], [], [rP L own mark, rP L2 true false]⟩) KBk
noncomputable def bdMv : Code := loopAt (Try.f30.body.getD .skip) 0
def kMv : List Bool := maskOf 40 [1,2,8,16,17,18]
def xMv (e : Ex) : List Bool := match e with
  | .exit _ => maskOf 40 [8]
  | .ret => maskOf 40 [6,7]
  | .normal => maskOf 40 [1,2,8,16,17,18]
def KMv (e : Ex) (st : St) : Option (Ex × St) := some (e, cutC 0 1 (xMv e) st)
set_option maxRecDepth 20000 in
theorem stepMv (L : List (List Dat)) (own : Bool) (mark : Bool) (L2 : List (List Dat)) (x : Int) (y : Int) (nn : Int) (k : Int) (n : Nat) : evLoop ΓLf Try.prog L0 (cutC 0 1 kMv) bdMv (n + 1) (mk kMv [.v (I x), .v (I y), .row 1, .row 0, .v (I nn), .v (I k)] ⟨[], [], [rP L own mark, rP L2 true false]⟩) KMv =
    (bif decide (k < nn) then (bif decide ((0 : Int) ≤ k) && decide (k < (L.length : Int)) then (bif inI (pX L k) && (inI (pY L k) && (inI x && inI y)) then (bif !moveB (pX L k) (pY L k) x y then some (.ret, mk (xMv .ret) [.row 1, .v (Bo false)] ⟨[], [], [.live ⟨24, [.num .i64, .num .i64], L, own, mark⟩, .live ⟨24, [.num .i64, .num .i64], [], true, false⟩]⟩) else (bif decide ((L2.length + [[Dat.n (mvX L k x y), Dat.n (mvY L k x y)]].length) * (16 : Nat) ≤ (140737488355328 : Nat) ∧ L2.length + [[Dat.n (mvX L k x y), Dat.n (mvY L k x y)]].length ≤ (9223372036854775807 : Nat)) then evLoop ΓLf Try.prog L0 (cutC 0 1 kMv) bdMv n (mk kMv [.v (I x), .v (I y), .row 1, .row 0, .v (I nn), .v (I (wI (k + (1 : Int))))] ⟨[], [], [.live ⟨24, [.num .i64, .num .i64], L, own, mark⟩, .live ⟨24, [.num .i64, .num .i64], (L2 ++ [[Dat.n (mvX L k x y), Dat.n (mvY L k x y)]]), true, false⟩]⟩) KMv else none)) else none) else none) else some ((.exit 0), mk (xMv (.exit 0)) [.row 1] ⟨[], [], [.live ⟨24, [.num .i64, .num .i64], L, own, mark⟩, .live ⟨24, [.num .i64, .num .i64], L2, true, false⟩]⟩)) := by kernel_rfl
noncomputable def EMv (n : Nat) (L : List (List Dat)) (own : Bool) (mark : Bool) (L2 : List (List Dat)) (x : Int) (y : Int) (nn : Int) (k : Int) : Option (Ex × St) :=
  evLoop ΓLf Try.prog L0 (cutC 0 1 kMv) bdMv n (mk kMv [.v (I x), .v (I y), .row 1, .row 0, .v (I nn), .v (I k)] ⟨[], [], [rP L own mark, rP L2 true false]⟩) KMv
theorem pv_val {L : List (List Dat)} {k : Int} (k0 : 0 ≤ k) (k1 : k < (L.length : Int)) (hl : L.length ≤ 1000000) : pv L k = if k = 0 then 0 else (L.length : Int) - k := by
  unfold pv
  rw [wI_id (by omega), Int.tmod_eq_emod_of_nonneg (by omega)]
  split
  · rename_i e; rw [e, Int.sub_zero, Int.emod_self]
  · exact Int.emod_eq_of_lt (by omega) (by omega)
def outL (L : List (List Dat)) : List (List Dat) := foF (fun k s => s ++ [ptD L (pv L k)]) L.length 0 []
theorem loopBk (L : List (List Dat)) (own mark : Bool) (hl : L.length ≤ 1000000) : EBk (L.length + 1) L own mark [] 0 = some (.exit 0, mk (xBk (.exit 0)) [.row 1] ⟨[], [], [rP L own mark, rP (outL L) true false]⟩) := by
  refine foldAll (fun k s => s ++ [ptD L (pv L k)]) (fun k s => (s.length : Int) = k) (L.length : Int) (fun n k s => EBk n L own mark s k) (fun s => some (.exit 0, mk (xBk (.exit 0)) [.row 1] ⟨[], [], [rP L own mark, rP s true false]⟩)) (fun n k s hk _ => ?_) (fun k s hk hi => by rw [List.length_append]; simp only [List.length_singleton]; omega) (fun n k s hk hi => ?_) L.length 0 [] (by omega) (by omega) rfl
  · refine (stepBk L own mark s k n).trans ?_
    rw [decide_eq_false hk]
    rfl
  · refine (stepBk L own mark s k n).trans ?_
    have e := pv_val hk.1 hk.2 hl
    have e1 : 0 ≤ pv L k ∧ pv L k < (L.length : Int) := by rw [e]; split <;> omega
    rw [decide_eq_true hk.2, beq_eq_false_iff_ne.2 (show (L.length : Int) ≠ 0 by omega), decide_eq_true e1.1, decide_eq_true e1.2, decide_eq_true (show (s.length + 1) * 16 ≤ 140737488355328 ∧ s.length + 1 ≤ 9223372036854775807 by omega), wI_id (n := k + 1) (by omega)]
    rfl
def GBk (vals : List SV) (m : Mem) : Option (Bool × LT) :=
  match vals, m with
  | [.row 0, .row 1, .v (.int .i64 k)], ⟨[], [], [.live ⟨24, [.num .i64, .num .i64], L, own, mark⟩, .live ⟨24, [.num .i64, .num .i64], [], true, false⟩]⟩ => some (k == 0 && Nat.ble L.length 1000000, .leaf (.exit 0) (mk (xBk (.exit 0)) [.row 1] ⟨[], [], [rP L own mark, rP (outL L) true false]⟩))
  | _, _ => none
noncomputable def ΛBk : LoopOrc := fun _ st => viaT 0 1 kBk GBk st
theorem loopOkBk (z : Base) (z1 : z.L.length = 0) (z2 : z.U.length = 1) : LoopOk ΛBk Try.prog z bdBk := by
  refine loop_okT (Λ := L0) (kx := xBk) OkLf mixed z1 z2 (fun b hb st t h => by cases h) (G := GBk) (fun _ => rfl) ?_
  intro vals m t h
  unfold GBk at h
  split at h
  · rename_i k L own mark
    obtain ⟨h1, rfl⟩ := some_t h
    simp only [Bool.and_eq_true, beq_iff_eq] at h1
    obtain ⟨rfl, hl⟩ := h1
    exact ⟨_, loopBk L own mark (Nat.le_of_ble_eq_true hl)⟩
  · cases h
theorem loopsBk : loopsOf (Try.f28.body.getD .skip) = [bdBk] := by kernel_rfl
/-! repp (Nat.brecOn.go (motive := fun x => Int → List (List Dat) → List (List Dat)) L.length (foF._f fun k s => s ++ [ptD L (pv L k)])).1 (0 : Int) [] ==> (outL L) -/
set_option maxRecDepth 20000 in
theorem runRBk (L : List (List Dat)) (own : Bool) (mark : Bool) : runG ΓLf ΛBk Try.prog Try.f28 [.row 0] ⟨[], [], [rP L own mark]⟩ = bif true && Nat.ble L.length 1000000 then some (.row 1, ⟨[], [], [rP L own mark, rP (outL L) true false]⟩) else none := by kernel_rfl
def gRBk (xs : List SV) (m : Mem) : Option (Bool × SV × Mem) :=
  match xs, m with
  | [.row 0], ⟨[], [], [.live ⟨24, [.num .i64, .num .i64], L, own, mark⟩]⟩ => some (Nat.ble L.length 1000000, .row 1, ⟨[], [], [rP L own mark, rP (outL L) true false]⟩)
  | _, _ => none
theorem gRBk_ok : ∀ xs m r m', gRBk xs m = some (true, r, m') → CallOk Try.prog 28 xs m r m' := by
  intro xs m r m' h
  unfold gRBk at h
  split at h
  · rename_i L own mark
    obtain ⟨h1, rfl, rfl⟩ := some_t2 h
    refine runOk (Λ := ΛBk) OkLf Try.func28 rfl (fun z z1 z2 => oneLoop loopsBk (loopOkBk z z1 z2)) ?_
    refine (runRBk L own mark).trans ?_
    rw [h1]
    rfl
  · cases h
noncomputable def ΓMv1 : Orc := addCl 28 gRBk ΓLf
theorem OkMv1 : ΓMv1.Ok Try.prog := addCl_ok OkLf gRBk_ok
def mvN (L : List (List Dat)) (x y k : Int) : Bool := !moveB (pX L k) (pY L k) x y
/-- Moved. -/
def mvL (L : List (List Dat)) (x y : Int) : List (List Dat) := foF (fun k s => s ++ [[.n (mvX L k x y), .n (mvY L k x y)]]) L.length 0 []
def lfMv (L : List (List Dat)) (own mark : Bool) (x y : Int) : LT := .br (anyN (mvN L x y) L.length 0) (.leaf .ret (mk (xMv .ret) [.row 1, .v (Bo false)] ⟨[], [], [rP L own mark, rP [] true false]⟩)) (.leaf (.exit 0) (mk (xMv (.exit 0)) [.row 1] ⟨[], [], [rP L own mark, rP (mvL L x y) true false]⟩))
theorem loopMv (L : List (List Dat)) (own mark : Bool) (x y : Int) (ha : areaB L = true) (hx : inI x = true) (hy : inI y = true) : EMv (L.length + 1) L own mark [] x y (L.length : Int) 0 = some (lfMv L own mark x y).pick := by
  have h := isArea ha
  have l1 := h.lo
  have l2 := h.hi
  have q := foldFind (mvN L x y) (fun k s => s ++ [[.n (mvX L k x y), .n (mvY L k x y)]]) (fun k s => (s.length : Int) = k) (L.length : Int) (fun n k s => EMv n L own mark s x y (L.length : Int) k) (fun s => some (.exit 0, mk (xMv (.exit 0)) [.row 1] ⟨[], [], [rP L own mark, rP s true false]⟩)) (some (.ret, mk (xMv .ret) [.row 1, .v (Bo false)] ⟨[], [], [rP L own mark, rP [] true false]⟩)) (fun n k s hk _ => ?_) (fun k s hk hi => by rw [List.length_append]; simp only [List.length_singleton]; omega) (fun n k s hk hi => ?_) L.length 0 [] (by omega) (by omega) rfl
  · refine q.trans ?_
    unfold lfMv
    cases anyN (mvN L x y) L.length 0 <;> rfl
  · refine (stepMv L own mark s x y (L.length : Int) k n).trans ?_
    rw [decide_eq_false hk]
    rfl
  · refine (stepMv L own mark s x y (L.length : Int) k n).trans ?_
    have na := h.near k hk.1 hk.2
    rw [decide_eq_true hk.2, decide_eq_true hk.1, in_near (n := pX L k) (by omega) (by omega), in_near (n := pY L k) (by omega) (by omega), hx, hy, decide_eq_true (show (s.length + [[Dat.n (mvX L k x y), Dat.n (mvY L k x y)]].length) * 16 ≤ 140737488355328 ∧ s.length + [[Dat.n (mvX L k x y), Dat.n (mvY L k x y)]].length ≤ 9223372036854775807 by simp only [List.length_singleton]; omega), wI_id (n := k + 1) (by omega)]
    unfold mvN
    cases moveB (pX L k) (pY L k) x y <;> rfl
def GMv (vals : List SV) (m : Mem) : Option (Bool × LT) :=
  match vals, m with
  | [.v (.int .i64 x), .v (.int .i64 y), .row 1, .row 0, .v (.int .i64 nn), .v (.int .i64 k)], ⟨[], [], [.live ⟨24, [.num .i64, .num .i64], L, own, mark⟩, .live ⟨24, [.num .i64, .num .i64], [], true, false⟩]⟩ => some (nn == (L.length : Int) && (k == 0 && (areaB L && (inI x && inI y))), lfMv L own mark x y)
  | _, _ => none
noncomputable def ΛMv : LoopOrc := fun _ st => viaT 0 1 kMv GMv st
theorem loopOkMv (z : Base) (z1 : z.L.length = 0) (z2 : z.U.length = 1) : LoopOk ΛMv Try.prog z bdMv := by
  refine loop_okT (Λ := L0) (kx := xMv) OkLf mixed z1 z2 (fun b hb st t h => by cases h) (G := GMv) (fun _ => rfl) ?_
  intro vals m t h
  unfold GMv at h
  split at h
  · rename_i x y nn k L own mark
    obtain ⟨h1, rfl⟩ := some_t h
    simp only [Bool.and_eq_true, beq_iff_eq] at h1
    obtain ⟨rfl, rfl, ha, hx, hy⟩ := h1
    exact ⟨_, loopMv L own mark x y ha hx hy⟩
  · cases h
theorem loopsMv : loopsOf (Try.f30.body.getD .skip) = [bdMv] := by kernel_rfl
set_option maxRecDepth 20000 in
theorem runPMove (L : List (List Dat)) (own : Bool) (mark : Bool) (x y : Int) : runG ΓLf ΛMv Try.prog Try.f30 [.row 0, .v (I x), .v (I y)] ⟨[], [], [rP L own mark]⟩ =
    (bif Nat.ble L.length 1000000 then (bif !areaB L then some (.tup [.one (.row 1), .one (.v (Bo false))], ⟨[], [], [rP L own mark, rP [] true false]⟩) else (bif (L.length : Int) == (L.length : Int) && (true && (areaB L && (inI x && inI y))) then (bif anyN (mvN L x y) L.length 0 then some (.tup [.one (.row 1), .one (.v (Bo false))], ⟨[], [], [rP L own mark, rP [] true false]⟩) else (bif Nat.ble (mvL L x y).length 1000000 then (bif !areaB (mvL L x y) then some (.tup [.one (.row 1), .one (.v (Bo false))], ⟨[], [], [rP L own mark, rP [] true false]⟩) else some (.tup [.one (.row 1), .one (.v (Bo true))], ⟨[], [], [rP L own mark, rP (mvL L x y) true false]⟩)) else none)) else none)) else none) := by kernel_rfl
def moveR (L : List (List Dat)) (x y : Int) : Bool := areaB L && (!anyN (mvN L x y) L.length 0 && areaB (mvL L x y))
def moveL (L : List (List Dat)) (x y : Int) : List (List Dat) := bif moveR L x y then mvL L x y else []
theorem mvL_app (g : Int → List Dat) : ∀ (m : Nat) (k : Int) (s : List (List Dat)), foF (fun k s => s ++ [g k]) m k s = s ++ (List.range m).map fun (i : Nat) => g (k + (i : Int))
  | 0, _, s => by show s = s ++ []; rw [List.append_nil]
  | m + 1, k, s => by
    show foF (fun k s => s ++ [g k]) m (k + 1) (s ++ [g k]) = _
    rw [mvL_app g m (k + 1), List.range_succ_eq_map, List.map_cons, List.map_map, List.append_assoc]
    congr 1
    show g k :: _ = g (k + ((0 : Nat) : Int)) :: _
    rw [show k + ((0 : Nat) : Int) = k by omega]
    congr 1
    apply List.map_congr_left
    intro i _
    show g (k + 1 + (i : Int)) = g (k + ((i + 1 : Nat) : Int))
    rw [show k + 1 + (i : Int) = k + ((i + 1 : Nat) : Int) by omega]
theorem app_len (g : Int → List Dat) (m : Nat) : (foF (fun k s => s ++ [g k]) m 0 []).length = m := by rw [mvL_app]; simp
theorem app_get (g : Int → List Dat) (m : Nat) {k : Int} (k0 : 0 ≤ k) (k1 : k < (m : Int)) : (foF (fun k s => s ++ [g k]) m 0 []).getD k.toNat [] = g k := by
  rw [mvL_app, List.nil_append, List.getD_eq_getElem?_getD, List.getElem?_map, List.getElem?_range (by omega)]
  show g (0 + (k.toNat : Int)) = g k
  rw [show 0 + (k.toNat : Int) = k by omega]
def gMove2 (xs : List SV) (m : Mem) : Option (Bool × SV × Mem) :=
  match xs, m with
  | [.row 0, .v (.int .i64 x), .v (.int .i64 y)], ⟨[], [], [.live ⟨24, [.num .i64, .num .i64], L, own, mark⟩]⟩ => some (Nat.ble L.length 1000000 && (inI x && inI y), .tup [.one (.row 1), .one (.v (Bo (moveR L x y)))], ⟨[], [], [rP L own mark, rP (moveL L x y) true false]⟩)
  | _, _ => none
theorem gMove2_ok : ∀ xs m r m', gMove2 xs m = some (true, r, m') → CallOk Try.prog 30 xs m r m' := by
  intro xs m r m' h
  unfold gMove2 at h
  split at h
  · rename_i x y L own mark
    obtain ⟨h1, rfl, rfl⟩ := some_t2 h
    refine runOk (Λ := ΛMv) OkLf Try.func30 rfl (fun z z1 z2 => oneLoop loopsMv (loopOkMv z z1 z2)) ?_
    refine (runPMove L own mark x y).trans ?_
    rw [Bool.and_eq_true, Bool.and_eq_true] at h1
    have hm : Nat.ble (mvL L x y).length 1000000 = true := by unfold mvL; rw [app_len]; exact h1.1
    rw [h1.1, h1.2.1, h1.2.2, hm, beq_self_eq_true]
    unfold moveL moveR
    cases areaB L
    · rfl
    cases anyN (mvN L x y) L.length 0
    · cases areaB (mvL L x y) <;> rfl
    · rfl
  · cases h
noncomputable def ΓMv : Orc := addCl 30 gMove2 ΓMv1
theorem OkMv : ΓMv.Ok Try.prog := addCl_ok OkMv1 gMove2_ok
end Go.Proofs.Ytcjkkfhdnealpaa

namespace Go.Proofs.Ytcjkkfhdnealpaa
open Go Go.Proofs Go.Sx
set_option linter.unusedVariables false
/-! norm -/
/-! cast -/
set_option maxRecDepth 20000 in
theorem runPTells (L : List (List Dat)) (p1 : Int) (p2 : Int) : runG ΓMv L0 Try.prog Try.f3 [.row 0, .v (.agg #[I p1, I p2])] ⟨[], [], [rP L false false]⟩ = 
    (bif !decide ((L.length : Int) ≤ (12 : Int)) then some (.v (Bo true), ⟨[], [], [.live ⟨24, [.num .i64, .num .i64], L, false, false⟩]⟩) else (bif L.length.ble (1000000) then (bif L.length.ble (1000000) then (bif L.length.ble (1000000) then (bif L.length.ble (1000000) then (bif !simB L == simR L then (same (some (.v (Bo false), ⟨[], [], [.live ⟨24, [.num .i64, .num .i64], L, false, false⟩]⟩)) (some (.v (Bo false), ⟨[], [], [.live ⟨24, [.num .i64, .num .i64], L, false, false⟩]⟩))) else (bif L.length.ble (1000000) then (bif !areaB L == areaR L then (same (some (.v (Bo false), ⟨[], [], [.live ⟨24, [.num .i64, .num .i64], L, false, false⟩]⟩)) (some (.v (Bo false), ⟨[], [], [.live ⟨24, [.num .i64, .num .i64], L, false, false⟩]⟩))) else (bif L.length.ble (1000000) then (bif L.length.ble (1000000) then (bif sideI L p1 p2 != sideR L p1 p2 then (same (some (.v (Bo false), ⟨[], [], [.live ⟨24, [.num .i64, .num .i64], L, false, false⟩]⟩)) (some (.v (Bo false), ⟨[], [], [.live ⟨24, [.num .i64, .num .i64], L, false, false⟩]⟩))) else (bif L.length.ble (1000000) then (bif L.length.ble (1000000) then (bif !leftB L == leftB L then (same (some (.v (Bo false), ⟨[], [], [.live ⟨24, [.num .i64, .num .i64], L, false, false⟩]⟩)) (some (.v (Bo false), ⟨[], [], [.live ⟨24, [.num .i64, .num .i64], L, false, false⟩]⟩))) else (same ((bif L.length.ble (1000000) then (bif L.length.ble (1000000) then (bif (backL L).length.ble (1000000) then (bif !sameB (backL L) (outL L) then some (.v (Bo false), ⟨[], [], [.live ⟨24, [.num .i64, .num .i64], L, false, false⟩]⟩) else (bif !areaB L == areaR L then some (.v (Bo false), ⟨[], [], [.live ⟨24, [.num .i64, .num .i64], L, false, false⟩]⟩) else (bif !areaR L then (bif bdV L (bdB L).fst == (0 : Int) && (bdV L (bdB L).snd.fst == (0 : Int) && true) && (bdV L (bdB L).snd.snd.fst == (0 : Int) && (bdV L (bdB L).snd.snd.snd == (0 : Int) && true) && true) then some (.v (Bo true), ⟨[], [], [.live ⟨24, [.num .i64, .num .i64], L, false, false⟩]⟩) else (bif areaR L then (bif Nat.blt (0 : Nat) L.length && L.length.ble (1000000) then some (.v (Bo (bdV L (bdB L).fst == (bdB L).fst && (bdV L (bdB L).snd.fst == (bdB L).snd.fst && true) && (bdV L (bdB L).snd.snd.fst == (bdB L).snd.snd.fst && (bdV L (bdB L).snd.snd.snd == (bdB L).snd.snd.snd && true) && true))), ⟨[], [], [.live ⟨24, [.num .i64, .num .i64], L, false, false⟩]⟩) else none) else some (.v (Bo false), ⟨[], [], [.live ⟨24, [.num .i64, .num .i64], L, false, false⟩]⟩))) else (bif areaR L then (bif Nat.blt (0 : Nat) L.length && L.length.ble (1000000) then some (.v (Bo (bdV L (bdB L).fst == (bdB L).fst && (bdV L (bdB L).snd.fst == (bdB L).snd.fst && true) && (bdV L (bdB L).snd.snd.fst == (bdB L).snd.snd.fst && (bdV L (bdB L).snd.snd.snd == (bdB L).snd.snd.snd && true) && true))), ⟨[], [], [.live ⟨24, [.num .i64, .num .i64], L, false, false⟩]⟩) else none) else some (.v (Bo false), ⟨[], [], [.live ⟨24, [.num .i64, .num .i64], L, false, false⟩]⟩))))) else none) else none) else none)) ((bif L.length.ble (1000000) then (bif L.length.ble (1000000) then (bif (backL L).length.ble (1000000) then (bif !sameB (backL L) (outL L) then some (.v (Bo false), ⟨[], [], [.live ⟨24, [.num .i64, .num .i64], L, false, false⟩]⟩) else (bif !areaB L == areaR L then some (.v (Bo false), ⟨[], [], [.live ⟨24, [.num .i64, .num .i64], L, false, false⟩]⟩) else (bif !areaR L then (bif bdV L (bdB L).fst == (0 : Int) && (bdV L (bdB L).snd.fst == (0 : Int) && true) && (bdV L (bdB L).snd.snd.fst == (0 : Int) && (bdV L (bdB L).snd.snd.snd == (0 : Int) && true) && true) then some (.v (Bo true), ⟨[], [], [.live ⟨24, [.num .i64, .num .i64], L, false, false⟩]⟩) else (bif areaR L then (bif Nat.blt (0 : Nat) L.length && L.length.ble (1000000) then some (.v (Bo (bdV L (bdB L).fst == (bdB L).fst && (bdV L (bdB L).snd.fst == (bdB L).snd.fst && true) && (bdV L (bdB L).snd.snd.fst == (bdB L).snd.snd.fst && (bdV L (bdB L).snd.snd.snd == (bdB L).snd.snd.snd && true) && true))), ⟨[], [], [.live ⟨24, [.num .i64, .num .i64], L, false, false⟩]⟩) else none) else some (.v (Bo false), ⟨[], [], [.live ⟨24, [.num .i64, .num .i64], L, false, false⟩]⟩))) else (bif areaR L then (bif Nat.blt (0 : Nat) L.length && L.length.ble (1000000) then some (.v (Bo (bdV L (bdB L).fst == (bdB L).fst && (bdV L (bdB L).snd.fst == (bdB L).snd.fst && true) && (bdV L (bdB L).snd.snd.fst == (bdB L).snd.snd.fst && (bdV L (bdB L).snd.snd.snd == (bdB L).snd.snd.snd && true) && true))), ⟨[], [], [.live ⟨24, [.num .i64, .num .i64], L, false, false⟩]⟩) else none) else some (.v (Bo false), ⟨[], [], [.live ⟨24, [.num .i64, .num .i64], L, false, false⟩]⟩))))) else none) else none) else none)))) else none) else none)) else none) else none)) else none)) else none) else none) else none) else none)) := by kernel_rfl
end Go.Proofs.Ytcjkkfhdnealpaa

namespace Go.Proofs.Ytcjkkfhdnealpaa
open Go Go.Proofs Go.Sx
set_option linter.unusedVariables false
/-! norm -/
/-! cast -/
set_option maxRecDepth 20000 in
theorem runPMoves (L : List (List Dat)) (p1 : Int) (p2 : Int) (x : Int) (y : Int) : runG ΓMv L0 Try.prog Try.f5 [.row 0, .v (.agg #[I p1, I p2]), .v (I x), .v (I y)] ⟨[], [], [rP L false false]⟩ = 
    (bif !decide ((L.length : Int) ≤ (12 : Int)) then some (.v (Bo true), ⟨[], [], [.live ⟨24, [.num .i64, .num .i64], L, false, false⟩]⟩) else (bif L.length.ble (1000000) && (inI x && inI y) then (bif inI p1 && (inI p2 && (inI x && inI y)) then (bif !moveR L x y then (bif ((moveL L x y).length : Int) == (0 : Int) then some (.v (Bo true), ⟨[], [], [.live ⟨24, [.num .i64, .num .i64], L, false, false⟩]⟩) else some (.v (Bo (moveR L x y)), ⟨[], [], [.live ⟨24, [.num .i64, .num .i64], L, false, false⟩]⟩)) else (bif !moveB p1 p2 x y then (bif ((moveL L x y).length : Int) == (0 : Int) then some (.v (Bo true), ⟨[], [], [.live ⟨24, [.num .i64, .num .i64], L, false, false⟩]⟩) else some (.v (Bo (moveR L x y)), ⟨[], [], [.live ⟨24, [.num .i64, .num .i64], L, false, false⟩]⟩)) else (bif (moveL L x y).length.ble (1000000) && (inI (wI ((0 : Int) - x)) && inI (wI ((0 : Int) - y))) then (bif L.length.ble (1000000) then (bif areaB L then (bif (moveL L x y).length.ble (1000000) then (bif areaB (moveL L x y) then (bif (moveL L x y).length.ble (1000000) then (bif L.length.ble (1000000) then (bif sideI (moveL L x y) (bif moveB p1 p2 x y then p1 + x else (0 : Int)) (bif moveB p1 p2 x y then p2 + y else (0 : Int)) == sideI L p1 p2 then (bif (moveL L x y).length.ble (1000000) then (bif L.length.ble (1000000) then (bif leftB (moveL L x y) == leftB L then (bif moveR (moveL L x y) (wI ((0 : Int) - x)) (wI ((0 : Int) - y)) then (bif (moveL (moveL L x y) (wI ((0 : Int) - x)) (wI ((0 : Int) - y))).length.ble (1000000) then some (.v (Bo (sameB (moveL (moveL L x y) (wI ((0 : Int) - x)) (wI ((0 : Int) - y))) L)), ⟨[], [], [.live ⟨24, [.num .i64, .num .i64], L, false, false⟩]⟩) else none) else some (.v (Bo false), ⟨[], [], [.live ⟨24, [.num .i64, .num .i64], L, false, false⟩]⟩)) else some (.v (Bo false), ⟨[], [], [.live ⟨24, [.num .i64, .num .i64], L, false, false⟩]⟩)) else none) else none) else some (.v (Bo false), ⟨[], [], [.live ⟨24, [.num .i64, .num .i64], L, false, false⟩]⟩)) else none) else none) else some (.v (Bo false), ⟨[], [], [.live ⟨24, [.num .i64, .num .i64], L, false, false⟩]⟩)) else none) else some (.v (Bo false), ⟨[], [], [.live ⟨24, [.num .i64, .num .i64], L, false, false⟩]⟩)) else none) else none))) else none) else none)) := by kernel_rfl
end Go.Proofs.Ytcjkkfhdnealpaa

namespace Go.Proofs.Ytcjkkfhdnealpaa
open Go Go.Proofs Go.Sx
set_option linter.unusedVariables false
theorem pX_of {L : List (List Dat)} {k : Int} {x y : Int} (h : L.getD k.toNat [] = [.n x, .n y]) : pX L k = x ∧ pY L k = y := by
  unfold pX pY
  rw [h]
  exact ⟨rfl, rfl⟩
theorem sw_get {L : List (List Dat)} {a b q : Int} (a0 : 0 ≤ a) (a1 : a < (L.length : Int)) (b0 : 0 ≤ b) (b1 : b < (L.length : Int)) (q0 : 0 ≤ q) :
    pX (swF L a b) q = (if q = b then pX L a else if q = a then pX L b else pX L q) ∧ pY (swF L a b) q = (if q = b then pY L a else if q = a then pY L b else pY L q) := by
  have g : (swF L a b).getD q.toNat [] = if q = b then ptD L a else if q = a then ptD L b else L.getD q.toNat [] := by
    unfold swF
    rw [List.getD_eq_getElem?_getD, List.getElem?_set]
    by_cases e1 : q = b
    · rw [if_pos (by omega), if_pos (by rw [List.length_set]; omega), if_pos e1]; rfl
    · rw [if_neg (by omega), if_neg e1, List.getElem?_set]
      by_cases e2 : q = a
      · rw [if_pos (by omega), if_pos (by omega), if_pos e2]; rfl
      · rw [if_neg (by omega), if_neg e2, List.getD_eq_getElem?_getD]
  by_cases e1 : q = b
  · rw [if_pos e1] at g; rw [if_pos e1, if_pos e1]; exact pX_of g
  · rw [if_neg e1] at g; rw [if_neg e1, if_neg e1]
    by_cases e2 : q = a
    · rw [if_pos e2] at g; rw [if_pos e2, if_pos e2]; exact pX_of g
    · rw [if_neg e2] at g; rw [if_neg e2, if_neg e2]
      unfold pX pY
      rw [g]
      exact ⟨rfl, rfl⟩
theorem rv_get {lo : Int} (l0 : 0 ≤ lo) : ∀ (m : Nat) (i j : Int) (L : List (List Dat)), 0 ≤ i → lo + j < (L.length : Int) → j - i ≤ m → ∀ q, 0 ≤ q → q < (L.length : Int) →
    pX (rvF lo m i j L) q = (if lo + i ≤ q ∧ q ≤ lo + j then pX L (2 * lo + i + j - q) else pX L q) ∧ pY (rvF lo m i j L) q = (if lo + i ≤ q ∧ q ≤ lo + j then pY L (2 * lo + i + j - q) else pY L q) := by
  have base : ∀ (i j : Int) (L : List (List Dat)), j ≤ i → ∀ q, pX L q = (if lo + i ≤ q ∧ q ≤ lo + j then pX L (2 * lo + i + j - q) else pX L q) ∧ pY L q = (if lo + i ≤ q ∧ q ≤ lo + j then pY L (2 * lo + i + j - q) else pY L q) := by
    intro i j L h q
    by_cases e : lo + i ≤ q ∧ q ≤ lo + j
    · rw [if_pos e, if_pos e, show 2 * lo + i + j - q = q by omega]; exact ⟨rfl, rfl⟩
    · rw [if_neg e, if_neg e]; exact ⟨rfl, rfl⟩
  intro m
  induction m with
  | zero => intro i j L h0 h1 h2 q q0 q1; exact base i j L (by omega) q
  | succ m ih =>
    intro i j L h0 h1 h2 q q0 q1
    unfold rvF
    by_cases hij : i < j
    · rw [decide_eq_true hij]
      simp only [cond_true]
      have hl : (swF L (lo + i) (lo + j)).length = L.length := swF_len _ _ _
      obtain ⟨e1, e2⟩ := ih (i + 1) (j - 1) (swF L (lo + i) (lo + j)) (by omega) (by rw [hl]; omega) (by omega) q q0 (by rw [hl]; exact q1)
      rw [e1, e2]
      have sw := fun r (r0 : 0 ≤ r) => sw_get (L := L) (a := lo + i) (b := lo + j) (by omega) (by omega) (by omega) (by omega) r0
      by_cases c1 : lo + (i + 1) ≤ q ∧ q ≤ lo + (j - 1)
      · rw [if_pos c1, if_pos c1, if_pos (by omega), if_pos (by omega), show 2 * lo + (i + 1) + (j - 1) - q = 2 * lo + i + j - q by omega]
        obtain ⟨f1, f2⟩ := sw (2 * lo + i + j - q) (by omega)
        rw [f1, f2, if_neg (by omega), if_neg (by omega), if_neg (by omega), if_neg (by omega)]
        exact ⟨rfl, rfl⟩
      · rw [if_neg c1, if_neg c1]
        obtain ⟨f1, f2⟩ := sw q q0
        rw [f1, f2]
        by_cases c2 : q = lo + j
        · rw [if_pos c2, if_pos c2, if_pos (by omega), if_pos (by omega), show 2 * lo + i + j - q = lo + i by omega]; exact ⟨rfl, rfl⟩
        · rw [if_neg c2, if_neg c2]
          by_cases c3 : q = lo + i
          · rw [if_pos c3, if_pos c3, if_pos (by omega), if_pos (by omega), show 2 * lo + i + j - q = lo + j by omega]; exact ⟨rfl, rfl⟩
          · rw [if_neg c3, if_neg c3, if_neg (by omega), if_neg (by omega)]; exact ⟨rfl, rfl⟩
    · rw [decide_eq_false hij]
      exact base i j L (by omega) q
theorem back_len (L : List (List Dat)) : (backL L).length = L.length := by
  unfold backL
  by_cases h : (L.length : Int) = 0
  · rw [beq_iff_eq.2 h]; show 0 = L.length; omega
  · rw [beq_eq_false_iff_ne.2 h]; exact rvF_len _ _ _ _ _
theorem back_get {L : List (List Dat)} {k : Int} (k0 : 0 ≤ k) (k1 : k < (L.length : Int)) (hl : L.length ≤ 1000000) : pX (backL L) k = pX L (pv L k) ∧ pY (backL L) k = pY L (pv L k) := by
  unfold backL
  rw [beq_eq_false_iff_ne.2 (show (L.length : Int) ≠ 0 by omega), pv_val k0 k1 hl]
  simp only [cond_false]
  unfold rvL
  obtain ⟨e1, e2⟩ := rv_get (lo := 1) (by omega) ((L.length : Int) - 1).toNat 0 ((L.length : Int) - 1 - 1) L (by omega) (by omega) (by omega) k k0 k1
  rw [e1, e2]
  by_cases e : k = 0
  · simp only [if_neg (show ¬ (1 + 0 ≤ k ∧ k ≤ 1 + ((L.length : Int) - 1 - 1)) by omega), if_pos e]
    rw [e]; exact ⟨rfl, rfl⟩
  · simp only [if_pos (show 1 + 0 ≤ k ∧ k ≤ 1 + ((L.length : Int) - 1 - 1) by omega), if_neg e]
    rw [show 2 * 1 + 0 + ((L.length : Int) - 1 - 1) - k = (L.length : Int) - k by omega]; exact ⟨rfl, rfl⟩
theorem same_back {L : List (List Dat)} (hl : L.length ≤ 1000000) : sameB (backL L) (outL L) = true := by
  have h1 : (outL L).length = L.length := app_len (fun k => ptD L (pv L k)) L.length
  unfold sameB
  rw [back_len, h1, beq_self_eq_true, anyN_none.2 fun i i0 i1 => ?_]
  · rfl
  · obtain ⟨e1, e2⟩ := back_get i0 (by omega) hl
    obtain ⟨f1, f2⟩ := pX_of (app_get (fun k => ptD L (pv L k)) L.length i0 (by omega))
    unfold neP
    have f1' : pX (outL L) i = pX L (pv L i) := f1
    have f2' : pY (outL L) i = pY L (pv L i) := f2
    rw [e1, e2, f1', f2', beq_self_eq_true, beq_self_eq_true]
    rfl
theorem polyTells (L : List (List Dat)) (p1 p2 : Int) : runG ΓMv L0 Try.prog Try.f3 [.row 0, .v (.agg #[I p1, I p2])] ⟨[], [], [rP L false false]⟩ = some (.v (Bo true), ⟨[], [], [rP L false false]⟩) := by
  refine (runPTells L p1 p2).trans ?_
  by_cases h : (L.length : Int) ≤ 12
  case neg => rw [decide_eq_false h]; rfl
  have hl : L.length ≤ 1000000 := by omega
  rw [decide_eq_true h, Nat.ble_eq_true_of_le hl, sim_eq, area_eq, side_eq, same_back hl, Nat.ble_eq_true_of_le (show (backL L).length ≤ 1000000 by rw [back_len]; exact hl)]
  simp only [same_self, beq_self_eq_true, bne_self_eq_false, Bool.not_true, cond_false, cond_true]
  cases ha : areaB L
  · simp only [bdV, ha, cond_false, cond_true, beq_self_eq_true, Bool.and_self, Bool.not_false]
  · have := (isArea ha).lo
    have hb : Nat.blt 0 L.length = true := Nat.ble_eq_true_of_le (by omega)
    simp only [bdV, ha, hb, cond_false, cond_true, beq_self_eq_true, Bool.and_self, Bool.not_true]
/-! Moved -/
theorem area_of {L : List (List Dat)} (h : IsArea L) : areaB L = true := by
  have h1 := h.lo
  have h2 := h.hi
  have e1 : anyN (pNpl L) L.length 0 = false := anyN_none.2 fun i i0 i1 => by unfold pNpl; rw [h.pl i i0 (by omega)]; rfl
  have e2 : anyN (pFar L) L.length 0 = false := anyN_none.2 fun i i0 i1 => by
    have := h.near i i0 (by omega)
    unfold pFar
    rw [fov_iff.2 (by omega), fov_iff.2 (by omega)]; rfl
  unfold areaB simB
  rw [anyF_eq, anyF_eq, e1, e2, decide_eq_false (show ¬ (L.length : Int) < 3 by omega), decide_eq_false (show ¬ (L.length : Int) > 8 by omega), (apB_iff L).2 h.apt]
  rfl
theorem area_congr {L M : List (List Dat)} (h : IsArea L) (hl : M.length = L.length) (hp : ∀ k, 0 ≤ k → k < (L.length : Int) → pX M k = pX L k ∧ pY M k = pY L k) : IsArea M := by
  have hn : ∀ k, nx M k = nx L k := fun k => by unfold nx; rw [hl]
  refine ⟨by rw [hl]; exact h.lo, by rw [hl]; exact h.hi, fun k k0 k1 => ?_, fun k k0 k1 => ?_, fun i j i0 ij j1 => ?_⟩
  · rw [hl] at k1; rw [(hp k k0 k1).1, (hp k k0 k1).2]; exact h.pl k k0 k1
  · rw [hl] at k1; rw [(hp k k0 k1).1, (hp k k0 k1).2]; exact h.near k k0 k1
  · rw [hl] at j1
    have b := h.apt i j i0 ij j1
    have ni := nx_lt h i0 (by omega : i < (L.length : Int))
    have nj := nx_lt h (by omega : 0 ≤ j) j1
    have a1 := hp i i0 (by omega)
    have a2 := hp j (by omega) j1
    have a3 := hp _ ni.1 ni.2
    have a4 := hp _ nj.1 nj.2
    unfold badB mwB at b ⊢
    have eq : eqP M i j = eqP L i j := by
      show (pX M i == pX M j && (pY M i == pY M j && true)) = (pX L i == pX L j && (pY L i == pY L j && true))
      rw [a1.1, a1.2, a2.1, a2.2]
    rw [eq, hn, hn, a1.1, a1.2, a2.1, a2.2, a3.1, a3.2, a4.1, a4.2]
    exact b
theorem foF_congr {σ : Type} {f g : Int → σ → σ} : ∀ (m : Nat) (k : Int) (s : σ), (∀ i s, k ≤ i → i < k + m → f i s = g i s) → foF f m k s = foF g m k s
  | 0, _, _, _ => rfl
  | m + 1, k, s, h => by
    show foF f m (k + 1) (f k s) = foF g m (k + 1) (g k s)
    rw [h k s (by omega) (by omega)]
    exact foF_congr m (k + 1) _ fun i s h1 h2 => h i s (by omega) (by omega)
theorem anyN_cong {p q : Int → Bool} {m : Nat} {k : Int} (h : ∀ i, k ≤ i → i < k + m → p i = q i) : anyN p m k = anyN q m k := by
  rw [Bool.eq_iff_iff, anyN_iff, anyN_iff]
  exact ⟨fun ⟨i, h1, h2, h3⟩ => ⟨i, h1, h2, by rw [← h i h1 h2]; exact h3⟩, fun ⟨i, h1, h2, h3⟩ => ⟨i, h1, h2, by rw [h i h1 h2]; exact h3⟩⟩
theorem tw_mv {a1 a2 b1 b2 c1 c2 x y : Int} : tw (a1 + x) (a2 + y) (b1 + x) (b2 + y) (c1 + x) (c2 + y) = tw a1 a2 b1 b2 c1 c2 := by unfold tw; grind
theorem OnP_mv {p1 p2 a1 a2 b1 b2 x y : Int} : OnP (p1 + x) (p2 + y) (a1 + x) (a2 + y) (b1 + x) (b2 + y) ↔ OnP p1 p2 a1 a2 b1 b2 := by
  unfold OnP bt
  rw [tw_mv]
  omega
theorem crB_mv {p1 p2 a1 a2 b1 b2 x y : Int} : crB (p1 + x) (p2 + y) (a1 + x) (a2 + y) (b1 + x) (b2 + y) = crB p1 p2 a1 a2 b1 b2 := by
  unfold crB
  rw [tw_mv]
  exact decide_eq_decide.2 (by omega)
/-- Sums around, each round with what a function of the corners grows by. -/
theorem ar_tel {L M : List (List Dat)} {g : Int → Int} : ∀ (m : Nat) (k s s' : Int), (∀ i t, k ≤ i → i < k + m → arS M i t = arS L i t + (g (i + 1) - g i)) → foF (arS M) m k s' = foF (arS L) m k s + (s' - s) + (g (k + m) - g k)
  | 0, k, s, s', _ => by
    show s' = s + (s' - s) + (g (k + ((0 : Nat) : Int)) - g k)
    rw [show k + ((0 : Nat) : Int) = k by omega]
    omega
  | m + 1, k, s, s', h => by
    show foF (arS M) m (k + 1) (arS M k s') = foF (arS L) m (k + 1) (arS L k s) + (s' - s) + _
    rw [ar_tel m (k + 1) (arS L k s) (arS M k s') fun i t h1 h2 => h i t (by omega) (by omega), h k s' (by omega) (by omega), show k + 1 + (m : Int) = k + ((m + 1 : Nat) : Int) by omega]
    have : arS L k s' = arS L k s + (s' - s) := by unfold arS; omega
    omega
structure Shift (L M : List (List Dat)) (x y : Int) : Prop where
  l : M.length = L.length
  p : ∀ k, 0 ≤ k → k < (L.length : Int) → pX M k = pX L k + x ∧ pY M k = pY L k + y
theorem shift_area2 {L M : List (List Dat)} {x y : Int} (h : IsArea L) (s : Shift L M x y) : area2 M = area2 L := by
  have l1 := h.lo
  have hn : ∀ k, nx M k = nx L k := fun k => by unfold nx; rw [s.l]
  unfold area2
  rw [s.l]
  have := ar_tel (L := L) (M := M) (g := fun i => x * pY L (if i = (L.length : Int) then 0 else i) - y * pX L (if i = (L.length : Int) then 0 else i)) L.length 0 0 0 fun i t i0 i1 => by
    have n1 := nx_lt h i0 (by omega)
    obtain ⟨e1, e2⟩ := s.p i i0 (by omega)
    obtain ⟨f1, f2⟩ := s.p _ n1.1 n1.2
    unfold arS
    rw [hn, e1, e2, f1, f2]
    have nn : nx L i = if i + 1 = (L.length : Int) then 0 else i + 1 := nx_wrap h i0 (by omega)
    rw [← nn, if_neg (show ¬ i = (L.length : Int) by omega)]
    grind
  rw [show (0 : Int) + (L.length : Int) = (L.length : Int) by omega, if_pos rfl, if_neg (by omega)] at this
  omega
theorem shift_side {L M : List (List Dat)} {x y p1 p2 : Int} (ha : areaB L = true) (hM : areaB M = true) (s : Shift L M x y) (hp : plR p1 p2 = true) (hq : plR (p1 + x) (p2 + y) = true) : sideI M (p1 + x) (p2 + y) = sideI L p1 p2 := by
  have h := isArea ha
  have h' := isArea hM
  have hn : ∀ k, nx M k = nx L k := fun k => by unfold nx; rw [s.l]
  have hh : anyN (hitB (p1 + x) (p2 + y) M) M.length 0 = anyN (hitB p1 p2 L) L.length 0 := by
    rw [s.l]
    refine anyN_cong fun i i0 i1 => ?_
    have i1' : i < (L.length : Int) := by omega
    have n1 := nx_lt h i0 i1'
    have q0 := h'.pl i i0 (by rw [s.l]; exact i1')
    have q1 := h'.pl _ n1.1 (by rw [s.l]; exact n1.2)
    unfold hitB
    rw [hn]
    rw [Bool.eq_iff_iff, on_iff hq q0 q1, on_iff hp (h.pl i i0 i1') (h.pl _ n1.1 n1.2), (s.p i i0 i1').1, (s.p i i0 i1').2, (s.p _ n1.1 n1.2).1, (s.p _ n1.1 n1.2).2]
    exact OnP_mv
  have ho : oddB (p1 + x) (p2 + y) M = oddB p1 p2 L := by
    unfold oddB
    rw [s.l]
    refine foF_congr _ _ _ fun i t i0 i1 => ?_
    have i1' : i < (L.length : Int) := by omega
    have n1 := nx_lt h i0 i1'
    have q0 := h'.pl i i0 (by rw [s.l]; exact i1')
    have q1 := h'.pl _ n1.1 (by rw [s.l]; exact n1.2)
    unfold rgB
    rw [hn, rg_cr hq q0 q1, rg_cr hp (h.pl i i0 i1') (h.pl _ n1.1 n1.2), (s.p i i0 i1').1, (s.p i i0 i1').2, (s.p _ n1.1 n1.2).1, (s.p _ n1.1 n1.2).2, crB_mv]
  rw [← side_eq, ← side_eq]
  unfold sideR
  rw [area_eq, area_eq, ha, hM, hp, hq, hh, ho]
theorem mv_ok {L : List (List Dat)} {x y : Int} (hm : anyN (mvN L x y) L.length 0 = false) : Shift L (mvL L x y) x y := by
  refine ⟨app_len (fun k => [.n (mvX L k x y), .n (mvY L k x y)]) L.length, fun k k0 k1 => ?_⟩
  have e := anyN_none.1 hm k k0 (by omega)
  unfold mvN at e
  have e' : moveB (pX L k) (pY L k) x y = true := by simpa using e
  obtain ⟨f1, f2⟩ := pX_of (app_get (fun k => [.n (mvX L k x y), .n (mvY L k x y)]) L.length k0 k1)
  have f1' : pX (mvL L x y) k = mvX L k x y := f1
  have f2' : pY (mvL L x y) k = mvY L k x y := f2
  rw [f1', f2']
  unfold mvX mvY
  rw [e']
  exact ⟨rfl, rfl⟩
theorem polyMoves (L : List (List Dat)) (p1 p2 x y : Int) (i1 : inI p1 = true) (i2 : inI p2 = true) (ix : inI x = true) (iy : inI y = true) : runG ΓMv L0 Try.prog Try.f5 [.row 0, .v (.agg #[I p1, I p2]), .v (I x), .v (I y)] ⟨[], [], [rP L false false]⟩ = some (.v (Bo true), ⟨[], [], [rP L false false]⟩) := by
  refine (runPMoves L p1 p2 x y).trans ?_
  by_cases h : (L.length : Int) ≤ 12
  case neg => rw [decide_eq_false h]; rfl
  have hl : Nat.ble L.length 1000000 = true := Nat.ble_eq_true_of_le (by omega)
  rw [decide_eq_true h, hl, i1, i2, ix, iy]
  cases hr : moveR L x y
  · have : moveL L x y = [] := by unfold moveL; rw [hr]; rfl
    rw [this]
    rfl
  have hr' := hr
  unfold moveR at hr'
  rw [Bool.and_eq_true, Bool.and_eq_true, Bool.not_eq_true'] at hr'
  obtain ⟨ha, hm, hM⟩ := hr'
  have hA := isArea ha
  have hA' := isArea hM
  have l1 := hA.lo
  have s := mv_ok hm
  have eM : moveL L x y = mvL L x y := by unfold moveL; rw [hr]; rfl
  rw [eM]
  have hlM : Nat.ble (mvL L x y).length 1000000 = true := by rw [s.l]; exact hl
  rw [hlM, beq_eq_false_iff_ne.2 (show ((mvL L x y).length : Int) ≠ 0 by rw [s.l]; omega)]
  cases hb : moveB p1 p2 x y
  · rfl
  have hb' := hb
  unfold moveB at hb'
  rw [Bool.and_eq_true] at hb'
  -- how far it may have been moved
  have n0 := hA.near 0 (by omega) (by omega)
  have n1 := hA'.near 0 (by omega) (by rw [s.l]; omega)
  rw [(s.p 0 (by omega) (by omega)).1, (s.p 0 (by omega) (by omega)).2] at n1
  have wx : wI (0 - x) = -x := by rw [wI_id (by omega)]; omega
  have wy : wI (0 - y) = -y := by rw [wI_id (by omega)]; omega
  rw [wx, wy, inI_iff.2 (show -9223372036854775808 ≤ -x ∧ -x < 9223372036854775808 by omega), inI_iff.2 (show -9223372036854775808 ≤ -y ∧ -y < 9223372036854775808 by omega)]
  have back : ∀ k, 0 ≤ k → k < (L.length : Int) → moveB (pX (mvL L x y) k) (pY (mvL L x y) k) (-x) (-y) = true := fun k k0 k1 => by
    obtain ⟨e1, e2⟩ := s.p k k0 k1
    unfold moveB
    rw [hA'.pl k k0 (by rw [s.l]; exact k1), e1, e2, show pX L k + x + -x = pX L k by omega, show pY L k + y + -y = pY L k by omega, hA.pl k k0 k1]
    rfl
  have hm2 : anyN (mvN (mvL L x y) (-x) (-y)) (mvL L x y).length 0 = false := anyN_none.2 fun k k0 k1 => by
    unfold mvN
    rw [back k k0 (by rw [s.l] at k1; omega)]
    rfl
  have s2 := mv_ok hm2
  have same : ∀ k, 0 ≤ k → k < (L.length : Int) → pX (mvL (mvL L x y) (-x) (-y)) k = pX L k ∧ pY (mvL (mvL L x y) (-x) (-y)) k = pY L k := fun k k0 k1 => by
    obtain ⟨e1, e2⟩ := s.p k k0 k1
    obtain ⟨e3, e4⟩ := s2.p k k0 (by rw [s.l]; exact k1)
    rw [e3, e4, e1, e2]
    omega
  have ha2 := area_of (area_congr hA (s2.l.trans s.l) same)
  have hr2 : moveR (mvL L x y) (-x) (-y) = true := by unfold moveR; rw [hM, hm2, ha2]; rfl
  have eM2 : moveL (mvL L x y) (-x) (-y) = mvL (mvL L x y) (-x) (-y) := by unfold moveL; rw [hr2]; rfl
  have hs : sameB (mvL (mvL L x y) (-x) (-y)) L = true := by
    unfold sameB
    rw [s2.l, s.l, beq_self_eq_true, anyN_none.2 fun k k0 k1 => ?_]
    · rfl
    · obtain ⟨e1, e2⟩ := same k k0 (by omega)
      unfold neP
      rw [e1, e2, beq_self_eq_true, beq_self_eq_true]
      rfl
  have hleft : leftB (mvL L x y) = leftB L := by unfold leftB; rw [ha, hM, shift_area2 hA s]
  rw [eM2, hs, hr2, ha, hM, hleft, Nat.ble_eq_true_of_le (show (mvL (mvL L x y) (-x) (-y)).length ≤ 1000000 by rw [s2.l, s.l]; omega)]
  simp only [cond_true]
  rw [shift_side ha hM s hb'.1 hb'.2, beq_self_eq_true, beq_self_eq_true]
  rfl
theorem polyTellsLaw (l0 : List (List Dat)) (l1 : List Dat) (w0 : ∀ o ∈ l0, WfL ks2 o) (n0 : l0.length ≤ 281474976710656) (w1 : WfL ks2 l1) : ∃ m', runG ΓMv L0 Try.prog Try.f3 (inArgs [.row 24 ks2 l0, .v (.agg (mkEl ks2 l1).toArray)] 0) (inMem [.row 24 ks2 l0, .v (.agg (mkEl ks2 l1).toArray)]) = some (.v (.bool true), m') := by
  obtain ⟨x1, y1, rfl, _, _⟩ := pt_is w1
  exact ⟨_, polyTells l0 x1 y1⟩
theorem polyMovesLaw (l0 : List (List Dat)) (l1 : List Dat) (a2 a3 : Int) (w0 : ∀ o ∈ l0, WfL ks2 o) (n0 : l0.length ≤ 281474976710656) (w1 : WfL ks2 l1) (u2 : (Lit.int .i64 a2).wf = true) (u3 : (Lit.int .i64 a3).wf = true) : ∃ m', runG ΓMv L0 Try.prog Try.f5 (inArgs [.row 24 ks2 l0, .v (.agg (mkEl ks2 l1).toArray), .v (.int .i64 a2), .v (.int .i64 a3)] 0) (inMem [.row 24 ks2 l0, .v (.agg (mkEl ks2 l1).toArray), .v (.int .i64 a2), .v (.int .i64 a3)]) = some (.v (.bool true), m') := by
  obtain ⟨x1, y1, rfl, u, v⟩ := pt_is w1
  exact ⟨_, polyMoves l0 x1 y1 a2 a3 (i64_in u) (i64_in v) (i64_in u2) (i64_in u3)⟩
end Go.Proofs.Ytcjkkfhdnealpaa

