/-
  Bounds, and a law of poly over values.
-/
import Derived.Test.YtcjkkfhdnealpaaYe
import Derived.Test.YtcjkkfhdnealpaaTw
import Derived.Test.YtcjkkfhdnealpaaYf
namespace Go.Proofs.Ytcjkkfhdnealpaa
open Go Go.Proofs Go.Sx
set_option linter.unusedVariables false
/-! norm -/
/-! cast -/

/-! rep (((L.getD k.toNat []).headD (Dat.n (0 : Int))).toI) => (pX L k) -/
/-! rep (((L.getD k.toNat []).tail.headD (Dat.n (0 : Int))).toI) => (pY L k) -/
/-! rep ((L.getD k.toNat []).headD (Dat.n (0 : Int))).toI => (pX L k) -/
/-! rep ((L.getD k.toNat []).tail.headD (Dat.n (0 : Int))).toI => (pY L k) -/
/-! rep ((L.getD (0 : Nat) []).headD (Dat.n (0 : Int))).toI => (pX L 0) -/
/-! rep ((L.getD (0 : Nat) []).tail.headD (Dat.n (0 : Int))).toI => (pY L 0) -/
/-! rep ((L.getD 0 []).headD (Dat.n (0 : Int))).toI => (pX L 0) -/
/-! rep ((L.getD 0 []).tail.headD (Dat.n (0 : Int))).toI => (pY L 0) -/

abbrev I4 := Int × Int × Int × Int
def bdS (L : List (List Dat)) (k : Int) (s : I4) : I4 := (mn s.1 (pX L k), mn s.2.1 (pY L k), mx s.2.2.1 (pX L k), mx s.2.2.2 (pY L k))
/-- The least numbers, and the greatest ones. -/
def bdB (L : List (List Dat)) : I4 := foF (bdS L) L.length 0 (pX L 0, pY L 0, pX L 0, pY L 0)
theorem bdB_inv (L : List (List Dat)) (n : Nat) (hn : (n : Int) ≤ (L.length : Int)) (h0 : 0 < (L.length : Int)) : ∀ s, s = foF (bdS L) n 0 (pX L 0, pY L 0, pX L 0, pY L 0) → (∀ k, 0 ≤ k → k < (n : Int) → s.1 ≤ pX L k ∧ s.2.1 ≤ pY L k ∧ pX L k ≤ s.2.2.1 ∧ pY L k ≤ s.2.2.2) ∧ (∃ k, 0 ≤ k ∧ k < (L.length : Int) ∧ s.1 = pX L k) ∧ (∃ k, 0 ≤ k ∧ k < (L.length : Int) ∧ s.2.1 = pY L k) ∧ (∃ k, 0 ≤ k ∧ k < (L.length : Int) ∧ s.2.2.1 = pX L k) ∧ (∃ k, 0 ≤ k ∧ k < (L.length : Int) ∧ s.2.2.2 = pY L k) := by
  rintro s rfl
  have := foF_inv (f := bdS L) (N := (L.length : Int)) (I := fun i s => (∀ k, 0 ≤ k → k < i → s.1 ≤ pX L k ∧ s.2.1 ≤ pY L k ∧ pX L k ≤ s.2.2.1 ∧ pY L k ≤ s.2.2.2) ∧ (∃ k, 0 ≤ k ∧ k < (L.length : Int) ∧ s.1 = pX L k) ∧ (∃ k, 0 ≤ k ∧ k < (L.length : Int) ∧ s.2.1 = pY L k) ∧ (∃ k, 0 ≤ k ∧ k < (L.length : Int) ∧ s.2.2.1 = pX L k) ∧ (∃ k, 0 ≤ k ∧ k < (L.length : Int) ∧ s.2.2.2 = pY L k))
    (fun k s hk ⟨h1, ⟨k1, h2⟩, ⟨k2, h3⟩, ⟨k3, h4⟩, ⟨k4, h5⟩⟩ => by
      have m1 := mn_le s.1 (pX L k); have m2 := mn_le s.2.1 (pY L k); have m3 := le_mx s.2.2.1 (pX L k); have m4 := le_mx s.2.2.2 (pY L k)
      refine ⟨fun i i0 i1 => ?_, ?_, ?_, ?_, ?_⟩
      · show mn s.1 (pX L k) ≤ pX L i ∧ mn s.2.1 (pY L k) ≤ pY L i ∧ pX L i ≤ mx s.2.2.1 (pX L k) ∧ pY L i ≤ mx s.2.2.2 (pY L k)
        by_cases e : i = k
        · subst e; omega
        · have := h1 i i0 (by omega); omega
      · show ∃ k', 0 ≤ k' ∧ k' < (L.length : Int) ∧ mn s.1 (pX L k) = pX L k'
        rcases m1.2.2 with e | e
        · exact ⟨k1, h2.1, h2.2.1, e.trans h2.2.2⟩
        · exact ⟨k, hk.1, hk.2, e⟩
      · show ∃ k', 0 ≤ k' ∧ k' < (L.length : Int) ∧ mn s.2.1 (pY L k) = pY L k'
        rcases m2.2.2 with e | e
        · exact ⟨k2, h3.1, h3.2.1, e.trans h3.2.2⟩
        · exact ⟨k, hk.1, hk.2, e⟩
      · show ∃ k', 0 ≤ k' ∧ k' < (L.length : Int) ∧ mx s.2.2.1 (pX L k) = pX L k'
        rcases m3.2.2 with e | e
        · exact ⟨k3, h4.1, h4.2.1, e.trans h4.2.2⟩
        · exact ⟨k, hk.1, hk.2, e⟩
      · show ∃ k', 0 ≤ k' ∧ k' < (L.length : Int) ∧ mx s.2.2.2 (pY L k) = pY L k'
        rcases m4.2.2 with e | e
        · exact ⟨k4, h5.1, h5.2.1, e.trans h5.2.2⟩
        · exact ⟨k, hk.1, hk.2, e⟩) n 0 (pX L 0, pY L 0, pX L 0, pY L 0) (by omega) (by omega) ⟨fun k k0 k1 => absurd k1 (by omega), ⟨0, by omega, h0, rfl⟩, ⟨0, by omega, h0, rfl⟩, ⟨0, by omega, h0, rfl⟩, ⟨0, by omega, h0, rfl⟩⟩
  rw [show (0 : Int) + (n : Int) = (n : Int) by omega] at this
  exact this
theorem bdB_ok {L : List (List Dat)} (h0 : 0 < (L.length : Int)) : (∀ k, 0 ≤ k → k < (L.length : Int) → (bdB L).1 ≤ pX L k ∧ (bdB L).2.1 ≤ pY L k ∧ pX L k ≤ (bdB L).2.2.1 ∧ pY L k ≤ (bdB L).2.2.2) ∧ (∃ k, 0 ≤ k ∧ k < (L.length : Int) ∧ (bdB L).1 = pX L k) ∧ (∃ k, 0 ≤ k ∧ k < (L.length : Int) ∧ (bdB L).2.1 = pY L k) ∧ (∃ k, 0 ≤ k ∧ k < (L.length : Int) ∧ (bdB L).2.2.1 = pX L k) ∧ (∃ k, 0 ≤ k ∧ k < (L.length : Int) ∧ (bdB L).2.2.2 = pY L k) :=
  bdB_inv L L.length (Int.le_refl _) h0 _ rfl
noncomputable def bdBd : Code := loopAt (Try.f29.body.getD .skip) 0
def kBd : List Bool := maskOf 63 [0,2,3,4]
def xBd (e : Ex) : List Bool := match e with
  | .exit _ => maskOf 63 [2,3]
  | .ret => maskOf 63 [2]
  | .normal => maskOf 63 [0,2,3,4]
def KBd (e : Ex) (st : St) : Option (Ex × St) := some (e, cutC 0 1 (xBd e) st)
set_option maxRecDepth 20000 in
theorem stepBd (L : List (List Dat)) (own : Bool) (mark : Bool) (a : Int) (b : Int) (c : Int) (d : Int) (k : Int) (n : Nat) : evLoop ΓLb Try.prog L0 (cutC 0 1 kBd) bdBd (n + 1) (mk kBd [.row 0, .ptr 0 0, .ptr 1 0, .v (I k)] ⟨[[.v (I 0), .v (I 0), .v (I 0), .v (I 0)], [.v (I a), .v (I b), .v (I c), .v (I d)]], [true, true], [rP L own mark]⟩) KBd =
    (bif decide (k < (L.length : Int)) then (bif decide ((0 : Int) ≤ k) && decide (k < (L.length : Int)) then (bif decide ((0 : Int) ≤ k) && decide (k < (L.length : Int)) then (bif decide ((0 : Int) ≤ k) && decide (k < (L.length : Int)) then (bif decide ((0 : Int) ≤ k) && decide (k < (L.length : Int)) then evLoop ΓLb Try.prog L0 (cutC 0 1 kBd) bdBd n (mk kBd [.row 0, .ptr 0 0, .ptr 1 0, .v (I (wI (k + (1 : Int))))] ⟨[[.v (I 0), .v (I 0), .v (I 0), .v (I 0)], [.v (I (if (pX L k) < a then (pX L k) else a)), .v (I (if (pY L k) < b then (pY L k) else b)), .v (I (if (pX L k) > c then (pX L k) else c)), .v (I (if (pY L k) > d then (pY L k) else d))]], [true, true], [.live ⟨24, [.num .i64, .num .i64], L, own, mark⟩]⟩) KBd else none) else none) else none) else none) else some ((.exit 0), mk (xBd (.exit 0)) [.ptr 0 0, .ptr 1 0] ⟨[[.v (I 0), .v (I 0), .v (I 0), .v (I 0)], [.v (I a), .v (I b), .v (I c), .v (I d)]], [true, true], [.live ⟨24, [.num .i64, .num .i64], L, own, mark⟩]⟩)) := by kernel_rfl
noncomputable def EBd (n : Nat) (L : List (List Dat)) (own : Bool) (mark : Bool) (a : Int) (b : Int) (c : Int) (d : Int) (k : Int) : Option (Ex × St) :=
  evLoop ΓLb Try.prog L0 (cutC 0 1 kBd) bdBd n (mk kBd [.row 0, .ptr 0 0, .ptr 1 0, .v (I k)] ⟨[[.v (I 0), .v (I 0), .v (I 0), .v (I 0)], [.v (I a), .v (I b), .v (I c), .v (I d)]], [true, true], [rP L own mark]⟩) KBd
theorem loopBd (L : List (List Dat)) (own mark : Bool) (hl : L.length ≤ 1000000) : EBd (L.length + 1) L own mark (pX L 0) (pY L 0) (pX L 0) (pY L 0) 0 = some (.exit 0, mk (xBd (.exit 0)) [.ptr 0 0, .ptr 1 0] ⟨[[.v (I 0), .v (I 0), .v (I 0), .v (I 0)], [.v (I (bdB L).1), .v (I (bdB L).2.1), .v (I (bdB L).2.2.1), .v (I (bdB L).2.2.2)]], [true, true], [rP L own mark]⟩) := by
  refine foldAll (bdS L) (fun _ _ => True) (L.length : Int) (fun n k s => EBd n L own mark s.1 s.2.1 s.2.2.1 s.2.2.2 k) (fun s => some (.exit 0, mk (xBd (.exit 0)) [.ptr 0 0, .ptr 1 0] ⟨[[.v (I 0), .v (I 0), .v (I 0), .v (I 0)], [.v (I s.1), .v (I s.2.1), .v (I s.2.2.1), .v (I s.2.2.2)]], [true, true], [rP L own mark]⟩)) (fun n k s hk _ => ?_) (fun _ _ _ _ => trivial) (fun n k s hk _ => ?_) L.length 0 (pX L 0, pY L 0, pX L 0, pY L 0) (by omega) (by omega) trivial
  · refine (stepBd L own mark s.1 s.2.1 s.2.2.1 s.2.2.2 k n).trans ?_
    rw [decide_eq_false hk]
    rfl
  · refine (stepBd L own mark s.1 s.2.1 s.2.2.1 s.2.2.2 k n).trans ?_
    rw [decide_eq_true hk.2, decide_eq_true hk.1, wI_id (n := k + 1) (by omega)]
    rfl
def GBd (vals : List SV) (m : Mem) : Option (Bool × LT) :=
  match vals, m with
  | [.row 0, .ptr 0 0, .ptr 1 0, .v (.int .i64 k)], ⟨[[.v (.int .i64 z1), .v (.int .i64 z2), .v (.int .i64 z3), .v (.int .i64 z4)], [.v (.int .i64 a), .v (.int .i64 b), .v (.int .i64 c), .v (.int .i64 d)]], [true, true], [.live ⟨24, [.num .i64, .num .i64], L, own, mark⟩]⟩ => some ((k == 0 && (z1 == 0 && (z2 == 0 && (z3 == 0 && (z4 == 0 && (a == pX L 0 && (b == pY L 0 && (c == pX L 0 && (d == pY L 0 && Nat.ble L.length 1000000))))))))), .leaf (.exit 0) (mk (xBd (.exit 0)) [.ptr 0 0, .ptr 1 0] ⟨[[.v (I 0), .v (I 0), .v (I 0), .v (I 0)], [.v (I (bdB L).1), .v (I (bdB L).2.1), .v (I (bdB L).2.2.1), .v (I (bdB L).2.2.2)]], [true, true], [rP L own mark]⟩))
  | _, _ => none
noncomputable def ΛBd : LoopOrc := fun _ st => viaT 0 1 kBd GBd st
theorem loopOkBd (z : Base) (z1 : z.L.length = 0) (z2 : z.U.length = 1) : LoopOk ΛBd Try.prog z bdBd := by
  refine loop_okT (Λ := L0) (kx := xBd) OkLb mixed z1 z2 (fun b hb st t h => by cases h) (G := GBd) (fun _ => rfl) ?_
  intro vals m t h
  unfold GBd at h
  split at h
  · rename_i k z1 z2 z3 z4 a b c d L own mark
    obtain ⟨h1, rfl⟩ := some_t h
    simp only [Bool.and_eq_true, beq_iff_eq] at h1
    obtain ⟨rfl, rfl, rfl, rfl, rfl, rfl, rfl, rfl, rfl, hl⟩ := h1
    exact ⟨_, loopBd L own mark (Nat.le_of_ble_eq_true hl)⟩
  · cases h
theorem loopsBd : loopsOf (Try.f29.body.getD .skip) = [bdBd] := by kernel_rfl
set_option maxRecDepth 20000 in
theorem runRbd (L : List (List Dat)) (own : Bool) (mark : Bool) : runG ΓLb ΛBd Try.prog Try.f29 [.row 0] ⟨[], [], [rP L own mark]⟩ = 
    (bif true && decide ((0 : Int) < (L.length : Int)) then (bif true && decide ((0 : Int) < (L.length : Int)) then (bif true && (true && (true && (true && (true && ((pX L 0) == pX L (0 : Int) && ((pY L 0) == pY L (0 : Int) && ((pX L 0) == pX L (0 : Int) && ((pY L 0) == pY L (0 : Int) && L.length.ble (1000000))))))))) then some (.v (.agg #[(I ((bdB L).fst)), (I ((bdB L).snd.fst)), (I ((bdB L).snd.snd.fst)), (I ((bdB L).snd.snd.snd))]), ⟨[], [], [.live ⟨24, [.num .i64, .num .i64], L, own, mark⟩]⟩) else none) else none) else none) := by kernel_rfl
def gRbd (xs : List SV) (m : Mem) : Option (Bool × Value) :=
  match xs, m with
  | [.row 0], ⟨[], [], [.live ⟨24, [.num .i64, .num .i64], L, own, mark⟩]⟩ => some (Nat.blt 0 L.length && Nat.ble L.length 1000000, .agg #[I (bdB L).1, I (bdB L).2.1, I (bdB L).2.2.1, I (bdB L).2.2.2])
  | _, _ => none
theorem gRbd_ok : ∀ xs m r, gRbd xs m = some (true, r) → CallOk Try.prog 29 xs m (.v r) m := by
  intro xs m r h
  unfold gRbd at h
  split at h
  · rename_i L own mark
    obtain ⟨h1, rfl⟩ := some_t h
    refine runOk (Λ := ΛBd) OkLb Try.func29 rfl (fun z z1 z2 => oneLoop loopsBd (loopOkBd z z1 z2)) ?_
    refine (runRbd L own mark).trans ?_
    rw [Bool.and_eq_true] at h1
    have hb : 0 < (L.length : Int) := by have : 0 < L.length := Nat.le_of_ble_eq_true h1.1; omega
    simp only [decide_eq_true hb, beq_self_eq_true, h1.2, Bool.and_self]
    rfl
  · cases h
noncomputable def ΓBd1 : Orc := addRd 29 gRbd ΓLb
theorem OkBd1 : ΓBd1.Ok Try.prog := addRd_ok OkLb gRbd_ok
noncomputable def bdBe : Code := loopAt (Try.f17.body.getD .skip) 0
def kBe : List Bool := maskOf 54 [2,4,18,19,20]
def xBe (e : Ex) : List Bool := match e with
  | .exit _ => maskOf 54 [2,4]
  | .ret => maskOf 54 [2,3]
  | .normal => maskOf 54 [2,4,18,19,20]
def KBe (e : Ex) (st : St) : Option (Ex × St) := some (e, cutC 0 1 (xBe e) st)
set_option maxRecDepth 20000 in
theorem stepBe (L : List (List Dat)) (own : Bool) (mark : Bool) (a : Int) (b : Int) (c : Int) (d : Int) (nn : Int) (k : Int) (n : Nat) : evLoop ΓLb Try.prog L0 (cutC 0 1 kBe) bdBe (n + 1) (mk kBe [.ptr 0 0, .ptr 1 0, .row 0, .v (I nn), .v (I k)] ⟨[[.v (I 0), .v (I 0), .v (I 0), .v (I 0)], [.v (I a), .v (I b), .v (I c), .v (I d)]], [true, true], [rP L own mark]⟩) KBe =
    (bif decide (k < nn) then (bif decide ((0 : Int) ≤ k) && decide (k < (L.length : Int)) then evLoop ΓLb Try.prog L0 (cutC 0 1 kBe) bdBe n (mk kBe [.ptr 0 0, .ptr 1 0, .row 0, .v (I nn), .v (I (wI (k + (1 : Int))))] ⟨[[.v (I 0), .v (I 0), .v (I 0), .v (I 0)], [.v (I (if (pX L k) < a then (pX L k) else a)), .v (I (if (pY L k) < b then (pY L k) else b)), .v (I (if (pX L k) > c then (pX L k) else c)), .v (I (if (pY L k) > d then (pY L k) else d))]], [true, true], [.live ⟨24, [.num .i64, .num .i64], L, own, mark⟩]⟩) KBe else none) else some ((.exit 0), mk (xBe (.exit 0)) [.ptr 0 0, .ptr 1 0] ⟨[[.v (I 0), .v (I 0), .v (I 0), .v (I 0)], [.v (I a), .v (I b), .v (I c), .v (I d)]], [true, true], [.live ⟨24, [.num .i64, .num .i64], L, own, mark⟩]⟩)) := by kernel_rfl
noncomputable def EBe (n : Nat) (L : List (List Dat)) (own : Bool) (mark : Bool) (a : Int) (b : Int) (c : Int) (d : Int) (nn : Int) (k : Int) : Option (Ex × St) :=
  evLoop ΓLb Try.prog L0 (cutC 0 1 kBe) bdBe n (mk kBe [.ptr 0 0, .ptr 1 0, .row 0, .v (I nn), .v (I k)] ⟨[[.v (I 0), .v (I 0), .v (I 0), .v (I 0)], [.v (I a), .v (I b), .v (I c), .v (I d)]], [true, true], [rP L own mark]⟩) KBe
theorem loopBe (L : List (List Dat)) (own mark : Bool) (hl : L.length ≤ 1000000) : EBe (L.length + 1) L own mark (pX L 0) (pY L 0) (pX L 0) (pY L 0) (L.length : Int) 0 = some (.exit 0, mk (xBe (.exit 0)) [.ptr 0 0, .ptr 1 0] ⟨[[.v (I 0), .v (I 0), .v (I 0), .v (I 0)], [.v (I (bdB L).1), .v (I (bdB L).2.1), .v (I (bdB L).2.2.1), .v (I (bdB L).2.2.2)]], [true, true], [rP L own mark]⟩) := by
  refine foldAll (bdS L) (fun _ _ => True) (L.length : Int) (fun n k s => EBe n L own mark s.1 s.2.1 s.2.2.1 s.2.2.2 (L.length : Int) k) (fun s => some (.exit 0, mk (xBe (.exit 0)) [.ptr 0 0, .ptr 1 0] ⟨[[.v (I 0), .v (I 0), .v (I 0), .v (I 0)], [.v (I s.1), .v (I s.2.1), .v (I s.2.2.1), .v (I s.2.2.2)]], [true, true], [rP L own mark]⟩)) (fun n k s hk _ => ?_) (fun _ _ _ _ => trivial) (fun n k s hk _ => ?_) L.length 0 (pX L 0, pY L 0, pX L 0, pY L 0) (by omega) (by omega) trivial
  · refine (stepBe L own mark s.1 s.2.1 s.2.2.1 s.2.2.2 (L.length : Int) k n).trans ?_
    rw [decide_eq_false hk]
    rfl
  · refine (stepBe L own mark s.1 s.2.1 s.2.2.1 s.2.2.2 (L.length : Int) k n).trans ?_
    rw [decide_eq_true hk.2, decide_eq_true hk.1, wI_id (n := k + 1) (by omega)]
    rfl
def GBe (vals : List SV) (m : Mem) : Option (Bool × LT) :=
  match vals, m with
  | [.ptr 0 0, .ptr 1 0, .row 0, .v (.int .i64 nn), .v (.int .i64 k)], ⟨[[.v (.int .i64 z1), .v (.int .i64 z2), .v (.int .i64 z3), .v (.int .i64 z4)], [.v (.int .i64 a), .v (.int .i64 b), .v (.int .i64 c), .v (.int .i64 d)]], [true, true], [.live ⟨24, [.num .i64, .num .i64], L, own, mark⟩]⟩ => some (nn == (L.length : Int) && (k == 0 && (z1 == 0 && (z2 == 0 && (z3 == 0 && (z4 == 0 && (a == pX L 0 && (b == pY L 0 && (c == pX L 0 && (d == pY L 0 && Nat.ble L.length 1000000))))))))), .leaf (.exit 0) (mk (xBe (.exit 0)) [.ptr 0 0, .ptr 1 0] ⟨[[.v (I 0), .v (I 0), .v (I 0), .v (I 0)], [.v (I (bdB L).1), .v (I (bdB L).2.1), .v (I (bdB L).2.2.1), .v (I (bdB L).2.2.2)]], [true, true], [rP L own mark]⟩))
  | _, _ => none
noncomputable def ΛBe : LoopOrc := fun _ st => viaT 0 1 kBe GBe st
theorem loopOkBe (z : Base) (z1 : z.L.length = 0) (z2 : z.U.length = 1) : LoopOk ΛBe Try.prog z bdBe := by
  refine loop_okT (Λ := L0) (kx := xBe) OkLb mixed z1 z2 (fun b hb st t h => by cases h) (G := GBe) (fun _ => rfl) ?_
  intro vals m t h
  unfold GBe at h
  split at h
  · rename_i nn k z1 z2 z3 z4 a b c d L own mark
    obtain ⟨h1, rfl⟩ := some_t h
    simp only [Bool.and_eq_true, beq_iff_eq] at h1
    obtain ⟨rfl, rfl, rfl, rfl, rfl, rfl, rfl, rfl, rfl, rfl, hl⟩ := h1
    exact ⟨_, loopBe L own mark (Nat.le_of_ble_eq_true hl)⟩
  · cases h
theorem loopsBe : loopsOf (Try.f17.body.getD .skip) = [bdBe] := by kernel_rfl
def bdR (L : List (List Dat)) : Value := bif areaB L then .tuple #[.agg #[I (bdB L).1, I (bdB L).2.1, I (bdB L).2.2.1, I (bdB L).2.2.2], Bo true] else .tuple #[.agg #[I 0, I 0, I 0, I 0], Bo false]
abbrev bdV (L : List (List Dat)) (x : Int) : Int := bif areaB L then x else 0
set_option maxRecDepth 20000 in
theorem runBde (L : List (List Dat)) (own : Bool) (mark : Bool) : runG ΓBd1 ΛBe Try.prog Try.f17 [.row 0] ⟨[], [], [rP L own mark]⟩ = 
    (bif L.length.ble (1000000) then (bif !areaB L then some (.v (.tuple #[(.agg #[(I 0), (I 0), (I 0), (I 0)]), (Bo false)]), ⟨[], [], [.live ⟨24, [.num .i64, .num .i64], L, own, mark⟩]⟩) else (bif true && decide ((0 : Int) < (L.length : Int)) then (bif true && decide ((0 : Int) < (L.length : Int)) then (bif (L.length : Int) == (L.length : Int) && (true && (true && (true && (true && (true && ((pX L 0) == pX L (0 : Int) && ((pY L 0) == pY L (0 : Int) && ((pX L 0) == pX L (0 : Int) && ((pY L 0) == pY L (0 : Int) && L.length.ble (1000000)))))))))) then some (.v (.tuple #[(.agg #[(I ((bdB L).fst)), (I ((bdB L).snd.fst)), (I ((bdB L).snd.snd.fst)), (I ((bdB L).snd.snd.snd))]), (Bo true)]), ⟨[], [], [.live ⟨24, [.num .i64, .num .i64], L, own, mark⟩]⟩) else none) else none) else none)) else none) := by kernel_rfl
def gBde (xs : List SV) (m : Mem) : Option (Bool × Value) :=
  match xs, m with
  | [.row 0], ⟨[], [], [.live ⟨24, [.num .i64, .num .i64], L, own, mark⟩]⟩ => some (Nat.ble L.length 1000000, .tuple #[.agg #[I (bdV L (bdB L).1), I (bdV L (bdB L).2.1), I (bdV L (bdB L).2.2.1), I (bdV L (bdB L).2.2.2)], Bo (areaB L)])
  | _, _ => none
theorem gBde_ok : ∀ xs m r, gBde xs m = some (true, r) → CallOk Try.prog 17 xs m (.v r) m := by
  intro xs m r h
  unfold gBde at h
  split at h
  · rename_i L own mark
    obtain ⟨h1, rfl⟩ := some_t h
    refine runOk (Λ := ΛBe) OkBd1 Try.func17 rfl (fun z z1 z2 => oneLoop loopsBe (loopOkBe z z1 z2)) ?_
    refine (runBde L own mark).trans ?_
    rw [h1]
    cases ha : areaB L
    · simp only [bdV, ha]; rfl
    · have hb : 0 < (L.length : Int) := by have := (isArea ha).lo; omega
      simp only [decide_eq_true hb, beq_self_eq_true, Bool.and_self, bdV, ha]
      rfl
  · cases h
noncomputable def ΓBd2 : Orc := addRd 17 gBde ΓBd1
theorem OkBd2 : ΓBd2.Ok Try.prog := addRd_ok OkBd1 gBde_ok
set_option maxRecDepth 20000 in
theorem runFew (L : List (List Dat)) (own : Bool) (mark : Bool) : runG ΓBd2 L0 Try.prog Try.f16 [.row 0] ⟨[], [], [rP L own mark]⟩ = 
    some (.v (Bo (decide ((L.length : Int) ≤ (12 : Int)))), ⟨[], [], [.live ⟨24, [.num .i64, .num .i64], L, own, mark⟩]⟩) := by kernel_rfl
def gFew (xs : List SV) (m : Mem) : Option (Bool × Value) :=
  match xs, m with
  | [.row 0], ⟨[], [], [.live ⟨24, [.num .i64, .num .i64], L, own, mark⟩]⟩ => some (true, Bo (decide ((L.length : Int) ≤ 12)))
  | _, _ => none
theorem gFew_ok : ∀ xs m r, gFew xs m = some (true, r) → CallOk Try.prog 16 xs m (.v r) m := by
  intro xs m r h
  unfold gFew at h
  split at h
  · rename_i L own mark
    obtain ⟨h1, rfl⟩ := some_t h
    refine runOk (Λ := L0) OkBd2 Try.func16 rfl (fun z _ _ => l0Ok' _ z) ?_
    refine (runFew L own mark).trans ?_
    rfl
  · cases h
noncomputable def ΓBd3 : Orc := addRd 16 gFew ΓBd2
theorem OkBd3 : ΓBd3.Ok Try.prog := addRd_ok OkBd2 gFew_ok
noncomputable def ΓBd : Orc := ΓBd3
theorem OkBd : ΓBd.Ok Try.prog := OkBd3
end Go.Proofs.Ytcjkkfhdnealpaa

namespace Go.Proofs.Ytcjkkfhdnealpaa
open Go Go.Proofs Go.Sx
set_option linter.unusedVariables false
/-! norm -/
/-! cast -/

/-! rep ((L.getD ((wI (k + (1 : Int))).tmod (L.length : Int)).toNat []).headD (Dat.n (0 : Int))).toI => (pX L (nx L k)) -/
/-! rep ((L.getD ((wI (k + (1 : Int))).tmod (L.length : Int)).toNat []).tail.headD (Dat.n (0 : Int))).toI => (pY L (nx L k)) -/
/-! rep (wI (k + (1 : Int))).tmod (L.length : Int) => nx L k -/
/-! rep (((L.getD k.toNat []).headD (Dat.n (0 : Int))).toI) => (pX L k) -/
/-! rep (((L.getD k.toNat []).tail.headD (Dat.n (0 : Int))).toI) => (pY L k) -/
/-! rep ((L.getD k.toNat []).headD (Dat.n (0 : Int))).toI => (pX L k) -/
/-! rep ((L.getD k.toNat []).tail.headD (Dat.n (0 : Int))).toI => (pY L k) -/

noncomputable def bdPw : Code := loopAt (Try.f6.body.getD .skip) 0
def kPw : List Bool := maskOf 133 [0,4,5,9,77,78,79]
def xPw (e : Ex) : List Bool := match e with
  | .exit _ => maskOf 133 [0,4,5,9]
  | .ret => maskOf 133 [6]
  | .normal => maskOf 133 [0,4,5,9,77,78,79]
def KPw (e : Ex) (st : St) : Option (Ex × St) := some (e, cutC 0 1 (xPw e) st)
set_option maxRecDepth 20000 in
theorem stepPw (L : List (List Dat)) (p1 : Int) (p2 : Int) (q1 : Int) (q2 : Int) (mt : Bool) (nn : Int) (k : Int) (n : Nat) : evLoop ΓBd Try.prog L0 (cutC 0 1 kPw) bdPw (n + 1) (mk kPw [.row 0, .ptr 0 0, .ptr 1 0, .v (Bo mt), .row 0, .v (I nn), .v (I k)] ⟨[[.v (I p1), .v (I p2)], [.v (I q1), .v (I q2)]], [true, true], [rP L false false]⟩) KPw =
    (bif decide (k < nn) then (bif decide ((0 : Int) ≤ k) && decide (k < (L.length : Int)) then (bif (L.length : Int) == (0 : Int) then none else (bif decide ((0 : Int) ≤ nx L k) && decide (nx L k < (L.length : Int)) then (bif L.length.ble (1000000) then (bif sideI L (pX L k) (pY L k) != (0 : Int) then some (.ret, mk (xPw .ret) [.v (Bo false)] ⟨[], [], [.live ⟨24, [.num .i64, .num .i64], L, false, false⟩]⟩) else (bif onB p1 p2 (pX L k) (pY L k) (pX L (nx L k)) (pY L (nx L k)) then (bif L.length.ble (1000000) then (bif sideI L p1 p2 != (0 : Int) then some (.ret, mk (xPw .ret) [.v (Bo false)] ⟨[], [], [.live ⟨24, [.num .i64, .num .i64], L, false, false⟩]⟩) else (bif mt then evLoop ΓBd Try.prog L0 (cutC 0 1 kPw) bdPw n (mk kPw [.row 0, .ptr 0 0, .ptr 1 0, .v (Bo true), .row 0, .v (I nn), .v (I (wI (k + (1 : Int))))] ⟨[[.v (I p1), .v (I p2)], [.v (I q1), .v (I q2)]], [true, true], [.live ⟨24, [.num .i64, .num .i64], L, false, false⟩]⟩) KPw else evLoop ΓBd Try.prog L0 (cutC 0 1 kPw) bdPw n (mk kPw [.row 0, .ptr 0 0, .ptr 1 0, .v (Bo (meetB p1 p2 q1 q2 (pX L k) (pY L k) (pX L (nx L k)) (pY L (nx L k)))), .row 0, .v (I nn), .v (I (wI (k + (1 : Int))))] ⟨[[.v (I p1), .v (I p2)], [.v (I q1), .v (I q2)]], [true, true], [.live ⟨24, [.num .i64, .num .i64], L, false, false⟩]⟩) KPw)) else none) else (bif mt then evLoop ΓBd Try.prog L0 (cutC 0 1 kPw) bdPw n (mk kPw [.row 0, .ptr 0 0, .ptr 1 0, .v (Bo true), .row 0, .v (I nn), .v (I (wI (k + (1 : Int))))] ⟨[[.v (I p1), .v (I p2)], [.v (I q1), .v (I q2)]], [true, true], [.live ⟨24, [.num .i64, .num .i64], L, false, false⟩]⟩) KPw else evLoop ΓBd Try.prog L0 (cutC 0 1 kPw) bdPw n (mk kPw [.row 0, .ptr 0 0, .ptr 1 0, .v (Bo (meetB p1 p2 q1 q2 (pX L k) (pY L k) (pX L (nx L k)) (pY L (nx L k)))), .row 0, .v (I nn), .v (I (wI (k + (1 : Int))))] ⟨[[.v (I p1), .v (I p2)], [.v (I q1), .v (I q2)]], [true, true], [.live ⟨24, [.num .i64, .num .i64], L, false, false⟩]⟩) KPw))) else none) else none)) else none) else some ((.exit 0), mk (xPw (.exit 0)) [.row 0, .ptr 0 0, .ptr 1 0, .v (Bo mt)] ⟨[[.v (I p1), .v (I p2)], [.v (I q1), .v (I q2)]], [true, true], [.live ⟨24, [.num .i64, .num .i64], L, false, false⟩]⟩)) := by kernel_rfl
noncomputable def EPw (n : Nat) (L : List (List Dat)) (p1 : Int) (p2 : Int) (q1 : Int) (q2 : Int) (mt : Bool) (nn : Int) (k : Int) : Option (Ex × St) :=
  evLoop ΓBd Try.prog L0 (cutC 0 1 kPw) bdPw n (mk kPw [.row 0, .ptr 0 0, .ptr 1 0, .v (Bo mt), .row 0, .v (I nn), .v (I k)] ⟨[[.v (I p1), .v (I p2)], [.v (I q1), .v (I q2)]], [true, true], [rP L false false]⟩) KPw
noncomputable def bdPd : Code := loopAt (Try.f8.body.getD .skip) 0
def kPd : List Bool := maskOf 138 [0,3,4,5,27,28,29]
def xPd (e : Ex) : List Bool := match e with
  | .exit _ => maskOf 138 [3,4,5]
  | .ret => maskOf 138 [2]
  | .normal => maskOf 138 [0,3,4,5,27,28,29]
def KPd (e : Ex) (st : St) : Option (Ex × St) := some (e, cutC 0 1 (xPd e) st)
set_option maxRecDepth 20000 in
theorem stepPd (L : List (List Dat)) (a : Int) (b : Int) (c : Int) (d : Int) (ok : Bool) (t1 : Bool) (t2 : Bool) (t3 : Bool) (t4 : Bool) (nn : Int) (k : Int) (n : Nat) : evLoop ΓBd Try.prog L0 (cutC 0 1 kPd) bdPd (n + 1) (mk kPd [.row 0, .ptr 0 0, .v (Bo ok), .ptr 1 0, .row 0, .v (I nn), .v (I k)] ⟨[[.v (I a), .v (I b), .v (I c), .v (I d)], [.v (Bo t1), .v (Bo t2), .v (Bo t3), .v (Bo t4)]], [true, true], [rP L false false]⟩) KPd =
    (bif decide (k < nn) then (bif decide ((0 : Int) ≤ k) && decide (k < (L.length : Int)) then (bif t1 then (bif t2 then (bif t3 then (bif t4 then (bif decide ((pX L k) < a) then some (.ret, mk (xPd .ret) [.v (Bo false)] ⟨[], [], [.live ⟨24, [.num .i64, .num .i64], L, false, false⟩]⟩) else (bif decide ((pX L k) > c) then some (.ret, mk (xPd .ret) [.v (Bo false)] ⟨[], [], [.live ⟨24, [.num .i64, .num .i64], L, false, false⟩]⟩) else (bif decide ((pY L k) < b) then some (.ret, mk (xPd .ret) [.v (Bo false)] ⟨[], [], [.live ⟨24, [.num .i64, .num .i64], L, false, false⟩]⟩) else (bif decide ((pY L k) > d) then some (.ret, mk (xPd .ret) [.v (Bo false)] ⟨[], [], [.live ⟨24, [.num .i64, .num .i64], L, false, false⟩]⟩) else (bif L.length.ble (1000000) then (bif decide (sideI L (pX L k) (pY L k) < (0 : Int)) then some (.ret, mk (xPd .ret) [.v (Bo false)] ⟨[], [], [.live ⟨24, [.num .i64, .num .i64], L, false, false⟩]⟩) else evLoop ΓBd Try.prog L0 (cutC 0 1 kPd) bdPd n (mk kPd [.row 0, .ptr 0 0, .v (Bo ok), .ptr 1 0, .row 0, .v (I nn), .v (I (wI (k + (1 : Int))))] ⟨[[.v (I a), .v (I b), .v (I c), .v (I d)], [.v (Bo true), .v (Bo true), .v (Bo true), .v (Bo true)]], [true, true], [.live ⟨24, [.num .i64, .num .i64], L, false, false⟩]⟩) KPd) else none))))) else (bif decide ((pX L k) < a) then some (.ret, mk (xPd .ret) [.v (Bo false)] ⟨[], [], [.live ⟨24, [.num .i64, .num .i64], L, false, false⟩]⟩) else (bif decide ((pX L k) > c) then some (.ret, mk (xPd .ret) [.v (Bo false)] ⟨[], [], [.live ⟨24, [.num .i64, .num .i64], L, false, false⟩]⟩) else (bif decide ((pY L k) < b) then some (.ret, mk (xPd .ret) [.v (Bo false)] ⟨[], [], [.live ⟨24, [.num .i64, .num .i64], L, false, false⟩]⟩) else (bif decide ((pY L k) > d) then some (.ret, mk (xPd .ret) [.v (Bo false)] ⟨[], [], [.live ⟨24, [.num .i64, .num .i64], L, false, false⟩]⟩) else (bif L.length.ble (1000000) then (bif decide (sideI L (pX L k) (pY L k) < (0 : Int)) then some (.ret, mk (xPd .ret) [.v (Bo false)] ⟨[], [], [.live ⟨24, [.num .i64, .num .i64], L, false, false⟩]⟩) else evLoop ΓBd Try.prog L0 (cutC 0 1 kPd) bdPd n (mk kPd [.row 0, .ptr 0 0, .v (Bo ok), .ptr 1 0, .row 0, .v (I nn), .v (I (wI (k + (1 : Int))))] ⟨[[.v (I a), .v (I b), .v (I c), .v (I d)], [.v (Bo true), .v (Bo true), .v (Bo true), .v (Bo ((pY L k) == d))]], [true, true], [.live ⟨24, [.num .i64, .num .i64], L, false, false⟩]⟩) KPd) else none)))))) else (bif t4 then (bif decide ((pX L k) < a) then some (.ret, mk (xPd .ret) [.v (Bo false)] ⟨[], [], [.live ⟨24, [.num .i64, .num .i64], L, false, false⟩]⟩) else (bif decide ((pX L k) > c) then some (.ret, mk (xPd .ret) [.v (Bo false)] ⟨[], [], [.live ⟨24, [.num .i64, .num .i64], L, false, false⟩]⟩) else (bif decide ((pY L k) < b) then some (.ret, mk (xPd .ret) [.v (Bo false)] ⟨[], [], [.live ⟨24, [.num .i64, .num .i64], L, false, false⟩]⟩) else (bif decide ((pY L k) > d) then some (.ret, mk (xPd .ret) [.v (Bo false)] ⟨[], [], [.live ⟨24, [.num .i64, .num .i64], L, false, false⟩]⟩) else (bif L.length.ble (1000000) then (bif decide (sideI L (pX L k) (pY L k) < (0 : Int)) then some (.ret, mk (xPd .ret) [.v (Bo false)] ⟨[], [], [.live ⟨24, [.num .i64, .num .i64], L, false, false⟩]⟩) else evLoop ΓBd Try.prog L0 (cutC 0 1 kPd) bdPd n (mk kPd [.row 0, .ptr 0 0, .v (Bo ok), .ptr 1 0, .row 0, .v (I nn), .v (I (wI (k + (1 : Int))))] ⟨[[.v (I a), .v (I b), .v (I c), .v (I d)], [.v (Bo true), .v (Bo true), .v (Bo ((pY L k) == b)), .v (Bo true)]], [true, true], [.live ⟨24, [.num .i64, .num .i64], L, false, false⟩]⟩) KPd) else none))))) else (bif decide ((pX L k) < a) then some (.ret, mk (xPd .ret) [.v (Bo false)] ⟨[], [], [.live ⟨24, [.num .i64, .num .i64], L, false, false⟩]⟩) else (bif decide ((pX L k) > c) then some (.ret, mk (xPd .ret) [.v (Bo false)] ⟨[], [], [.live ⟨24, [.num .i64, .num .i64], L, false, false⟩]⟩) else (bif decide ((pY L k) < b) then some (.ret, mk (xPd .ret) [.v (Bo false)] ⟨[], [], [.live ⟨24, [.num .i64, .num .i64], L, false, false⟩]⟩) else (bif decide ((pY L k) > d) then some (.ret, mk (xPd .ret) [.v (Bo false)] ⟨[], [], [.live ⟨24, [.num .i64, .num .i64], L, false, false⟩]⟩) else (bif L.length.ble (1000000) then (bif decide (sideI L (pX L k) (pY L k) < (0 : Int)) then some (.ret, mk (xPd .ret) [.v (Bo false)] ⟨[], [], [.live ⟨24, [.num .i64, .num .i64], L, false, false⟩]⟩) else evLoop ΓBd Try.prog L0 (cutC 0 1 kPd) bdPd n (mk kPd [.row 0, .ptr 0 0, .v (Bo ok), .ptr 1 0, .row 0, .v (I nn), .v (I (wI (k + (1 : Int))))] ⟨[[.v (I a), .v (I b), .v (I c), .v (I d)], [.v (Bo true), .v (Bo true), .v (Bo ((pY L k) == b)), .v (Bo ((pY L k) == d))]], [true, true], [.live ⟨24, [.num .i64, .num .i64], L, false, false⟩]⟩) KPd) else none))))))) else (bif t3 then (bif t4 then (bif decide ((pX L k) < a) then some (.ret, mk (xPd .ret) [.v (Bo false)] ⟨[], [], [.live ⟨24, [.num .i64, .num .i64], L, false, false⟩]⟩) else (bif decide ((pX L k) > c) then some (.ret, mk (xPd .ret) [.v (Bo false)] ⟨[], [], [.live ⟨24, [.num .i64, .num .i64], L, false, false⟩]⟩) else (bif decide ((pY L k) < b) then some (.ret, mk (xPd .ret) [.v (Bo false)] ⟨[], [], [.live ⟨24, [.num .i64, .num .i64], L, false, false⟩]⟩) else (bif decide ((pY L k) > d) then some (.ret, mk (xPd .ret) [.v (Bo false)] ⟨[], [], [.live ⟨24, [.num .i64, .num .i64], L, false, false⟩]⟩) else (bif L.length.ble (1000000) then (bif decide (sideI L (pX L k) (pY L k) < (0 : Int)) then some (.ret, mk (xPd .ret) [.v (Bo false)] ⟨[], [], [.live ⟨24, [.num .i64, .num .i64], L, false, false⟩]⟩) else evLoop ΓBd Try.prog L0 (cutC 0 1 kPd) bdPd n (mk kPd [.row 0, .ptr 0 0, .v (Bo ok), .ptr 1 0, .row 0, .v (I nn), .v (I (wI (k + (1 : Int))))] ⟨[[.v (I a), .v (I b), .v (I c), .v (I d)], [.v (Bo true), .v (Bo ((pX L k) == c)), .v (Bo true), .v (Bo true)]], [true, true], [.live ⟨24, [.num .i64, .num .i64], L, false, false⟩]⟩) KPd) else none))))) else (bif decide ((pX L k) < a) then some (.ret, mk (xPd .ret) [.v (Bo false)] ⟨[], [], [.live ⟨24, [.num .i64, .num .i64], L, false, false⟩]⟩) else (bif decide ((pX L k) > c) then some (.ret, mk (xPd .ret) [.v (Bo false)] ⟨[], [], [.live ⟨24, [.num .i64, .num .i64], L, false, false⟩]⟩) else (bif decide ((pY L k) < b) then some (.ret, mk (xPd .ret) [.v (Bo false)] ⟨[], [], [.live ⟨24, [.num .i64, .num .i64], L, false, false⟩]⟩) else (bif decide ((pY L k) > d) then some (.ret, mk (xPd .ret) [.v (Bo false)] ⟨[], [], [.live ⟨24, [.num .i64, .num .i64], L, false, false⟩]⟩) else (bif L.length.ble (1000000) then (bif decide (sideI L (pX L k) (pY L k) < (0 : Int)) then some (.ret, mk (xPd .ret) [.v (Bo false)] ⟨[], [], [.live ⟨24, [.num .i64, .num .i64], L, false, false⟩]⟩) else evLoop ΓBd Try.prog L0 (cutC 0 1 kPd) bdPd n (mk kPd [.row 0, .ptr 0 0, .v (Bo ok), .ptr 1 0, .row 0, .v (I nn), .v (I (wI (k + (1 : Int))))] ⟨[[.v (I a), .v (I b), .v (I c), .v (I d)], [.v (Bo true), .v (Bo ((pX L k) == c)), .v (Bo true), .v (Bo ((pY L k) == d))]], [true, true], [.live ⟨24, [.num .i64, .num .i64], L, false, false⟩]⟩) KPd) else none)))))) else (bif t4 then (bif decide ((pX L k) < a) then some (.ret, mk (xPd .ret) [.v (Bo false)] ⟨[], [], [.live ⟨24, [.num .i64, .num .i64], L, false, false⟩]⟩) else (bif decide ((pX L k) > c) then some (.ret, mk (xPd .ret) [.v (Bo false)] ⟨[], [], [.live ⟨24, [.num .i64, .num .i64], L, false, false⟩]⟩) else (bif decide ((pY L k) < b) then some (.ret, mk (xPd .ret) [.v (Bo false)] ⟨[], [], [.live ⟨24, [.num .i64, .num .i64], L, false, false⟩]⟩) else (bif decide ((pY L k) > d) then some (.ret, mk (xPd .ret) [.v (Bo false)] ⟨[], [], [.live ⟨24, [.num .i64, .num .i64], L, false, false⟩]⟩) else (bif L.length.ble (1000000) then (bif decide (sideI L (pX L k) (pY L k) < (0 : Int)) then some (.ret, mk (xPd .ret) [.v (Bo false)] ⟨[], [], [.live ⟨24, [.num .i64, .num .i64], L, false, false⟩]⟩) else evLoop ΓBd Try.prog L0 (cutC 0 1 kPd) bdPd n (mk kPd [.row 0, .ptr 0 0, .v (Bo ok), .ptr 1 0, .row 0, .v (I nn), .v (I (wI (k + (1 : Int))))] ⟨[[.v (I a), .v (I b), .v (I c), .v (I d)], [.v (Bo true), .v (Bo ((pX L k) == c)), .v (Bo ((pY L k) == b)), .v (Bo true)]], [true, true], [.live ⟨24, [.num .i64, .num .i64], L, false, false⟩]⟩) KPd) else none))))) else (bif decide ((pX L k) < a) then some (.ret, mk (xPd .ret) [.v (Bo false)] ⟨[], [], [.live ⟨24, [.num .i64, .num .i64], L, false, false⟩]⟩) else (bif decide ((pX L k) > c) then some (.ret, mk (xPd .ret) [.v (Bo false)] ⟨[], [], [.live ⟨24, [.num .i64, .num .i64], L, false, false⟩]⟩) else (bif decide ((pY L k) < b) then some (.ret, mk (xPd .ret) [.v (Bo false)] ⟨[], [], [.live ⟨24, [.num .i64, .num .i64], L, false, false⟩]⟩) else (bif decide ((pY L k) > d) then some (.ret, mk (xPd .ret) [.v (Bo false)] ⟨[], [], [.live ⟨24, [.num .i64, .num .i64], L, false, false⟩]⟩) else (bif L.length.ble (1000000) then (bif decide (sideI L (pX L k) (pY L k) < (0 : Int)) then some (.ret, mk (xPd .ret) [.v (Bo false)] ⟨[], [], [.live ⟨24, [.num .i64, .num .i64], L, false, false⟩]⟩) else evLoop ΓBd Try.prog L0 (cutC 0 1 kPd) bdPd n (mk kPd [.row 0, .ptr 0 0, .v (Bo ok), .ptr 1 0, .row 0, .v (I nn), .v (I (wI (k + (1 : Int))))] ⟨[[.v (I a), .v (I b), .v (I c), .v (I d)], [.v (Bo true), .v (Bo ((pX L k) == c)), .v (Bo ((pY L k) == b)), .v (Bo ((pY L k) == d))]], [true, true], [.live ⟨24, [.num .i64, .num .i64], L, false, false⟩]⟩) KPd) else none)))))))) else (bif t2 then (bif t3 then (bif t4 then (bif decide ((pX L k) < a) then some (.ret, mk (xPd .ret) [.v (Bo false)] ⟨[], [], [.live ⟨24, [.num .i64, .num .i64], L, false, false⟩]⟩) else (bif decide ((pX L k) > c) then some (.ret, mk (xPd .ret) [.v (Bo false)] ⟨[], [], [.live ⟨24, [.num .i64, .num .i64], L, false, false⟩]⟩) else (bif decide ((pY L k) < b) then some (.ret, mk (xPd .ret) [.v (Bo false)] ⟨[], [], [.live ⟨24, [.num .i64, .num .i64], L, false, false⟩]⟩) else (bif decide ((pY L k) > d) then some (.ret, mk (xPd .ret) [.v (Bo false)] ⟨[], [], [.live ⟨24, [.num .i64, .num .i64], L, false, false⟩]⟩) else (bif L.length.ble (1000000) then (bif decide (sideI L (pX L k) (pY L k) < (0 : Int)) then some (.ret, mk (xPd .ret) [.v (Bo false)] ⟨[], [], [.live ⟨24, [.num .i64, .num .i64], L, false, false⟩]⟩) else evLoop ΓBd Try.prog L0 (cutC 0 1 kPd) bdPd n (mk kPd [.row 0, .ptr 0 0, .v (Bo ok), .ptr 1 0, .row 0, .v (I nn), .v (I (wI (k + (1 : Int))))] ⟨[[.v (I a), .v (I b), .v (I c), .v (I d)], [.v (Bo ((pX L k) == a)), .v (Bo true), .v (Bo true), .v (Bo true)]], [true, true], [.live ⟨24, [.num .i64, .num .i64], L, false, false⟩]⟩) KPd) else none))))) else (bif decide ((pX L k) < a) then some (.ret, mk (xPd .ret) [.v (Bo false)] ⟨[], [], [.live ⟨24, [.num .i64, .num .i64], L, false, false⟩]⟩) else (bif decide ((pX L k) > c) then some (.ret, mk (xPd .ret) [.v (Bo false)] ⟨[], [], [.live ⟨24, [.num .i64, .num .i64], L, false, false⟩]⟩) else (bif decide ((pY L k) < b) then some (.ret, mk (xPd .ret) [.v (Bo false)] ⟨[], [], [.live ⟨24, [.num .i64, .num .i64], L, false, false⟩]⟩) else (bif decide ((pY L k) > d) then some (.ret, mk (xPd .ret) [.v (Bo false)] ⟨[], [], [.live ⟨24, [.num .i64, .num .i64], L, false, false⟩]⟩) else (bif L.length.ble (1000000) then (bif decide (sideI L (pX L k) (pY L k) < (0 : Int)) then some (.ret, mk (xPd .ret) [.v (Bo false)] ⟨[], [], [.live ⟨24, [.num .i64, .num .i64], L, false, false⟩]⟩) else evLoop ΓBd Try.prog L0 (cutC 0 1 kPd) bdPd n (mk kPd [.row 0, .ptr 0 0, .v (Bo ok), .ptr 1 0, .row 0, .v (I nn), .v (I (wI (k + (1 : Int))))] ⟨[[.v (I a), .v (I b), .v (I c), .v (I d)], [.v (Bo ((pX L k) == a)), .v (Bo true), .v (Bo true), .v (Bo ((pY L k) == d))]], [true, true], [.live ⟨24, [.num .i64, .num .i64], L, false, false⟩]⟩) KPd) else none)))))) else (bif t4 then (bif decide ((pX L k) < a) then some (.ret, mk (xPd .ret) [.v (Bo false)] ⟨[], [], [.live ⟨24, [.num .i64, .num .i64], L, false, false⟩]⟩) else (bif decide ((pX L k) > c) then some (.ret, mk (xPd .ret) [.v (Bo false)] ⟨[], [], [.live ⟨24, [.num .i64, .num .i64], L, false, false⟩]⟩) else (bif decide ((pY L k) < b) then some (.ret, mk (xPd .ret) [.v (Bo false)] ⟨[], [], [.live ⟨24, [.num .i64, .num .i64], L, false, false⟩]⟩) else (bif decide ((pY L k) > d) then some (.ret, mk (xPd .ret) [.v (Bo false)] ⟨[], [], [.live ⟨24, [.num .i64, .num .i64], L, false, false⟩]⟩) else (bif L.length.ble (1000000) then (bif decide (sideI L (pX L k) (pY L k) < (0 : Int)) then some (.ret, mk (xPd .ret) [.v (Bo false)] ⟨[], [], [.live ⟨24, [.num .i64, .num .i64], L, false, false⟩]⟩) else evLoop ΓBd Try.prog L0 (cutC 0 1 kPd) bdPd n (mk kPd [.row 0, .ptr 0 0, .v (Bo ok), .ptr 1 0, .row 0, .v (I nn), .v (I (wI (k + (1 : Int))))] ⟨[[.v (I a), .v (I b), .v (I c), .v (I d)], [.v (Bo ((pX L k) == a)), .v (Bo true), .v (Bo ((pY L k) == b)), .v (Bo true)]], [true, true], [.live ⟨24, [.num .i64, .num .i64], L, false, false⟩]⟩) KPd) else none))))) else (bif decide ((pX L k) < a) then some (.ret, mk (xPd .ret) [.v (Bo false)] ⟨[], [], [.live ⟨24, [.num .i64, .num .i64], L, false, false⟩]⟩) else (bif decide ((pX L k) > c) then some (.ret, mk (xPd .ret) [.v (Bo false)] ⟨[], [], [.live ⟨24, [.num .i64, .num .i64], L, false, false⟩]⟩) else (bif decide ((pY L k) < b) then some (.ret, mk (xPd .ret) [.v (Bo false)] ⟨[], [], [.live ⟨24, [.num .i64, .num .i64], L, false, false⟩]⟩) else (bif decide ((pY L k) > d) then some (.ret, mk (xPd .ret) [.v (Bo false)] ⟨[], [], [.live ⟨24, [.num .i64, .num .i64], L, false, false⟩]⟩) else (bif L.length.ble (1000000) then (bif decide (sideI L (pX L k) (pY L k) < (0 : Int)) then some (.ret, mk (xPd .ret) [.v (Bo false)] ⟨[], [], [.live ⟨24, [.num .i64, .num .i64], L, false, false⟩]⟩) else evLoop ΓBd Try.prog L0 (cutC 0 1 kPd) bdPd n (mk kPd [.row 0, .ptr 0 0, .v (Bo ok), .ptr 1 0, .row 0, .v (I nn), .v (I (wI (k + (1 : Int))))] ⟨[[.v (I a), .v (I b), .v (I c), .v (I d)], [.v (Bo ((pX L k) == a)), .v (Bo true), .v (Bo ((pY L k) == b)), .v (Bo ((pY L k) == d))]], [true, true], [.live ⟨24, [.num .i64, .num .i64], L, false, false⟩]⟩) KPd) else none))))))) else (bif t3 then (bif t4 then (bif decide ((pX L k) < a) then some (.ret, mk (xPd .ret) [.v (Bo false)] ⟨[], [], [.live ⟨24, [.num .i64, .num .i64], L, false, false⟩]⟩) else (bif decide ((pX L k) > c) then some (.ret, mk (xPd .ret) [.v (Bo false)] ⟨[], [], [.live ⟨24, [.num .i64, .num .i64], L, false, false⟩]⟩) else (bif decide ((pY L k) < b) then some (.ret, mk (xPd .ret) [.v (Bo false)] ⟨[], [], [.live ⟨24, [.num .i64, .num .i64], L, false, false⟩]⟩) else (bif decide ((pY L k) > d) then some (.ret, mk (xPd .ret) [.v (Bo false)] ⟨[], [], [.live ⟨24, [.num .i64, .num .i64], L, false, false⟩]⟩) else (bif L.length.ble (1000000) then (bif decide (sideI L (pX L k) (pY L k) < (0 : Int)) then some (.ret, mk (xPd .ret) [.v (Bo false)] ⟨[], [], [.live ⟨24, [.num .i64, .num .i64], L, false, false⟩]⟩) else evLoop ΓBd Try.prog L0 (cutC 0 1 kPd) bdPd n (mk kPd [.row 0, .ptr 0 0, .v (Bo ok), .ptr 1 0, .row 0, .v (I nn), .v (I (wI (k + (1 : Int))))] ⟨[[.v (I a), .v (I b), .v (I c), .v (I d)], [.v (Bo ((pX L k) == a)), .v (Bo ((pX L k) == c)), .v (Bo true), .v (Bo true)]], [true, true], [.live ⟨24, [.num .i64, .num .i64], L, false, false⟩]⟩) KPd) else none))))) else (bif decide ((pX L k) < a) then some (.ret, mk (xPd .ret) [.v (Bo false)] ⟨[], [], [.live ⟨24, [.num .i64, .num .i64], L, false, false⟩]⟩) else (bif decide ((pX L k) > c) then some (.ret, mk (xPd .ret) [.v (Bo false)] ⟨[], [], [.live ⟨24, [.num .i64, .num .i64], L, false, false⟩]⟩) else (bif decide ((pY L k) < b) then some (.ret, mk (xPd .ret) [.v (Bo false)] ⟨[], [], [.live ⟨24, [.num .i64, .num .i64], L, false, false⟩]⟩) else (bif decide ((pY L k) > d) then some (.ret, mk (xPd .ret) [.v (Bo false)] ⟨[], [], [.live ⟨24, [.num .i64, .num .i64], L, false, false⟩]⟩) else (bif L.length.ble (1000000) then (bif decide (sideI L (pX L k) (pY L k) < (0 : Int)) then some (.ret, mk (xPd .ret) [.v (Bo false)] ⟨[], [], [.live ⟨24, [.num .i64, .num .i64], L, false, false⟩]⟩) else evLoop ΓBd Try.prog L0 (cutC 0 1 kPd) bdPd n (mk kPd [.row 0, .ptr 0 0, .v (Bo ok), .ptr 1 0, .row 0, .v (I nn), .v (I (wI (k + (1 : Int))))] ⟨[[.v (I a), .v (I b), .v (I c), .v (I d)], [.v (Bo ((pX L k) == a)), .v (Bo ((pX L k) == c)), .v (Bo true), .v (Bo ((pY L k) == d))]], [true, true], [.live ⟨24, [.num .i64, .num .i64], L, false, false⟩]⟩) KPd) else none)))))) else (bif t4 then (bif decide ((pX L k) < a) then some (.ret, mk (xPd .ret) [.v (Bo false)] ⟨[], [], [.live ⟨24, [.num .i64, .num .i64], L, false, false⟩]⟩) else (bif decide ((pX L k) > c) then some (.ret, mk (xPd .ret) [.v (Bo false)] ⟨[], [], [.live ⟨24, [.num .i64, .num .i64], L, false, false⟩]⟩) else (bif decide ((pY L k) < b) then some (.ret, mk (xPd .ret) [.v (Bo false)] ⟨[], [], [.live ⟨24, [.num .i64, .num .i64], L, false, false⟩]⟩) else (bif decide ((pY L k) > d) then some (.ret, mk (xPd .ret) [.v (Bo false)] ⟨[], [], [.live ⟨24, [.num .i64, .num .i64], L, false, false⟩]⟩) else (bif L.length.ble (1000000) then (bif decide (sideI L (pX L k) (pY L k) < (0 : Int)) then some (.ret, mk (xPd .ret) [.v (Bo false)] ⟨[], [], [.live ⟨24, [.num .i64, .num .i64], L, false, false⟩]⟩) else evLoop ΓBd Try.prog L0 (cutC 0 1 kPd) bdPd n (mk kPd [.row 0, .ptr 0 0, .v (Bo ok), .ptr 1 0, .row 0, .v (I nn), .v (I (wI (k + (1 : Int))))] ⟨[[.v (I a), .v (I b), .v (I c), .v (I d)], [.v (Bo ((pX L k) == a)), .v (Bo ((pX L k) == c)), .v (Bo ((pY L k) == b)), .v (Bo true)]], [true, true], [.live ⟨24, [.num .i64, .num .i64], L, false, false⟩]⟩) KPd) else none))))) else (bif decide ((pX L k) < a) then some (.ret, mk (xPd .ret) [.v (Bo false)] ⟨[], [], [.live ⟨24, [.num .i64, .num .i64], L, false, false⟩]⟩) else (bif decide ((pX L k) > c) then some (.ret, mk (xPd .ret) [.v (Bo false)] ⟨[], [], [.live ⟨24, [.num .i64, .num .i64], L, false, false⟩]⟩) else (bif decide ((pY L k) < b) then some (.ret, mk (xPd .ret) [.v (Bo false)] ⟨[], [], [.live ⟨24, [.num .i64, .num .i64], L, false, false⟩]⟩) else (bif decide ((pY L k) > d) then some (.ret, mk (xPd .ret) [.v (Bo false)] ⟨[], [], [.live ⟨24, [.num .i64, .num .i64], L, false, false⟩]⟩) else (bif L.length.ble (1000000) then (bif decide (sideI L (pX L k) (pY L k) < (0 : Int)) then some (.ret, mk (xPd .ret) [.v (Bo false)] ⟨[], [], [.live ⟨24, [.num .i64, .num .i64], L, false, false⟩]⟩) else evLoop ΓBd Try.prog L0 (cutC 0 1 kPd) bdPd n (mk kPd [.row 0, .ptr 0 0, .v (Bo ok), .ptr 1 0, .row 0, .v (I nn), .v (I (wI (k + (1 : Int))))] ⟨[[.v (I a), .v (I b), .v (I c), .v (I d)], [.v (Bo ((pX L k) == a)), .v (Bo ((pX L k) == c)), .v (Bo ((pY L k) == b)), .v (Bo ((pY L k) == d))]], [true, true], [.live ⟨24, [.num .i64, .num .i64], L, false, false⟩]⟩) KPd) else none))))))))) else none) else some ((.exit 0), mk (xPd (.exit 0)) [.ptr 0 0, .v (Bo ok), .ptr 1 0] ⟨[[.v (I a), .v (I b), .v (I c), .v (I d)], [.v (Bo t1), .v (Bo t2), .v (Bo t3), .v (Bo t4)]], [true, true], [.live ⟨24, [.num .i64, .num .i64], L, false, false⟩]⟩)) := by kernel_rfl
noncomputable def EPd (n : Nat) (L : List (List Dat)) (a : Int) (b : Int) (c : Int) (d : Int) (ok : Bool) (t1 : Bool) (t2 : Bool) (t3 : Bool) (t4 : Bool) (nn : Int) (k : Int) : Option (Ex × St) :=
  evLoop ΓBd Try.prog L0 (cutC 0 1 kPd) bdPd n (mk kPd [.row 0, .ptr 0 0, .v (Bo ok), .ptr 1 0, .row 0, .v (I nn), .v (I k)] ⟨[[.v (I a), .v (I b), .v (I c), .v (I d)], [.v (Bo t1), .v (Bo t2), .v (Bo t3), .v (Bo t4)]], [true, true], [rP L false false]⟩) KPd
theorem corner_edge {L : List (List Dat)} (ha : areaB L = true) {k : Int} (k0 : 0 ≤ k) (k1 : k < (L.length : Int)) : sideI L (pX L k) (pY L k) = 0 := by
  have h := isArea ha
  have n := nx_lt h k0 k1
  exact side_hit ha (h.pl k k0 k1) k0 k1 (on_first (h.pl k k0 k1) (h.pl _ n.1 n.2))
def mtE (L : List (List Dat)) (p1 p2 q1 q2 k : Int) : Bool := meetB p1 p2 q1 q2 (pX L k) (pY L k) (pX L (nx L k)) (pY L (nx L k))
theorem foF_or (p : Int → Bool) : ∀ (m : Nat) (k : Int) (s : Bool), foF (fun k s => s || p k) m k s = (s || anyN p m k)
  | 0, _, s => by show s = (s || false); rw [Bool.or_false]
  | m + 1, k, s => by
    show foF (fun k s => s || p k) m (k + 1) (s || p k) = (s || (p k || anyN p m (k + 1)))
    rw [foF_or p m (k + 1), Bool.or_assoc]
theorem loopPw (L : List (List Dat)) (p1 p2 q1 q2 : Int) (ha : areaB L = true) (hp : plR p1 p2 = true) : EPw (L.length + 1) L p1 p2 q1 q2 false (L.length : Int) 0 = some (.exit 0, mk (xPw (.exit 0)) [.row 0, .ptr 0 0, .ptr 1 0, .v (Bo (anyN (mtE L p1 p2 q1 q2) L.length 0))] ⟨[[.v (I p1), .v (I p2)], [.v (I q1), .v (I q2)]], [true, true], [rP L false false]⟩) := by
  have hA := isArea ha
  have := hA.lo
  have := hA.hi
  have h := foldAll (fun k s => s || mtE L p1 p2 q1 q2 k) (fun _ _ => True) (L.length : Int) (fun n k s => EPw n L p1 p2 q1 q2 s (L.length : Int) k) (fun s => some (.exit 0, mk (xPw (.exit 0)) [.row 0, .ptr 0 0, .ptr 1 0, .v (Bo s)] ⟨[[.v (I p1), .v (I p2)], [.v (I q1), .v (I q2)]], [true, true], [rP L false false]⟩)) (fun n k s hk _ => ?_) (fun _ _ _ _ => trivial) (fun n k s hk _ => ?_) L.length 0 false (by omega) (by omega) trivial
  · rw [foF_or] at h
    exact h
  · refine (stepPw L p1 p2 q1 q2 s (L.length : Int) k n).trans ?_
    rw [decide_eq_false hk]
    rfl
  · refine (stepPw L p1 p2 q1 q2 s (L.length : Int) k n).trans ?_
    have n1 := nx_lt hA hk.1 hk.2
    rw [decide_eq_true hk.2, decide_eq_true hk.1, beq_eq_false_iff_ne.2 (show (L.length : Int) ≠ 0 by omega), decide_eq_true n1.1, decide_eq_true n1.2, Nat.ble_eq_true_of_le (show L.length ≤ 1000000 by omega), corner_edge ha hk.1 hk.2, wI_id (n := k + 1) (by omega)]
    cases ho : onB p1 p2 (pX L k) (pY L k) (pX L (nx L k)) (pY L (nx L k))
    · cases s <;> rfl
    · rw [side_hit ha hp hk.1 hk.2 ho]
      cases s <;> rfl
def GPw (vals : List SV) (m : Mem) : Option (Bool × LT) :=
  match vals, m with
  | [.row 0, .ptr 0 0, .ptr 1 0, .v (.bool mt), .row 0, .v (.int .i64 nn), .v (.int .i64 k)], ⟨[[.v (.int .i64 p1), .v (.int .i64 p2)], [.v (.int .i64 q1), .v (.int .i64 q2)]], [true, true], [.live ⟨24, [.num .i64, .num .i64], L, false, false⟩]⟩ => some (!mt && (nn == (L.length : Int) && (k == 0 && (areaB L && plR p1 p2))), .leaf (.exit 0) (mk (xPw (.exit 0)) [.row 0, .ptr 0 0, .ptr 1 0, .v (Bo (anyN (mtE L p1 p2 q1 q2) L.length 0))] ⟨[[.v (I p1), .v (I p2)], [.v (I q1), .v (I q2)]], [true, true], [rP L false false]⟩))
  | _, _ => none
noncomputable def ΛPw : LoopOrc := fun _ st => viaT 0 1 kPw GPw st
theorem loopOkPw (z : Base) (z1 : z.L.length = 0) (z2 : z.U.length = 1) : LoopOk ΛPw Try.prog z bdPw := by
  refine loop_okT (Λ := L0) (kx := xPw) OkBd mixed z1 z2 (fun b hb st t h => by cases h) (G := GPw) (fun _ => rfl) ?_
  intro vals m t h
  unfold GPw at h
  split at h
  · rename_i mt nn k p1 p2 q1 q2 L
    obtain ⟨h1, rfl⟩ := some_t h
    simp only [Bool.and_eq_true, beq_iff_eq, Bool.not_eq_true'] at h1
    obtain ⟨rfl, rfl, rfl, ha, hp⟩ := h1
    exact ⟨_, loopPw L p1 p2 q1 q2 ha hp⟩
  · cases h
theorem loopsPw : loopsOf (Try.f6.body.getD .skip) = [bdPw] := by kernel_rfl
set_option maxRecDepth 20000 in
theorem runPw (L : List (List Dat)) (p1 p2 q1 q2 : Int) : runG ΓBd ΛPw Try.prog Try.f6 [.row 0, .v (.agg #[I p1, I p2]), .v (.agg #[I q1, I q2])] ⟨[], [], [rP L false false]⟩ = 
    (bif !decide ((L.length : Int) ≤ (12 : Int)) then some (.v (Bo true), ⟨[], [], [.live ⟨24, [.num .i64, .num .i64], L, false, false⟩]⟩) else (bif L.length.ble (1000000) then (bif !areaR L then some (.v (Bo true), ⟨[], [], [.live ⟨24, [.num .i64, .num .i64], L, false, false⟩]⟩) else (bif !plR p1 p2 then some (.v (Bo true), ⟨[], [], [.live ⟨24, [.num .i64, .num .i64], L, false, false⟩]⟩) else (bif !plR q1 q2 then some (.v (Bo true), ⟨[], [], [.live ⟨24, [.num .i64, .num .i64], L, false, false⟩]⟩) else (bif L.length.ble (1000000) then (bif decide (p1 < bdV L (bdB L).fst) then (bif L.length.ble (1000000) then (bif sideI L p1 p2 != (-1 : Int) then some (.v (Bo false), ⟨[], [], [.live ⟨24, [.num .i64, .num .i64], L, false, false⟩]⟩) else (bif true && ((L.length : Int) == (L.length : Int) && (true && (areaB L && plR p1 p2))) then (bif anyN (mtE L p1 p2 q1 q2) L.length (0 : Int) then some (.v (Bo true), ⟨[], [], [.live ⟨24, [.num .i64, .num .i64], L, false, false⟩]⟩) else (bif L.length.ble (1000000) then (bif L.length.ble (1000000) then (bif sideI L p1 p2 == sideI L q1 q2 then (bif L.length.ble (1000000) then some (.v (Bo (sideI L p1 p2 != (0 : Int))), ⟨[], [], [.live ⟨24, [.num .i64, .num .i64], L, false, false⟩]⟩) else none) else some (.v (Bo false), ⟨[], [], [.live ⟨24, [.num .i64, .num .i64], L, false, false⟩]⟩)) else none) else none)) else none)) else none) else (bif decide (p1 > bdV L (bdB L).snd.snd.fst) then (bif L.length.ble (1000000) then (bif sideI L p1 p2 != (-1 : Int) then some (.v (Bo false), ⟨[], [], [.live ⟨24, [.num .i64, .num .i64], L, false, false⟩]⟩) else (bif true && ((L.length : Int) == (L.length : Int) && (true && (areaB L && plR p1 p2))) then (bif anyN (mtE L p1 p2 q1 q2) L.length (0 : Int) then some (.v (Bo true), ⟨[], [], [.live ⟨24, [.num .i64, .num .i64], L, false, false⟩]⟩) else (bif L.length.ble (1000000) then (bif L.length.ble (1000000) then (bif sideI L p1 p2 == sideI L q1 q2 then (bif L.length.ble (1000000) then some (.v (Bo (sideI L p1 p2 != (0 : Int))), ⟨[], [], [.live ⟨24, [.num .i64, .num .i64], L, false, false⟩]⟩) else none) else some (.v (Bo false), ⟨[], [], [.live ⟨24, [.num .i64, .num .i64], L, false, false⟩]⟩)) else none) else none)) else none)) else none) else (bif decide (p2 < bdV L (bdB L).snd.fst) then (bif L.length.ble (1000000) then (bif sideI L p1 p2 != (-1 : Int) then some (.v (Bo false), ⟨[], [], [.live ⟨24, [.num .i64, .num .i64], L, false, false⟩]⟩) else (bif true && ((L.length : Int) == (L.length : Int) && (true && (areaB L && plR p1 p2))) then (bif anyN (mtE L p1 p2 q1 q2) L.length (0 : Int) then some (.v (Bo true), ⟨[], [], [.live ⟨24, [.num .i64, .num .i64], L, false, false⟩]⟩) else (bif L.length.ble (1000000) then (bif L.length.ble (1000000) then (bif sideI L p1 p2 == sideI L q1 q2 then (bif L.length.ble (1000000) then some (.v (Bo (sideI L p1 p2 != (0 : Int))), ⟨[], [], [.live ⟨24, [.num .i64, .num .i64], L, false, false⟩]⟩) else none) else some (.v (Bo false), ⟨[], [], [.live ⟨24, [.num .i64, .num .i64], L, false, false⟩]⟩)) else none) else none)) else none)) else none) else (bif decide (p2 > bdV L (bdB L).snd.snd.snd) then (bif L.length.ble (1000000) then (bif sideI L p1 p2 != (-1 : Int) then some (.v (Bo false), ⟨[], [], [.live ⟨24, [.num .i64, .num .i64], L, false, false⟩]⟩) else (bif true && ((L.length : Int) == (L.length : Int) && (true && (areaB L && plR p1 p2))) then (bif anyN (mtE L p1 p2 q1 q2) L.length (0 : Int) then some (.v (Bo true), ⟨[], [], [.live ⟨24, [.num .i64, .num .i64], L, false, false⟩]⟩) else (bif L.length.ble (1000000) then (bif L.length.ble (1000000) then (bif sideI L p1 p2 == sideI L q1 q2 then (bif L.length.ble (1000000) then some (.v (Bo (sideI L p1 p2 != (0 : Int))), ⟨[], [], [.live ⟨24, [.num .i64, .num .i64], L, false, false⟩]⟩) else none) else some (.v (Bo false), ⟨[], [], [.live ⟨24, [.num .i64, .num .i64], L, false, false⟩]⟩)) else none) else none)) else none)) else none) else (bif true && ((L.length : Int) == (L.length : Int) && (true && (areaB L && plR p1 p2))) then (bif anyN (mtE L p1 p2 q1 q2) L.length (0 : Int) then some (.v (Bo true), ⟨[], [], [.live ⟨24, [.num .i64, .num .i64], L, false, false⟩]⟩) else (bif L.length.ble (1000000) then (bif L.length.ble (1000000) then (bif sideI L p1 p2 == sideI L q1 q2 then (bif L.length.ble (1000000) then some (.v (Bo (sideI L p1 p2 != (0 : Int))), ⟨[], [], [.live ⟨24, [.num .i64, .num .i64], L, false, false⟩]⟩) else none) else some (.v (Bo false), ⟨[], [], [.live ⟨24, [.num .i64, .num .i64], L, false, false⟩]⟩)) else none) else none)) else none))))) else none)))) else none)) := by kernel_rfl
abbrev B4 := Bool × Bool × Bool × Bool
def dnS (L : List (List Dat)) (k : Int) (s : B4) : B4 := (s.1 || pX L k == (bdB L).1, s.2.1 || pX L k == (bdB L).2.2.1, s.2.2.1 || pY L k == (bdB L).2.1, s.2.2.2 || pY L k == (bdB L).2.2.2)
theorem dnS_eq (L : List (List Dat)) : ∀ (m : Nat) (k : Int) (s : B4), foF (dnS L) m k s = (s.1 || anyN (fun k => pX L k == (bdB L).1) m k, s.2.1 || anyN (fun k => pX L k == (bdB L).2.2.1) m k, s.2.2.1 || anyN (fun k => pY L k == (bdB L).2.1) m k, s.2.2.2 || anyN (fun k => pY L k == (bdB L).2.2.2) m k)
  | 0, _, s => by
    show s = (s.1 || false, s.2.1 || false, s.2.2.1 || false, s.2.2.2 || false)
    simp only [Bool.or_false]
  | m + 1, k, s => by
    show foF (dnS L) m (k + 1) (dnS L k s) = _
    rw [dnS_eq L m (k + 1)]
    simp only [dnS, anyN, Bool.or_assoc]
theorem dn_all {L : List (List Dat)} (h0 : 0 < (L.length : Int)) : foF (dnS L) L.length 0 (false, false, false, false) = (true, true, true, true) := by
  obtain ⟨_, ⟨k1, a1, a2, a3⟩, ⟨k2, b1, b2, b3⟩, ⟨k3, c1, c2, c3⟩, ⟨k4, d1, d2, d3⟩⟩ := bdB_ok h0
  rw [dnS_eq, anyN_iff.2 ⟨k1, a1, by omega, by rw [a3]; exact beq_self_eq_true _⟩, anyN_iff.2 ⟨k3, c1, by omega, by rw [c3]; exact beq_self_eq_true _⟩, anyN_iff.2 ⟨k2, b1, by omega, by rw [b3]; exact beq_self_eq_true _⟩, anyN_iff.2 ⟨k4, d1, by omega, by rw [d3]; exact beq_self_eq_true _⟩]
  rfl
theorem loopPd (L : List (List Dat)) (ok : Bool) (ha : areaB L = true) : EPd (L.length + 1) L (bdB L).1 (bdB L).2.1 (bdB L).2.2.1 (bdB L).2.2.2 ok false false false false (L.length : Int) 0 = some (.exit 0, mk (xPd (.exit 0)) [.ptr 0 0, .v (Bo ok), .ptr 1 0] ⟨[[.v (I (bdB L).1), .v (I (bdB L).2.1), .v (I (bdB L).2.2.1), .v (I (bdB L).2.2.2)], [.v (Bo true), .v (Bo true), .v (Bo true), .v (Bo true)]], [true, true], [rP L false false]⟩) := by
  have hA := isArea ha
  have l1 := hA.lo
  have l2 := hA.hi
  obtain ⟨hb, _⟩ := bdB_ok (L := L) (by omega)
  have h := foldAll (dnS L) (fun _ _ => True) (L.length : Int) (fun n k s => EPd n L (bdB L).1 (bdB L).2.1 (bdB L).2.2.1 (bdB L).2.2.2 ok s.1 s.2.1 s.2.2.1 s.2.2.2 (L.length : Int) k) (fun s => some (.exit 0, mk (xPd (.exit 0)) [.ptr 0 0, .v (Bo ok), .ptr 1 0] ⟨[[.v (I (bdB L).1), .v (I (bdB L).2.1), .v (I (bdB L).2.2.1), .v (I (bdB L).2.2.2)], [.v (Bo s.1), .v (Bo s.2.1), .v (Bo s.2.2.1), .v (Bo s.2.2.2)]], [true, true], [rP L false false]⟩)) (fun n k s hk _ => ?_) (fun _ _ _ _ => trivial) (fun n k s hk _ => ?_) L.length 0 (false, false, false, false) (by omega) (by omega) trivial
  · rw [dn_all (by omega)] at h
    exact h
  · refine (stepPd L (bdB L).1 (bdB L).2.1 (bdB L).2.2.1 (bdB L).2.2.2 ok s.1 s.2.1 s.2.2.1 s.2.2.2 (L.length : Int) k n).trans ?_
    rw [decide_eq_false hk]
    rfl
  · refine (stepPd L (bdB L).1 (bdB L).2.1 (bdB L).2.2.1 (bdB L).2.2.2 ok s.1 s.2.1 s.2.2.1 s.2.2.2 (L.length : Int) k n).trans ?_
    have hk' := hb k hk.1 hk.2
    rw [decide_eq_true hk.2, decide_eq_true hk.1, decide_eq_false (show ¬ pX L k < (bdB L).1 by omega), decide_eq_false (show ¬ pX L k > (bdB L).2.2.1 by omega), decide_eq_false (show ¬ pY L k < (bdB L).2.1 by omega), decide_eq_false (show ¬ pY L k > (bdB L).2.2.2 by omega), Nat.ble_eq_true_of_le (show L.length ≤ 1000000 by omega), corner_edge ha hk.1 hk.2, wI_id (n := k + 1) (by omega)]
    obtain ⟨t1, t2, t3, t4⟩ := s
    cases t1 <;> cases t2 <;> cases t3 <;> cases t4 <;> rfl
def GPd (vals : List SV) (m : Mem) : Option (Bool × LT) :=
  match vals, m with
  | [.row 0, .ptr 0 0, .v (.bool ok), .ptr 1 0, .row 0, .v (.int .i64 nn), .v (.int .i64 k)], ⟨[[.v (.int .i64 a), .v (.int .i64 b), .v (.int .i64 c), .v (.int .i64 d)], [.v (.bool t1), .v (.bool t2), .v (.bool t3), .v (.bool t4)]], [true, true], [.live ⟨24, [.num .i64, .num .i64], L, false, false⟩]⟩ => some (nn == (L.length : Int) && (k == 0 && (a == (bdB L).1 && (b == (bdB L).2.1 && (c == (bdB L).2.2.1 && (d == (bdB L).2.2.2 && (areaB L && (!t1 && (!t2 && (!t3 && !t4))))))))), .leaf (.exit 0) (mk (xPd (.exit 0)) [.ptr 0 0, .v (Bo ok), .ptr 1 0] ⟨[[.v (I (bdB L).1), .v (I (bdB L).2.1), .v (I (bdB L).2.2.1), .v (I (bdB L).2.2.2)], [.v (Bo true), .v (Bo true), .v (Bo true), .v (Bo true)]], [true, true], [rP L false false]⟩))
  | _, _ => none
noncomputable def ΛPd : LoopOrc := fun _ st => viaT 0 1 kPd GPd st
theorem loopOkPd (z : Base) (z1 : z.L.length = 0) (z2 : z.U.length = 1) : LoopOk ΛPd Try.prog z bdPd := by
  refine loop_okT (Λ := L0) (kx := xPd) OkBd mixed z1 z2 (fun b hb st t h => by cases h) (G := GPd) (fun _ => rfl) ?_
  intro vals m t h
  unfold GPd at h
  split at h
  · rename_i ok nn k a b c d t1 t2 t3 t4 L
    obtain ⟨h1, rfl⟩ := some_t h
    simp only [Bool.and_eq_true, beq_iff_eq, Bool.not_eq_true'] at h1
    obtain ⟨rfl, rfl, rfl, rfl, rfl, rfl, ha, rfl, rfl, rfl, rfl⟩ := h1
    exact ⟨_, loopPd L ok ha⟩
  · cases h
theorem loopsPd : loopsOf (Try.f8.body.getD .skip) = [bdPd] := by kernel_rfl
set_option maxRecDepth 20000 in
theorem runPd (L : List (List Dat)) : runG ΓBd ΛPd Try.prog Try.f8 [.row 0] ⟨[], [], [rP L false false]⟩ = 
    (bif !decide ((L.length : Int) ≤ (12 : Int)) then some (.v (Bo true), ⟨[], [], [.live ⟨24, [.num .i64, .num .i64], L, false, false⟩]⟩) else (bif L.length.ble (1000000) then (bif !areaR L then some (.v (Bo true), ⟨[], [], [.live ⟨24, [.num .i64, .num .i64], L, false, false⟩]⟩) else (bif L.length.ble (1000000) then (bif (L.length : Int) == (L.length : Int) && (true && (bdV L (bdB L).fst == (bdB L).fst && (bdV L (bdB L).snd.fst == (bdB L).snd.fst && (bdV L (bdB L).snd.snd.fst == (bdB L).snd.snd.fst && (bdV L (bdB L).snd.snd.snd == (bdB L).snd.snd.snd && (areaB L && true)))))) then (bif areaB L then (bif decide ((bdB L).fst < (bdB L).snd.snd.fst) then some (.v (Bo (decide ((bdB L).snd.fst < (bdB L).snd.snd.snd))), ⟨[], [], [.live ⟨24, [.num .i64, .num .i64], L, false, false⟩]⟩) else some (.v (Bo false), ⟨[], [], [.live ⟨24, [.num .i64, .num .i64], L, false, false⟩]⟩)) else some (.v (Bo false), ⟨[], [], [.live ⟨24, [.num .i64, .num .i64], L, false, false⟩]⟩)) else none) else none)) else none)) := by kernel_rfl
end Go.Proofs.Ytcjkkfhdnealpaa

namespace Go.Proofs.Ytcjkkfhdnealpaa
open Go Go.Proofs Go.Sx
set_option linter.unusedVariables false
theorem polyWays (L : List (List Dat)) (p1 p2 q1 q2 : Int) : runG ΓBd ΛPw Try.prog Try.f6 [.row 0, .v (.agg #[I p1, I p2]), .v (.agg #[I q1, I q2])] ⟨[], [], [rP L false false]⟩ = some (.v (Bo true), ⟨[], [], [rP L false false]⟩) := by
  refine (runPw L p1 p2 q1 q2).trans ?_
  by_cases h : (L.length : Int) ≤ 12
  case neg => rw [decide_eq_false h]; rfl
  rw [decide_eq_true h, Nat.ble_eq_true_of_le (show L.length ≤ 1000000 by omega), area_eq]
  cases ha : areaB L
  · rfl
  cases hp : plR p1 p2
  · rfl
  cases hq : plR q1 q2
  · rfl
  have hA := isArea ha
  have l1 := hA.lo
  obtain ⟨hb, _⟩ := bdB_ok (L := L) (by omega)
  have hout : p1 < (bdB L).1 ∨ p1 > (bdB L).2.2.1 ∨ p2 < (bdB L).2.1 ∨ p2 > (bdB L).2.2.2 → sideI L p1 p2 = -1 := fun ho => beyond ha hp (by
    rcases ho with ho | ho | ho | ho
    · exact .inl fun k k0 k1 => by have := hb k k0 k1; omega
    · exact .inr (.inl fun k k0 k1 => by have := hb k k0 k1; omega)
    · exact .inr (.inr (.inl fun k k0 k1 => by have := hb k k0 k1; omega))
    · exact .inr (.inr (.inr fun k k0 k1 => by have := hb k k0 k1; omega)))
  have key : (bif anyN (mtE L p1 p2 q1 q2) L.length (0 : Int) then some (SV.v (Bo true), (⟨[], [], [rP L false false]⟩ : Mem)) else (bif true then (bif true then (bif sideI L p1 p2 == sideI L q1 q2 then (bif true then some (.v (Bo (sideI L p1 p2 != (0 : Int))), ⟨[], [], [rP L false false]⟩) else none) else some (.v (Bo false), ⟨[], [], [rP L false false]⟩)) else none) else none)) = some (SV.v (Bo true), ⟨[], [], [rP L false false]⟩) := by
    cases hm : anyN (mtE L p1 p2 q1 q2) L.length 0
    · obtain ⟨e1, e2⟩ := ways ha hp hq fun k k0 k1 => anyN_none.1 hm k k0 (by omega)
      rw [beq_iff_eq.2 e1, bne_iff_ne.2 e2]
      rfl
    · rfl
  simp only [bdV, ha, cond_true, beq_self_eq_true, Bool.and_self, Bool.not_true, cond_false] at key ⊢
  rw [key]
  by_cases o1 : p1 < (bdB L).1
  · rw [decide_eq_true o1, hout (.inl o1)]; rfl
  by_cases o2 : p1 > (bdB L).2.2.1
  · rw [decide_eq_false o1, decide_eq_true o2, hout (.inr (.inl o2))]; rfl
  by_cases o3 : p2 < (bdB L).2.1
  · rw [decide_eq_false o1, decide_eq_false o2, decide_eq_true o3, hout (.inr (.inr (.inl o3)))]; rfl
  by_cases o4 : p2 > (bdB L).2.2.2
  · rw [decide_eq_false o1, decide_eq_false o2, decide_eq_false o3, decide_eq_true o4, hout (.inr (.inr (.inr o4)))]; rfl
  rw [decide_eq_false o1, decide_eq_false o2, decide_eq_false o3, decide_eq_false o4]
  rfl
theorem loopsOkPw (z : Base) (z1 : z.L.length = 0) (z2 : z.U.length = 1) : ∀ b ∈ loopsOf (Try.f6.body.getD .skip), LoopOk ΛPw Try.prog z b := oneLoop loopsPw (loopOkPw z z1 z2)
theorem polyWaysLaw (l0 : List (List Dat)) (l1 l2 : List Dat) (w0 : ∀ o ∈ l0, WfL ks2 o) (n0 : l0.length ≤ 281474976710656) (w1 : WfL ks2 l1) (w2 : WfL ks2 l2) : ∃ m', runG ΓBd ΛPw Try.prog Try.f6 (inArgs [.row 24 ks2 l0, .v (.agg (mkEl ks2 l1).toArray), .v (.agg (mkEl ks2 l2).toArray)] 0) (inMem [.row 24 ks2 l0, .v (.agg (mkEl ks2 l1).toArray), .v (.agg (mkEl ks2 l2).toArray)]) = some (.v (.bool true), m') := by
  obtain ⟨x1, y1, rfl, _, _⟩ := pt_is w1
  obtain ⟨x2, y2, rfl, _, _⟩ := pt_is w2
  exact ⟨_, polyWays l0 x1 y1 x2 y2⟩
end Go.Proofs.Ytcjkkfhdnealpaa

