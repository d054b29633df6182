/-
  A law of phase over values.
-/
import Derived.Test.YtmfeioinhpdebaaYe
import Derived.Test.YtmfeioinhpdebaaYd
namespace Go.Proofs.Ytmfeioinhpdebaa
open Go Go.Proofs Go.Sx
set_option linter.unusedVariables false
/-! norm -/
/-! cast -/
/-! rep [CK.sl 39 [CK0.num IntKind.i64, CK0.num IntKind.i64], .num .i64, .num .i64, .num .i64, .num .i64] => kPh -/
/-! rep (dropT (0 : Nat) (L.getD k.toNat [])) => (L.getD k.toNat []) -/
/-! rep (dropT (0 : Nat) (L2.getD k.toNat [])) => (L2.getD k.toNat []) -/
/-! rep (dropT (0 : Nat) (L.getD i.toNat [])) => (L.getD i.toNat []) -/
/-! rep (dropT (0 : Nat) (M.getD k.toNat [])) => (M.getD k.toNat []) -/
/-! repp (List.brecOn.go (motive := fun x => Nat → List Dat → List (List Dat)) M List.set._f).1 k.toNat ==> M.set k.toNat -/
/-! rep (((L.getD i.toNat []).headD (Dat.n (0 : Int))).toL) => (phA L i) -/
/-! rep ((L.getD i.toNat []).headD (Dat.n (0 : Int))).toL => (phA L i) -/
/-! rep (((L.getD i.toNat []).tail.headD (Dat.n (0 : Int))).toI) => (phG L i) -/
/-! rep ((L.getD i.toNat []).tail.headD (Dat.n (0 : Int))).toI => (phG L i) -/
/-! rep (((L.getD i.toNat []).tail.tail.headD (Dat.n (0 : Int))).toI) => (phV L i) -/
/-! rep ((L.getD i.toNat []).tail.tail.headD (Dat.n (0 : Int))).toI => (phV L i) -/
/-! rep (((L.getD i.toNat []).tail.tail.tail.headD (Dat.n (0 : Int))).toI) => (phM L i) -/
/-! rep ((L.getD i.toNat []).tail.tail.tail.headD (Dat.n (0 : Int))).toI => (phM L i) -/
/-! rep (((L.getD i.toNat []).tail.tail.tail.tail.headD (Dat.n (0 : Int))).toI) => (phU L i) -/
/-! rep ((L.getD i.toNat []).tail.tail.tail.tail.headD (Dat.n (0 : Int))).toI => (phU L i) -/
/-! rep (((L2.getD i.toNat []).headD (Dat.n (0 : Int))).toL) => (phA L2 i) -/
/-! rep ((L2.getD i.toNat []).headD (Dat.n (0 : Int))).toL => (phA L2 i) -/
/-! rep (((L2.getD i.toNat []).tail.headD (Dat.n (0 : Int))).toI) => (phG L2 i) -/
/-! rep ((L2.getD i.toNat []).tail.headD (Dat.n (0 : Int))).toI => (phG L2 i) -/
/-! rep (((L2.getD i.toNat []).tail.tail.headD (Dat.n (0 : Int))).toI) => (phV L2 i) -/
/-! rep ((L2.getD i.toNat []).tail.tail.headD (Dat.n (0 : Int))).toI => (phV L2 i) -/
/-! rep (((L2.getD i.toNat []).tail.tail.tail.headD (Dat.n (0 : Int))).toI) => (phM L2 i) -/
/-! rep ((L2.getD i.toNat []).tail.tail.tail.headD (Dat.n (0 : Int))).toI => (phM L2 i) -/
/-! rep (((L2.getD i.toNat []).tail.tail.tail.tail.headD (Dat.n (0 : Int))).toI) => (phU L2 i) -/
/-! rep ((L2.getD i.toNat []).tail.tail.tail.tail.headD (Dat.n (0 : Int))).toI => (phU L2 i) -/
/-! rep (((M.getD i.toNat []).headD (Dat.n (0 : Int))).toL) => (phA M i) -/
/-! rep ((M.getD i.toNat []).headD (Dat.n (0 : Int))).toL => (phA M i) -/
/-! rep (((M.getD i.toNat []).tail.headD (Dat.n (0 : Int))).toI) => (phG M i) -/
/-! rep ((M.getD i.toNat []).tail.headD (Dat.n (0 : Int))).toI => (phG M i) -/
/-! rep (((M.getD i.toNat []).tail.tail.headD (Dat.n (0 : Int))).toI) => (phV M i) -/
/-! rep ((M.getD i.toNat []).tail.tail.headD (Dat.n (0 : Int))).toI => (phV M i) -/
/-! rep (((M.getD i.toNat []).tail.tail.tail.headD (Dat.n (0 : Int))).toI) => (phM M i) -/
/-! rep ((M.getD i.toNat []).tail.tail.tail.headD (Dat.n (0 : Int))).toI => (phM M i) -/
/-! rep (((M.getD i.toNat []).tail.tail.tail.tail.headD (Dat.n (0 : Int))).toI) => (phU M i) -/
/-! rep ((M.getD i.toNat []).tail.tail.tail.tail.headD (Dat.n (0 : Int))).toI => (phU M i) -/
/-! rep (((L.getD k.toNat []).headD (Dat.n (0 : Int))).toL) => (phA L k) -/
/-! rep ((L.getD k.toNat []).headD (Dat.n (0 : Int))).toL => (phA L k) -/
/-! rep (((L.getD k.toNat []).tail.headD (Dat.n (0 : Int))).toI) => (phG L k) -/
/-! rep ((L.getD k.toNat []).tail.headD (Dat.n (0 : Int))).toI => (phG L k) -/
/-! rep (((L.getD k.toNat []).tail.tail.headD (Dat.n (0 : Int))).toI) => (phV L k) -/
/-! rep ((L.getD k.toNat []).tail.tail.headD (Dat.n (0 : Int))).toI => (phV L k) -/
/-! rep (((L.getD k.toNat []).tail.tail.tail.headD (Dat.n (0 : Int))).toI) => (phM L k) -/
/-! rep ((L.getD k.toNat []).tail.tail.tail.headD (Dat.n (0 : Int))).toI => (phM L k) -/
/-! rep (((L.getD k.toNat []).tail.tail.tail.tail.headD (Dat.n (0 : Int))).toI) => (phU L k) -/
/-! rep ((L.getD k.toNat []).tail.tail.tail.tail.headD (Dat.n (0 : Int))).toI => (phU L k) -/
/-! rep (((L2.getD k.toNat []).headD (Dat.n (0 : Int))).toL) => (phA L2 k) -/
/-! rep ((L2.getD k.toNat []).headD (Dat.n (0 : Int))).toL => (phA L2 k) -/
/-! rep (((L2.getD k.toNat []).tail.headD (Dat.n (0 : Int))).toI) => (phG L2 k) -/
/-! rep ((L2.getD k.toNat []).tail.headD (Dat.n (0 : Int))).toI => (phG L2 k) -/
/-! rep (((L2.getD k.toNat []).tail.tail.headD (Dat.n (0 : Int))).toI) => (phV L2 k) -/
/-! rep ((L2.getD k.toNat []).tail.tail.headD (Dat.n (0 : Int))).toI => (phV L2 k) -/
/-! rep (((L2.getD k.toNat []).tail.tail.tail.headD (Dat.n (0 : Int))).toI) => (phM L2 k) -/
/-! rep ((L2.getD k.toNat []).tail.tail.tail.headD (Dat.n (0 : Int))).toI => (phM L2 k) -/
/-! rep (((L2.getD k.toNat []).tail.tail.tail.tail.headD (Dat.n (0 : Int))).toI) => (phU L2 k) -/
/-! rep ((L2.getD k.toNat []).tail.tail.tail.tail.headD (Dat.n (0 : Int))).toI => (phU L2 k) -/
/-! rep (((M.getD k.toNat []).headD (Dat.n (0 : Int))).toL) => (phA M k) -/
/-! rep ((M.getD k.toNat []).headD (Dat.n (0 : Int))).toL => (phA M k) -/
/-! rep (((M.getD k.toNat []).tail.headD (Dat.n (0 : Int))).toI) => (phG M k) -/
/-! rep ((M.getD k.toNat []).tail.headD (Dat.n (0 : Int))).toI => (phG M k) -/
/-! rep (((M.getD k.toNat []).tail.tail.headD (Dat.n (0 : Int))).toI) => (phV M k) -/
/-! rep ((M.getD k.toNat []).tail.tail.headD (Dat.n (0 : Int))).toI => (phV M k) -/
/-! rep (((M.getD k.toNat []).tail.tail.tail.headD (Dat.n (0 : Int))).toI) => (phM M k) -/
/-! rep ((M.getD k.toNat []).tail.tail.tail.headD (Dat.n (0 : Int))).toI => (phM M k) -/
/-! rep (((M.getD k.toNat []).tail.tail.tail.tail.headD (Dat.n (0 : Int))).toI) => (phU M k) -/
/-! rep ((M.getD k.toNat []).tail.tail.tail.tail.headD (Dat.n (0 : Int))).toI => (phU M k) -/

noncomputable def bdBt : Code := loopAt (Try.f13.body.getD .skip) 0
def kBt : List Bool := maskOf 85 [1,2,5,6,38,39,40]
def xBt (e : Ex) : List Bool := match e with
  | .exit _ => maskOf 85 [1,5,6]
  | .ret => maskOf 85 [4]
  | .normal => maskOf 85 [1,2,5,6,38,39,40]
def KBt (e : Ex) (st : St) : Option (Ex × St) := some (e, cutC 0 2 (xBt e) st)
set_option maxRecDepth 20000 in
theorem stepBt (r1 : Int) (r2 : Int) (r3 : Int) (r4 : Int) (r5 : Int) (r6 : Int) (r7 : Int) (r8 : Int) (v1 : Int) (p2 : Int) (v2 : Int) (nn : Int) (k : Int) (L : List (List Dat)) (Q : List (List Dat)) (n : Nat) : evLoop ΓNi Try.prog L0 (cutC 0 2 kBt) bdBt (n + 1) (mk kBt [.row 1, .ptr 0 0, .ptr 1 0, .ptr 2 0, .row 1, .v (I nn), .v (I k)] ⟨[[.row 0, .v (I r1), .v (I r2), .v (I r3), .v (I r4), .v (I r5), .v (I r6), .v (I r7), .v (I r8)], [.row 2, .v (I r1), .v (I r2), .v (I r3), .v (I r4), .v (I r5), .v (I r6), .v (I r7), .v (I r8), .v (I 0), .ptr 3 0], [.row 3, .v (I r1), .v (I r2), .v (I r3), .v (I r4), .v (I r5), .v (I r6), .v (I r7), .v (I r8), .v (I p2), .ptr 4 0], [.v (I 1000000), .v (I v1)], [.v (I 1000000), .v (I v2)]], [true, true, true, true, true], [rH L false false, .live ⟨4, [.bool], Q, false, false⟩, rH L true false, rH L true false]⟩) KBt =
    (bif decide (k < nn) then (bif decide ((0 : Int) ≤ k) && decide (k < (Q.length : Int)) then (bif cyB L (0 : Int) ((Q.getD k.toNat []).headD (Dat.n (0 : Int))).toB !((Q.getD k.toNat []).headD (Dat.n (0 : Int))).toB then some (.ret, mk (xBt .ret) [.v (Bo false)] ⟨[], [], [.live ⟨30, kPh, L, false, false⟩, .live ⟨4, [.bool], Q, false, false⟩]⟩) else (bif (bif cyB L (0 : Int) ((Q.getD k.toNat []).headD (Dat.n (0 : Int))).toB !((Q.getD k.toNat []).headD (Dat.n (0 : Int))).toB then (1 : Int) else (0 : Int)) != (0 : Int) then some (.ret, mk (xBt .ret) [.v (Bo false)] ⟨[], [], [.live ⟨30, kPh, L, false, false⟩, .live ⟨4, [.bool], Q, false, false⟩]⟩) else (bif cyB L p2 true true then some (.ret, mk (xBt .ret) [.v (Bo false)] ⟨[], [], [.live ⟨30, kPh, L, false, false⟩, .live ⟨4, [.bool], Q, false, false⟩]⟩) else (bif (bif cyB L p2 true true then wI (p2 + (1 : Int)) else p2) != wI ((L.length : Int) - (1 : Int)) then some (.ret, mk (xBt .ret) [.v (Bo false)] ⟨[], [], [.live ⟨30, kPh, L, false, false⟩, .live ⟨4, [.bool], Q, false, false⟩]⟩) else (bif decide ((0 : Int) ≤ bif cyB L p2 true true then wI (p2 + (1 : Int)) else p2) && decide ((bif cyB L p2 true true then wI (p2 + (1 : Int)) else p2) < (L.length : Int)) then (bif wishB L (bif cyB L p2 true true then wI (p2 + (1 : Int)) else p2) (bif cyB L p2 true true then (0 : Int) else addN' (1000000 : Int) v2 (1 : Int)) (1099511627776 : Int) true then some (.ret, mk (xBt .ret) [.v (Bo false)] ⟨[], [], [.live ⟨30, kPh, L, false, false⟩, .live ⟨4, [.bool], Q, false, false⟩]⟩) else evLoop ΓNi Try.prog L0 (cutC 0 2 kBt) bdBt n (mk kBt [.row 1, .ptr 0 0, .ptr 1 0, .ptr 2 0, .row 1, .v (I nn), .v (I (wI (k + (1 : Int))))] ⟨[[.row 0, .v (I r1), .v (I r2), .v (I r3), .v (I r4), .v (I r5), .v (I r6), .v (I r7), .v (I r8)], [.row 2, .v (I r1), .v (I r2), .v (I r3), .v (I r4), .v (I r5), .v (I r6), .v (I r7), .v (I r8), .v (I (bif cyB L (0 : Int) ((Q.getD k.toNat []).headD (Dat.n (0 : Int))).toB !((Q.getD k.toNat []).headD (Dat.n (0 : Int))).toB then (1 : Int) else (0 : Int))), .ptr 3 0], [.row 3, .v (I r1), .v (I r2), .v (I r3), .v (I r4), .v (I r5), .v (I r6), .v (I r7), .v (I r8), .v (I (bif cyB L p2 true true then wI (p2 + (1 : Int)) else p2)), .ptr 4 0], [.v (I 1000000), .v (I (bif cyB L (0 : Int) ((Q.getD k.toNat []).headD (Dat.n (0 : Int))).toB !((Q.getD k.toNat []).headD (Dat.n (0 : Int))).toB then (0 : Int) else addN' (1000000 : Int) v1 (1 : Int)))], [.v (I 1000000), .v (I (bif cyB L p2 true true then (0 : Int) else addN' (1000000 : Int) v2 (1 : Int)))]], [true, true, true, true, true], [.live ⟨30, kPh, L, false, false⟩, .live ⟨4, [.bool], Q, false, false⟩, .live ⟨30, kPh, L, true, false⟩, .live ⟨30, kPh, L, true, false⟩]⟩) KBt) else none))))) else none) else some ((.exit 0), mk (xBt (.exit 0)) [.row 1, .ptr 0 0, .ptr 1 0] ⟨[[.row 2, .v (I r1), .v (I r2), .v (I r3), .v (I r4), .v (I r5), .v (I r6), .v (I r7), .v (I r8), .v (I 0), .ptr 2 0], [.row 3, .v (I r1), .v (I r2), .v (I r3), .v (I r4), .v (I r5), .v (I r6), .v (I r7), .v (I r8), .v (I p2), .ptr 3 0], [.v (I 1000000), .v (I v1)], [.v (I 1000000), .v (I v2)]], [true, true, true, true], [.live ⟨30, kPh, L, false, false⟩, .live ⟨4, [.bool], Q, false, false⟩, .live ⟨30, kPh, L, true, false⟩, .live ⟨30, kPh, L, true, false⟩]⟩)) := by kernel_rfl
noncomputable def EBt (n : Nat) (r1 : Int) (r2 : Int) (r3 : Int) (r4 : Int) (r5 : Int) (r6 : Int) (r7 : Int) (r8 : Int) (v1 : Int) (p2 : Int) (v2 : Int) (nn : Int) (k : Int) (L : List (List Dat)) (Q : List (List Dat)) : Option (Ex × St) :=
  evLoop ΓNi Try.prog L0 (cutC 0 2 kBt) bdBt n (mk kBt [.row 1, .ptr 0 0, .ptr 1 0, .ptr 2 0, .row 1, .v (I nn), .v (I k)] ⟨[[.row 0, .v (I r1), .v (I r2), .v (I r3), .v (I r4), .v (I r5), .v (I r6), .v (I r7), .v (I r8)], [.row 2, .v (I r1), .v (I r2), .v (I r3), .v (I r4), .v (I r5), .v (I r6), .v (I r7), .v (I r8), .v (I 0), .ptr 3 0], [.row 3, .v (I r1), .v (I r2), .v (I r3), .v (I r4), .v (I r5), .v (I r6), .v (I r7), .v (I r8), .v (I p2), .ptr 4 0], [.v (I 1000000), .v (I v1)], [.v (I 1000000), .v (I v2)]], [true, true, true, true, true], [rH L false false, .live ⟨4, [.bool], Q, false, false⟩, rH L true false, rH L true false]⟩) KBt
theorem add1 {v : Int} (h0 : 0 ≤ v) (h1 : v < 1000000) : addN' 1000000 v 1 = v + 1 := by
  unfold addN'
  rw [wI_id (n := 1000000 - v) (by omega)]
  have : clampI 1 (1000000 - v) = 1 := by
    unfold clampI
    have h2 : ¬ (1000000 - v < 1) := by omega
    rw [if_neg h2]
    rfl
  rw [this, wI_id (n := v + 1) (by omega)]
def lfBt (r1 r2 r3 r4 r5 r6 r7 r8 : Int) (L Q : List (List Dat)) : LT := .leaf (.exit 0) (mk (xBt (.exit 0)) [.row 1, .ptr 0 0, .ptr 1 0] ⟨[[.row 2, .v (I r1), .v (I r2), .v (I r3), .v (I r4), .v (I r5), .v (I r6), .v (I r7), .v (I r8), .v (I 0), .ptr 2 0], [.row 3, .v (I r1), .v (I r2), .v (I r3), .v (I r4), .v (I r5), .v (I r6), .v (I r7), .v (I r8), .v (I ((L.length : Int) - 1)), .ptr 3 0], [.v (I 1000000), .v (I (Q.length : Int))], [.v (I 1000000), .v (I ((Q.length : Int) + 5))]], [true, true, true, true], [rH L false false, .live ⟨4, [.bool], Q, false, false⟩, rH L true false, rH L true false]⟩)
theorem loopBt (r1 r2 r3 r4 r5 r6 r7 r8 : Int) (L Q : List (List Dat)) (h1 : 1 ≤ (L.length : Int)) (h4 : (L.length : Int) ≤ 4) (hq : (Q.length : Int) ≤ 200) : EBt (Q.length + 1) r1 r2 r3 r4 r5 r6 r7 r8 0 ((L.length : Int) - 1) 5 (Q.length : Int) 0 L Q = some (lfBt r1 r2 r3 r4 r5 r6 r7 r8 L Q).pick := by
  have w0 : wI ((L.length : Int) - 1) = (L.length : Int) - 1 := wI_id (by omega)
  have c2 : cyB L ((L.length : Int) - 1) true true = false := by
    unfold cyB
    rw [w0, decide_eq_true (show (L.length : Int) - 1 ≥ (L.length : Int) - 1 by omega)]
    rfl
  have c1 : ∀ b, cyB L 0 b (!b) = false := by
    intro b
    unfold cyB
    cases decide ((0 : Int) ≥ wI ((L.length : Int) - 1)) <;> cases b <;> rfl
  have c3 : ∀ v ht kn, wishB L ((L.length : Int) - 1) v ht kn = false := by
    intro v ht kn
    unfold wishB
    rw [w0, decide_eq_true (show (L.length : Int) - 1 ≥ (L.length : Int) - 1 by omega)]
    rfl
  refine (foldAll (fun _ s => s) (fun k _ => k ≤ (Q.length : Int)) (Q.length : Int) (fun n k (_ : Unit) => EBt n r1 r2 r3 r4 r5 r6 r7 r8 k ((L.length : Int) - 1) (k + 5) (Q.length : Int) k L Q) (fun _ => some (.exit 0, mk (xBt (.exit 0)) [.row 1, .ptr 0 0, .ptr 1 0] ⟨[[.row 2, .v (I r1), .v (I r2), .v (I r3), .v (I r4), .v (I r5), .v (I r6), .v (I r7), .v (I r8), .v (I 0), .ptr 2 0], [.row 3, .v (I r1), .v (I r2), .v (I r3), .v (I r4), .v (I r5), .v (I r6), .v (I r7), .v (I r8), .v (I ((L.length : Int) - 1)), .ptr 3 0], [.v (I 1000000), .v (I (Q.length : Int))], [.v (I 1000000), .v (I ((Q.length : Int) + 5))]], [true, true, true, true], [rH L false false, .live ⟨4, [.bool], Q, false, false⟩, rH L true false, rH L true false]⟩)) (fun n k s hk hi => ?_) (fun k _ h _ => by omega) (fun n k s hk _ => ?_) Q.length 0 () (by omega) (by omega) (by omega)).trans rfl
  · obtain rfl : k = (Q.length : Int) := by omega
    refine (stepBt r1 r2 r3 r4 r5 r6 r7 r8 _ _ _ (Q.length : Int) (Q.length : Int) L Q n).trans ?_
    rw [decide_eq_false hk]
    rfl
  · refine (stepBt r1 r2 r3 r4 r5 r6 r7 r8 k _ (k + 5) (Q.length : Int) k L Q n).trans ?_
    rw [decide_eq_true hk.2, decide_eq_true hk.1, c1, c2, w0, wI_id (n := k + 1) (by omega), add1 (v := k) (by omega) (by omega), add1 (v := k + 5) (by omega) (by omega)]
    simp only [cond_false, Bool.and_self, cond_true, bne_self_eq_false, c3]
    rw [decide_eq_true (show (0 : Int) ≤ (L.length : Int) - 1 by omega), decide_eq_true (show (L.length : Int) - 1 < (L.length : Int) by omega), show k + 5 + 1 = k + 1 + 5 by omega]
    rfl
noncomputable def GBt (vals : List SV) (m : Mem) : Option (Bool × LT) :=
  match vals, m with
  | [.row 1, .ptr 0 0, .ptr 1 0, .ptr 2 0, .row 1, .v (.int .i64 nn), .v (.int .i64 k)], ⟨[.row 0, .v (.int .i64 r1), .v (.int .i64 r2), .v (.int .i64 r3), .v (.int .i64 r4), .v (.int .i64 r5), .v (.int .i64 r6), .v (.int .i64 r7), .v (.int .i64 r8)] :: B, lv, [.live ⟨e1, k1, L, o1, m1⟩, .live ⟨e2, k2, Q, o2, m2⟩, c, d]⟩ => some (isT ((nn = (Q.length : Int) ∧ k = 0) ∧ (B = [[.row 2, .v (I r1), .v (I r2), .v (I r3), .v (I r4), .v (I r5), .v (I r6), .v (I r7), .v (I r8), .v (I 0), .ptr 3 0], [.row 3, .v (I r1), .v (I r2), .v (I r3), .v (I r4), .v (I r5), .v (I r6), .v (I r7), .v (I r8), .v (I ((L.length : Int) - 1)), .ptr 4 0], [.v (I 1000000), .v (I 0)], [.v (I 1000000), .v (I 5)]] ∧ lv = [true, true, true, true, true] ∧ [RowS.live ⟨e1, k1, L, o1, m1⟩, .live ⟨e2, k2, Q, o2, m2⟩, c, d] = [rH L false false, .live ⟨4, [.bool], Q, false, false⟩, rH L true false, rH L true false]) ∧ 1 ≤ (L.length : Int) ∧ (L.length : Int) ≤ 4 ∧ (Q.length : Int) ≤ 200), lfBt r1 r2 r3 r4 r5 r6 r7 r8 L Q)
  | _, _ => none
noncomputable def ΛBt : LoopOrc := fun _ st => viaT 0 2 kBt GBt st
theorem loopOkBt (z : Base) (z1 : z.L.length = 0) (z2 : z.U.length = 2) : LoopOk ΛBt Try.prog z bdBt := by
  refine loop_okT (Λ := L0) (kx := xBt) OkNi mixed z1 z2 (fun b hb st t h => by cases h) (G := GBt) (fun _ => rfl) ?_
  intro vals m t h
  unfold GBt at h
  split at h
  · rename_i nn k r1 r2 r3 r4 r5 r6 r7 r8 B lv e1 k1 L o1 m1 e2 k2 Q o2 m2 c d
    obtain ⟨h1, rfl⟩ := some_t h
    rw [isT_iff] at h1
    obtain ⟨⟨rfl, rfl⟩, ⟨rfl, rfl, hr⟩, h2, h3, h4⟩ := h1
    rw [hr]
    exact ⟨_, loopBt _ _ _ _ _ _ _ _ _ _ h2 h3 h4⟩
  · cases h
theorem loopsBt : loopsOf (Try.f13.body.getD .skip) = [bdBt] := by kernel_rfl
set_option maxRecDepth 20000 in
theorem treeBoth (r1 : Int) (r2 : Int) (r3 : Int) (r4 : Int) (r5 : Int) (r6 : Int) (r7 : Int) (r8 : Int) (L Q : List (List Dat)) : runG ΓNi ΛBt Try.prog Try.f13 [.ag [.row 0, .v (I r1), .v (I r2), .v (I r3), .v (I r4), .v (I r5), .v (I r6), .v (I r7), .v (I r8)], .row 1] ⟨[], [], [rH L false false, .live ⟨4, [.bool], Q, false, false⟩]⟩ = 
    (bif L.length.ble (9223372036854775807) then (bif !fewB L then some (.v (Bo true), ⟨[], [], [.live ⟨30, kPh, L, false, false⟩, .live ⟨4, [.bool], Q, false, false⟩]⟩) else (bif phOk L then (bif wrR L r1 r2 r3 r4 r5 r6 r7 r8 != (0 : Int) then some (.v (Bo true), ⟨[], [], [.live ⟨30, kPh, L, false, false⟩, .live ⟨4, [.bool], Q, false, false⟩]⟩) else (bif decide ((Q.length : Int) > (200 : Int)) then some (.v (Bo true), ⟨[], [], [.live ⟨30, kPh, L, false, false⟩, .live ⟨4, [.bool], Q, false, false⟩]⟩) else (same ((bif phOk L && (phNe L && (wrB L r1 r2 r3 r4 r5 r6 r7 r8 == (0 : Int) && Nat.blt (0 : Nat) L.length)) then (bif phOk L && (phNe L && (wrB L r1 r2 r3 r4 r5 r6 r7 r8 == (0 : Int) && Nat.blt (0 : Nat) L.length)) then (bif !seB L (wI ((L.length : Int) - (1 : Int))) (5 : Int) then some (.v (Bo false), ⟨[], [], [.live ⟨30, kPh, L, false, false⟩, .live ⟨4, [.bool], Q, false, false⟩]⟩) else (bif isT (((Q.length : Int) = (Q.length : Int) ∧ (0 : Int) = (0 : Int)) ∧ ([[SA.row (2 : Nat), SA.v (Value.int IntKind.i64 r1), SA.v (Value.int IntKind.i64 r2), SA.v (Value.int IntKind.i64 r3), SA.v (Value.int IntKind.i64 r4), SA.v (Value.int IntKind.i64 r5), SA.v (Value.int IntKind.i64 r6), SA.v (Value.int IntKind.i64 r7), SA.v (Value.int IntKind.i64 r8), SA.v (Value.int IntKind.i64 (0 : Int)), SA.ptr (3 : Nat) (0 : Nat)], [SA.row (3 : Nat), SA.v (Value.int IntKind.i64 r1), SA.v (Value.int IntKind.i64 r2), SA.v (Value.int IntKind.i64 r3), SA.v (Value.int IntKind.i64 r4), SA.v (Value.int IntKind.i64 r5), SA.v (Value.int IntKind.i64 r6), SA.v (Value.int IntKind.i64 r7), SA.v (Value.int IntKind.i64 r8), SA.v (Value.int IntKind.i64 (bif seB L (wI ((L.length : Int) - (1 : Int))) (5 : Int) then wI ((L.length : Int) - (1 : Int)) else (0 : Int))), SA.ptr (4 : Nat) (0 : Nat)], [SA.v (Value.int IntKind.i64 (1000000 : Int)), SA.v (Value.int IntKind.i64 (0 : Int))], [SA.v (Value.int IntKind.i64 (1000000 : Int)), SA.v (Value.int IntKind.i64 (bif seB L (wI ((L.length : Int) - (1 : Int))) (5 : Int) then (5 : Int) else (0 : Int)))]] = [[SA.row (2 : Nat), SA.v (I r1), SA.v (I r2), SA.v (I r3), SA.v (I r4), SA.v (I r5), SA.v (I r6), SA.v (I r7), SA.v (I r8), SA.v (I (0 : Int)), SA.ptr (3 : Nat) (0 : Nat)], [SA.row (3 : Nat), SA.v (I r1), SA.v (I r2), SA.v (I r3), SA.v (I r4), SA.v (I r5), SA.v (I r6), SA.v (I r7), SA.v (I r8), SA.v (I ((L.length : Int) - (1 : Int))), SA.ptr (4 : Nat) (0 : Nat)], [SA.v (I (1000000 : Int)), SA.v (I (0 : Int))], [SA.v (I (1000000 : Int)), SA.v (I (5 : Int))]] ∧ List.map (fun x => true) [[SA.row (0 : Nat), SA.v (Value.int IntKind.i64 r1), SA.v (Value.int IntKind.i64 r2), SA.v (Value.int IntKind.i64 r3), SA.v (Value.int IntKind.i64 r4), SA.v (Value.int IntKind.i64 r5), SA.v (Value.int IntKind.i64 r6), SA.v (Value.int IntKind.i64 r7), SA.v (Value.int IntKind.i64 r8)], [SA.row (2 : Nat), SA.v (Value.int IntKind.i64 r1), SA.v (Value.int IntKind.i64 r2), SA.v (Value.int IntKind.i64 r3), SA.v (Value.int IntKind.i64 r4), SA.v (Value.int IntKind.i64 r5), SA.v (Value.int IntKind.i64 r6), SA.v (Value.int IntKind.i64 r7), SA.v (Value.int IntKind.i64 r8), SA.v (Value.int IntKind.i64 (0 : Int)), SA.ptr (3 : Nat) (0 : Nat)], [SA.row (3 : Nat), SA.v (Value.int IntKind.i64 r1), SA.v (Value.int IntKind.i64 r2), SA.v (Value.int IntKind.i64 r3), SA.v (Value.int IntKind.i64 r4), SA.v (Value.int IntKind.i64 r5), SA.v (Value.int IntKind.i64 r6), SA.v (Value.int IntKind.i64 r7), SA.v (Value.int IntKind.i64 r8), SA.v (Value.int IntKind.i64 (bif seB L (wI ((L.length : Int) - (1 : Int))) (5 : Int) then wI ((L.length : Int) - (1 : Int)) else (0 : Int))), SA.ptr (4 : Nat) (0 : Nat)], [SA.v (Value.int IntKind.i64 (1000000 : Int)), SA.v (Value.int IntKind.i64 (0 : Int))], [SA.v (Value.int IntKind.i64 (1000000 : Int)), SA.v (Value.int IntKind.i64 (bif seB L (wI ((L.length : Int) - (1 : Int))) (5 : Int) then (5 : Int) else (0 : Int)))]] = [true, true, true, true, true] ∧ [RowS.live { e := 30, ks := kPh, L := L, own := false, mark := false : RowC }, RowS.live { e := 4, ks := [CK.bool], L := Q, own := false, mark := false : RowC }, rH L true false, rH L true false] = [rH L false false, RowS.live { e := 4, ks := [CK.bool], L := Q, own := false, mark := false : RowC }, rH L true false, rH L true false]) ∧ (1 : Int) ≤ (L.length : Int) ∧ (L.length : Int) ≤ (4 : Int) ∧ (Q.length : Int) ≤ (200 : Int)) then (bif (Q.length : Int) == (Q.length : Int) then some (.v (Bo ((Q.length : Int) + (5 : Int) == wI ((Q.length : Int) + (5 : Int)))), ⟨[], [], [.live ⟨30, kPh, L, false, false⟩, .live ⟨4, [.bool], Q, false, false⟩]⟩) else some (.v (Bo false), ⟨[], [], [.live ⟨30, kPh, L, false, false⟩, .live ⟨4, [.bool], Q, false, false⟩]⟩)) else none)) else none) else none)) ((bif phOk L && (phNe L && (wrB L r1 r2 r3 r4 r5 r6 r7 r8 == (0 : Int) && Nat.blt (0 : Nat) L.length)) then (bif phOk L && (phNe L && (wrB L r1 r2 r3 r4 r5 r6 r7 r8 == (0 : Int) && Nat.blt (0 : Nat) L.length)) then (bif !seB L (wI ((L.length : Int) - (1 : Int))) (5 : Int) then some (.v (Bo false), ⟨[], [], [.live ⟨30, kPh, L, false, false⟩, .live ⟨4, [.bool], Q, false, false⟩]⟩) else (bif isT (((Q.length : Int) = (Q.length : Int) ∧ (0 : Int) = (0 : Int)) ∧ ([[SA.row (2 : Nat), SA.v (Value.int IntKind.i64 r1), SA.v (Value.int IntKind.i64 r2), SA.v (Value.int IntKind.i64 r3), SA.v (Value.int IntKind.i64 r4), SA.v (Value.int IntKind.i64 r5), SA.v (Value.int IntKind.i64 r6), SA.v (Value.int IntKind.i64 r7), SA.v (Value.int IntKind.i64 r8), SA.v (Value.int IntKind.i64 (0 : Int)), SA.ptr (3 : Nat) (0 : Nat)], [SA.row (3 : Nat), SA.v (Value.int IntKind.i64 r1), SA.v (Value.int IntKind.i64 r2), SA.v (Value.int IntKind.i64 r3), SA.v (Value.int IntKind.i64 r4), SA.v (Value.int IntKind.i64 r5), SA.v (Value.int IntKind.i64 r6), SA.v (Value.int IntKind.i64 r7), SA.v (Value.int IntKind.i64 r8), SA.v (Value.int IntKind.i64 (bif seB L (wI ((L.length : Int) - (1 : Int))) (5 : Int) then wI ((L.length : Int) - (1 : Int)) else (0 : Int))), SA.ptr (4 : Nat) (0 : Nat)], [SA.v (Value.int IntKind.i64 (1000000 : Int)), SA.v (Value.int IntKind.i64 (0 : Int))], [SA.v (Value.int IntKind.i64 (1000000 : Int)), SA.v (Value.int IntKind.i64 (bif seB L (wI ((L.length : Int) - (1 : Int))) (5 : Int) then (5 : Int) else (0 : Int)))]] = [[SA.row (2 : Nat), SA.v (I r1), SA.v (I r2), SA.v (I r3), SA.v (I r4), SA.v (I r5), SA.v (I r6), SA.v (I r7), SA.v (I r8), SA.v (I (0 : Int)), SA.ptr (3 : Nat) (0 : Nat)], [SA.row (3 : Nat), SA.v (I r1), SA.v (I r2), SA.v (I r3), SA.v (I r4), SA.v (I r5), SA.v (I r6), SA.v (I r7), SA.v (I r8), SA.v (I ((L.length : Int) - (1 : Int))), SA.ptr (4 : Nat) (0 : Nat)], [SA.v (I (1000000 : Int)), SA.v (I (0 : Int))], [SA.v (I (1000000 : Int)), SA.v (I (5 : Int))]] ∧ List.map (fun x => true) [[SA.row (0 : Nat), SA.v (Value.int IntKind.i64 r1), SA.v (Value.int IntKind.i64 r2), SA.v (Value.int IntKind.i64 r3), SA.v (Value.int IntKind.i64 r4), SA.v (Value.int IntKind.i64 r5), SA.v (Value.int IntKind.i64 r6), SA.v (Value.int IntKind.i64 r7), SA.v (Value.int IntKind.i64 r8)], [SA.row (2 : Nat), SA.v (Value.int IntKind.i64 r1), SA.v (Value.int IntKind.i64 r2), SA.v (Value.int IntKind.i64 r3), SA.v (Value.int IntKind.i64 r4), SA.v (Value.int IntKind.i64 r5), SA.v (Value.int IntKind.i64 r6), SA.v (Value.int IntKind.i64 r7), SA.v (Value.int IntKind.i64 r8), SA.v (Value.int IntKind.i64 (0 : Int)), SA.ptr (3 : Nat) (0 : Nat)], [SA.row (3 : Nat), SA.v (Value.int IntKind.i64 r1), SA.v (Value.int IntKind.i64 r2), SA.v (Value.int IntKind.i64 r3), SA.v (Value.int IntKind.i64 r4), SA.v (Value.int IntKind.i64 r5), SA.v (Value.int IntKind.i64 r6), SA.v (Value.int IntKind.i64 r7), SA.v (Value.int IntKind.i64 r8), SA.v (Value.int IntKind.i64 (bif seB L (wI ((L.length : Int) - (1 : Int))) (5 : Int) then wI ((L.length : Int) - (1 : Int)) else (0 : Int))), SA.ptr (4 : Nat) (0 : Nat)], [SA.v (Value.int IntKind.i64 (1000000 : Int)), SA.v (Value.int IntKind.i64 (0 : Int))], [SA.v (Value.int IntKind.i64 (1000000 : Int)), SA.v (Value.int IntKind.i64 (bif seB L (wI ((L.length : Int) - (1 : Int))) (5 : Int) then (5 : Int) else (0 : Int)))]] = [true, true, true, true, true] ∧ [RowS.live { e := 30, ks := kPh, L := L, own := false, mark := false : RowC }, RowS.live { e := 4, ks := [CK.bool], L := Q, own := false, mark := false : RowC }, rH L true false, rH L true false] = [rH L false false, RowS.live { e := 4, ks := [CK.bool], L := Q, own := false, mark := false : RowC }, rH L true false, rH L true false]) ∧ (1 : Int) ≤ (L.length : Int) ∧ (L.length : Int) ≤ (4 : Int) ∧ (Q.length : Int) ≤ (200 : Int)) then (bif (Q.length : Int) == (Q.length : Int) then some (.v (Bo ((Q.length : Int) + (5 : Int) == wI ((Q.length : Int) + (5 : Int)))), ⟨[], [], [.live ⟨30, kPh, L, false, false⟩, .live ⟨4, [.bool], Q, false, false⟩]⟩) else some (.v (Bo false), ⟨[], [], [.live ⟨30, kPh, L, false, false⟩, .live ⟨4, [.bool], Q, false, false⟩]⟩)) else none)) else none) else none))))) else none)) else none) := by kernel_rfl
end Go.Proofs.Ytmfeioinhpdebaa

namespace Go.Proofs.Ytmfeioinhpdebaa
open Go Go.Proofs Go.Sx
set_option linter.unusedVariables false
abbrev rQ (Q : List (List Dat)) : RowS := .live ⟨4, [.bool], Q, false, false⟩
theorem phaseBoth (r1 r2 r3 r4 r5 r6 r7 r8 : Int) (L Q : List (List Dat)) (hw : ∀ o ∈ L, WfN kPh o) (hl : L.length ≤ 9223372036854775807) : runG ΓNi ΛBt Try.prog Try.f13 [.ag [.row 0, .v (I r1), .v (I r2), .v (I r3), .v (I r4), .v (I r5), .v (I r6), .v (I r7), .v (I r8)], .row 1] ⟨[], [], [rH L false false, rQ Q]⟩ = some (.v (Bo true), ⟨[], [], [rH L false false, rQ Q]⟩) := by
  refine (treeBoth r1 r2 r3 r4 r5 r6 r7 r8 L Q).trans ?_
  rw [Nat.ble_eq_true_of_le hl, same_self]
  cases hf : fewB L
  · rfl
  obtain ⟨hp, _⟩ := few_ok hf hw
  rw [hp, wrRB]
  by_cases hz : wrB L r1 r2 r3 r4 r5 r6 r7 r8 = 0
  case neg =>
    have e : (wrB L r1 r2 r3 r4 r5 r6 r7 r8 == 0) = false := beq_eq_false_iff_ne.2 hz
    simp only [bne, e]
    rfl
  have h := wr_zero hz
  have hfew := fr_iff.1 h.few
  have hne := h.ne hp
  by_cases hq : (Q.length : Int) > 200
  · rw [hz, decide_eq_true hq]
    rfl
  have hs : seB L (wI ((L.length : Int) - 1)) 5 = true := by
    unfold seB
    rw [wI_id (n := (L.length : Int) - 1) (by omega), decide_eq_false (show ¬ (L.length : Int) - 1 < 0 by omega), decide_eq_false (show ¬ (L.length : Int) - 1 ≥ (L.length : Int) by omega)]
    rfl
  rw [hz, hne, decide_eq_false hq, hs, show Nat.blt 0 L.length = true by rw [Nat.blt_eq]; omega, wI_id (n := (L.length : Int) - 1) (by omega), wI_id (n := (Q.length : Int) + 5) (by omega)]
  rw [isT_of]
  · simp only [cond_true, cond_false, beq_self_eq_true, bne_self_eq_false, Bool.not_true, Bool.and_self]
  · exact ⟨⟨rfl, rfl⟩, ⟨rfl, rfl, rfl⟩, hfew.1, hfew.2, by omega⟩
theorem phaseBothLaw (l0 : List TD) (l1 : List (List Dat)) (w0 : WfT kR l0) (w1 : ∀ o ∈ l1, WfL [.bool] o) (n1 : l1.length ≤ 281474976710656) : ∃ Λ m', (∀ z : Base, z.L.length = 0 → z.U.length = 2 → ∀ b ∈ loopsOf (Try.f13.body.getD .skip), LoopOk Λ Try.prog z b) ∧ runG ΓNi Λ Try.prog Try.f13 (inArgs [.ag (tkIn kR l0), .row 4 [.bool] l1] 0) (inMem [.ag (tkIn kR l0), .row 4 [.bool] l1]) = some (.v (.bool true), m') := by
  obtain ⟨L, r1, r2, r3, r4, r5, r6, r7, r8, rfl, ⟨hw, hl⟩, _⟩ := rul_is w0
  exact ⟨ΛBt, _, fun z z1 z2 => oneLoop loopsBt (loopOkBt z z1 z2), phaseBoth r1 r2 r3 r4 r5 r6 r7 r8 L l1 hw hl⟩
end Go.Proofs.Ytmfeioinhpdebaa

