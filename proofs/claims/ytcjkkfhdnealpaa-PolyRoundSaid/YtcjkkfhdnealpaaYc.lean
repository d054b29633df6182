/-
  What is known of this program: that the document's answers are the program's; rows turned round; the law packages' own.
-/
import Derived.Test.YtcjkkfhdnealpaaYb
import Derived.Test.YtcjkkfhdnealpaaSw
import Derived.Test.YtcjkkfhdnealpaaSx
import Derived.DataShut
namespace Go.Proofs.Ytcjkkfhdnealpaa
open Go Go.Proofs Go.Sx
set_option linter.unusedVariables false
/-! norm -/
/-! cast -/

/-! rep (((L.getD i.toNat []).headD (Dat.n (0 : Int))).toI) => (pX L i) -/
/-! rep (((L.getD i.toNat []).tail.headD (Dat.n (0 : Int))).toI) => (pY L i) -/
/-! rep ((L.getD i.toNat []).headD (Dat.n (0 : Int))).toI => (pX L i) -/
/-! rep ((L.getD i.toNat []).tail.headD (Dat.n (0 : Int))).toI => (pY L i) -/
/-! rep (((L.getD j.toNat []).headD (Dat.n (0 : Int))).toI) => (pX L j) -/
/-! rep (((L.getD j.toNat []).tail.headD (Dat.n (0 : Int))).toI) => (pY L j) -/
/-! rep ((L.getD j.toNat []).headD (Dat.n (0 : Int))).toI => (pX L j) -/
/-! rep ((L.getD j.toNat []).tail.headD (Dat.n (0 : Int))).toI => (pY L j) -/
/-! rep (((L.getD k.toNat []).headD (Dat.n (0 : Int))).toI) => (pX L k) -/
/-! rep (((L.getD k.toNat []).tail.headD (Dat.n (0 : Int))).toI) => (pY L k) -/
/-! rep ((L.getD k.toNat []).headD (Dat.n (0 : Int))).toI => (pX L k) -/
/-! rep ((L.getD k.toNat []).tail.headD (Dat.n (0 : Int))).toI => (pY L k) -/

/-! repp (Nat.brecOn.go (motive := fun x => Int → Int → List (List Dat) → List (List Dat)) (hi - lo).toNat (rvF._f lo)).1 (0 : Int) (hi - lo - (1 : Int)) L ==> rvL L lo hi -/
/-! repp (Nat.brecOn.go (motive := fun x => Int → Int → List (List Dat) → List (List Dat)) ((L.length : Int) - (1 : Int)).toNat (rvF._f (1 : Int))).1 (0 : Int) ((L.length : Int) - (1 : Int) - (1 : Int)) L ==> rvL L 1 (L.length : Int) -/
noncomputable def ΓRb : Orc := { ΓRg3 with sb := true }
theorem OkRb : ΓRb.Ok Try.prog := ⟨OkRg3.call, OkRg3.rd, OkRg3.eqv⟩
noncomputable def bdRv : Code := loopAt (Try.f76.body.getD .skip) 0
def kRv : List Bool := maskOf 28 [0,2,3]
def xRv (e : Ex) : List Bool := match e with
  | .exit _ => maskOf 28 []
  | .ret => maskOf 28 []
  | .normal => maskOf 28 [0,2,3]
def KRv (e : Ex) (st : St) : Option (Ex × St) := some (e, cutC 0 1 (xRv e) st)

abbrev ptD (L : List (List Dat)) (k : Int) : List Dat := [.n (pX L k), .n (pY L k)]
def swF (L : List (List Dat)) (a b : Int) : List (List Dat) := (L.set a.toNat (ptD L b)).set b.toNat (ptD L a)
set_option maxRecDepth 20000 in
theorem stepRv (lo hi i j : Int) (L : List (List Dat)) (mark : Bool) (n : Nat) (X : Option (Ex × St)) (hX : X = (bif decide ((0 : Int) ≤ j) && decide (j < hi - lo) then evLoop ΓRb Try.prog L0 (cutC 0 1 kRv) bdRv n (mk kRv [.part 0 2 lo hi, .v (I (wI (i + (1 : Int)))), .v (I (wI (j - (1 : Int))))] ⟨[], [], [rP (swF L (lo + i) (lo + j)) true mark]⟩) KRv else none)) :
    evLoop ΓRb Try.prog L0 (cutC 0 1 kRv) bdRv (n + 1) (mk kRv [.part 0 2 lo hi, .v (I i), .v (I j)] ⟨[], [], [rP L true mark]⟩) KRv =
    (bif decide (i < j) then (bif decide ((0 : Int) ≤ j) && decide (j < hi - lo) then (bif decide ((0 : Int) ≤ i) && decide (i < hi - lo) then (bif decide ((0 : Int) ≤ i) && decide (i < hi - lo) then X else none) else none) else none) else some ((.exit 0), mk (xRv (.exit 0)) [] ⟨[], [], [rP L true mark]⟩)) := by
  subst hX
  have h : evLoop ΓRb Try.prog L0 (cutC 0 1 kRv) bdRv (n + 1) (mk kRv [.part 0 2 lo hi, .v (I i), .v (I j)] ⟨[], [], [rP L true mark]⟩) KRv =
    (bif decide (i < j) then (bif decide ((0 : Int) ≤ j) && decide (j < hi - lo) then (bif decide ((0 : Int) ≤ i) && decide (i < hi - lo) then (bif decide ((0 : Int) ≤ i) && decide (i < hi - lo) then same (same (bif decide ((0 : Int) ≤ j) && decide (j < hi - lo) then evLoop ΓRb Try.prog L0 (cutC 0 1 kRv) bdRv n (mk kRv [.part 0 2 lo hi, .v (I (wI (i + (1 : Int)))), .v (I (wI (j - (1 : Int))))] ⟨[], [], [rP (swF L (lo + i) (lo + j)) true mark]⟩) KRv else none) (bif decide ((0 : Int) ≤ j) && decide (j < hi - lo) then evLoop ΓRb Try.prog L0 (cutC 0 1 kRv) bdRv n (mk kRv [.part 0 2 lo hi, .v (I (wI (i + (1 : Int)))), .v (I (wI (j - (1 : Int))))] ⟨[], [], [rP (swF L (lo + i) (lo + j)) true mark]⟩) KRv else none)) (same (same (bif decide ((0 : Int) ≤ j) && decide (j < hi - lo) then evLoop ΓRb Try.prog L0 (cutC 0 1 kRv) bdRv n (mk kRv [.part 0 2 lo hi, .v (I (wI (i + (1 : Int)))), .v (I (wI (j - (1 : Int))))] ⟨[], [], [rP (swF L (lo + i) (lo + j)) true mark]⟩) KRv else none) (bif decide ((0 : Int) ≤ j) && decide (j < hi - lo) then evLoop ΓRb Try.prog L0 (cutC 0 1 kRv) bdRv n (mk kRv [.part 0 2 lo hi, .v (I (wI (i + (1 : Int)))), .v (I (wI (j - (1 : Int))))] ⟨[], [], [rP (swF L (lo + i) (lo + j)) true mark]⟩) KRv else none)) (bif decide ((0 : Int) ≤ j) && decide (j < hi - lo) then evLoop ΓRb Try.prog L0 (cutC 0 1 kRv) bdRv n (mk kRv [.part 0 2 lo hi, .v (I (wI (i + (1 : Int)))), .v (I (wI (j - (1 : Int))))] ⟨[], [], [rP (swF L (lo + i) (lo + j)) true mark]⟩) KRv else none)) else none) else none) else none) else some ((.exit 0), mk (xRv (.exit 0)) [] ⟨[], [], [rP L true mark]⟩)) := by kernel_rfl
  rw [h]
  simp only [same_self]
noncomputable def ERv (n : Nat) (lo : Int) (hi : Int) (i : Int) (j : Int) (L : List (List Dat)) (mark : Bool) : Option (Ex × St) :=
  evLoop ΓRb Try.prog L0 (cutC 0 1 kRv) bdRv n (mk kRv [.part 0 2 lo hi, .v (I i), .v (I j)] ⟨[], [], [rP L true mark]⟩) KRv
theorem swF_len (L : List (List Dat)) (a b : Int) : (swF L a b).length = L.length := by simp [swF]
def rvF (lo : Int) : Nat → Int → Int → List (List Dat) → List (List Dat)
  | 0, _, _, L => L
  | m + 1, i, j, L => bif decide (i < j) then rvF lo m (i + 1) (j - 1) (swF L (lo + i) (lo + j)) else L
theorem rvF_len (lo : Int) : ∀ (m : Nat) (i j : Int) (L : List (List Dat)), (rvF lo m i j L).length = L.length
  | 0, _, _, _ => rfl
  | m + 1, i, j, L => by
    unfold rvF
    cases decide (i < j)
    · rfl
    · exact (rvF_len lo m (i + 1) (j - 1) _).trans (swF_len _ _ _)
theorem loopRv (lo hi : Int) (mark : Bool) (hh : hi ≤ 1000000) (hl : 0 ≤ lo) : ∀ (m : Nat) (i j : Int) (L : List (List Dat)), 0 ≤ i → -1 ≤ j → j < hi - lo → j - i ≤ m → ERv (m + 1) lo hi i j L mark = some (.exit 0, mk (xRv (.exit 0)) [] ⟨[], [], [rP (rvF lo m i j L) true mark]⟩) := by
  intro m
  induction m with
  | zero =>
    intro i j L h0 h1 h2 h3
    refine (stepRv lo hi i j L mark 0 _ rfl).trans ?_
    rw [decide_eq_false (show ¬ i < j by omega)]
    rfl
  | succ m ih =>
    intro i j L h0 h1 h2 h3
    refine (stepRv lo hi i j L mark (m + 1) _ rfl).trans ?_
    unfold rvF
    by_cases hij : i < j
    · rw [decide_eq_true hij, decide_eq_true (show (0 : Int) ≤ j by omega), decide_eq_true h2, decide_eq_true h0, decide_eq_true (show i < hi - lo by omega), wI_id (n := i + 1) (by omega), wI_id (n := j - 1) (by omega)]
      exact ih (i + 1) (j - 1) (swF L (lo + i) (lo + j)) (by omega) (by omega) (by omega) (by omega)
    · rw [decide_eq_false hij]
      rfl
def rvL (L : List (List Dat)) (lo hi : Int) : List (List Dat) := rvF lo (hi - lo).toNat 0 (hi - lo - 1) L
def GRv (vals : List SV) (m : Mem) : Option (Bool × LT) :=
  match vals, m with
  | [.part 0 2 lo hi, .v (.int .i64 i), .v (.int .i64 j)], ⟨[], [], [.live ⟨24, [.num .i64, .num .i64], L, true, mark⟩]⟩ => some (i == 0 && (j == hi - lo - 1 && decide (0 ≤ lo ∧ lo ≤ hi ∧ hi ≤ 1000000)), .leaf (.exit 0) (mk (xRv (.exit 0)) [] ⟨[], [], [rP (rvL L lo hi) true mark]⟩))
  | _, _ => none
noncomputable def ΛRv : LoopOrc := fun _ st => viaT 0 1 kRv GRv st
theorem loopOkRv (z : Base) (z1 : z.L.length = 0) (z2 : z.U.length = 1) : LoopOk ΛRv Try.prog z bdRv := by
  refine loop_okT (Λ := L0) (kx := xRv) OkRb mixed z1 z2 (fun b hb st t h => by cases h) (G := GRv) (fun _ => rfl) ?_
  intro vals m t h
  unfold GRv at h
  split at h
  · rename_i lo hi i j L mark
    obtain ⟨h1, rfl⟩ := some_t h
    simp only [Bool.and_eq_true, beq_iff_eq, decide_eq_true_eq] at h1
    obtain ⟨rfl, rfl, h1, h2, h3⟩ := h1
    exact ⟨_, loopRv lo hi mark h3 h1 (hi - lo).toNat 0 (hi - lo - 1) L (by omega) (by omega) (by omega) (by omega)⟩
  · cases h
theorem loopsRv : loopsOf (Try.f76.body.getD .skip) = [bdRv] := by kernel_rfl
set_option maxRecDepth 20000 in
theorem runRev (lo : Int) (hi : Int) (L : List (List Dat)) (mark : Bool) : runG ΓRb ΛRv Try.prog Try.f76 [.part 0 2 lo hi] ⟨[], [], [rP L true mark]⟩ = 
    (bif true && (wI (hi - lo - (1 : Int)) == hi - lo - (1 : Int) && decide ((0 : Int) ≤ lo ∧ lo ≤ hi ∧ hi ≤ (1000000 : Int))) then some (.v (.tuple #[]), ⟨[], [], [.live ⟨24, [.num .i64, .num .i64], rvL L lo hi, true, mark⟩]⟩) else none) := by kernel_rfl
def gRev (xs : List SV) (m : Mem) : Option (Bool × SV × Mem) :=
  match xs, m with
  | [.part 0 2 lo hi], ⟨[], [], [.live ⟨24, [.num .i64, .num .i64], L, true, mark⟩]⟩ => some (decide (0 ≤ lo ∧ lo ≤ hi ∧ hi ≤ 1000000), .v (.tuple #[]), ⟨[], [], [rP (rvL L lo hi) true mark]⟩)
  | _, _ => none
theorem gRev_ok : ∀ xs m r m', gRev xs m = some (true, r, m') → CallOk Try.prog 76 xs m r m' := by
  intro xs m r m' h
  unfold gRev at h
  split at h
  · rename_i lo hi L mark
    obtain ⟨h1, rfl, rfl⟩ := some_t2 h
    refine runOk (Λ := ΛRv) OkRb Try.func76 rfl (fun z z1 z2 => oneLoop loopsRv (loopOkRv z z1 z2)) ?_
    refine (runRev lo hi L mark).trans ?_
    have h2 := of_decide_eq_true h1
    rw [wI_id (n := hi - lo - 1) (by omega), h1, beq_self_eq_true]
    rfl
  · cases h
noncomputable def ΓRv1 : Orc := addCl 76 gRev ΓRb
theorem OkRv1 : ΓRv1.Ok Try.prog := addCl_ok OkRb gRev_ok
set_option maxRecDepth 20000 in
theorem runCln (L : List (List Dat)) (own : Bool) (mark : Bool) : runG ΓRv1 L0 Try.prog Try.f75 [.row 0] ⟨[], [], [rP L own mark]⟩ = 
    (bif Nat.blt (0 : Nat) L.length then (bif decide (((0 : Nat) + L.length) * (16 : Nat) ≤ (140737488355328 : Nat) ∧ (0 : Nat) + L.length ≤ (9223372036854775807 : Nat)) then some (.row 1, ⟨[], [], [.live ⟨24, [.num .i64, .num .i64], L, own, mark⟩, .live ⟨24, [.num .i64, .num .i64], L, true, false⟩]⟩) else none) else none) := by kernel_rfl
def gCln (xs : List SV) (m : Mem) : Option (Bool × SV × Mem) :=
  match xs, m with
  | [.row 0], ⟨[], [], [.live ⟨24, [.num .i64, .num .i64], L, own, mark⟩]⟩ => some (Nat.blt 0 L.length && Nat.ble L.length 1000000, .row 1, ⟨[], [], [rP L own mark, rP L true false]⟩)
  | _, _ => none
theorem gCln_ok : ∀ xs m r m', gCln xs m = some (true, r, m') → CallOk Try.prog 75 xs m r m' := by
  intro xs m r m' h
  unfold gCln at h
  split at h
  · rename_i L own mark
    obtain ⟨h1, rfl, rfl⟩ := some_t2 h
    refine runOk (Λ := L0) OkRv1 Try.func75 rfl (fun z _ _ => l0Ok' _ z) ?_
    refine (runCln L own mark).trans ?_
    rw [Bool.and_eq_true] at h1
    have h2 := Nat.le_of_ble_eq_true h1.2
    rw [h1.1, decide_eq_true (show (0 + L.length) * 16 ≤ 140737488355328 ∧ 0 + L.length ≤ 9223372036854775807 by omega)]
    rfl
  · cases h
noncomputable def ΓRv2 : Orc := addCl 75 gCln ΓRv1
theorem OkRv2 : ΓRv2.Ok Try.prog := addCl_ok OkRv1 gCln_ok
set_option maxRecDepth 20000 in
theorem runPBk (L : List (List Dat)) (mark : Bool) : runG ΓRv2 L0 Try.prog Try.f27 [.row 0] ⟨[], [], [rP L false mark]⟩ = 
    (bif (L.length : Int) == (0 : Int) then some (.row 1, ⟨[], [], [.live ⟨24, [.num .i64, .num .i64], L, false, mark⟩, .live ⟨24, [.num .i64, .num .i64], [], true, false⟩]⟩) else (bif Nat.blt (0 : Nat) L.length && L.length.ble (1000000) then (bif true && (decide ((1 : Int) ≤ (L.length : Int)) && decide ((L.length : Int) ≤ (L.length : Int))) then (bif decide ((0 : Int) ≤ (1 : Int) ∧ (1 : Int) ≤ (L.length : Int) ∧ (L.length : Int) ≤ (1000000 : Int)) then some (.row 1, ⟨[], [], [.live ⟨24, [.num .i64, .num .i64], L, false, mark⟩, .live ⟨24, [.num .i64, .num .i64], rvL L 1 (L.length : Int), true, false⟩]⟩) else none) else none) else none)) := by kernel_rfl
/-- Round the other way. -/
def backL (L : List (List Dat)) : List (List Dat) := bif (L.length : Int) == 0 then [] else rvL L 1 (L.length : Int)
def gPBk (xs : List SV) (m : Mem) : Option (Bool × SV × Mem) :=
  match xs, m with
  | [.row 0], ⟨[], [], [.live ⟨24, [.num .i64, .num .i64], L, false, mark⟩]⟩ => some (Nat.ble L.length 1000000, .row 1, ⟨[], [], [rP L false mark, rP (backL L) true false]⟩)
  | _, _ => none
theorem gPBk_ok : ∀ xs m r m', gPBk xs m = some (true, r, m') → CallOk Try.prog 27 xs m r m' := by
  intro xs m r m' h
  unfold gPBk at h
  split at h
  · rename_i L mark
    obtain ⟨h1, rfl, rfl⟩ := some_t2 h
    refine runOk (Λ := L0) OkRv2 Try.func27 rfl (fun z _ _ => l0Ok' _ z) ?_
    refine (runPBk L mark).trans ?_
    unfold backL
    have h2 := Nat.le_of_ble_eq_true h1
    rcases Nat.eq_zero_or_pos L.length with hl | hl
    · rw [beq_iff_eq.2 (show (L.length : Int) = 0 by omega)]
      rfl
    · have hb : Nat.blt 0 L.length = true := Nat.ble_eq_true_of_le hl
      rw [beq_eq_false_iff_ne.2 (show (L.length : Int) ≠ 0 by omega), hb, h1, decide_eq_true (show (1 : Int) ≤ (L.length : Int) by omega), decide_eq_true (show (L.length : Int) ≤ (L.length : Int) by omega), decide_eq_true (show (0 : Int) ≤ 1 ∧ (1 : Int) ≤ (L.length : Int) ∧ (L.length : Int) ≤ 1000000 by omega)]
      rfl
  · cases h
noncomputable def ΓRv3 : Orc := addCl 27 gPBk ΓRv2
theorem OkRv3 : ΓRv3.Ok Try.prog := addCl_ok OkRv2 gPBk_ok
end Go.Proofs.Ytcjkkfhdnealpaa

namespace Go.Proofs.Ytcjkkfhdnealpaa
open Go Go.Proofs Go.Sx
set_option linter.unusedVariables false
/-! The document's answers are the program's: boxes and ways; areas. -/
/-! Areas -/
theorem nx_val {L : List (List Dat)} {i : Int} (h : atG L i = true) : nx L i = if i + 1 = (L.length : Int) then 0 else i + 1 := by
  have a := atG_iff.1 h
  unfold nx
  rw [wI_id (by omega), Int.tmod_eq_emod_of_nonneg (by omega)]
  split
  · rename_i e; rw [e, Int.emod_self]
  · exact Int.emod_eq_of_lt (by omega) (by omega)
theorem anyF_eq (p : Int → Bool) (m : Nat) : anyF p m = anyN p m 0 := by
  unfold anyF
  rw [Bool.eq_iff_iff, decide_eq_true_eq, anyN_iff]
  constructor
  · intro h
    have := mt (ixF_none (p := p) (m := m) (k := 0) (Int.le_refl _)).2 (by omega)
    refine Classical.byContradiction fun hn => this fun i h1 h2 => ?_
    cases hp : p i
    · rfl
    · exact absurd ⟨i, h1, h2, hp⟩ hn
  · rintro ⟨i, h1, h2, h3⟩
    refine Classical.byContradiction fun hn => ?_
    have := (ixF_none (p := p) (m := m) (k := 0) (Int.le_refl _)).1 (by omega) i h1 h2
    rw [this] at h3
    cases h3
/-- No two edges of an area have more in common than they may. -/
def Apt (L : List (List Dat)) : Prop := ∀ i j, 0 ≤ i → i < j → j < (L.length : Int) → badB L j i = false
theorem apB_iff (L : List (List Dat)) : apB L = true ↔ Apt L := by
  unfold apB Apt
  rw [decide_eq_true_eq, ixF_none (Int.le_refl _)]
  constructor
  · intro h i j h1 h2 h3
    have := h j (by omega) (by omega)
    simp only [Bool.not_eq_false'] at this
    unfold okJ at this
    rw [decide_eq_true_eq, ixF_none (Int.le_refl _)] at this
    exact this i h1 (by omega)
  · intro h j h1 h2
    simp only [Bool.not_eq_false']
    unfold okJ
    rw [decide_eq_true_eq, ixF_none (Int.le_refl _)]
    exact fun i h3 h4 => h i j h3 (by omega) (by omega)
theorem rc_eq {L : List (List Dat)} {i k : Int} (h1 : 0 ≤ i) (h2 : i < k) (h3 : k < (L.length : Int)) (hl : (L.length : Int) ≤ 8) : rcB L i k = badB L k i := by
  have ai : atG L i = true := atG_iff.2 (by omega)
  have ak : atG L k = true := atG_iff.2 (by omega)
  unfold rcB badB mwB
  rw [wI_id (n := i + 1) (by omega)]
  by_cases e : k = i + 1
  · have n1 : nx L i = k := by rw [nx_val ai, if_neg (by omega)]; omega
    rw [beq_iff_eq.2 e, beq_iff_eq.2 (show i + 1 = k by omega), n1]
    cases eqP L i k <;> rfl
  · rw [beq_eq_false_iff_ne.2 e, beq_eq_false_iff_ne.2 (show i + 1 ≠ k by omega)]
    by_cases e2 : i = 0 ∧ k = (L.length : Int) - 1
    · have n1 : nx L k = i := by rw [nx_val ak, if_pos (by omega)]; omega
      rw [beq_iff_eq.2 e2.1, beq_iff_eq.2 e2.2, beq_iff_eq.2 n1, n1]
      cases eqP L i k
      · simp only [Bool.false_or, cond_false, cond_true, Bool.and_self]
        exact Bool.or_comm _ _
      · rfl
    · have n1 : nx L k ≠ i := by
        rw [nx_val ak]
        split <;> omega
      have e3 : ((i == 0) && (k == (L.length : Int) - 1)) = false := by
        rw [Bool.and_eq_false_iff, beq_eq_false_iff_ne, beq_eq_false_iff_ne]
        omega
      rw [e3, beq_eq_false_iff_ne.2 n1]
      cases eqP L i k <;> rfl
theorem rw_iff {L : List (List Dat)} (hl : (L.length : Int) ≤ 8) : anyN (rwB L) L.length 0 = false ↔ Apt L := by
  constructor
  · intro h i j h1 h2 h3
    rw [← rc_eq h1 h2 h3 hl]
    cases hr : rcB L i j
    · rfl
    · have : anyN (rwB L) L.length 0 = true := anyN_iff.2 ⟨i, h1, by omega, anyN_iff.2 ⟨j, by omega, by omega, hr⟩⟩
      rw [h] at this
      cases this
  · intro h
    cases ha : anyN (rwB L) L.length 0
    · rfl
    · obtain ⟨i, h1, h2, h3⟩ := anyN_iff.1 ha
      obtain ⟨k, h4, h5, h6⟩ := anyN_iff.1 h3
      rw [rc_eq h1 (by omega) (by omega) hl] at h6
      rw [h i k h1 (by omega) (by omega)] at h6
      cases h6
theorem sim_eq (L : List (List Dat)) : simR L = simB L := by
  unfold simR simB
  rw [anyF_eq]
  by_cases h1 : (L.length : Int) < 3
  · rw [decide_eq_true h1]; simp
  by_cases h2 : (L.length : Int) > 8
  · rw [decide_eq_true h2]; simp
  rw [decide_eq_false h1, decide_eq_false h2]
  have : anyN (rwB L) L.length 0 = !apB L := by
    have e1 := rw_iff (L := L) (by omega)
    have e2 := apB_iff L
    cases ha : anyN (rwB L) L.length 0 <;> cases hb : apB L
    · rw [e2.2 (e1.1 ha)] at hb; cases hb
    · rfl
    · rfl
    · rw [e1.2 (e2.1 hb)] at ha; cases ha
  rw [this]
  cases anyN (pNpl L) L.length 0 <;> cases apB L <;> rfl
theorem area_eq (L : List (List Dat)) : areaR L = areaB L := by
  unfold areaR areaB
  rw [sim_eq, anyF_eq]
  by_cases h : (L.length : Int) ≤ 8
  · rw [decide_eq_true h]
    cases simB L <;> cases anyN (pFar L) L.length 0 <;> rfl
  · have : simB L = false := by
      unfold simB
      rw [decide_eq_true (show (L.length : Int) > 8 by omega)]
      simp
    rw [this]
    cases !(decide ((L.length : Int) ≤ 8) && anyN (pFar L) L.length 0) <;> rfl
end Go.Proofs.Ytcjkkfhdnealpaa

namespace Go.Proofs.Ytcjkkfhdnealpaa
open Go Go.Proofs Go.Sx
set_option linter.unusedVariables false
/-! Sides: the document's are the program's; along ways that meet no edge. -/
theorem sdF_odd (r : Int → Bool) : ∀ (m : Nat) (k : Int) (t : Bool), sdF r m k (bif t then 1 else -1) = bif foF (fun k s => s ^^ r k) m k t then 1 else -1
  | 0, _, _ => rfl
  | m + 1, k, t => by
    show sdF r m (k + 1) (bif r k then -(bif t then 1 else -1) else (bif t then 1 else -1)) = bif foF (fun k s => s ^^ r k) m (k + 1) (t ^^ r k) then 1 else -1
    rw [← sdF_odd r m (k + 1) (t ^^ r k)]
    cases r k <;> cases t <;> rfl
theorem noHit_eq (px py : Int) (L : List (List Dat)) : noHit px py L = !anyN (hitB px py L) L.length 0 := by
  rw [← anyF_eq]
  unfold noHit anyF
  by_cases h : ixF (hitB px py L) L.length 0 < 0
  · rw [decide_eq_true h, decide_eq_false (by omega)]; rfl
  · rw [decide_eq_false h, decide_eq_true (by omega)]; rfl
theorem side_eq (L : List (List Dat)) (px py : Int) : sideR L px py = sideI L px py := by
  unfold sideR sideI oddB
  rw [area_eq, noHit_eq]
  have := sdF_odd (rgB px py L) L.length 0 false
  simp only [cond_false] at this
  rw [this]
  cases areaB L <;> cases plR px py <;> cases anyN (hitB px py L) L.length 0 <;> rfl
structure IsArea (L : List (List Dat)) : Prop where
  lo : 3 ≤ (L.length : Int)
  hi : (L.length : Int) ≤ 8
  pl : ∀ k, 0 ≤ k → k < (L.length : Int) → plR (pX L k) (pY L k) = true
  near : ∀ k, 0 ≤ k → k < (L.length : Int) → -1073741824 ≤ pX L k ∧ pX L k ≤ 1073741824 ∧ -1073741824 ≤ pY L k ∧ pY L k ≤ 1073741824
  apt : Apt L
theorem fov_iff {n : Int} : fovI n = false ↔ -1073741824 ≤ n ∧ n ≤ 1073741824 := by
  unfold fovI
  rw [Bool.or_eq_false_iff, decide_eq_false_iff_not, decide_eq_false_iff_not]
  omega
theorem anyN_none {p : Int → Bool} {m : Nat} {k : Int} : anyN p m k = false ↔ ∀ i, k ≤ i → i < k + m → p i = false := by
  constructor
  · intro h i h1 h2
    cases hp : p i
    · rfl
    · rw [anyN_iff.2 ⟨i, h1, h2, hp⟩] at h; cases h
  · intro h
    cases ha : anyN p m k
    · rfl
    · obtain ⟨i, h1, h2, h3⟩ := anyN_iff.1 ha
      rw [h i h1 h2] at h3; cases h3
theorem isArea {L : List (List Dat)} (h : areaB L = true) : IsArea L := by
  unfold areaB simB at h
  rw [anyF_eq, anyF_eq] at h
  by_cases h1 : (L.length : Int) < 3
  · rw [decide_eq_true h1] at h; simp at h
  by_cases h2 : (L.length : Int) > 8
  · rw [decide_eq_true h2] at h; simp at h
  rw [decide_eq_false h1, decide_eq_false h2] at h
  cases h3 : anyN (pNpl L) L.length 0
  case true => rw [h3] at h; simp at h
  cases h4 : anyN (pFar L) L.length 0
  case true => rw [h4] at h; simp at h
  rw [h3, h4] at h
  simp only [cond_false, Bool.not_false, Bool.and_true] at h
  refine ⟨by omega, by omega, fun k k0 k1 => ?_, fun k k0 k1 => ?_, (apB_iff L).1 h⟩
  · have := anyN_none.1 h3 k k0 (by omega)
    unfold pNpl at this
    simpa using this
  · have := anyN_none.1 h4 k k0 (by omega)
    unfold pFar at this
    rw [Bool.or_eq_false_iff, fov_iff, fov_iff] at this
    omega
theorem rg_cr {p1 p2 a1 a2 b1 b2 : Int} (hp : plR p1 p2 = true) (ha : plR a1 a2 = true) (hb : plR b1 b2 = true) : rgO p1 p2 a1 a2 b1 b2 = crB p1 p2 a1 a2 b1 b2 := by
  unfold rgO crB
  have t1 := (turn_tw ha hb hp).1
  have t2 := (turn_tw hb ha hp).1
  rw [tw_back] at t2
  rw [Bool.eq_iff_iff]
  by_cases h : a2 > b2
  · rw [decide_eq_true h]
    simp only [cond_true, Bool.and_eq_true, decide_eq_true_eq, gt_iff_lt]
    rw [t2]
    omega
  · rw [decide_eq_false h]
    simp only [cond_false, Bool.and_eq_true, decide_eq_true_eq, gt_iff_lt]
    rw [t1]
    omega
/-- An edge's places: two corners, one behind the other. -/
theorem nx_lt {L : List (List Dat)} (h : IsArea L) {k : Int} (k0 : 0 ≤ k) (k1 : k < (L.length : Int)) : 0 ≤ nx L k ∧ nx L k < (L.length : Int) := nx_in (atG_iff.2 ⟨k0, k1, by have := h.hi; omega⟩)
end Go.Proofs.Ytcjkkfhdnealpaa

namespace Go.Proofs.Ytcjkkfhdnealpaa
open Go Go.Proofs Go.Sx
noncomputable def Γx11 : Orc := exec Try.prog ΓRv1.call ΓRv1.rd ΓRv1.eqv ΓRv1.wr 30 6
theorem Okx11 : Γx11.Ok Try.prog := exec_ok mixed names (ext := ΓRv1.call) (rd := ΓRv1.rd) (eqv := ΓRv1.eqv) ⟨OkRv1.call, OkRv1.rd, OkRv1.eqv⟩ 30 6
set_option maxRecDepth 100000 in
theorem runAwake11 : runG Γx11 (loopX Γx11 Try.prog 30 3) Try.prog Try.f15 [] M0 = some (.v (Bo true), M0) := by kernel_rfl
end Go.Proofs.Ytcjkkfhdnealpaa

namespace Go.Proofs.Ytcjkkfhdnealpaa
open Go Go.Proofs Go.Sx
def wr12 (f : FuncId) : Bool := Nat.beq f 48
noncomputable def Γx12 : Orc := exec Try.prog ΓRg3.call ΓRg3.rd ΓRg3.eqv wr12 30 6
theorem Okx12 : Γx12.Ok Try.prog := exec_ok mixed names (ext := ΓRg3.call) (rd := ΓRg3.rd) (eqv := ΓRg3.eqv) ⟨OkRg3.call, OkRg3.rd, OkRg3.eqv⟩ 30 6
set_option maxRecDepth 100000 in
theorem runAwake12 : runG Γx12 (loopX Γx12 Try.prog 30 3) Try.prog Try.f38 [] M0 = some (.v (Bo true), M0) := by kernel_rfl
end Go.Proofs.Ytcjkkfhdnealpaa

namespace Go.Proofs.Ytcjkkfhdnealpaa
open Go Go.Proofs Go.Sx
set_option linter.unusedVariables false
def cornL (a b c d : Int) : List (List Dat) := bif boR a b c d then [[.n a, .n b], [.n c, .n b], [.n c, .n d], [.n a, .n d]] else []
def gCorU (xs : List SV) (m : Mem) : Option (Bool × SV × Mem) :=
  match xs, m with
  | [.v (.agg ⟨[.int .i64 a, .int .i64 b, .int .i64 c, .int .i64 d]⟩)], ⟨[], [], []⟩ => some (true, .row 0, ⟨[], [], [rP (cornL a b c d) true false]⟩)
  | _, _ => none
theorem gCorU_ok : ∀ xs m r m', gCorU xs m = some (true, r, m') → CallOk Try.prog 48 xs m r m' := by
  intro xs m r m' h
  unfold gCorU at h
  split at h
  · rename_i a b c d
    obtain ⟨h1, rfl, rfl⟩ := some_t2 h
    refine runOk (Λ := L0) OkSd Try.func48 rfl (fun z _ _ => l0Ok' _ z) ?_
    refine (runCorners a b c d).trans ?_
    unfold cornL
    cases boR a b c d <;> rfl
  · cases h
theorem gCorV_ok : ∀ xs m r m', gCorU xs m = some (true, r, m') → CallOk Try.prog 49 xs m r m' := by
  intro xs m r m' h
  unfold gCorU at h
  split at h
  · rename_i a b c d
    obtain ⟨h1, rfl, rfl⟩ := some_t2 h
    refine runOk (Λ := L0) OkSd Try.func49 rfl (fun z _ _ => l0Ok' _ z) ?_
    refine (runCornersR a b c d).trans ?_
    unfold cornL
    cases boR a b c d <;> rfl
  · cases h
def gAw (vs : List Value) : Option (Bool × Value) :=
  match vs with
  | [] => some (true, Bo true)
  | _ => none
theorem gAw11_ok : ∀ vs r, gAw vs = some (true, r) → ∀ m, CallOk Try.prog 15 (vs.map .v) m (.v r) m := by
  intro vs r h
  unfold gAw at h
  split at h
  · obtain ⟨h1, rfl⟩ := some_t h
    exact runV (vs := []) (Λ := loopX Γx11 Try.prog 30 3) (m' := M0) Okx11 Try.func15 rfl (fun z _ _ => allX Okx11 mixed 30 3 _ z) runAwake11
  · cases h
theorem gAw12_ok : ∀ vs r, gAw vs = some (true, r) → ∀ m, CallOk Try.prog 38 (vs.map .v) m (.v r) m := by
  intro vs r h
  unfold gAw at h
  split at h
  · obtain ⟨h1, rfl⟩ := some_t h
    exact runV (vs := []) (Λ := loopX Γx12 Try.prog 30 3) (m' := M0) Okx12 Try.func38 rfl (fun z _ _ => allX Okx12 mixed 30 3 _ z) runAwake12
  · cases h
noncomputable def ΓLa1 : Orc := addCl 48 gCorU ΓRv3
theorem OkLa1 : ΓLa1.Ok Try.prog := addCl_ok OkRv3 gCorU_ok
noncomputable def ΓLa2 : Orc := addCl 49 gCorU ΓLa1
theorem OkLa2 : ΓLa2.Ok Try.prog := addCl_ok OkLa1 gCorV_ok
noncomputable def ΓLa3 : Orc := addVal 15 gAw ΓLa2
theorem OkLa3 : ΓLa3.Ok Try.prog := addVal_ok OkLa2 gAw11_ok
noncomputable def ΓLa4 : Orc := addVal 38 gAw ΓLa3
theorem OkLa4 : ΓLa4.Ok Try.prog := addVal_ok OkLa3 gAw12_ok
def wrL (f : FuncId) : Bool := Nat.beq f 48 || Nat.beq f 49 || Nat.beq f 27 || Nat.beq f 28 || Nat.beq f 30
noncomputable def ΓLb : Orc := { ΓLa4 with wr := wrL, sb := true, bs := true }
theorem OkLb : ΓLb.Ok Try.prog := ⟨OkLa4.call, OkLa4.rd, OkLa4.eqv⟩
end Go.Proofs.Ytcjkkfhdnealpaa

namespace Go.Proofs.Ytcjkkfhdnealpaa
open Go Go.Proofs Go.Sx
set_option linter.unusedVariables false
/-! norm -/
/-! cast -/
end Go.Proofs.Ytcjkkfhdnealpaa

namespace Go.Proofs.Ytcjkkfhdnealpaa
open Go Go.Proofs Go.Sx
set_option linter.unusedVariables false
/-! norm -/
/-! cast -/
end Go.Proofs.Ytcjkkfhdnealpaa

namespace Go.Proofs.Ytcjkkfhdnealpaa
open Go Go.Proofs Go.Sx
set_option linter.unusedVariables false
/-! norm -/
/-! cast -/
end Go.Proofs.Ytcjkkfhdnealpaa

namespace Go.Proofs.Ytcjkkfhdnealpaa
open Go Go.Proofs Go.Sx
set_option linter.unusedVariables false
end Go.Proofs.Ytcjkkfhdnealpaa

namespace Go.Proofs.Ytcjkkfhdnealpaa
open Go Go.Proofs Go.Sx
set_option linter.unusedVariables false
abbrev ks2 : List CK := [.num .i64, .num .i64]
theorem pt_is {l : List Dat} (h : WfL ks2 l) : ∃ x y, l = [.n x, .n y] ∧ (Lit.int .i64 x).wf = true ∧ (Lit.int .i64 y).wf = true := by
  match l, h with
  | [.n x, .n y], h => exact ⟨x, y, rfl, h.1, h.2.1⟩
end Go.Proofs.Ytcjkkfhdnealpaa

