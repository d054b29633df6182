/-
  The law FrameCounts over values.
-/
import Derived.Test.YtbfcnkelldbfbaaYf
namespace Go.Proofs.Ytbfcnkelldbfbaa
open Go Go.Proofs Go.Sx
set_option linter.unusedVariables false
/-! How many bytes frames take. -/
def wsum : List (List Dat) → Nat
  | [] => 0
  | c :: D => ((pD c).size + 6) + wsum D
theorem sF_right : ∀ s, (sF s).all rightD = true := by
  refine scan_ind (fun s h => ?_) (fun s h ih => ?_) (fun s h h' ih => ?_)
  · rw [(scan5 h).1]; rfl
  · rw [(scan0 h).1, List.all_cons, ih, Bool.and_true]
    obtain ⟨_, _, _, g4, g5, _, _, _, _, _, g7, g8, _⟩ := rd_ok h
    show rightB (rdK s) (rdP s) = true
    rw [g4, g5]
    exact good_right g7 g8
  · rw [(scan1 h h').1]; exact ih
theorem sF_sum : ∀ s, wsum (sF s) + (sR s).size + sD s = s.size := by
  refine scan_ind (fun s h => ?_) (fun s h ih => ?_) (fun s h h' ih => ?_)
  · obtain ⟨e1, e2, e3⟩ := scan5 h
    rw [e1, e2, e3]; exact Nat.zero_add _
  · obtain ⟨e1, e2, e3⟩ := scan0 h
    obtain ⟨g1, g2, _, _, _, _, g3, _⟩ := rd_ok h
    have := ext_size g1
    have hp : pD (fr s) = rdP s := rfl
    rw [e1, e2, e3, wsum, hp]; omega
  · obtain ⟨e1, e2, e3⟩ := scan1 h h'
    have := ext_size (s := s) (n := 1) (rd_some h)
    have := rd_some h
    rw [e1, e2, e3]; omega
def rStr (T : List (List Dat)) : RowS := .live ⟨9, [.str], T, false, false⟩
noncomputable def bC0 : Code := loopAt (Try.f8.body.getD .skip) 0
noncomputable def bC1 : Code := loopAt bC0 0
theorem loopsC : loopsOf (Try.f8.body.getD .skip) = [bC0] := by kernel_rfl
theorem loopsC0 : loopsOf bC0 = [bC1] := by kernel_rfl
theorem loopsC1 : loopsOf bC1 = [] := by kernel_rfl
def tS (c : List Dat) : ByteArray := (c.headD (.n 0)).toS
def kC1 : List Bool := maskOf 80 [3, 4, 5, 20, 21, 22, 35, 36, 37]
def xC1 (e : Ex) : List Bool := match e with
  | .ret => maskOf 80 [2]
  | _ => maskOf 80 [3, 4, 5, 20, 21, 22]
def MT (T : List (List Dat)) (w : ByteArray) (v : Int) (l : List RowS) : Mem := ⟨[[.v (S w), .ptr 1 0], [.v (I 1000000), .v (I v)]], [true, true], rStr T :: l⟩
def HC1 (T : List (List Dat)) (w : ByteArray) (v cm n i : Int) (Q : List (List Dat)) (nn : Int) (td j : Int) : St := mk kC1 [.ptr 0 0, .v (I cm), .v (I td), .row 0, .v (I n), .v (I i), .row 1, .v (I nn), .v (I j)] (MT T w v [frT 23 Q])
def XC1 (T : List (List Dat)) (w : ByteArray) (v cm n i td : Int) : St := mk (maskOf 80 [3, 4, 5, 20, 21, 22]) [.ptr 0 0, .v (I cm), .v (I td), .row 0, .v (I n), .v (I i)] (MT T w v [])
def YC (b : Bool) (T : List (List Dat)) : St := mk (maskOf 80 [2]) [.v (Bo b)] ⟨[], [], [rStr T]⟩
def KC1 (e : Ex) (st : St) : Option (Ex × St) := some (e, cutC 0 1 (xC1 e) st)
theorem stepC1 (T : List (List Dat)) (w : ByteArray) (v cm n i : Int) (Q : List (List Dat)) (nn : Int) (k : Nat) (td j : Int) : evLoop ΓL Try.prog L0 (cutC 0 1 kC1) bC1 (k + 1) (HC1 T w v cm n i Q nn td j) KC1 =
    bif decide (j < nn) then (bif decide (0 ≤ j) && decide (j < (Q.length : Int)) then (bif !rightD (Q.getD j.toNat []) then some (.ret, YC false T) else
      evLoop ΓL Try.prog L0 (cutC 0 1 kC1) bC1 k (HC1 T w v cm n i Q nn (wI (td + wI (((pD (Q.getD j.toNat [])).size : Int) + 6))) (wI (j + 1))) KC1) else none) else some (.exit 2, XC1 T w v cm n i td) := by kernel_rfl
theorem sumLoop {α : Type} (C : List (List Dat)) (hl : C.length ≤ 1000000) (E : Nat → Int → Int → Option α) (X : Option α) (F : Int → Option α)
    (hE : ∀ k t i, E (k + 1) t i = bif decide (i < (C.length : Int)) then (bif decide (0 ≤ i) && decide (i < (C.length : Int)) then (bif !rightD (C.getD i.toNat []) then X else E k (wI (t + wI (((pD (C.getD i.toNat [])).size : Int) + 6))) (wI (i + 1))) else none) else F t) :
    ∀ (D : List (List Dat)) (i t : Nat), C.drop i = D → i + D.length = C.length → D.all rightD = true → t + 70 * D.length ≤ 1000000000 → E (D.length + 1) (t : Int) (i : Int) = F ((t + wsum D : Nat) : Int) := by
  intro D
  induction D with
  | nil =>
    intro i t hd hi hr ht
    have : i = C.length := by simpa using hi
    rw [List.length_nil, hE, decide_eq_false (by omega)]
    rfl
  | cons c D ih =>
    intro i t hd hi hr ht
    simp only [List.length_cons] at hi ht
    simp only [List.all_cons, Bool.and_eq_true] at hr
    have hc : C[i]? = some c := by
      have := congrArg List.head? hd
      rwa [List.head?_drop] at this
    have hget : C.getD ((i : Int)).toNat [] = c := by rw [Int.toNat_natCast, List.getD_eq_getElem?_getD, hc]; rfl
    have hd' : C.drop (i + 1) = D := by rw [← List.drop_drop, hd]; rfl
    have hp := (right_size hr.1).1
    rw [List.length_cons, hE, hget, hr.1, decide_eq_true (show (i : Int) < (C.length : Int) by omega), decide_eq_true (show 0 ≤ (i : Int) by omega), wI_id (n := ((pD c).size : Int) + 6) (by omega), wI_id (by omega), wI_id (by omega), show (i : Int) + 1 = ((i + 1 : Nat) : Int) by omega,
      show (t : Int) + (((pD c).size : Int) + 6) = ((t + ((pD c).size + 6) : Nat) : Int) by omega]
    refine (ih (i + 1) (t + ((pD c).size + 6)) hd' (by omega) hr.2 (by omega)).trans ?_
    rw [wsum, Nat.add_assoc]
def GC1 (vals : List SV) (m : Mem) : Option (Bool × Ex × St) :=
  match vals, m with
  | [.ptr 0 0, .v (.int .i64 cm), .v (.int .i64 td), .row 0, .v (.int .i64 n), .v (.int .i64 i), .row 1, .v (.int .i64 nn), .v (.int .i64 j)], ⟨[[.v (.string w), .ptr 1 0], [.v (.int .i64 a), .v (.int .i64 v)]], [true, true], [.live ⟨9, [.str], T, false, false⟩, .live ⟨23, [.num .i64, .str], Q, true, false⟩]⟩ =>
    some (nn == (Q.length : Int) && (j == 0 && (a == 1000000 && (inN 1000001 td && (Nat.ble Q.length 1000000 && Q.all rightD)))), .exit 2, XC1 T w v cm n i ((td.toNat + wsum Q : Nat) : Int))
  | _, _ => none
noncomputable def ΛC1 : LoopOrc := fun _ st => viaC 0 1 kC1 GC1 st
theorem loopOkC1 (z : Base) (h1 : z.L.length = 0) (h2 : z.U.length = 1) : LoopOk ΛC1 Try.prog z bC1 := by
  refine loop_okC (Λ := L0) (kx := xC1) OkL mixed h1 h2 (fun b hb => by rw [loopsC1] at hb; cases hb) (G := GC1) (fun _ => rfl) ?_
  intro vals m e st' h
  unfold GC1 at h
  split at h
  · rename_i cm td n i nn j w a v T Q
    obtain ⟨hg, rfl, rfl⟩ := some_t2 h
    simp only [Bool.and_eq_true, beq_iff_eq] at hg
    obtain ⟨rfl, rfl, rfl, ht, hl, hr⟩ := hg
    obtain ⟨t, rfl, ht⟩ := inN_nat ht
    have hl := Nat.le_of_ble_eq_true hl
    exact ⟨Q.length + 1, sumLoop Q hl (fun k td j => evLoop ΓL Try.prog L0 (cutC 0 1 kC1) bC1 k (HC1 T w v cm n i Q (Q.length : Int) td j) KC1) (some (.ret, YC false T)) (fun td => some (.exit 2, XC1 T w v cm n i td)) (fun k td j => stepC1 T w v cm n i Q (Q.length : Int) k td j) Q 0 t rfl (by omega) hr (by omega)⟩
  · cases h
end Go.Proofs.Ytbfcnkelldbfbaa

namespace Go.Proofs.Ytbfcnkelldbfbaa
open Go Go.Proofs Go.Sx
set_option linter.unusedVariables false
def kC0 : List Bool := maskOf 80 [3, 4, 5, 20, 21, 22]
def xC0 (e : Ex) : List Bool := match e with
  | .ret => maskOf 80 [2]
  | _ => maskOf 80 []
def HC0 (T : List (List Dat)) (n : Int) (w : ByteArray) (v cm td i : Int) : St := mk kC0 [.ptr 0 0, .v (I cm), .v (I td), .row 0, .v (I n), .v (I i)] (MT T w v [])
def XC0 (T : List (List Dat)) : St := mk (maskOf 80 []) [] ⟨[], [], [rStr T]⟩
def KC0 (e : Ex) (st : St) : Option (Ex × St) := some (e, cutC 0 1 (xC0 e) st)
def gC1 (Q : List (List Dat)) (td : Int) : Bool := (Q.length : Int) == (Q.length : Int) && ((0 : Int) == 0 && ((1000000 : Int) == 1000000 && (inN 1000001 td && (Nat.ble Q.length 1000000 && Q.all rightD))))
theorem stepC0 (T : List (List Dat)) (n : Int) (k : Nat) (w : ByteArray) (v cm td i : Int) : evLoop ΓL Try.prog ΛC1 (cutC 0 1 kC0) bC0 (k + 1) (HC0 T n w v cm td i) KC0 =
    bif decide (i < n) then (bif decide (0 ≤ i) && decide (i < (T.length : Int)) then (bif decide (((tS (T.getD i.toNat [])).size : Int) > 400) then some (.ret, YC true T) else
      (bif okFeed w (tS (T.getD i.toNat [])) 1000000 v then (bif gC1 (sF (w ++ tS (T.getD i.toNat []))) td then
        (bif wI (cm + ((tS (T.getD i.toNat [])).size : Int)) != wI (wI (((td.toNat + wsum (sF (w ++ tS (T.getD i.toNat []))) : Nat) : Int) + ((sat v.toNat (sD (w ++ tS (T.getD i.toNat []))) : Nat) : Int)) + ((sR (w ++ tS (T.getD i.toNat []))).size : Int)) then some (.ret, YC false T) else
          (bif decide (((sR (w ++ tS (T.getD i.toNat []))).size : Int) > 1024) then some (.ret, YC false T) else
            evLoop ΓL Try.prog ΛC1 (cutC 0 1 kC0) bC0 k (HC0 T n (sR (w ++ tS (T.getD i.toNat []))) ((sat v.toNat (sD (w ++ tS (T.getD i.toNat []))) : Nat) : Int) (wI (cm + ((tS (T.getD i.toNat [])).size : Int))) ((td.toNat + wsum (sF (w ++ tS (T.getD i.toNat []))) : Nat) : Int) (wI (i + 1))) KC0)) else none) else none)) else none) else some (.exit 0, XC0 T) := by kernel_rfl
def smallD (c : List Dat) : Bool := decide (((tS c).size : Int) ≤ 400)
theorem countLoop {α : Type} (T : List (List Dat)) (hl : T.length ≤ 1000000) (E : Nat → ByteArray → Int → Int → Int → Int → Option α) (X Y Z : Option α)
    (hE : ∀ k w v cm td i, E (k + 1) w v cm td i = bif decide (i < (T.length : Int)) then (bif decide (0 ≤ i) && decide (i < (T.length : Int)) then (bif decide (((tS (T.getD i.toNat [])).size : Int) > 400) then X else
      (bif okFeed w (tS (T.getD i.toNat [])) 1000000 v then (bif gC1 (sF (w ++ tS (T.getD i.toNat []))) td then
        (bif wI (cm + ((tS (T.getD i.toNat [])).size : Int)) != wI (wI (((td.toNat + wsum (sF (w ++ tS (T.getD i.toNat []))) : Nat) : Int) + ((sat v.toNat (sD (w ++ tS (T.getD i.toNat []))) : Nat) : Int)) + ((sR (w ++ tS (T.getD i.toNat []))).size : Int)) then Y else
          (bif decide (((sR (w ++ tS (T.getD i.toNat []))).size : Int) > 1024) then Y else
            E k (sR (w ++ tS (T.getD i.toNat []))) ((sat v.toNat (sD (w ++ tS (T.getD i.toNat []))) : Nat) : Int) (wI (cm + ((tS (T.getD i.toNat [])).size : Int))) ((td.toNat + wsum (sF (w ++ tS (T.getD i.toNat []))) : Nat) : Int) (wI (i + 1)))) else none) else none)) else none) else Z) :
    ∀ (D : List (List Dat)) (i : Nat) (w : ByteArray) (v cm td : Nat), T.drop i = D → i + D.length = T.length → cm = td + v + w.size → cm + 400 * D.length ≤ 1000000 → E (D.length + 1) w (v : Int) (cm : Int) (td : Int) (i : Int) = (bif D.all smallD then Z else X) := by
  intro D
  induction D with
  | nil =>
    intro i w v cm td hd hi hc hb
    have : i = T.length := by simpa using hi
    rw [List.length_nil, hE, decide_eq_false (by omega)]
    rfl
  | cons c D ih =>
    intro i w v cm td hd hi hcm hb
    simp only [List.length_cons] at hi hb
    have hc : T[i]? = some c := by
      have := congrArg List.head? hd
      rwa [List.head?_drop] at this
    have hget : T.getD ((i : Int)).toNat [] = c := by rw [Int.toNat_natCast, List.getD_eq_getElem?_getD, hc]; rfl
    have hd' : T.drop (i + 1) = D := by rw [← List.drop_drop, hd]; rfl
    rw [List.length_cons, hE, hget, decide_eq_true (show (i : Int) < (T.length : Int) by omega), decide_eq_true (show 0 ≤ (i : Int) by omega), List.all_cons]
    by_cases hs : ((tS c).size : Int) ≤ 400
    · have hwt : (w ++ tS c).size = w.size + (tS c).size := ByteArray.size_append
      have hsum := sF_sum (w ++ tS c)
      have hlen := sF_len (w ++ tS c)
      have h70 := sR_size (w ++ tS c)
      have hsat : sat v (sD (w ++ tS c)) = v + sD (w ++ tS c) := by unfold sat; omega
      have hok : okFeed w (tS c) 1000000 (v : Int) = true := by
        unfold okFeed
        rw [inN_of (show v < 1000001 by omega), Nat.ble_eq_true_of_le (show w.size + (tS c).size ≤ 1099511627775 by omega)]
        rfl
      have hg : gC1 (sF (w ++ tS c)) (td : Int) = true := by
        unfold gC1
        rw [inN_of (show td < 1000001 by omega), Nat.ble_eq_true_of_le (show (sF (w ++ tS c)).length ≤ 1000000 by omega), sF_right]
        simp only [beq_self_eq_true, Bool.and_self]
      have hsm : smallD c = true := decide_eq_true hs
      have e1 : wI ((cm : Int) + ((tS c).size : Int)) = ((cm + (tS c).size : Nat) : Int) := by rw [wI_id (by omega)]; omega
      have e2 : wI (wI (((td + wsum (sF (w ++ tS c)) : Nat) : Int) + ((v + sD (w ++ tS c) : Nat) : Int)) + ((sR (w ++ tS c)).size : Int)) = ((cm + (tS c).size : Nat) : Int) := by
        rw [wI_id (n := ((td + wsum (sF (w ++ tS c)) : Nat) : Int) + ((v + sD (w ++ tS c) : Nat) : Int)) (by omega), wI_id (by omega)]
        omega
      rw [Int.toNat_natCast, Int.toNat_natCast, hsat, e1, e2, hok, hg, hsm, decide_eq_false (show ¬ ((tS c).size : Int) > 400 by omega), decide_eq_false (show ¬ ((sR (w ++ tS c)).size : Int) > 1024 by omega), bne_self_eq_false, wI_id (by omega), show (i : Int) + 1 = ((i + 1 : Nat) : Int) by omega]
      refine (ih (i + 1) (sR (w ++ tS c)) (v + sD (w ++ tS c)) (cm + (tS c).size) (td + wsum (sF (w ++ tS c))) hd' (by omega) (by omega) (by omega)).trans ?_
      rw [Bool.true_and]
    · have hsm : smallD c = false := decide_eq_false hs
      rw [hsm, decide_eq_true (show ((tS c).size : Int) > 400 by omega)]
      rfl
def GC0 (b : Bool) (vals : List SV) (m : Mem) : Option (Bool × Ex × St) :=
  match vals, m with
  | [.ptr 0 0, .v (.int .i64 cm), .v (.int .i64 td), .row 0, .v (.int .i64 n), .v (.int .i64 i)], ⟨[[.v (.string w), .ptr 1 0], [.v (.int .i64 a), .v (.int .i64 v)]], [true, true], [.live ⟨9, [.str], T, false, false⟩]⟩ =>
    some (n == (T.length : Int) && (i == 0 && (a == 1000000 && (v == 0 && (cm == 0 && (td == 0 && (Nat.ble T.length 1000 && ((w.toList == eB.toList) && (T.all smallD == b)))))))), (bif b then .exit 0 else .ret), (bif b then XC0 T else YC true T))
  | _, _ => none
theorem loopOkC0 {Λ : LoopOrc} (b : Bool) (hΛ : ∀ st, Λ bC0 st = viaC 0 1 kC0 (GC0 b) st) (z : Base) (h1 : z.L.length = 0) (h2 : z.U.length = 1) : LoopOk Λ Try.prog z bC0 := by
  refine loop_okC (Λ := ΛC1) (kx := xC0) OkL mixed h1 h2 (oneLoop loopsC0 (loopOkC1 z h1 h2)) (G := GC0 b) hΛ ?_
  intro vals m e st' h
  unfold GC0 at h
  split at h
  · rename_i cm td n i w a v T
    obtain ⟨hg, rfl, rfl⟩ := some_t2 h
    rw [beq_TS] at hg
    simp only [Bool.and_eq_true, beq_iff_eq, beq_S] at hg
    obtain ⟨rfl, rfl, rfl, rfl, rfl, rfl, hl, rfl, hb⟩ := hg
    have hl := Nat.le_of_ble_eq_true hl
    refine ⟨T.length + 1, (countLoop T (by omega) (fun k w v cm td i => evLoop ΓL Try.prog ΛC1 (cutC 0 1 kC0) bC0 k (HC0 T (T.length : Int) w v cm td i) KC0) (some (.ret, YC true T)) (some (.ret, YC false T)) (some (.exit 0, XC0 T)) (fun k w v cm td i => stepC0 T (T.length : Int) k w v cm td i) T 0 eB 0 0 0 rfl (by omega) rfl (by omega)).trans ?_⟩
    rw [hb]
    cases b <;> rfl
  · cases h
noncomputable def ΛC (c : Bool) : LoopOrc := fun _ st => viaC 0 1 kC0 (GC0 c) st
theorem loopsOkC (c : Bool) (z : Base) (h1 : z.L.length = 0) (h2 : z.U.length = 1) : ∀ b ∈ loopsOf (Try.f8.body.getD .skip), LoopOk (ΛC c) Try.prog z b :=
  oneLoop loopsC (loopOkC0 c (fun _ => rfl) z h1 h2)
def g0C (T : List (List Dat)) (b : Bool) : Bool := (T.length : Int) == (T.length : Int) && ((0 : Int) == 0 && ((1000000 : Int) == 1000000 && ((0 : Int) == 0 && ((0 : Int) == 0 && ((0 : Int) == 0 && (Nat.ble T.length 1000 && ((eB.toList == eB.toList) && (T.all smallD == b))))))))
theorem treeCounts1 (T : List (List Dat)) : runG ΓL (ΛC true) Try.prog Try.f8 [.row 0] ⟨[], [], [rStr T]⟩ =
    bif decide ((T.length : Int) > 60) then oM true ⟨[], [], [rStr T]⟩ else bif g0C T true then oM true ⟨[], [], [rStr T]⟩ else none := by kernel_rfl
theorem treeCounts0 (T : List (List Dat)) : runG ΓL (ΛC false) Try.prog Try.f8 [.row 0] ⟨[], [], [rStr T]⟩ =
    bif decide ((T.length : Int) > 60) then oM true ⟨[], [], [rStr T]⟩ else bif g0C T false then oM true ⟨[], [], [rStr T]⟩ else none := by kernel_rfl
theorem frameCounts (T : List (List Dat)) : runG ΓL (ΛC (T.all smallD)) Try.prog Try.f8 [.row 0] ⟨[], [], [rStr T]⟩ = some (.v (.bool true), ⟨[], [], [rStr T]⟩) := by
  have hg : T.length ≤ 60 → g0C T (T.all smallD) = true := fun h => by
    unfold g0C
    rw [Nat.ble_eq_true_of_le (show T.length ≤ 1000 by omega)]
    simp only [beq_self_eq_true, Bool.and_self]
  cases hb : T.all smallD with
  | true =>
    refine (treeCounts1 T).trans ?_
    rw [hb] at hg
    by_cases h1 : (T.length : Int) > 60
    · rw [decide_eq_true h1]; rfl
    · rw [decide_eq_false h1, hg (by omega)]; rfl
  | false =>
    refine (treeCounts0 T).trans ?_
    rw [hb] at hg
    by_cases h1 : (T.length : Int) > 60
    · rw [decide_eq_true h1]; rfl
    · rw [decide_eq_false h1, hg (by omega)]; rfl
theorem frameCountsLaw (l0 : List (List Dat)) (w0 : ∀ o ∈ l0, WfL [.str] o) (n0 : l0.length ≤ 281474976710656) :
    ∃ Λ m', (∀ z : Base, z.L.length = 0 → z.U.length = 1 → ∀ b ∈ loopsOf (Try.f8.body.getD .skip), LoopOk Λ Try.prog z b) ∧ runG ΓL Λ Try.prog Try.f8 (inArgs [.row 9 [.str] l0] 0) (inMem [.row 9 [.str] l0]) = some (.v (.bool true), m') :=
  ⟨ΛC (l0.all smallD), _, loopsOkC _, frameCounts l0⟩
end Go.Proofs.Ytbfcnkelldbfbaa

