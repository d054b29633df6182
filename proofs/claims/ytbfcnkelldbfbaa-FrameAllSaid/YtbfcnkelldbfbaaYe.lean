/-
  The law FrameAll over values.
-/
import Derived.Test.YtbfcnkelldbfbaaYd
namespace Go.Proofs.Ytbfcnkelldbfbaa
open Go Go.Proofs Go.Sx
set_option linter.unusedVariables false
/-! Frames in a slice. -/
def kD (c : List Dat) : Int := (c.headD (.n 0)).toI
def pD (c : List Dat) : ByteArray := (c.tail.headD (.n 0)).toS
def rightD (c : List Dat) : Bool := rightB (kD c) (pD c)
def prD (c : List Dat) : ByteArray := printB (kD c) (pD c)
def frB (c : List Dat) : Bool :=
  match c with
  | [.n _, .s _] => true
  | _ => false
theorem frB_is {c : List Dat} (h : frB c = true) : c = [.n (kD c), .s (pD c)] := by
  unfold frB at h
  split at h
  · rfl
  · cases h
theorem frB_of {c : List Dat} (h : WfL [.num .i64, .str] c) : frB c = true := by
  obtain ⟨k, p, rfl, _⟩ := wf_is h
  rfl
def catD : List (List Dat) → ByteArray
  | [] => ⟨#[]⟩
  | c :: D => prD c ++ catD D
theorem prD_size (c : List Dat) : (prD c).size ≤ 70 := printB_size _ _
theorem catD_size : ∀ D : List (List Dat), (catD D).size ≤ 70 * D.length
  | [] => Nat.zero_le _
  | c :: D => by
    have := catD_size D
    have := prD_size c
    rw [catD, ByteArray.size_append, List.length_cons]; omega
/-- Frames one behind the other are all told. -/
theorem scan_cat : ∀ (D : List (List Dat)), D.all rightD = true → D.all frB = true → sF (catD D) = D ∧ sR (catD D) = ⟨#[]⟩ ∧ sD (catD D) = 0
  | [], _, _ => scan5 rd_nil
  | c :: D, hr, hf => by
    simp only [List.all_cons, Bool.and_eq_true] at hr hf
    obtain ⟨h1, h2, h3⟩ := scan_cat D hr.2 hf.2
    obtain ⟨e1, e2, e3, e4⟩ := rd_prt hr.1 (catD D)
    rw [catD, show prD c = prt (kD c) (pD c) from printB_of hr.1]
    obtain ⟨f1, f2, f3⟩ := scan0 e1
    have hx : (prt (kD c) (pD c) ++ catD D).extract (rdN (prt (kD c) (pD c) ++ catD D)).toNat (prt (kD c) (pD c) ++ catD D).size = catD D := by
      rw [e4, Int.toNat_natCast, ext_app (Nat.le_refl _), show (prt (kD c) (pD c)).extract (prt (kD c) (pD c)).size (prt (kD c) (pD c)).size = ⟨#[]⟩ from by rw [← L_inj, L_ext, Nat.sub_self, List.take_zero], nil_app]
    rw [hx] at f1 f2 f3
    rw [f1, f2, f3, h1, h2, h3]
    refine ⟨?_, rfl, rfl⟩
    unfold fr
    rw [e2, e3, ← frB_is hf.1]
theorem allLoop {α : Type} (C : List (List Dat)) (hl : C.length < 4611686018427387904) (E : Nat → ByteArray → Int → Option α) (X : α) (F : ByteArray → α)
    (hE : ∀ k s i, E (k + 1) s i = bif decide (i < (C.length : Int)) then (bif decide (0 ≤ i) && decide (i < (C.length : Int)) then (bif !rightD (C.getD i.toNat []) then some X else
      (bif Nat.ble (s.size + (prD (C.getD i.toNat [])).size) 9223372036854775807 then E k (s ++ prD (C.getD i.toNat [])) (wI (i + 1)) else none)) else none) else some (F s)) :
    ∀ (D : List (List Dat)) (i : Nat) (s : ByteArray), C.drop i = D → i + D.length = C.length → s.size + 70 * D.length ≤ 9223372036854775807 → E (D.length + 1) s (i : Int) = some (bif D.all rightD then F (s ++ catD D) else X) := by
  intro D
  induction D with
  | nil =>
    intro i s hd hi hs
    have : i = C.length := by simpa using hi
    rw [List.length_nil, hE, decide_eq_false (by omega), catD, app_nil]
    rfl
  | cons c D ih =>
    intro i s hd hi hs
    simp only [List.length_cons] at hi hs
    have hc : C[i]? = some c := by
      have := congrArg List.head? hd
      rwa [List.head?_drop] at this
    have hget : C.getD ((i : Int)).toNat [] = c := by rw [Int.toNat_natCast, List.getD_eq_getElem?_getD, hc]; rfl
    have hd' : C.drop (i + 1) = D := by rw [← List.drop_drop, hd]; rfl
    have hp := prD_size c
    have hps : (s ++ prD c).size = s.size + (prD c).size := ByteArray.size_append
    rw [List.length_cons, hE, hget, decide_eq_true (show (i : Int) < (C.length : Int) by omega), decide_eq_true (show 0 ≤ (i : Int) by omega), Nat.ble_eq_true_of_le (show s.size + (prD c).size ≤ 9223372036854775807 by omega), wI_id (by omega), show (i : Int) + 1 = ((i + 1 : Nat) : Int) by omega, ih (i + 1) _ hd' (by omega) (by omega)]
    rw [catD, app_assoc, List.all_cons]
    cases rightD c <;> rfl

/-! FrameAll: the frames printed. -/
def rFr (C : List (List Dat)) : RowS := .live ⟨23, ksF, C, false, false⟩
def kA0 : List Bool := maskOf 66 [0, 3, 17, 18, 19]
def xA0 (e : Ex) : List Bool := match e with
  | .ret => maskOf 66 [2]
  | _ => maskOf 66 [0, 3]
noncomputable def bA0 : Code := loopAt (Try.f6.body.getD .skip) 0
noncomputable def bA1 : Code := loopAt (Try.f6.body.getD .skip) 1
theorem loopsA : loopsOf (Try.f6.body.getD .skip) = [bA0, bA1] := by kernel_rfl
theorem loopsA0 : loopsOf bA0 = [] := by kernel_rfl
theorem loopsA1 : loopsOf bA1 = [] := by kernel_rfl
def HA0 (C : List (List Dat)) (s : ByteArray) (n i : Int) : St := mk kA0 [.row 0, .v (S s), .row 0, .v (I n), .v (I i)] ⟨[], [], [rFr C]⟩
def KA0 (e : Ex) (st : St) : Option (Ex × St) := some (e, cutC 0 1 (xA0 e) st)
def XA0 (C : List (List Dat)) (s : ByteArray) : St := mk (maskOf 66 [0, 3]) [.row 0, .v (S s)] ⟨[], [], [rFr C]⟩
def YA0 (C : List (List Dat)) : St := mk (maskOf 66 [2]) [.v (Bo true)] ⟨[], [], [rFr C]⟩
theorem stepA0 (C : List (List Dat)) (n : Int) (k : Nat) (s : ByteArray) (i : Int) : evLoop ΓL Try.prog L0 (cutC 0 1 kA0) bA0 (k + 1) (HA0 C s n i) KA0 =
    bif decide (i < n) then (bif decide (0 ≤ i) && decide (i < (C.length : Int)) then (bif !rightD (C.getD i.toNat []) then some (.ret, YA0 C) else
      (bif Nat.ble (s.size + (prD (C.getD i.toNat [])).size) 9223372036854775807 then evLoop ΓL Try.prog L0 (cutC 0 1 kA0) bA0 k (HA0 C (s ++ prD (C.getD i.toNat [])) n (wI (i + 1))) KA0 else none)) else none) else some (.exit 0, XA0 C s) := by kernel_rfl
def GA0 (b : Bool) (vals : List SV) (m : Mem) : Option (Bool × Ex × St) :=
  match vals, m with
  | [.row 0, .v (.string s), .row 0, .v (.int .i64 n), .v (.int .i64 i)], ⟨[], [], [.live ⟨23, [.num .i64, .str], C, false, false⟩]⟩ =>
    some (n == (C.length : Int) && (i == 0 && (Nat.ble (s.size + C.length) 1000000 && (C.all rightD == b))), (bif b then .exit 0 else .ret), (bif b then XA0 C (s ++ catD C) else YA0 C))
  | _, _ => none
theorem loopOkA0 {Λ : LoopOrc} (b : Bool) (hΛ : ∀ st, Λ bA0 st = viaC 0 1 kA0 (GA0 b) st) (z : Base) (h1 : z.L.length = 0) (h2 : z.U.length = 1) : LoopOk Λ Try.prog z bA0 := by
  refine loop_okC (Λ := L0) (kx := xA0) OkL mixed h1 h2 (fun b hb => by rw [loopsA0] at hb; cases hb) (G := GA0 b) hΛ ?_
  intro vals m e st' h
  unfold GA0 at h
  split at h
  · rename_i s n i C
    obtain ⟨hg, rfl, rfl⟩ := some_t2 h
    simp only [Bool.and_eq_true, beq_iff_eq] at hg
    obtain ⟨rfl, rfl, hz, hb⟩ := hg
    have hz := Nat.le_of_ble_eq_true hz
    refine ⟨C.length + 1, (allLoop C (by omega) (fun k s i => evLoop ΓL Try.prog L0 (cutC 0 1 kA0) bA0 k (HA0 C s (C.length : Int) i) KA0) (.ret, YA0 C) (fun s => (.exit 0, XA0 C s)) (fun k s i => stepA0 C (C.length : Int) k s i) C 0 s rfl (by omega) (by omega)).trans ?_⟩
    rw [hb]
    cases b <;> rfl
  · cases h

/-! .. and compared. -/
def kA1 : List Bool := maskOf 66 [0, 7, 52, 53]
def xA1 (e : Ex) : List Bool := match e with
  | .ret => maskOf 66 [2]
  | _ => maskOf 66 []
def HA1 (C Q : List (List Dat)) (n i : Int) : St := mk kA1 [.row 0, .row 1, .v (I n), .v (I i)] ⟨[], [], [rFr C, frT 23 Q]⟩
def KA1 (e : Ex) (st : St) : Option (Ex × St) := some (e, cutC 0 1 (xA1 e) st)
theorem stepA1 (C Q : List (List Dat)) (n : Int) (k : Nat) (i : Int) : evLoop ΓL Try.prog L0 (cutC 0 1 kA1) bA1 (k + 1) (HA1 C Q n i) KA1 =
    bif decide (i < n) then (bif decide (0 ≤ i) && decide (i < (Q.length : Int)) then (bif decide (0 ≤ i) && decide (i < (C.length : Int)) then (bif !eqF Q C i then some (.ret, mk (maskOf 66 [2]) [.v (Bo false)] ⟨[], [], [rFr C]⟩) else
      evLoop ΓL Try.prog L0 (cutC 0 1 kA1) bA1 k (HA1 C Q n (wI (i + 1))) KA1) else none) else none) else some (.exit 2, mk (maskOf 66 []) [] ⟨[], [], [rFr C]⟩) := by kernel_rfl
def GA1 (vals : List SV) (m : Mem) : Option (Bool × Ex × St) :=
  match vals, m with
  | [.row 0, .row 1, .v (.int .i64 n), .v (.int .i64 i)], ⟨[], [], [.live ⟨23, [.num .i64, .str], C, false, false⟩, .live ⟨23, [.num .i64, .str], Q, true, false⟩]⟩ =>
    some (n == (Q.length : Int) && (i == 0 && (eqQ Q C && Nat.ble Q.length 4611686018427387903)), .exit 2, mk (maskOf 66 []) [] ⟨[], [], [rFr C]⟩)
  | _, _ => none
theorem loopOkA1 {Λ : LoopOrc} (hΛ : ∀ st, Λ bA1 st = viaC 0 1 kA1 GA1 st) (z : Base) (h1 : z.L.length = 0) (h2 : z.U.length = 1) : LoopOk Λ Try.prog z bA1 := by
  refine loop_okC (Λ := L0) (kx := xA1) OkL mixed h1 h2 (fun b hb => by rw [loopsA1] at hb; cases hb) (G := GA1) hΛ ?_
  intro vals m e st' h
  unfold GA1 at h
  split at h
  · rename_i n i C Q
    obtain ⟨hg, rfl, rfl⟩ := some_t2 h
    simp only [Bool.and_eq_true, beq_iff_eq] at hg
    obtain ⟨rfl, rfl, hq, hl⟩ := hg
    have hq := eqQ_iff.1 hq
    subst hq
    have hl := Nat.le_of_ble_eq_true hl
    exact ⟨Q.length + 1, cmpLoop Q (by omega) (fun k i => evLoop ΓL Try.prog L0 (cutC 0 1 kA1) bA1 k (HA1 Q Q (Q.length : Int) i) KA1) _ _ (fun k i => stepA1 Q Q (Q.length : Int) k i)⟩
  · cases h
theorem tagA0 : tagOf bA0 = 5 := by kernel_rfl
theorem tagA1 : tagOf bA1 = 16 := by kernel_rfl
noncomputable def ΛA (c : Bool) : LoopOrc := fun b st => match tagOf b with
  | 5 => viaC 0 1 kA0 (GA0 c) st
  | 16 => viaC 0 1 kA1 GA1 st
  | _ => none
theorem loopsOkA (c : Bool) (z : Base) (h1 : z.L.length = 0) (h2 : z.U.length = 1) : ∀ b ∈ loopsOf (Try.f6.body.getD .skip), LoopOk (ΛA c) Try.prog z b := by
  intro b hb
  rw [loopsA] at hb
  simp only [List.mem_cons, List.not_mem_nil, or_false] at hb
  rcases hb with rfl | rfl
  · exact loopOkA0 c (fun st => by unfold ΛA; rw [tagA0]; rfl) z h1 h2
  · exact loopOkA1 (fun st => by unfold ΛA; rw [tagA1]; rfl) z h1 h2
end Go.Proofs.Ytbfcnkelldbfbaa

namespace Go.Proofs.Ytbfcnkelldbfbaa
open Go Go.Proofs Go.Sx
set_option linter.unusedVariables false
theorem treeAll1 (C : List (List Dat)) : runG ΓL (ΛA true) Try.prog Try.f6 [.row 0] ⟨[], [], [rFr C]⟩ =
    bif decide ((C.length : Int) > 40) then oM true ⟨[], [], [rFr C]⟩ else
    bif (C.length : Int) == (C.length : Int) && ((0 : Int) == 0 && (Nat.ble (eB.size + C.length) 1000000 && (C.all rightD == true))) then
      (bif okFeed eB (eB ++ catD C) 1000000 0 then
        bif ((sF (eB ++ (eB ++ catD C))).length : Int) != (C.length : Int) then oM false ⟨[], [], [rFr C]⟩ else
        bif ((sR (eB ++ (eB ++ catD C))).size : Int) != 0 then oM false ⟨[], [], [rFr C]⟩ else
        bif ((sat (Int.toNat 0) (sD (eB ++ (eB ++ catD C))) : Nat) : Int) != 0 then oM false ⟨[], [], [rFr C]⟩ else
        bif ((sF (eB ++ (eB ++ catD C))).length : Int) == ((sF (eB ++ (eB ++ catD C))).length : Int) && ((0 : Int) == 0 && (eqQ (sF (eB ++ (eB ++ catD C))) C && Nat.ble (sF (eB ++ (eB ++ catD C))).length 4611686018427387903)) then oM true ⟨[], [], [rFr C]⟩ else none
      else none) else none := by kernel_rfl
theorem treeAll0 (C : List (List Dat)) : runG ΓL (ΛA false) Try.prog Try.f6 [.row 0] ⟨[], [], [rFr C]⟩ =
    bif decide ((C.length : Int) > 40) then oM true ⟨[], [], [rFr C]⟩ else
    bif (C.length : Int) == (C.length : Int) && ((0 : Int) == 0 && (Nat.ble (eB.size + C.length) 1000000 && (C.all rightD == false))) then oM true ⟨[], [], [rFr C]⟩ else none := by kernel_rfl
theorem frameAll (C : List (List Dat)) (hC : C.all frB = true) : runG ΓL (ΛA (C.all rightD)) Try.prog Try.f6 [.row 0] ⟨[], [], [rFr C]⟩ = some (.v (.bool true), ⟨[], [], [rFr C]⟩) := by
  have hb : C.length ≤ 40 → Nat.ble (eB.size + C.length) 1000000 = true := fun h => Nat.ble_eq_true_of_le (by
    have : eB.size = 0 := rfl
    omega)
  cases hr : C.all rightD with
  | false =>
    refine (treeAll0 C).trans ?_
    by_cases h1 : (C.length : Int) > 40
    · rw [decide_eq_true h1]; rfl
    rw [decide_eq_false h1, hb (by omega), hr, beq_self_eq_true, beq_self_eq_true]
    rfl
  | true =>
    refine (treeAll1 C).trans ?_
    by_cases h1 : (C.length : Int) > 40
    · rw [decide_eq_true h1]; rfl
    obtain ⟨f1, f2, f3⟩ := scan_cat C hr hC
    have hz := catD_size C
    have hok : okFeed eB (catD C) 1000000 0 = true := by
      unfold okFeed
      rw [Nat.ble_eq_true_of_le (show eB.size + (catD C).size ≤ 1099511627775 by have : eB.size = 0 := rfl; omega)]
      rfl
    rw [decide_eq_false h1, hb (by omega), hr, nil_app, nil_app, f1, f2, f3, hok, eqQ_iff.2 rfl, Nat.ble_eq_true_of_le (show C.length ≤ 4611686018427387903 by omega)]
    simp only [beq_self_eq_true, bne_self_eq_false, Bool.and_self, cond_true, cond_false]
    rfl
theorem frameAllLaw (l0 : List (List Dat)) (w0 : ∀ o ∈ l0, WfL [.num .i64, .str] o) (n0 : l0.length ≤ 281474976710656) :
    ∃ Λ m', (∀ z : Base, z.L.length = 0 → z.U.length = 1 → ∀ b ∈ loopsOf (Try.f6.body.getD .skip), LoopOk Λ Try.prog z b) ∧ runG ΓL Λ Try.prog Try.f6 (inArgs [.row 23 [.num .i64, .str] l0] 0) (inMem [.row 23 [.num .i64, .str] l0]) = some (.v (.bool true), m') :=
  ⟨ΛA (l0.all rightD), _, loopsOkA _, frameAll l0 (List.all_eq_true.2 fun c hc => frB_of (w0 c hc))⟩
end Go.Proofs.Ytbfcnkelldbfbaa

