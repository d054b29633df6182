/-
  The law FrameNoise over values.
-/
import Derived.Test.YtbfcnkelldbfbaaYe
namespace Go.Proofs.Ytbfcnkelldbfbaa
open Go Go.Proofs Go.Sx
set_option linter.unusedVariables false
/-! Noise. -/
def noA5 (s : ByteArray) : Bool := (L s).all fun b => b != 165
theorem beq_165 (a : UInt8) : ((a.toNat : Int) == 165) = !(a != 165) := by
  have := byte_eq a 165 (by omega)
  rw [show (165 : Int) = ((165 : Nat) : Int) from rfl, show (165 : UInt8) = UInt8.ofNat 165 from rfl, ← this, bne, Bool.not_not]
theorem scan_noise (t : ByteArray) : ∀ (n : Nat) (s : ByteArray), s.size = n → noA5 s = true → sF (s ++ t) = sF t ∧ sR (s ++ t) = sR t ∧ sD (s ++ t) = s.size + sD t
  | 0, s, hn, h => by
    have : s = ⟨#[]⟩ := by rw [← L_inj]; exact List.eq_nil_of_length_eq_zero (by rw [L_len]; omega)
    subst this
    rw [nil_app]
    exact ⟨rfl, rfl, (Nat.zero_add _).symm⟩
  | n + 1, s, hn, h => by
    have hl := L_len s
    match hL : L s, hl with
    | [], hl => simp at hl; omega
    | a :: r, hl =>
      have h' := h
      unfold noA5 at h'
      rw [hL, List.all_cons, Bool.and_eq_true] at h'
      have a0 : strAt (s ++ t) 0 = (a.toNat : Int) := by
        have := strAt_L (s ++ t) 0
        rw [L_app, hL] at this
        exact this
      have hz : (s ++ t).size = s.size + t.size := ByteArray.size_append
      have hb : badB (s ++ t) = true := by
        unfold badB
        rw [a0, bne, beq_165, h'.1, decide_eq_true (by omega)]
        rfl
      have hE : rdE (s ++ t) = 3 := by unfold rdE; rw [hb]; rfl
      obtain ⟨f1, f2, f3⟩ := scan1 (s := s ++ t) (by omega) (by omega)
      have hx : L (s.extract 1 s.size) = r := by
        rw [L_ext, hL]
        show r.take _ = r
        rw [List.take_of_length_le (by simp at hl; omega)]
      have hs1 := ext_size (s := s) (n := 1) (by omega)
      obtain ⟨g1, g2, g3⟩ := scan_noise t n (s.extract 1 s.size) (by omega) (by unfold noA5; rw [hx]; exact h'.2)
      rw [ext_app (show 1 ≤ s.size by omega)] at f1 f2 f3
      rw [g1] at f1
      rw [g2] at f2
      rw [g3] at f3
      refine ⟨f1, f2, by omega⟩
theorem a5Loop {α : Type} (s : ByteArray) (hl : s.size < 4611686018427387904) (E : Nat → Int → Option α) (X F : Option α)
    (hE : ∀ k i, E (k + 1) i = bif decide (i < (s.size : Int)) then (bif decide (0 ≤ i) && decide (i < (s.size : Int)) then (bif strAt s i == 165 then X else E k (wI (i + 1))) else none) else F) :
    ∀ (D : List UInt8) (i : Nat), (L s).drop i = D → i + D.length = s.size → E (D.length + 1) (i : Int) = (bif D.all (fun b => b != 165) then F else X) := by
  intro D
  induction D with
  | nil =>
    intro i hd hi
    have : i = s.size := by simpa using hi
    rw [List.length_nil, hE, decide_eq_false (by omega)]
    rfl
  | cons c D ih =>
    intro i hd hi
    simp only [List.length_cons] at hi
    have hc : (L s)[i]? = some c := by
      have := congrArg List.head? hd
      rwa [List.head?_drop] at this
    have hd' : (L s).drop (i + 1) = D := by rw [← List.drop_drop, hd]; rfl
    have ha : strAt s (i : Int) = (c.toNat : Int) := by rw [strAt_L, hc]; rfl
    rw [List.length_cons, hE, ha, beq_165, decide_eq_true (show (i : Int) < (s.size : Int) by omega), decide_eq_true (show 0 ≤ (i : Int) by omega), wI_id (by omega), show (i : Int) + 1 = ((i + 1 : Nat) : Int) by omega, ih (i + 1) hd' (by omega), List.all_cons]
    cases c != 165 <;> rfl
def kB0 : List Bool := maskOf 74 [0, 1, 24, 25]
def xB0 (e : Ex) : List Bool := match e with
  | .ret => maskOf 74 [4]
  | _ => maskOf 74 [0, 1]
noncomputable def bB0 : Code := loopAt (Try.f7.body.getD .skip) 0
noncomputable def bB1 : Code := loopAt (Try.f7.body.getD .skip) 1
theorem loopsB : loopsOf (Try.f7.body.getD .skip) = [bB0, bB1] := by kernel_rfl
theorem loopsB0 : loopsOf bB0 = [] := by kernel_rfl
theorem loopsB1 : loopsOf bB1 = [] := by kernel_rfl
def HB0 (C : List (List Dat)) (s : ByteArray) (n i : Int) : St := mk kB0 [.v (S s), .row 0, .v (I n), .v (I i)] ⟨[], [], [rFr C]⟩
def KB0 (e : Ex) (st : St) : Option (Ex × St) := some (e, cutC 0 1 (xB0 e) st)
def XB0 (C : List (List Dat)) (s : ByteArray) : St := mk (maskOf 74 [0, 1]) [.v (S s), .row 0] ⟨[], [], [rFr C]⟩
def YB (b : Bool) (C : List (List Dat)) : St := mk (maskOf 74 [4]) [.v (Bo b)] ⟨[], [], [rFr C]⟩
theorem stepB0 (C : List (List Dat)) (s : ByteArray) (n : Int) (k : Nat) (i : Int) : evLoop ΓL Try.prog L0 (cutC 0 1 kB0) bB0 (k + 1) (HB0 C s n i) KB0 =
    bif decide (i < n) then (bif decide (0 ≤ i) && decide (i < (s.size : Int)) then (bif strAt s i == 165 then some (.ret, YB true C) else evLoop ΓL Try.prog L0 (cutC 0 1 kB0) bB0 k (HB0 C s n (wI (i + 1))) KB0) else none) else some (.exit 0, XB0 C s) := by kernel_rfl
def GB0 (b : Bool) (vals : List SV) (m : Mem) : Option (Bool × Ex × St) :=
  match vals, m with
  | [.v (.string s), .row 0, .v (.int .i64 n), .v (.int .i64 i)], ⟨[], [], [.live ⟨23, [.num .i64, .str], C, false, false⟩]⟩ =>
    some (n == (s.size : Int) && (i == 0 && (Nat.ble s.size 1000000 && (noA5 s == b))), (bif b then .exit 0 else .ret), (bif b then XB0 C s else YB true C))
  | _, _ => none
theorem loopOkB0 {Λ : LoopOrc} (b : Bool) (hΛ : ∀ st, Λ bB0 st = viaC 0 1 kB0 (GB0 b) st) (z : Base) (h1 : z.L.length = 0) (h2 : z.U.length = 1) : LoopOk Λ Try.prog z bB0 := by
  refine loop_okC (Λ := L0) (kx := xB0) OkL mixed h1 h2 (fun b hb => by rw [loopsB0] at hb; cases hb) (G := GB0 b) hΛ ?_
  intro vals m e st' h
  unfold GB0 at h
  split at h
  · rename_i s n i C
    obtain ⟨hg, rfl, rfl⟩ := some_t2 h
    simp only [Bool.and_eq_true, beq_iff_eq] at hg
    obtain ⟨rfl, rfl, hz, hb⟩ := hg
    have hz := Nat.le_of_ble_eq_true hz
    refine ⟨(L s).length + 1, (a5Loop s (by omega) (fun k i => evLoop ΓL Try.prog L0 (cutC 0 1 kB0) bB0 k (HB0 C s (s.size : Int) i) KB0) (some (.ret, YB true C)) (some (.exit 0, XB0 C s)) (fun k i => stepB0 C s (s.size : Int) k i) (L s) 0 rfl (by rw [L_len]; omega)).trans ?_⟩
    unfold noA5 at hb
    rw [hb]
    cases b <;> rfl
  · cases h

/-! Frames behind noise. -/
def eqH (Q : List (List Dat)) (c : List Dat) : Bool := ((Q.getD (Int.toNat 0) []).headD (.n 0)).toI == kD c && (((Q.getD (Int.toNat 0) []).tail.headD (.n 0)).toS == pD c && true)
def kB1 : List Bool := maskOf 74 [0, 1, 6, 34, 35, 36]
def xB1 (e : Ex) : List Bool := match e with
  | .ret => maskOf 74 [4]
  | _ => maskOf 74 [0, 1, 6]
def MB (C : List (List Dat)) (w : ByteArray) (v : Int) : Mem := ⟨[[.v (S w), .ptr 1 0], [.v (I 1000000), .v (I v)]], [true, true], [rFr C]⟩
def HB1 (C : List (List Dat)) (s : ByteArray) (n : Int) (w : ByteArray) (v i : Int) : St := mk kB1 [.v (S s), .row 0, .ptr 0 0, .row 0, .v (I n), .v (I i)] (MB C w v)
def XB1 (C : List (List Dat)) (s w : ByteArray) (v : Int) : St := mk (maskOf 74 [0, 1, 6]) [.v (S s), .row 0, .ptr 0 0] (MB C w v)
def KB1 (e : Ex) (st : St) : Option (Ex × St) := some (e, cutC 0 1 (xB1 e) st)
theorem stepB1 (C : List (List Dat)) (s : ByteArray) (n : Int) (k : Nat) (w : ByteArray) (v i : Int) : evLoop ΓL Try.prog L0 (cutC 0 1 kB1) bB1 (k + 1) (HB1 C s n w v i) KB1 =
    bif decide (i < n) then (bif decide (0 ≤ i) && decide (i < (C.length : Int)) then (bif !rightD (C.getD i.toNat []) then some (.ret, YB true C) else
      (bif Nat.ble (s.size + (prD (C.getD i.toNat [])).size) 9223372036854775807 then (bif okFeed w (s ++ prD (C.getD i.toNat [])) 1000000 v then
        (bif ((sF (w ++ (s ++ prD (C.getD i.toNat [])))).length : Int) != 1 then some (.ret, YB false C) else
          (bif decide ((0 : Int) ≤ 0) && decide (0 < ((sF (w ++ (s ++ prD (C.getD i.toNat [])))).length : Int)) then
            (bif !eqH (sF (w ++ (s ++ prD (C.getD i.toNat [])))) (C.getD i.toNat []) then some (.ret, YB false C) else
              evLoop ΓL Try.prog L0 (cutC 0 1 kB1) bB1 k (HB1 C s n (sR (w ++ (s ++ prD (C.getD i.toNat [])))) ((sat v.toNat (sD (w ++ (s ++ prD (C.getD i.toNat [])))) : Nat) : Int) (wI (i + 1))) KB1) else none)) else none) else none)) else none) else some (.exit 2, XB1 C s w v) := by kernel_rfl
theorem noiseLoop {α : Type} (C : List (List Dat)) (hC : C.all frB = true) (hl : C.length < 4611686018427387904) (s : ByteArray) (hs : s.size ≤ 1000000) (hN : noA5 s = true) (E : Nat → ByteArray → Int → Int → Option α) (X Y : α) (F : ByteArray → Int → α)
    (hE : ∀ k w v i, E (k + 1) w v i = bif decide (i < (C.length : Int)) then (bif decide (0 ≤ i) && decide (i < (C.length : Int)) then (bif !rightD (C.getD i.toNat []) then some X else
      (bif Nat.ble (s.size + (prD (C.getD i.toNat [])).size) 9223372036854775807 then (bif okFeed w (s ++ prD (C.getD i.toNat [])) 1000000 v then
        (bif ((sF (w ++ (s ++ prD (C.getD i.toNat [])))).length : Int) != 1 then some Y else
          (bif decide ((0 : Int) ≤ 0) && decide (0 < ((sF (w ++ (s ++ prD (C.getD i.toNat [])))).length : Int)) then
            (bif !eqH (sF (w ++ (s ++ prD (C.getD i.toNat [])))) (C.getD i.toNat []) then some Y else
              E k (sR (w ++ (s ++ prD (C.getD i.toNat [])))) ((sat v.toNat (sD (w ++ (s ++ prD (C.getD i.toNat [])))) : Nat) : Int) (wI (i + 1))) else none)) else none) else none)) else none) else some (F w v)) :
    ∀ (D : List (List Dat)) (i v : Nat), C.drop i = D → i + D.length = C.length → v + D.length * s.size ≤ 1000000 → E (D.length + 1) eB (v : Int) (i : Int) = some (bif D.all rightD then F eB ((v + D.length * s.size : Nat) : Int) else X) := by
  intro D
  induction D with
  | nil =>
    intro i v hd hi hv
    have : i = C.length := by simpa using hi
    rw [List.length_nil, hE, decide_eq_false (by omega), Nat.zero_mul, Nat.add_zero]
    rfl
  | cons c D ih =>
    intro i v hd hi hv
    simp only [List.length_cons] at hi hv
    have hc : C[i]? = some c := by
      have := congrArg List.head? hd
      rwa [List.head?_drop] at this
    have hget : C.getD ((i : Int)).toNat [] = c := by rw [Int.toNat_natCast, List.getD_eq_getElem?_getD, hc]; rfl
    have hd' : C.drop (i + 1) = D := by rw [← List.drop_drop, hd]; rfl
    rw [List.length_cons, hE, hget, decide_eq_true (show (i : Int) < (C.length : Int) by omega), decide_eq_true (show 0 ≤ (i : Int) by omega), List.all_cons]
    cases hr : rightD c with
    | false => rfl
    | true =>
      have hp := prD_size c
      have hsz : (s ++ prD c).size = s.size + (prD c).size := ByteArray.size_append
      have hfc := List.all_eq_true.1 hC c (List.mem_of_getElem? hc)
      obtain ⟨e1, e2, e3⟩ := scan_cat [c] (by rw [List.all_cons, hr]; rfl) (by rw [List.all_cons, hfc]; rfl)
      rw [show catD [c] = prD c from app_nil _] at e1 e2 e3
      obtain ⟨f1, f2, f3⟩ := scan_noise (prD c) s.size s rfl hN
      have hmul : (D.length + 1) * s.size = D.length * s.size + s.size := Nat.succ_mul _ _
      have hok : okFeed eB (s ++ prD c) 1000000 (v : Int) = true := by
        unfold okFeed
        rw [inN_of (show v < 1000001 by omega), Nat.ble_eq_true_of_le (show eB.size + (s ++ prD c).size ≤ 1099511627775 by have : eB.size = 0 := rfl; omega)]
        rfl
      have hq : eqH [c] c = true := by
        unfold eqH
        show (kD c == kD c && (pD c == pD c && true)) = true
        rw [beq_self_eq_true, (beq_S _ _).2 rfl]
        rfl
      rw [nil_app, f1, f2, f3, e1, e2, e3, Nat.ble_eq_true_of_le (show s.size + (prD c).size ≤ 9223372036854775807 by omega), hok, hq, wI_id (by omega), show (i : Int) + 1 = ((i + 1 : Nat) : Int) by omega, Int.toNat_natCast, show sat v (s.size + 0) = v + s.size by unfold sat; omega]
      refine (ih (i + 1) (v + s.size) hd' (by omega) (by omega)).trans ?_
      rw [show v + s.size + D.length * s.size = v + (D.length + 1) * s.size by omega]
      rfl
def GB1 (b : Bool) (vals : List SV) (m : Mem) : Option (Bool × Ex × St) :=
  match vals, m with
  | [.v (.string s), .row 0, .ptr 0 0, .row 0, .v (.int .i64 n), .v (.int .i64 i)], ⟨[[.v (.string w), .ptr 1 0], [.v (.int .i64 a), .v (.int .i64 v)]], [true, true], [.live ⟨23, [.num .i64, .str], C, false, false⟩]⟩ =>
    some (n == (C.length : Int) && (i == 0 && (a == 1000000 && (v == 0 && (Nat.ble (C.length * s.size) 1000000 && (Nat.ble s.size 1000000 && (Nat.ble C.length 1000000 && (noA5 s && (C.all frB && ((w.toList == eB.toList) && (C.all rightD == b)))))))))), (bif b then .exit 2 else .ret), (bif b then XB1 C s eB ((0 + C.length * s.size : Nat) : Int) else YB true C))
  | _, _ => none
theorem loopOkB1 {Λ : LoopOrc} (b : Bool) (hΛ : ∀ st, Λ bB1 st = viaC 0 1 kB1 (GB1 b) st) (z : Base) (h1 : z.L.length = 0) (h2 : z.U.length = 1) : LoopOk Λ Try.prog z bB1 := by
  refine loop_okC (Λ := L0) (kx := xB1) OkL mixed h1 h2 (fun b hb => by rw [loopsB1] at hb; cases hb) (G := GB1 b) hΛ ?_
  intro vals m e st' h
  unfold GB1 at h
  split at h
  · rename_i s n i w a v C
    obtain ⟨hg, rfl, rfl⟩ := some_t2 h
    rw [beq_TS] at hg
    simp only [Bool.and_eq_true, beq_iff_eq, beq_S] at hg
    obtain ⟨rfl, rfl, rfl, rfl, hm, hz, hl, hN, hC, hw, hb⟩ := hg
    subst hw
    have hz := Nat.le_of_ble_eq_true hz
    have hl := Nat.le_of_ble_eq_true hl
    have hm := Nat.le_of_ble_eq_true hm
    refine ⟨C.length + 1, (noiseLoop C hC (by omega) s hz hN (fun k w v i => evLoop ΓL Try.prog L0 (cutC 0 1 kB1) bB1 k (HB1 C s (C.length : Int) w v i) KB1) (.ret, YB true C) (.ret, YB false C) (fun w v => (.exit 2, XB1 C s w v)) (fun k w v i => stepB1 C s (C.length : Int) k w v i) C 0 0 rfl (by omega) (by omega)).trans ?_⟩
    rw [hb]
    cases b <;> rfl
  · cases h
theorem tagB0 : tagOf bB0 = 4 := by kernel_rfl
theorem tagB1 : tagOf bB1 = 11 := by kernel_rfl
noncomputable def ΛB (c d : Bool) : LoopOrc := fun b st => match tagOf b with
  | 4 => viaC 0 1 kB0 (GB0 c) st
  | 11 => viaC 0 1 kB1 (GB1 d) st
  | _ => none
theorem loopsOkB (c d : Bool) (z : Base) (h1 : z.L.length = 0) (h2 : z.U.length = 1) : ∀ b ∈ loopsOf (Try.f7.body.getD .skip), LoopOk (ΛB c d) Try.prog z b := by
  intro b hb
  rw [loopsB] at hb
  simp only [List.mem_cons, List.not_mem_nil, or_false] at hb
  rcases hb with rfl | rfl
  · exact loopOkB0 c (fun st => by unfold ΛB; rw [tagB0]; rfl) z h1 h2
  · exact loopOkB1 d (fun st => by unfold ΛB; rw [tagB1]; rfl) z h1 h2
end Go.Proofs.Ytbfcnkelldbfbaa

namespace Go.Proofs.Ytbfcnkelldbfbaa
open Go Go.Proofs Go.Sx
set_option linter.unusedVariables false
def g1N (s : ByteArray) (b : Bool) : Bool := (s.size : Int) == (s.size : Int) && ((0 : Int) == 0 && (Nat.ble s.size 1000000 && (noA5 s == b)))
def g2N (s : ByteArray) (C : List (List Dat)) (b : Bool) : Bool := (C.length : Int) == (C.length : Int) && ((0 : Int) == 0 && ((1000000 : Int) == 1000000 && ((0 : Int) == 0 && (Nat.ble (C.length * s.size) 1000000 && (Nat.ble s.size 1000000 && (Nat.ble C.length 1000000 && (noA5 s && (C.all frB && ((eB.toList == eB.toList) && (C.all rightD == b))))))))))
theorem treeNoise11 (s : ByteArray) (C : List (List Dat)) : runG ΓL (ΛB true true) Try.prog Try.f7 [.v (S s), .row 0] ⟨[], [], [rFr C]⟩ =
    bif decide ((s.size : Int) > 300) then oM true ⟨[], [], [rFr C]⟩ else bif decide ((C.length : Int) > 20) then oM true ⟨[], [], [rFr C]⟩ else
    bif g1N s true then (bif g2N s C true then (bif ((0 + C.length * s.size : Nat) : Int) == wI ((C.length : Int) * (s.size : Int)) then oM true ⟨[], [], [rFr C]⟩ else oM false ⟨[], [], [rFr C]⟩) else none) else none := by kernel_rfl
theorem treeNoise10 (s : ByteArray) (C : List (List Dat)) : runG ΓL (ΛB true false) Try.prog Try.f7 [.v (S s), .row 0] ⟨[], [], [rFr C]⟩ =
    bif decide ((s.size : Int) > 300) then oM true ⟨[], [], [rFr C]⟩ else bif decide ((C.length : Int) > 20) then oM true ⟨[], [], [rFr C]⟩ else
    bif g1N s true then (bif g2N s C false then oM true ⟨[], [], [rFr C]⟩ else none) else none := by kernel_rfl
theorem treeNoise00 (s : ByteArray) (C : List (List Dat)) : runG ΓL (ΛB false false) Try.prog Try.f7 [.v (S s), .row 0] ⟨[], [], [rFr C]⟩ =
    bif decide ((s.size : Int) > 300) then oM true ⟨[], [], [rFr C]⟩ else bif decide ((C.length : Int) > 20) then oM true ⟨[], [], [rFr C]⟩ else
    bif g1N s false then oM true ⟨[], [], [rFr C]⟩ else none := by kernel_rfl
theorem g1N_of {s : ByteArray} (h : s.size ≤ 1000000) : g1N s (noA5 s) = true := by
  unfold g1N
  rw [Nat.ble_eq_true_of_le h]
  simp only [beq_self_eq_true, Bool.and_self]
theorem g2N_of {s : ByteArray} {C : List (List Dat)} (h : s.size ≤ 300) (h2 : C.length ≤ 20) (hN : noA5 s = true) (hC : C.all frB = true) : g2N s C (C.all rightD) = true := by
  unfold g2N
  have hm : C.length * s.size ≤ 20 * 300 := Nat.mul_le_mul h2 h
  rw [Nat.ble_eq_true_of_le (show s.size ≤ 1000000 by omega), Nat.ble_eq_true_of_le (show C.length ≤ 1000000 by omega), Nat.ble_eq_true_of_le (show C.length * s.size ≤ 1000000 by omega), hN, hC]
  simp only [beq_self_eq_true, Bool.and_self]
theorem frameNoise (s : ByteArray) (C : List (List Dat)) (hC : C.all frB = true) : ∃ Λ m', (∀ z : Base, z.L.length = 0 → z.U.length = 1 → ∀ b ∈ loopsOf (Try.f7.body.getD .skip), LoopOk Λ Try.prog z b) ∧ runG ΓL Λ Try.prog Try.f7 [.v (S s), .row 0] ⟨[], [], [rFr C]⟩ = some (.v (.bool true), m') := by
  by_cases h1 : (s.size : Int) > 300
  · exact ⟨ΛB false false, _, loopsOkB _ _, (treeNoise00 s C).trans (by rw [decide_eq_true h1]; rfl)⟩
  by_cases h2 : (C.length : Int) > 20
  · exact ⟨ΛB false false, _, loopsOkB _ _, (treeNoise00 s C).trans (by rw [decide_eq_false h1, decide_eq_true h2]; rfl)⟩
  have g1 := g1N_of (s := s) (by omega)
  cases hN : noA5 s with
  | false =>
    rw [hN] at g1
    exact ⟨ΛB false false, _, loopsOkB _ _, (treeNoise00 s C).trans (by rw [decide_eq_false h1, decide_eq_false h2, g1]; rfl)⟩
  | true =>
    rw [hN] at g1
    have g2 := g2N_of (s := s) (C := C) (by omega) (by omega) hN hC
    cases hr : C.all rightD with
    | false =>
      rw [hr] at g2
      exact ⟨ΛB true false, _, loopsOkB _ _, (treeNoise10 s C).trans (by rw [decide_eq_false h1, decide_eq_false h2, g1, g2]; rfl)⟩
    | true =>
      rw [hr] at g2
      have hm : C.length * s.size ≤ 20 * 300 := Nat.mul_le_mul (by omega) (by omega)
      have he : wI ((C.length : Int) * (s.size : Int)) = ((0 + C.length * s.size : Nat) : Int) := by
        rw [show (C.length : Int) * (s.size : Int) = ((C.length * s.size : Nat) : Int) from (Int.natCast_mul _ _).symm, wI_id (by omega), Nat.zero_add]
      exact ⟨ΛB true true, _, loopsOkB _ _, (treeNoise11 s C).trans (by rw [decide_eq_false h1, decide_eq_false h2, g1, g2, he, beq_self_eq_true]; rfl)⟩
theorem frameNoiseLaw (z0 : ByteArray) (l1 : List (List Dat)) (n0 : z0.size ≤ 281474976710656) (w1 : ∀ o ∈ l1, WfL [.num .i64, .str] o) (n1 : l1.length ≤ 281474976710656) :
    ∃ Λ m', (∀ z : Base, z.L.length = 0 → z.U.length = 1 → ∀ b ∈ loopsOf (Try.f7.body.getD .skip), LoopOk Λ Try.prog z b) ∧ runG ΓL Λ Try.prog Try.f7 (inArgs [.v (.string z0), .row 23 [.num .i64, .str] l1] 0) (inMem [.v (.string z0), .row 23 [.num .i64, .str] l1]) = some (.v (.bool true), m') :=
  frameNoise z0 l1 (List.all_eq_true.2 fun c hc => frB_of (w1 c hc))
end Go.Proofs.Ytbfcnkelldbfbaa

