/-
  What rules' bytes tell; how many are asked for; what is read.
-/
import Derived.Test.YtikekoabadhmiaaGreatYk
namespace Go.Proofs.YtikekoabadhmiaaGreat
open Go Go.Proofs Go.Sx
set_option linter.unusedVariables false
/-! Rules' bytes: what they tell. -/
theorem dt_L (k : Nat) (t : ByteArray) : L (dt k t) = (L t).drop k := by
  unfold dt
  rw [L_ext, ← L_len, List.take_of_length_le (by rw [List.length_drop]; exact Nat.le_refl _)]
theorem dt_size (k : Nat) (t : ByteArray) : (dt k t).size = t.size - k := by rw [← L_len, dt_L, List.length_drop, L_len]
theorem dt_dt (a b : Nat) (t : ByteArray) : dt a (dt b t) = dt (b + a) t := by rw [← L_inj, dt_L, dt_L, dt_L, List.drop_drop]
theorem dt_0 (t : ByteArray) : dt 0 t = t := by rw [← L_inj, dt_L, List.drop_zero]
theorem dt_app {a b : ByteArray} {k : Nat} (h : a.size = k) : dt k (a ++ b) = b := by
  rw [← L_inj, dt_L, L_app, List.drop_append_of_le_length (by rw [L_len]; omega), List.drop_of_length_le (by rw [L_len]; omega), List.nil_append]
theorem tk_app {a b : ByteArray} {k : Nat} (h : a.size = k) : (a ++ b).extract 0 k = a := by
  rw [ext_app0 (by omega), ← h, ext_all]
theorem ext_dt (a b k : Nat) (t : ByteArray) (h : b ≤ t.size - k) : (dt k t).extract a b = t.extract (k + a) (k + b) := by
  rw [← L_inj, L_ext, L_ext, dt_L, List.drop_drop]
  congr 1
  omega
/-- The first byte. -/
def by1 (t : ByteArray) : Nat := numN (t.extract 0 1)
theorem one_of {t : ByteArray} (h : 1 ≤ t.size) : ∃ b : UInt8, L (t.extract 0 1) = [b] ∧ strAt t 0 = (b.toNat : Int) ∧ by1 t = b.toNat := by
  have hl := L_len t
  match hq : L t, hl with
  | [], hl => simp at hl; omega
  | b :: r, hl =>
    have e : L (t.extract 0 1) = [b] := by rw [L_ext, hq]; rfl
    refine ⟨b, e, ?_, ?_⟩
    · unfold strAt
      have hs : t.size = r.length + 1 := by simpa using hl.symm
      have hb : t.data.toList = b :: r := hq
      have hd : t.data = (b :: r).toArray := by rw [← hb]
      show _ = _
      obtain ⟨d⟩ := t
      simp only at hd
      subst hd
      rfl
    · unfold by1 numN
      rw [show (t.extract 0 1).data.toList = [b] from e]
      simp [p8]
theorem by1_lt (t : ByteArray) : by1 t < 256 := by
  by_cases h : 1 ≤ t.size
  · obtain ⟨b, _, _, e⟩ := one_of h
    rw [e]
    exact b.toNat_lt
  · have e : t.extract 0 1 = ⟨#[]⟩ := by
      rw [← L_inj]
      apply List.eq_nil_of_length_eq_zero
      rw [L_len, ByteArray.size_extract]
      omega
    unfold by1
    rw [e]
    decide
theorem by1_be {x : Int} (r : ByteArray) (h0 : 0 ≤ x) (h1 : x < 256) : (by1 (be 1 x ++ r) : Int) = x := by
  unfold by1
  rw [tk_app (be_size 1 x)]
  unfold numN
  rw [show (be 1 x).data.toList = _ from L_be1 x]
  simp only [List.foldl_cons, List.foldl_nil, p8]
  have e : x / 256 ^ 0 % 256 = x := by
    rw [show (256 : Int) ^ 0 = 1 by decide]
    omega
  rw [e]
  have := toNat_ofI h0 h1
  omega
theorem num4s_be (x : Int) (r : ByteArray) : num4s (be 4 x ++ r) = x % 4294967296 := by
  unfold num4s
  rw [tk_app (be_size 4 x), num_be4]
theorem num4s_rg {t : ByteArray} (h : 4 ≤ t.size) : 0 ≤ num4s t ∧ num4s t < 4294967296 := num4s_r t (Nat.ble_eq_true_of_le h)
theorem sgn_if (n : Int) : sgn n = if n ≥ 2147483648 then n - 4294967296 else n := by
  unfold sgn
  by_cases h : n ≥ 2147483648
  · rw [decide_eq_true h, if_pos h]; rfl
  · rw [decide_eq_false h, if_neg h]; rfl
theorem sgn_be {x : Int} (r : ByteArray) (h0 : -2147483648 ≤ x) (h1 : x < 2147483648) : sgn (num4s (be 4 x ++ r)) = x := by
  rw [num4s_be, sgn_if]
  split <;> omega
theorem word_is {t : ByteArray} (h : 4 ≤ t.size) : wI (IntKind.i32.wrap ((numN (t.extract 0 4) : Nat) : Int)) = sgn (num4s t) := by
  have := num4s_rg h
  have e : IntKind.i32.wrap (num4s t) = sgn (num4s t) := by
    rw [sgn_if, wrap_i32]
    split
    · rw [if_pos (by omega)]; omega
    · rw [if_neg (by omega)]; omega
  show wI (IntKind.i32.wrap (num4s t)) = _
  rw [e, sgn_if]
  split <;> exact wI_id (by omega)
theorem small_is (t : ByteArray) : wI ((numN (t.extract 0 1) : Nat) : Int) = (by1 t : Int) := by
  have := by1_lt t
  show wI (by1 t : Int) = _
  exact wI_id (by omega)
/-- Corners, as bytes and as bytes tell them. -/
def ptW (a : List Dat) : ByteArray := be 4 (a.headD (.n 0)).toI ++ be 4 (a.tail.headD (.n 0)).toI
def ptsW : List (List Dat) → ByteArray
  | [] => ⟨#[]⟩
  | a :: A => ptW a ++ ptsW A
def phW (l : List Dat) : ByteArray := be 1 ((l.headD (.n 0)).toL.length : Int) ++ be 1 (l.tail.headD (.n 0)).toI ++ (be 4 (l.tail.tail.headD (.n 0)).toI ++ be 4 (l.tail.tail.tail.headD (.n 0)).toI ++ be 4 (l.tail.tail.tail.tail.headD (.n 0)).toI)
def phsW : List (List Dat) → ByteArray
  | [] => ⟨#[]⟩
  | l :: R => phW l ++ ptsW (l.headD (.n 0)).toL ++ phsW R
theorem ba_assoc (a b c : ByteArray) : a ++ b ++ c = a ++ (b ++ c) := by rw [← L_inj, L_app, L_app, L_app, L_app, List.append_assoc]
theorem ba_nil (a : ByteArray) : a ++ ⟨#[]⟩ = a := by rw [← L_inj, L_app]; exact List.append_nil _
theorem ptW_size (a : List Dat) : (ptW a).size = 8 := by unfold ptW; rw [ba_size, be_size, be_size]
theorem ptsW_size : ∀ A : List (List Dat), (ptsW A).size = 8 * A.length
  | [] => rfl
  | a :: A => by
    rw [ptsW, ba_size, ptW_size, ptsW_size A, List.length_cons]
    omega
theorem phW_size (l : List Dat) : (phW l).size = 14 := by
  unfold phW
  rw [ba_size, ba_size, ba_size, ba_size, be_size, be_size, be_size, be_size, be_size]
theorem getD_drop {α : Type} {A : List α} {i : Nat} {b : α} {B : List α} (d : α) (h : A.drop i = b :: B) : A.getD i d = b := by
  rw [List.getD, ← List.head?_drop, h]
  rfl
theorem drop_next {α : Type} {A : List α} {i : Nat} {b : α} {B : List α} (h : A.drop i = b :: B) : A.drop (i + 1) = B := by
  rw [← List.drop_drop, h]
  rfl
theorem ptsT_fo (A : List (List Dat)) : ∀ (B : List (List Dat)) (i : Int) (s : ByteArray), 0 ≤ i → A.drop i.toNat = B → foF (ptT A) B.length i s = s ++ ptsW B
  | [], i, s, _, _ => by
    show s = _
    exact (ba_nil s).symm
  | b :: B, i, s, h0, h => by
    have e := getD_drop [] h
    show foF (ptT A) B.length (i + 1) (ptT A i s) = _
    rw [ptsT_fo A B (i + 1) _ (by omega) (by rw [show (i + 1).toNat = i.toNat + 1 by omega]; exact drop_next h)]
    unfold ptT pX pY
    rw [e, ptsW, ptW, ba_assoc]
theorem ptsT_is (A : List (List Dat)) (s : ByteArray) : ptsT A s = s ++ ptsW A := ptsT_fo A A 0 s (by decide) rfl
theorem phsT_fo (R : List (List Dat)) : ∀ (B : List (List Dat)) (i : Int) (s : ByteArray), 0 ≤ i → R.drop i.toNat = B → foF (phT R) B.length i s = s ++ phsW B
  | [], i, s, _, _ => by
    show s = _
    exact (ba_nil s).symm
  | b :: B, i, s, h0, h => by
    have e := getD_drop [] h
    show foF (phT R) B.length (i + 1) (phT R i s) = _
    rw [phsT_fo R B (i + 1) _ (by omega) (by rw [show (i + 1).toNat = i.toNat + 1 by omega]; exact drop_next h)]
    unfold phT phB phA phG phV phM phU
    rw [e, ptsT_is, phsW]
    show s ++ phW b ++ ptsW _ ++ phsW B = _
    rw [ba_assoc, ba_assoc, ba_assoc]
theorem phsT_is (R : List (List Dat)) (s : ByteArray) : phsT R s = s ++ phsW R := phsT_fo R R 0 s (by decide) rfl
def ptsP : Nat → ByteArray → List (List Dat)
  | 0, _ => []
  | n + 1, t => [.n (sgn (num4s t)), .n (sgn (num4s (dt 4 t)))] :: ptsP n (dt 8 t)
theorem ptsP_len : ∀ (n : Nat) (t : ByteArray), (ptsP n t).length = n
  | 0, _ => rfl
  | n + 1, t => by rw [ptsP, List.length_cons, ptsP_len n]
/-- How many bytes a phase has. -/
def lenP (t : ByteArray) : Nat := 14 + 8 * by1 t
def phP (f : Int → Int) (t : ByteArray) : List Dat := [.l (.slice none 0 0) (ptsP (by1 t) (dt 14 t)), .n (by1 (dt 1 t) : Int), .n (f (num4s (dt 2 t))), .n (f (num4s (dt 6 t))), .n (f (num4s (dt 10 t)))]
def phsP (f : Int → Int) : Nat → ByteArray → List (List Dat)
  | 0, _ => []
  | n + 1, t => phP f t :: phsP f n (dt (lenP t) t)
def restP : Nat → ByteArray → ByteArray
  | 0, t => t
  | n + 1, t => restP n (dt (lenP t) t)
/-- All of it is there. -/
def fitP : Nat → ByteArray → Bool
  | 0, _ => true
  | n + 1, t => Nat.ble (lenP t) t.size && fitP n (dt (lenP t) t)
theorem phsP_len (f : Int → Int) : ∀ (n : Nat) (t : ByteArray), (phsP f n t).length = n
  | 0, _ => rfl
  | n + 1, t => by rw [phsP, List.length_cons, phsP_len f n]
end Go.Proofs.YtikekoabadhmiaaGreat

namespace Go.Proofs.YtikekoabadhmiaaGreat
open Go Go.Proofs Go.Sx
set_option linter.unusedVariables false
/-- A corner, a phase, of numbers that bytes can tell. -/
def PtR (a : List Dat) : Prop := ∃ x y : Int, a = [.n x, .n y] ∧ (-2147483648 ≤ x ∧ x < 2147483648) ∧ (-2147483648 ≤ y ∧ y < 2147483648)
def PhR (l : List Dat) : Prop := ∃ (A : List (List Dat)) (G V M U : Int), l = [.l (.slice none 0 0) A, .n G, .n V, .n M, .n U] ∧ A.length < 256 ∧ (∀ a ∈ A, PtR a) ∧ (0 ≤ G ∧ G < 256) ∧ (0 ≤ V ∧ V < 2147483648) ∧ (0 ≤ M ∧ M < 2147483648) ∧ (0 ≤ U ∧ U < 2147483648)
/-- What is printed is read as it was. -/
theorem P_ptsW : ∀ (A : List (List Dat)) (r : ByteArray), (∀ a ∈ A, PtR a) → ptsP A.length (ptsW A ++ r) = A
  | [], _, _ => rfl
  | a :: A, r, h => by
    obtain ⟨x, y, rfl, hx, hy⟩ := h a (by simp)
    rw [ptsW, List.length_cons, ptsP, ba_assoc, dt_app (ptW_size _), P_ptsW A r fun b hb => h b (by simp [hb])]
    show [.n (sgn (num4s (be 4 x ++ be 4 y ++ (ptsW A ++ r)))), .n (sgn (num4s (dt 4 (be 4 x ++ be 4 y ++ (ptsW A ++ r)))))] :: A = _
    rw [ba_assoc, dt_app (be_size 4 x), sgn_be _ hx.1 hx.2, sgn_be _ hy.1 hy.2]
theorem dt_ptsW (A : List (List Dat)) (r : ByteArray) : dt (8 * A.length) (ptsW A ++ r) = r := dt_app (ptsW_size A)
theorem P_phW (f : Int → Int) (hf : ∀ x, 0 ≤ x → x < 2147483648 → f x = x) {l : List Dat} (h : PhR l) (r : ByteArray) : phP f (phW l ++ ptsW (l.headD (.n 0)).toL ++ r) = l ∧ dt (lenP (phW l ++ ptsW (l.headD (.n 0)).toL ++ r)) (phW l ++ ptsW (l.headD (.n 0)).toL ++ r) = r ∧ lenP (phW l ++ ptsW (l.headD (.n 0)).toL ++ r) = 14 + 8 * (l.headD (.n 0)).toL.length := by
  obtain ⟨A, G, V, M, U, rfl, hA, hP, hG, hV, hM, hU⟩ := h
  have e : phW [.l (.slice none 0 0) A, .n G, .n V, .n M, .n U] ++ ptsW A ++ r = be 1 (A.length : Int) ++ (be 1 G ++ (be 4 V ++ (be 4 M ++ (be 4 U ++ (ptsW A ++ r))))) := by
    show be 1 (A.length : Int) ++ be 1 G ++ (be 4 V ++ be 4 M ++ be 4 U) ++ ptsW A ++ r = _
    simp only [ba_assoc]
  show phP f (phW [.l (.slice none 0 0) A, .n G, .n V, .n M, .n U] ++ ptsW A ++ r) = _ ∧ dt (lenP (phW [.l (.slice none 0 0) A, .n G, .n V, .n M, .n U] ++ ptsW A ++ r)) (phW [.l (.slice none 0 0) A, .n G, .n V, .n M, .n U] ++ ptsW A ++ r) = _ ∧ lenP (phW [.l (.slice none 0 0) A, .n G, .n V, .n M, .n U] ++ ptsW A ++ r) = _
  rw [e]
  have h1 : by1 (be 1 (A.length : Int) ++ (be 1 G ++ (be 4 V ++ (be 4 M ++ (be 4 U ++ (ptsW A ++ r)))))) = A.length := by
    have := by1_be (x := (A.length : Int)) (be 1 G ++ (be 4 V ++ (be 4 M ++ (be 4 U ++ (ptsW A ++ r))))) (by omega) (by omega)
    omega
  have s1 := be_size 1 (A.length : Int)
  have s2 := be_size 1 G
  have s3 := be_size 4 V
  have s4 := be_size 4 M
  have s5 := be_size 4 U
  have d1 : dt 1 (be 1 (A.length : Int) ++ (be 1 G ++ (be 4 V ++ (be 4 M ++ (be 4 U ++ (ptsW A ++ r)))))) = be 1 G ++ (be 4 V ++ (be 4 M ++ (be 4 U ++ (ptsW A ++ r)))) := dt_app s1
  have d2 : dt 2 (be 1 (A.length : Int) ++ (be 1 G ++ (be 4 V ++ (be 4 M ++ (be 4 U ++ (ptsW A ++ r)))))) = be 4 V ++ (be 4 M ++ (be 4 U ++ (ptsW A ++ r))) := by
    rw [show 2 = 1 + 1 from rfl, ← dt_dt, d1, dt_app s2]
  have d6 : dt 6 (be 1 (A.length : Int) ++ (be 1 G ++ (be 4 V ++ (be 4 M ++ (be 4 U ++ (ptsW A ++ r)))))) = be 4 M ++ (be 4 U ++ (ptsW A ++ r)) := by
    rw [show 6 = 2 + 4 from rfl, ← dt_dt, d2, dt_app s3]
  have d10 : dt 10 (be 1 (A.length : Int) ++ (be 1 G ++ (be 4 V ++ (be 4 M ++ (be 4 U ++ (ptsW A ++ r)))))) = be 4 U ++ (ptsW A ++ r) := by
    rw [show 10 = 6 + 4 from rfl, ← dt_dt, d6, dt_app s4]
  have d14 : dt 14 (be 1 (A.length : Int) ++ (be 1 G ++ (be 4 V ++ (be 4 M ++ (be 4 U ++ (ptsW A ++ r)))))) = ptsW A ++ r := by
    rw [show 14 = 10 + 4 from rfl, ← dt_dt, d10, dt_app s5]
  unfold phP lenP
  rw [d1, d2, d6, d10, h1, d14, ← dt_dt, d14, P_ptsW A r hP, dt_ptsW, by1_be _ hG.1 hG.2, num4s_be, num4s_be, num4s_be, Int.emod_eq_of_lt hV.1 (by omega), Int.emod_eq_of_lt hM.1 (by omega), Int.emod_eq_of_lt hU.1 (by omega), hf V hV.1 hV.2, hf M hM.1 hM.2, hf U hU.1 hU.2]
  exact ⟨rfl, rfl, rfl⟩
theorem phw_sz (l : List Dat) (r : ByteArray) : (phW l ++ ptsW (l.headD (.n 0)).toL ++ r).size = 14 + 8 * (l.headD (.n 0)).toL.length + r.size := by
  rw [ba_size, ba_size, phW_size, ptsW_size]
theorem P_phsW (f : Int → Int) (hf : ∀ x, 0 ≤ x → x < 2147483648 → f x = x) : ∀ (R : List (List Dat)) (r : ByteArray), (∀ l ∈ R, PhR l) → phsP f R.length (phsW R ++ r) = R ∧ restP R.length (phsW R ++ r) = r ∧ fitP R.length (phsW R ++ r) = true
  | [], r, _ => ⟨rfl, by show ⟨#[]⟩ ++ r = r; rw [← L_inj, L_app]; rfl, rfl⟩
  | l :: R, r, h => by
    obtain ⟨e1, e2, e3⟩ := P_phW f hf (h l (by simp)) (phsW R ++ r)
    obtain ⟨f1, f2, f3⟩ := P_phsW f hf R r fun b hb => h b (by simp [hb])
    rw [phsW, List.length_cons, phsP, restP, fitP, ba_assoc, e1, e2, f1, f2, f3, e3, phw_sz]
    exact ⟨rfl, rfl, by rw [Nat.ble_eq_true_of_le (by omega)]; rfl⟩
theorem sgn_id (x : Int) (_ : 0 ≤ x) (h : x < 2147483648) : sgn x = x := by rw [sgn_if, if_neg (by omega)]
/-- How many bytes are asked for: whether one that would tell it is missing, and how many. -/
def goP : Nat → ByteArray → Bool × Nat
  | 0, _ => (false, 0)
  | n + 1, t => bif Nat.beq t.size 0 then (true, 14) else ((goP n (dt (lenP t) t)).1, lenP t + (goP n (dt (lenP t) t)).2)
def needP (n : Nat) (t : ByteArray) : Nat := bif (goP n t).1 then (goP n t).2 else (goP n t).2 + 4
theorem goP_cons {n : Nat} {t : ByteArray} (h : t.size ≠ 0) : goP (n + 1) t = ((goP n (dt (lenP t) t)).1, lenP t + (goP n (dt (lenP t) t)).2) := by
  rw [goP, show Nat.beq t.size 0 = false by rw [Bool.eq_false_iff]; exact fun e => h (Nat.eq_of_beq_eq_true e)]
  rfl
theorem goP_nil {n : Nat} {t : ByteArray} (h : t.size = 0) : goP (n + 1) t = (true, 14) := by
  rw [goP, h]
  rfl
theorem needP_cons {n : Nat} {t : ByteArray} (h : t.size ≠ 0) : needP (n + 1) t = lenP t + needP n (dt (lenP t) t) := by
  unfold needP
  rw [goP_cons h]
  cases (goP n (dt (lenP t) t)).1
  · show lenP t + _ + 4 = lenP t + (_ + 4)
    omega
  · rfl
theorem needP_nil {n : Nat} {t : ByteArray} (h : t.size = 0) : needP (n + 1) t = 14 := by
  unfold needP
  rw [goP_nil h]
  rfl
theorem needP_pos : ∀ (n : Nat) (t : ByteArray), 4 ≤ needP n t
  | 0, t => Nat.le_refl 4
  | n + 1, t => by
    by_cases h : t.size = 0
    · rw [needP_nil h]; omega
    · rw [needP_cons h]; unfold lenP; omega
/-- What is asked for is there just if all of it is. -/
theorem need_fit : ∀ (n : Nat) (t : ByteArray), needP n t ≤ t.size → fitP n t = true ∧ (goP n t).1 = false ∧ needP n t + (restP n t).size = t.size + 4
  | 0, t, h => ⟨rfl, rfl, by show 4 + t.size = _; omega⟩
  | n + 1, t, h => by
    have h0 : t.size ≠ 0 := by
      intro e
      rw [needP_nil e] at h
      omega
    rw [needP_cons h0] at h ⊢
    have hp := needP_pos n (dt (lenP t) t)
    obtain ⟨e1, e2, e3⟩ := need_fit n (dt (lenP t) t) (by rw [dt_size]; omega)
    rw [dt_size] at e3
    rw [fitP, restP, goP_cons h0, e1, e2]
    exact ⟨by rw [Nat.ble_eq_true_of_le (by omega)]; rfl, rfl, by omega⟩
theorem fit_need : ∀ (n : Nat) (t : ByteArray), fitP n t = true → (goP n t).1 = false ∧ needP n t + (restP n t).size = t.size + 4
  | 0, t, h => ⟨rfl, by show 4 + t.size = _; omega⟩
  | n + 1, t, h => by
    rw [fitP, Bool.and_eq_true] at h
    have h1 := Nat.le_of_ble_eq_true h.1
    have h0 : t.size ≠ 0 := by unfold lenP at h1; omega
    obtain ⟨e2, e3⟩ := fit_need n (dt (lenP t) t) h.2
    rw [dt_size] at e3
    rw [needP_cons h0, restP, goP_cons h0, e2]
    exact ⟨rfl, by omega⟩
end Go.Proofs.YtikekoabadhmiaaGreat

namespace Go.Proofs.YtikekoabadhmiaaGreat
open Go Go.Proofs Go.Sx
set_option linter.unusedVariables false
/-! norm -/
/-! cast -/
/-! rep [CK.sl 51 [CK0.num IntKind.i64, CK0.num IntKind.i64], .num .i64, .num .i64, .num .i64, .num .i64] => kPh -/
/-! rep (dropT (0 : Nat) (L.getD k.toNat [])) => (L.getD k.toNat []) -/
/-! rep (dropT (0 : Nat) (L2.getD k.toNat [])) => (L2.getD k.toNat []) -/
/-! rep (dropT (0 : Nat) (L.getD i.toNat [])) => (L.getD i.toNat []) -/
/-! rep (dropT (0 : Nat) (M.getD k.toNat [])) => (M.getD k.toNat []) -/
/-! repp (List.brecOn.go (motive := fun x => Nat → List Dat → List (List Dat)) M List.set._f).1 k.toNat ==> M.set k.toNat -/
/-! rep (((L.getD i.toNat []).headD (Dat.n (0 : Int))).toL) => (phA L i) -/
/-! rep ((L.getD i.toNat []).headD (Dat.n (0 : Int))).toL => (phA L i) -/
/-! rep (((L.getD i.toNat []).tail.headD (Dat.n (0 : Int))).toI) => (phG L i) -/
/-! rep ((L.getD i.toNat []).tail.headD (Dat.n (0 : Int))).toI => (phG L i) -/
/-! rep (((L.getD i.toNat []).tail.tail.headD (Dat.n (0 : Int))).toI) => (phV L i) -/
/-! rep ((L.getD i.toNat []).tail.tail.headD (Dat.n (0 : Int))).toI => (phV L i) -/
/-! rep (((L.getD i.toNat []).tail.tail.tail.headD (Dat.n (0 : Int))).toI) => (phM L i) -/
/-! rep ((L.getD i.toNat []).tail.tail.tail.headD (Dat.n (0 : Int))).toI => (phM L i) -/
/-! rep (((L.getD i.toNat []).tail.tail.tail.tail.headD (Dat.n (0 : Int))).toI) => (phU L i) -/
/-! rep ((L.getD i.toNat []).tail.tail.tail.tail.headD (Dat.n (0 : Int))).toI => (phU L i) -/
/-! rep (((L2.getD i.toNat []).headD (Dat.n (0 : Int))).toL) => (phA L2 i) -/
/-! rep ((L2.getD i.toNat []).headD (Dat.n (0 : Int))).toL => (phA L2 i) -/
/-! rep (((L2.getD i.toNat []).tail.headD (Dat.n (0 : Int))).toI) => (phG L2 i) -/
/-! rep ((L2.getD i.toNat []).tail.headD (Dat.n (0 : Int))).toI => (phG L2 i) -/
/-! rep (((L2.getD i.toNat []).tail.tail.headD (Dat.n (0 : Int))).toI) => (phV L2 i) -/
/-! rep ((L2.getD i.toNat []).tail.tail.headD (Dat.n (0 : Int))).toI => (phV L2 i) -/
/-! rep (((L2.getD i.toNat []).tail.tail.tail.headD (Dat.n (0 : Int))).toI) => (phM L2 i) -/
/-! rep ((L2.getD i.toNat []).tail.tail.tail.headD (Dat.n (0 : Int))).toI => (phM L2 i) -/
/-! rep (((L2.getD i.toNat []).tail.tail.tail.tail.headD (Dat.n (0 : Int))).toI) => (phU L2 i) -/
/-! rep ((L2.getD i.toNat []).tail.tail.tail.tail.headD (Dat.n (0 : Int))).toI => (phU L2 i) -/
/-! rep (((M.getD i.toNat []).headD (Dat.n (0 : Int))).toL) => (phA M i) -/
/-! rep ((M.getD i.toNat []).headD (Dat.n (0 : Int))).toL => (phA M i) -/
/-! rep (((M.getD i.toNat []).tail.headD (Dat.n (0 : Int))).toI) => (phG M i) -/
/-! rep ((M.getD i.toNat []).tail.headD (Dat.n (0 : Int))).toI => (phG M i) -/
/-! rep (((M.getD i.toNat []).tail.tail.headD (Dat.n (0 : Int))).toI) => (phV M i) -/
/-! rep ((M.getD i.toNat []).tail.tail.headD (Dat.n (0 : Int))).toI => (phV M i) -/
/-! rep (((M.getD i.toNat []).tail.tail.tail.headD (Dat.n (0 : Int))).toI) => (phM M i) -/
/-! rep ((M.getD i.toNat []).tail.tail.tail.headD (Dat.n (0 : Int))).toI => (phM M i) -/
/-! rep (((M.getD i.toNat []).tail.tail.tail.tail.headD (Dat.n (0 : Int))).toI) => (phU M i) -/
/-! rep ((M.getD i.toNat []).tail.tail.tail.tail.headD (Dat.n (0 : Int))).toI => (phU M i) -/
/-! rep (((L.getD k.toNat []).headD (Dat.n (0 : Int))).toL) => (phA L k) -/
/-! rep ((L.getD k.toNat []).headD (Dat.n (0 : Int))).toL => (phA L k) -/
/-! rep (((L.getD k.toNat []).tail.headD (Dat.n (0 : Int))).toI) => (phG L k) -/
/-! rep ((L.getD k.toNat []).tail.headD (Dat.n (0 : Int))).toI => (phG L k) -/
/-! rep (((L.getD k.toNat []).tail.tail.headD (Dat.n (0 : Int))).toI) => (phV L k) -/
/-! rep ((L.getD k.toNat []).tail.tail.headD (Dat.n (0 : Int))).toI => (phV L k) -/
/-! rep (((L.getD k.toNat []).tail.tail.tail.headD (Dat.n (0 : Int))).toI) => (phM L k) -/
/-! rep ((L.getD k.toNat []).tail.tail.tail.headD (Dat.n (0 : Int))).toI => (phM L k) -/
/-! rep (((L.getD k.toNat []).tail.tail.tail.tail.headD (Dat.n (0 : Int))).toI) => (phU L k) -/
/-! rep ((L.getD k.toNat []).tail.tail.tail.tail.headD (Dat.n (0 : Int))).toI => (phU L k) -/
/-! rep (((L2.getD k.toNat []).headD (Dat.n (0 : Int))).toL) => (phA L2 k) -/
/-! rep ((L2.getD k.toNat []).headD (Dat.n (0 : Int))).toL => (phA L2 k) -/
/-! rep (((L2.getD k.toNat []).tail.headD (Dat.n (0 : Int))).toI) => (phG L2 k) -/
/-! rep ((L2.getD k.toNat []).tail.headD (Dat.n (0 : Int))).toI => (phG L2 k) -/
/-! rep (((L2.getD k.toNat []).tail.tail.headD (Dat.n (0 : Int))).toI) => (phV L2 k) -/
/-! rep ((L2.getD k.toNat []).tail.tail.headD (Dat.n (0 : Int))).toI => (phV L2 k) -/
/-! rep (((L2.getD k.toNat []).tail.tail.tail.headD (Dat.n (0 : Int))).toI) => (phM L2 k) -/
/-! rep ((L2.getD k.toNat []).tail.tail.tail.headD (Dat.n (0 : Int))).toI => (phM L2 k) -/
/-! rep (((L2.getD k.toNat []).tail.tail.tail.tail.headD (Dat.n (0 : Int))).toI) => (phU L2 k) -/
/-! rep ((L2.getD k.toNat []).tail.tail.tail.tail.headD (Dat.n (0 : Int))).toI => (phU L2 k) -/
/-! rep (((M.getD k.toNat []).headD (Dat.n (0 : Int))).toL) => (phA M k) -/
/-! rep ((M.getD k.toNat []).headD (Dat.n (0 : Int))).toL => (phA M k) -/
/-! rep (((M.getD k.toNat []).tail.headD (Dat.n (0 : Int))).toI) => (phG M k) -/
/-! rep ((M.getD k.toNat []).tail.headD (Dat.n (0 : Int))).toI => (phG M k) -/
/-! rep (((M.getD k.toNat []).tail.tail.headD (Dat.n (0 : Int))).toI) => (phV M k) -/
/-! rep ((M.getD k.toNat []).tail.tail.headD (Dat.n (0 : Int))).toI => (phV M k) -/
/-! rep (((M.getD k.toNat []).tail.tail.tail.headD (Dat.n (0 : Int))).toI) => (phM M k) -/
/-! rep ((M.getD k.toNat []).tail.tail.tail.headD (Dat.n (0 : Int))).toI => (phM M k) -/
/-! rep (((M.getD k.toNat []).tail.tail.tail.tail.headD (Dat.n (0 : Int))).toI) => (phU M k) -/
/-! rep ((M.getD k.toNat []).tail.tail.tail.tail.headD (Dat.n (0 : Int))).toI => (phU M k) -/

def hasP (s p : ByteArray) : Bool := decide ((s.size : Int) ≥ (p.size : Int)) && (s.extract 0 p.size).toList == p.toList
set_option maxRecDepth 20000 in
theorem runHp0 (s : ByteArray) (p : ByteArray) : runG ΓA14 L0 Tryz.prog Tryz.f58 [.v (S s), .v (S p)] M0 = 
    (bif decide ((s.size : Int) ≥ (p.size : Int)) then (bif true && (decide ((0 : Int) ≤ (p.size : Int)) && decide ((p.size : Int) ≤ (s.size : Int))) then some (.v (Bo ((s.extract (0 : Nat) ((p.size : Int)).toNat).toList == p.toList)), M0) else none) else some (.v (Bo false), M0)) := by kernel_rfl
def gHp0 (vs : List Value) : Option (Bool × Value) :=
  match vs with
  | [.string s, .string p] => some (true, Bo (hasP s p))
  | _ => none
theorem gHp0_ok : ∀ vs r, gHp0 vs = some (true, r) → ∀ m, CallOk Tryz.prog 58 (vs.map .v) m (.v r) m := by
  intro vs r h
  unfold gHp0 at h
  split at h
  · rename_i s p
    obtain ⟨h1, rfl⟩ := some_t h
    refine runV (vs := [S s, S p]) (Λ := L0) (m' := M0) OkA14 Tryz.func58 rfl (fun z _ _ => l0Ok' _ z) ?_
    exact (runHp0 s p).trans (by
      unfold hasP
      by_cases h : (s.size : Int) ≥ (p.size : Int)
      · rw [decide_eq_true h, decide_eq_true (show (0 : Int) ≤ (p.size : Int) by omega), show ((p.size : Int)).toNat = p.size by omega]
        rfl
      · rw [decide_eq_false h]
        rfl)
  · cases h
noncomputable def Γx1 : Orc := addVal 58 gHp0 ΓA14
theorem Okx1 : Γx1.Ok Tryz.prog := addVal_ok OkA14 gHp0_ok
set_option maxRecDepth 20000 in
theorem runHp1 (s : ByteArray) (p : ByteArray) : runG Γx1 L0 Tryz.prog Tryz.f37 [.v (S s), .v (S p)] M0 = 
    some (.v (Bo (hasP s p)), M0) := by kernel_rfl
def gHp1 (vs : List Value) : Option (Bool × Value) :=
  match vs with
  | [.string s, .string p] => some (true, Bo (hasP s p))
  | _ => none
theorem gHp1_ok : ∀ vs r, gHp1 vs = some (true, r) → ∀ m, CallOk Tryz.prog 37 (vs.map .v) m (.v r) m := by
  intro vs r h
  unfold gHp1 at h
  split at h
  · rename_i s p
    obtain ⟨h1, rfl⟩ := some_t h
    refine runV (vs := [S s, S p]) (Λ := L0) (m' := M0) Okx1 Tryz.func37 rfl (fun z _ _ => l0Ok' _ z) ?_
    exact (runHp1 s p).trans (rfl)
  · cases h
noncomputable def Γx2 : Orc := addVal 37 gHp1 Γx1
theorem Okx2 : Γx2.Ok Tryz.prog := addVal_ok Okx1 gHp1_ok
noncomputable def bdAs : Code := loopAt (Tryz.f38.body.getD .skip) 0
def kAs : List Bool := maskOf 30 [0,3,10,11]
def xAs (e : Ex) : List Bool := match e with
  | .exit _ => maskOf 30 [0,3]
  | .ret => maskOf 30 [2]
  | .normal => maskOf 30 [0,3,10,11]
def KAs (e : Ex) (st : St) : Option (Ex × St) := some (e, cutC 0 0 (xAs e) st)
set_option maxRecDepth 20000 in
theorem stepAs (s : ByteArray) (z : Int) (nn : Int) (c : Int) (n : Nat) : evLoop Γx2 Tryz.prog L0 (cutC 0 0 kAs) bdAs (n + 1) (mk kAs [.v (S s), .v (I z), .v (.int .u8 nn), .v (.int .u8 c)] M0) KAs =
    (bif decide (c < nn) then (bif decide ((s.size : Int) ≤ z) then some (.ret, mk (xAs .ret) [.v (I (wI (z + (14 : Int))))] M0) else (bif decide ((0 : Int) ≤ z) && decide (z < (s.size : Int)) then evLoop Γx2 Tryz.prog L0 (cutC 0 0 kAs) bdAs n (mk kAs [.v (S s), .v (I (wI (z + wI ((14 : Int) + wI ((8 : Int) * wI (strAt s z)))))), .v (.int .u8 nn), .v (.int .u8 (IntKind.u8.wrap (c + (1 : Int))))] M0) KAs else none)) else some ((.exit 0), mk (xAs (.exit 0)) [.v (S s), .v (I z)] M0)) := by kernel_rfl
noncomputable def EAs (n : Nat) (s : ByteArray) (z : Int) (nn : Int) (c : Int) : Option (Ex × St) :=
  evLoop Γx2 Tryz.prog L0 (cutC 0 0 kAs) bdAs n (mk kAs [.v (S s), .v (I z), .v (.int .u8 nn), .v (.int .u8 c)] M0) KAs
theorem str_by1 (s : ByteArray) (z : Nat) (h : z < s.size) : strAt s (z : Int) = (by1 (dt z s) : Int) := by
  obtain ⟨b, e1, e2, e3⟩ := one_of (t := dt z s) (by rw [dt_size]; omega)
  have hd : ∃ r, (L s).drop z = b :: r := by
    rw [L_ext, dt_L, List.drop_zero] at e1
    match hq : (L s).drop z, e1 with
    | [], e1 => simp at e1
    | x :: r, e1 => simp at e1; exact ⟨r, by rw [e1]⟩
  obtain ⟨r, hd⟩ := hd
  have hg : (L s)[z]? = some b := by rw [← List.head?_drop, hd]; rfl
  rw [e3]
  unfold strAt
  obtain ⟨d⟩ := s
  have hg' : d[z]? = some b := by simpa [L, Array.getElem?_toList] using hg
  have hz : z < d.size := h
  have hb : d[z] = b := by
    rw [Array.getElem?_eq_getElem hz] at hg'
    exact Option.some.inj hg'
  have e : (⟨d⟩ : ByteArray)[z]? = some b := by
    rw [getElem?_pos (⟨d⟩ : ByteArray) z h]
    exact congrArg some hb
  show (match (⟨d⟩ : ByteArray)[z]? with | some b => (b.toNat : Int) | none => 0) = _
  rw [e]
theorem askLoop {α : Type} (s : ByteArray) (nn : Int) (E : Nat → Int → Int → Option α) (X Y : Int → Option α) (he : ∀ n z c, ¬ c < nn → E (n + 1) z c = X z)
    (hr : ∀ n (z : Nat) c, 0 ≤ c → c < nn → z ≤ 100000000 → E (n + 1) (z : Int) c = bif decide ((s.size : Int) ≤ z) then Y ((z : Int) + 14) else E n ((z + lenP (dt z s) : Nat) : Int) (c + 1)) :
    ∀ (m : Nat) (z : Nat) (c : Int), 0 ≤ c → c + m = nn → (z : Int) + 10000 * m ≤ 100000000 → E (m + 1) (z : Int) c = bif (goP m (dt z s)).1 then Y ((z : Int) + ((goP m (dt z s)).2 : Int)) else X ((z : Int) + ((goP m (dt z s)).2 : Int)) := by
  intro m
  induction m with
  | zero =>
    intro z c h0 h1 h3
    rw [he 0 z c (by omega)]
    show X (z : Int) = X ((z : Int) + ((0 : Nat) : Int))
    rw [show (z : Int) + ((0 : Nat) : Int) = z by omega]
  | succ m ih =>
    intro z c h0 h1 h3
    rw [hr (m + 1) z c h0 (by omega) (by omega)]
    by_cases hz : s.size ≤ z
    · rw [decide_eq_true (show (s.size : Int) ≤ z by omega), goP_nil (by rw [dt_size]; omega)]
      rfl
    · have hl := by1_lt (dt z s)
      have ih := ih (z + lenP (dt z s)) (c + 1) (by omega) (by omega) (by unfold lenP; omega)
      rw [← dt_dt] at ih
      rw [decide_eq_false (show ¬ (s.size : Int) ≤ z by omega), goP_cons (by rw [dt_size]; omega)]
      refine Eq.trans ih ?_
      rw [show (((z + lenP (dt z s) : Nat) : Int) + ((goP m (dt (lenP (dt z s)) (dt z s))).2 : Int)) = (z : Int) + ((lenP (dt z s) + (goP m (dt (lenP (dt z s)) (dt z s))).2 : Nat) : Int) by omega]
theorem loopAs (s : ByteArray) (hs : s.size ≤ 1000000) (m : Nat) (hm : (m : Int) ≤ 255) : EAs (m + 1) s 22 m 0 = bif (goP m (dt 22 s)).1 then some (.ret, mk (xAs .ret) [.v (I (22 + ((goP m (dt 22 s)).2 : Int)))] M0) else some (.exit 0, mk (xAs (.exit 0)) [.v (S s), .v (I (22 + ((goP m (dt 22 s)).2 : Int)))] M0) := by
  refine askLoop s (m : Int) (fun n z c => EAs n s z m c) (fun z => some (.exit 0, mk (xAs (.exit 0)) [.v (S s), .v (I z)] M0)) (fun z => some (.ret, mk (xAs .ret) [.v (I z)] M0)) (fun n z c hc => ?_) (fun n z c h0 h1 h3 => ?_) m 22 0 (by omega) (by omega) (by omega)
  · refine (stepAs s z m c n).trans ?_
    rw [decide_eq_false hc]
    rfl
  · refine (stepAs s z m c n).trans ?_
    rw [decide_eq_true h1]
    by_cases hz : s.size ≤ z
    · rw [decide_eq_true (show (s.size : Int) ≤ z by omega), wI_id (n := (z : Int) + 14) (by omega)]
      rfl
    · have hb := str_by1 s z (by omega)
      have hl := by1_lt (dt z s)
      rw [decide_eq_false (show ¬ (s.size : Int) ≤ z by omega), decide_eq_true (show (0 : Int) ≤ z by omega), decide_eq_true (show (z : Int) < (s.size : Int) by omega), hb, wI_id (n := (by1 (dt z s) : Int)) (by omega), wI_id (n := 8 * (by1 (dt z s) : Int)) (by omega), wI_id (n := 14 + 8 * (by1 (dt z s) : Int)) (by omega), wI_id (n := (z : Int) + (14 + 8 * (by1 (dt z s) : Int))) (by omega), wrap8_i, Int.emod_eq_of_lt (show (0 : Int) ≤ c + 1 by omega) (by omega)]
      rw [show (z : Int) + (14 + 8 * (by1 (dt z s) : Int)) = ((z + lenP (dt z s) : Nat) : Int) by unfold lenP; omega]
      rfl
def lfAs (s : ByteArray) (z nn : Int) : LT := .br (goP nn.toNat (dt z.toNat s)).1 (.leaf .ret (mk (xAs .ret) [.v (I (z + ((goP nn.toNat (dt z.toNat s)).2 : Int)))] M0)) (.leaf (.exit 0) (mk (xAs (.exit 0)) [.v (S s), .v (I (z + ((goP nn.toNat (dt z.toNat s)).2 : Int)))] M0))
def GAs (vals : List SV) (m : Mem) : Option (Bool × LT) :=
  match vals, m with
  | [.v (.string s), .v (.int .i64 z), .v (.int .u8 nn), .v (.int .u8 c)], ⟨[], [], []⟩ => some (c == 0 && (Nat.ble s.size 1000000 && (decide (0 ≤ nn ∧ nn ≤ 255) && decide (z = 22))), lfAs s z nn)
  | _, _ => none
noncomputable def ΛAs : LoopOrc := fun _ st => viaT 0 0 kAs GAs st
theorem loopOkAs (z : Base) (z1 : z.L.length = 0) (z2 : z.U.length = 0) : LoopOk ΛAs Tryz.prog z bdAs := by
  refine loop_okT (Λ := L0) (kx := xAs) Okx2 mixed z1 z2 (fun b hb st t h => by cases h) (G := GAs) (fun _ => rfl) ?_
  intro vals m t h
  unfold GAs at h
  split at h
  · rename_i s z nn c
    obtain ⟨h1, rfl⟩ := some_t h
    simp only [Bool.and_eq_true, beq_iff_eq, decide_eq_true_eq] at h1
    obtain ⟨rfl, hs, hn, rfl⟩ := h1
    obtain ⟨m, rfl⟩ := Int.eq_ofNat_of_zero_le hn.1
    refine ⟨m + 1, (loopAs s (Nat.le_of_ble_eq_true hs) m hn.2).trans ?_⟩
    unfold lfAs
    rw [Int.toNat_natCast, show (22 : Int).toNat = 22 from rfl]
    cases (goP m (dt 22 s)).1 <;> rfl
  · cases h
theorem loopsAs : loopsOf (Tryz.f38.body.getD .skip) = [bdAs] := by kernel_rfl
/-- How many bytes a text asks for. -/
def askN (s : ByteArray) : Nat := bif decide ((s.size : Int) < 22) then 22 else 22 + needP (by1 (dt 4 s)) (dt 22 s)
theorem needP_le : ∀ (n : Nat) (t : ByteArray), needP n t ≤ 14 + 2054 * n
  | 0, t => by show 4 ≤ _; omega
  | n + 1, t => by
    by_cases h : t.size = 0
    · rw [needP_nil h]; omega
    · have := needP_le n (dt (lenP t) t)
      have := by1_lt t
      rw [needP_cons h]
      unfold lenP at *
      omega
set_option maxRecDepth 20000 in
theorem runAsk (s : ByteArray) : runG Γx2 ΛAs Tryz.prog Tryz.f38 [.v (S s)] M0 = 
    (bif decide ((s.size : Int) < (22 : Int)) then some (.v (I 22), M0) else (bif true && decide ((4 : Int) < (s.size : Int)) then (bif true && (s.size.ble (1000000) && (decide ((0 : Int) ≤ strAt s (4 : Int) ∧ strAt s (4 : Int) ≤ (255 : Int)) && true)) then (bif (goP (strAt s (4 : Int)).toNat (dt (22 : Nat) s)).fst then some (.v (I ((22 : Int) + ((goP (strAt s (4 : Int)).toNat (dt (22 : Nat) s)).snd : Int))), M0) else some (.v (I (wI ((22 : Int) + ((goP (strAt s (4 : Int)).toNat (dt (22 : Nat) s)).snd : Int) + (4 : Int)))), M0)) else none) else none)) := by kernel_rfl
def gAsk (xs : List SV) (m : Mem) : Option (Bool × Value) :=
  match xs, m with
  | [.v (.string s)], ⟨[], [], []⟩ => some (Nat.ble s.size 1000000, I (askN s : Int))
  | _, _ => none
theorem gAsk_ok : ∀ xs m r, gAsk xs m = some (true, r) → CallOk Tryz.prog 38 xs m (.v r) m := by
  intro xs m r h
  unfold gAsk at h
  split at h
  · rename_i s
    obtain ⟨h1, rfl⟩ := some_t h
    refine runOk (Λ := ΛAs) Okx2 Tryz.func38 rfl (fun z z1 z2 => oneLoop loopsAs (loopOkAs z z1 z2)) ?_
    refine (runAsk s).trans ?_
    unfold askN
    by_cases hs : (s.size : Int) < 22
    · rw [decide_eq_true hs]
      rfl
    · have hb := str_by1 s 4 (by omega)
      have hl := by1_lt (dt 4 s)
      have hb' : strAt s (4 : Int) = (by1 (dt 4 s) : Int) := hb
      have hn := needP_le (by1 (dt 4 s)) (dt 22 s)
      rw [decide_eq_false hs, hb', h1, decide_eq_true (show (0 : Int) ≤ (by1 (dt 4 s) : Int) ∧ (by1 (dt 4 s) : Int) ≤ 255 by omega), decide_eq_true (show (4 : Int) < (s.size : Int) by omega), Int.toNat_natCast]
      simp only [cond_false, cond_true, Bool.and_self]
      unfold needP at hn ⊢
      generalize goP (by1 (dt 4 s)) (dt 22 s) = G at hn ⊢
      obtain ⟨g1, g2⟩ := G
      cases g1
      · simp only [cond_false] at hn ⊢
        rw [wI_id (by omega), show (22 : Int) + (g2 : Int) + 4 = ((22 + (g2 + 4) : Nat) : Int) by omega]
        rfl
      · simp only [cond_true] at hn ⊢
        rw [show (22 : Int) + (g2 : Int) = ((22 + g2 : Nat) : Int) by omega]
        rfl
  · cases h
noncomputable def Γx3 : Orc := addRd 38 gAsk Γx2
theorem Okx3 : Γx3.Ok Tryz.prog := addRd_ok Okx2 gAsk_ok
noncomputable def ΓRf6 : Orc := Γx3
theorem OkRf6 : ΓRf6.Ok Tryz.prog := Okx3
end Go.Proofs.YtikekoabadhmiaaGreat

namespace Go.Proofs.YtikekoabadhmiaaGreat
open Go Go.Proofs Go.Sx
set_option linter.unusedVariables false
/-! norm -/
/-! cast -/
/-! rep [CK.sl 51 [CK0.num IntKind.i64, CK0.num IntKind.i64], .num .i64, .num .i64, .num .i64, .num .i64] => kPh -/
/-! rep (dropT (0 : Nat) (L.getD k.toNat [])) => (L.getD k.toNat []) -/
/-! rep (dropT (0 : Nat) (L2.getD k.toNat [])) => (L2.getD k.toNat []) -/
/-! rep (dropT (0 : Nat) (L.getD i.toNat [])) => (L.getD i.toNat []) -/
/-! rep (dropT (0 : Nat) (M.getD k.toNat [])) => (M.getD k.toNat []) -/
/-! repp (List.brecOn.go (motive := fun x => Nat → List Dat → List (List Dat)) M List.set._f).1 k.toNat ==> M.set k.toNat -/
/-! rep (((L.getD i.toNat []).headD (Dat.n (0 : Int))).toL) => (phA L i) -/
/-! rep ((L.getD i.toNat []).headD (Dat.n (0 : Int))).toL => (phA L i) -/
/-! rep (((L.getD i.toNat []).tail.headD (Dat.n (0 : Int))).toI) => (phG L i) -/
/-! rep ((L.getD i.toNat []).tail.headD (Dat.n (0 : Int))).toI => (phG L i) -/
/-! rep (((L.getD i.toNat []).tail.tail.headD (Dat.n (0 : Int))).toI) => (phV L i) -/
/-! rep ((L.getD i.toNat []).tail.tail.headD (Dat.n (0 : Int))).toI => (phV L i) -/
/-! rep (((L.getD i.toNat []).tail.tail.tail.headD (Dat.n (0 : Int))).toI) => (phM L i) -/
/-! rep ((L.getD i.toNat []).tail.tail.tail.headD (Dat.n (0 : Int))).toI => (phM L i) -/
/-! rep (((L.getD i.toNat []).tail.tail.tail.tail.headD (Dat.n (0 : Int))).toI) => (phU L i) -/
/-! rep ((L.getD i.toNat []).tail.tail.tail.tail.headD (Dat.n (0 : Int))).toI => (phU L i) -/
/-! rep (((L2.getD i.toNat []).headD (Dat.n (0 : Int))).toL) => (phA L2 i) -/
/-! rep ((L2.getD i.toNat []).headD (Dat.n (0 : Int))).toL => (phA L2 i) -/
/-! rep (((L2.getD i.toNat []).tail.headD (Dat.n (0 : Int))).toI) => (phG L2 i) -/
/-! rep ((L2.getD i.toNat []).tail.headD (Dat.n (0 : Int))).toI => (phG L2 i) -/
/-! rep (((L2.getD i.toNat []).tail.tail.headD (Dat.n (0 : Int))).toI) => (phV L2 i) -/
/-! rep ((L2.getD i.toNat []).tail.tail.headD (Dat.n (0 : Int))).toI => (phV L2 i) -/
/-! rep (((L2.getD i.toNat []).tail.tail.tail.headD (Dat.n (0 : Int))).toI) => (phM L2 i) -/
/-! rep ((L2.getD i.toNat []).tail.tail.tail.headD (Dat.n (0 : Int))).toI => (phM L2 i) -/
/-! rep (((L2.getD i.toNat []).tail.tail.tail.tail.headD (Dat.n (0 : Int))).toI) => (phU L2 i) -/
/-! rep ((L2.getD i.toNat []).tail.tail.tail.tail.headD (Dat.n (0 : Int))).toI => (phU L2 i) -/
/-! rep (((M.getD i.toNat []).headD (Dat.n (0 : Int))).toL) => (phA M i) -/
/-! rep ((M.getD i.toNat []).headD (Dat.n (0 : Int))).toL => (phA M i) -/
/-! rep (((M.getD i.toNat []).tail.headD (Dat.n (0 : Int))).toI) => (phG M i) -/
/-! rep ((M.getD i.toNat []).tail.headD (Dat.n (0 : Int))).toI => (phG M i) -/
/-! rep (((M.getD i.toNat []).tail.tail.headD (Dat.n (0 : Int))).toI) => (phV M i) -/
/-! rep ((M.getD i.toNat []).tail.tail.headD (Dat.n (0 : Int))).toI => (phV M i) -/
/-! rep (((M.getD i.toNat []).tail.tail.tail.headD (Dat.n (0 : Int))).toI) => (phM M i) -/
/-! rep ((M.getD i.toNat []).tail.tail.tail.headD (Dat.n (0 : Int))).toI => (phM M i) -/
/-! rep (((M.getD i.toNat []).tail.tail.tail.tail.headD (Dat.n (0 : Int))).toI) => (phU M i) -/
/-! rep ((M.getD i.toNat []).tail.tail.tail.tail.headD (Dat.n (0 : Int))).toI => (phU M i) -/
/-! rep (((L.getD k.toNat []).headD (Dat.n (0 : Int))).toL) => (phA L k) -/
/-! rep ((L.getD k.toNat []).headD (Dat.n (0 : Int))).toL => (phA L k) -/
/-! rep (((L.getD k.toNat []).tail.headD (Dat.n (0 : Int))).toI) => (phG L k) -/
/-! rep ((L.getD k.toNat []).tail.headD (Dat.n (0 : Int))).toI => (phG L k) -/
/-! rep (((L.getD k.toNat []).tail.tail.headD (Dat.n (0 : Int))).toI) => (phV L k) -/
/-! rep ((L.getD k.toNat []).tail.tail.headD (Dat.n (0 : Int))).toI => (phV L k) -/
/-! rep (((L.getD k.toNat []).tail.tail.tail.headD (Dat.n (0 : Int))).toI) => (phM L k) -/
/-! rep ((L.getD k.toNat []).tail.tail.tail.headD (Dat.n (0 : Int))).toI => (phM L k) -/
/-! rep (((L.getD k.toNat []).tail.tail.tail.tail.headD (Dat.n (0 : Int))).toI) => (phU L k) -/
/-! rep ((L.getD k.toNat []).tail.tail.tail.tail.headD (Dat.n (0 : Int))).toI => (phU L k) -/
/-! rep (((L2.getD k.toNat []).headD (Dat.n (0 : Int))).toL) => (phA L2 k) -/
/-! rep ((L2.getD k.toNat []).headD (Dat.n (0 : Int))).toL => (phA L2 k) -/
/-! rep (((L2.getD k.toNat []).tail.headD (Dat.n (0 : Int))).toI) => (phG L2 k) -/
/-! rep ((L2.getD k.toNat []).tail.headD (Dat.n (0 : Int))).toI => (phG L2 k) -/
/-! rep (((L2.getD k.toNat []).tail.tail.headD (Dat.n (0 : Int))).toI) => (phV L2 k) -/
/-! rep ((L2.getD k.toNat []).tail.tail.headD (Dat.n (0 : Int))).toI => (phV L2 k) -/
/-! rep (((L2.getD k.toNat []).tail.tail.tail.headD (Dat.n (0 : Int))).toI) => (phM L2 k) -/
/-! rep ((L2.getD k.toNat []).tail.tail.tail.headD (Dat.n (0 : Int))).toI => (phM L2 k) -/
/-! rep (((L2.getD k.toNat []).tail.tail.tail.tail.headD (Dat.n (0 : Int))).toI) => (phU L2 k) -/
/-! rep ((L2.getD k.toNat []).tail.tail.tail.tail.headD (Dat.n (0 : Int))).toI => (phU L2 k) -/
/-! rep (((M.getD k.toNat []).headD (Dat.n (0 : Int))).toL) => (phA M k) -/
/-! rep ((M.getD k.toNat []).headD (Dat.n (0 : Int))).toL => (phA M k) -/
/-! rep (((M.getD k.toNat []).tail.headD (Dat.n (0 : Int))).toI) => (phG M k) -/
/-! rep ((M.getD k.toNat []).tail.headD (Dat.n (0 : Int))).toI => (phG M k) -/
/-! rep (((M.getD k.toNat []).tail.tail.headD (Dat.n (0 : Int))).toI) => (phV M k) -/
/-! rep ((M.getD k.toNat []).tail.tail.headD (Dat.n (0 : Int))).toI => (phV M k) -/
/-! rep (((M.getD k.toNat []).tail.tail.tail.headD (Dat.n (0 : Int))).toI) => (phM M k) -/
/-! rep ((M.getD k.toNat []).tail.tail.tail.headD (Dat.n (0 : Int))).toI => (phM M k) -/
/-! rep (((M.getD k.toNat []).tail.tail.tail.tail.headD (Dat.n (0 : Int))).toI) => (phU M k) -/
/-! rep ((M.getD k.toNat []).tail.tail.tail.tail.headD (Dat.n (0 : Int))).toI => (phU M k) -/
/-! repp (List.brecOn.go (motive := fun x => List (List Dat) → List (List Dat)) A List.append._f).1 ==> A ++ -/
/-! repp (List.brecOn.go (motive := fun x => List (List Dat) → List (List Dat)) L List.append._f).1 ==> L ++ -/
/-! rep (s.extract (4 : Nat) ((s.size : Int)).toNat) => (dt 4 s) -/
/-! rex \(Nat\.brecOn\.go \(motive := fun x => ByteArray → List \(List Dat\)\) (.*?) \(phsP\._f sgn\)\)\.1  ==> phsP sgn \1  -/
/-! rep (sm (s.extract (4 : Nat) (s.size : Int).toNat)) => (sm (dt 4 s)) -/
/-! rex \(\(List\.replicate \(1 : Nat\) \[Dat\.l \(Value\.slice none \(0 : Nat\) \(0 : Nat\)\) \[\], Dat\.n \(0 : Int\), Dat\.n \(0 : Int\), Dat\.n \(0 : Int\), Dat\.n \(0 : Int\)\]\)\.set \(0 : Nat\)  ==> (one  -/
def one (x : List Dat) : List (List Dat) := [x]
def wrTo (f : FuncId) : Bool := wr13 f || Nat.beq f 61 || Nat.beq f 60
noncomputable def Γto : Orc := { ΓRf6 with wr := wrTo, sb := true, bs := true, av := true }
theorem Okto : Γto.Ok Tryz.prog := ⟨OkRf6.call, OkRf6.rd, OkRf6.eqv⟩

set_option maxRecDepth 20000 in
theorem runWr0 (r1 : Int) (r2 : Int) (r3 : Int) (r4 : Int) (r5 : Int) (r6 : Int) (r7 : Int) (r8 : Int) : runG Γto L0 Tryz.prog Tryz.f62 [.v (.agg #[.slice none 0 0, I r1, I r2, I r3, I r4, I r5, I r6, I r7, I r8])] M0 = 
    some (.v (I 1), M0) := by kernel_rfl
def gWr0 (vs : List Value) : Option (Bool × Value) :=
  match vs with
  | [.agg ⟨[.slice none 0 0, .int .i64 r1, .int .i64 r2, .int .i64 r3, .int .i64 r4, .int .i64 r5, .int .i64 r6, .int .i64 r7, .int .i64 r8]⟩] => some (true, I 1)
  | _ => none
theorem gWr0_ok : ∀ vs r, gWr0 vs = some (true, r) → ∀ m, CallOk Tryz.prog 62 (vs.map .v) m (.v r) m := by
  intro vs r h
  unfold gWr0 at h
  split at h
  · rename_i r1 r2 r3 r4 r5 r6 r7 r8
    obtain ⟨h1, rfl⟩ := some_t h
    refine runV (vs := [.agg #[.slice none 0 0, I r1, I r2, I r3, I r4, I r5, I r6, I r7, I r8]]) (Λ := L0) (m' := M0) Okto Tryz.func62 rfl (fun z _ _ => l0Ok' _ z) ?_
    exact (runWr0 r1 r2 r3 r4 r5 r6 r7 r8).trans (rfl)
  · cases h
noncomputable def Γt1 : Orc := addVal 62 gWr0 Γto
theorem Okt1 : Γt1.Ok Tryz.prog := addVal_ok Okto gWr0_ok
set_option maxRecDepth 20000 in
theorem runRt0 (r1 : Int) (r2 : Int) (r3 : Int) (r4 : Int) (r5 : Int) (r6 : Int) (r7 : Int) (r8 : Int) : runG Γt1 L0 Tryz.prog Tryz.f41 [.v (.agg #[.slice none 0 0, I r1, I r2, I r3, I r4, I r5, I r6, I r7, I r8])] M0 = 
    some (.v (Bo false), M0) := by kernel_rfl
def gRt0 (vs : List Value) : Option (Bool × Value) :=
  match vs with
  | [.agg ⟨[.slice none 0 0, .int .i64 r1, .int .i64 r2, .int .i64 r3, .int .i64 r4, .int .i64 r5, .int .i64 r6, .int .i64 r7, .int .i64 r8]⟩] => some (true, Bo false)
  | _ => none
theorem gRt0_ok : ∀ vs r, gRt0 vs = some (true, r) → ∀ m, CallOk Tryz.prog 41 (vs.map .v) m (.v r) m := by
  intro vs r h
  unfold gRt0 at h
  split at h
  · rename_i r1 r2 r3 r4 r5 r6 r7 r8
    obtain ⟨h1, rfl⟩ := some_t h
    refine runV (vs := [.agg #[.slice none 0 0, I r1, I r2, I r3, I r4, I r5, I r6, I r7, I r8]]) (Λ := L0) (m' := M0) Okt1 Tryz.func41 rfl (fun z _ _ => l0Ok' _ z) ?_
    exact (runRt0 r1 r2 r3 r4 r5 r6 r7 r8).trans (rfl)
  · cases h
noncomputable def Γt2 : Orc := addVal 41 gRt0 Γt1
theorem Okt2 : Γt2.Ok Tryz.prog := addVal_ok Okt1 gRt0_ok
set_option maxRecDepth 20000 in
theorem runWr1 (r1 : Int) (r2 : Int) (r3 : Int) (r4 : Int) (r5 : Int) (r6 : Int) (r7 : Int) (r8 : Int) : runG Γt2 L0 Tryz.prog Tryz.f16 [.v (.agg #[.slice none 0 0, I r1, I r2, I r3, I r4, I r5, I r6, I r7, I r8])] M0 = 
    some (.v (I 1), M0) := by kernel_rfl
def gWr1 (vs : List Value) : Option (Bool × Value) :=
  match vs with
  | [.agg ⟨[.slice none 0 0, .int .i64 r1, .int .i64 r2, .int .i64 r3, .int .i64 r4, .int .i64 r5, .int .i64 r6, .int .i64 r7, .int .i64 r8]⟩] => some (true, I 1)
  | _ => none
theorem gWr1_ok : ∀ vs r, gWr1 vs = some (true, r) → ∀ m, CallOk Tryz.prog 16 (vs.map .v) m (.v r) m := by
  intro vs r h
  unfold gWr1 at h
  split at h
  · rename_i r1 r2 r3 r4 r5 r6 r7 r8
    obtain ⟨h1, rfl⟩ := some_t h
    refine runV (vs := [.agg #[.slice none 0 0, I r1, I r2, I r3, I r4, I r5, I r6, I r7, I r8]]) (Λ := L0) (m' := M0) Okt2 Tryz.func16 rfl (fun z _ _ => l0Ok' _ z) ?_
    exact (runWr1 r1 r2 r3 r4 r5 r6 r7 r8).trans (rfl)
  · cases h
noncomputable def Γt3 : Orc := addVal 16 gWr1 Γt2
theorem Okt3 : Γt3.Ok Tryz.prog := addVal_ok Okt2 gWr1_ok
noncomputable def bdTo : Code := loopAt (Tryz.f40.body.getD .skip) 0
noncomputable def bdTi : Code := loopAt bdTo 0
def kTi : List Bool := maskOf 53 [2,3,5,7,24,25,33,34]
def xTi (e : Ex) : List Bool := match e with
  | .exit _ => maskOf 53 [2,3,5,7,24,25]
  | .ret => maskOf 53 []
  | .normal => maskOf 53 [2,3,5,7,24,25,33,34]
def KTi (e : Ex) (st : St) : Option (Ex × St) := some (e, cutC 0 0 (xTi e) st)
set_option maxRecDepth 20000 in
theorem stepTi00 (t : ByteArray) (r1 : Int) (r2 : Int) (r3 : Int) (r4 : Int) (r5 : Int) (r6 : Int) (r7 : Int) (r8 : Int) (g : Int) (v : Int) (m : Int) (u : Int) (mm : Int) (ii : Int) (cc : Int) (k : Int) (n : Nat) : evLoop Γt3 Tryz.prog L0 (cutC 0 0 kTi) bdTi (n + 1) (mk kTi [.ptr 0 0, .ptr 1 0, .ptr 2 0, .ptr 3 0, .v (I mm), .v (I ii), .v (I cc), .v (I k)] ⟨[[.v (.slice none 0 0), .v (I 0), .v (I 0), .v (I 0), .v (I 0), .v (I 0), .v (I 0), .v (I 0), .v (I 0)], [.v (S t)], [.v (.slice none 0 0), .v (I r1), .v (I r2), .v (I r3), .v (I r4), .v (I r5), .v (I r6), .v (I r7), .v (I r8)], [.v (.slice none 0 0), .v (I g), .v (I v), .v (I m), .v (I u)]], [true, true, true, true], []⟩) KTi =
    (bif decide (k < cc) then (bif szS t && decide ((4 : Int) ≤ (t.size : Int)) then (bif szS (dt (4 : Nat) t) && decide ((4 : Int) ≤ ((dt (4 : Nat) t).size : Int)) then evLoop Γt3 Tryz.prog L0 (cutC 0 0 kTi) bdTi n (mk kTi [.ptr 0 0, .ptr 1 0, .ptr 2 0, .ptr 3 0, .v (I mm), .v (I ii), .v (I cc), .v (I (wI (k + (1 : Int))))] ⟨[[.v (Value.slice none (0 : Nat) (0 : Nat)), .v (I 0), .v (I 0), .v (I 0), .v (I 0), .v (I 0), .v (I 0), .v (I 0), .v (I 0)], [.v (S (dt (4 : Nat) (dt (4 : Nat) t)))], [.v (Value.slice none (0 : Nat) (0 : Nat)), .v (I r1), .v (I r2), .v (I r3), .v (I r4), .v (I r5), .v (I r6), .v (I r7), .v (I r8)], [.row 0, .v (I g), .v (I v), .v (I m), .v (I u)]], [true, true, true, true], [.live ⟨51, [.num .i64, .num .i64], [[.n (wd t), .n (wd (dt (4 : Nat) t))]], true, false⟩]⟩) KTi else none) else none) else some ((.exit 2), mk (xTi (.exit 2)) [.ptr 0 0, .ptr 1 0, .ptr 2 0, .ptr 3 0, .v (I mm), .v (I ii)] ⟨[[.v (Value.slice none (0 : Nat) (0 : Nat)), .v (I 0), .v (I 0), .v (I 0), .v (I 0), .v (I 0), .v (I 0), .v (I 0), .v (I 0)], [.v (S t)], [.v (Value.slice none (0 : Nat) (0 : Nat)), .v (I r1), .v (I r2), .v (I r3), .v (I r4), .v (I r5), .v (I r6), .v (I r7), .v (I r8)], [.v (Value.slice none (0 : Nat) (0 : Nat)), .v (I g), .v (I v), .v (I m), .v (I u)]], [true, true, true, true], []⟩)) := by kernel_rfl
noncomputable def ETi00 (n : Nat) (t : ByteArray) (r1 : Int) (r2 : Int) (r3 : Int) (r4 : Int) (r5 : Int) (r6 : Int) (r7 : Int) (r8 : Int) (g : Int) (v : Int) (m : Int) (u : Int) (mm : Int) (ii : Int) (cc : Int) (k : Int) : Option (Ex × St) :=
  evLoop Γt3 Tryz.prog L0 (cutC 0 0 kTi) bdTi n (mk kTi [.ptr 0 0, .ptr 1 0, .ptr 2 0, .ptr 3 0, .v (I mm), .v (I ii), .v (I cc), .v (I k)] ⟨[[.v (.slice none 0 0), .v (I 0), .v (I 0), .v (I 0), .v (I 0), .v (I 0), .v (I 0), .v (I 0), .v (I 0)], [.v (S t)], [.v (.slice none 0 0), .v (I r1), .v (I r2), .v (I r3), .v (I r4), .v (I r5), .v (I r6), .v (I r7), .v (I r8)], [.v (.slice none 0 0), .v (I g), .v (I v), .v (I m), .v (I u)]], [true, true, true, true], []⟩) KTi
set_option maxRecDepth 20000 in
theorem stepTi01 (t : ByteArray) (r1 : Int) (r2 : Int) (r3 : Int) (r4 : Int) (r5 : Int) (r6 : Int) (r7 : Int) (r8 : Int) (g : Int) (v : Int) (m : Int) (u : Int) (mm : Int) (ii : Int) (cc : Int) (k : Int) (A : List (List Dat)) (n : Nat) : evLoop Γt3 Tryz.prog L0 (cutC 0 0 kTi) bdTi (n + 1) (mk kTi [.ptr 0 0, .ptr 1 0, .ptr 2 0, .ptr 3 0, .v (I mm), .v (I ii), .v (I cc), .v (I k)] ⟨[[.v (.slice none 0 0), .v (I 0), .v (I 0), .v (I 0), .v (I 0), .v (I 0), .v (I 0), .v (I 0), .v (I 0)], [.v (S t)], [.v (.slice none 0 0), .v (I r1), .v (I r2), .v (I r3), .v (I r4), .v (I r5), .v (I r6), .v (I r7), .v (I r8)], [.row 0, .v (I g), .v (I v), .v (I m), .v (I u)]], [true, true, true, true], [rP A true false]⟩) KTi =
    (bif decide (k < cc) then (bif szS t && decide ((4 : Int) ≤ (t.size : Int)) then (bif szS (dt (4 : Nat) t) && decide ((4 : Int) ≤ ((dt (4 : Nat) t).size : Int)) then (bif decide ((A.length + [[Dat.n (wd t), Dat.n (wd (dt (4 : Nat) t))]].length) * (16 : Nat) ≤ (140737488355328 : Nat) ∧ A.length + [[Dat.n (wd t), Dat.n (wd (dt (4 : Nat) t))]].length ≤ (9223372036854775807 : Nat)) then evLoop Γt3 Tryz.prog L0 (cutC 0 0 kTi) bdTi n (mk kTi [.ptr 0 0, .ptr 1 0, .ptr 2 0, .ptr 3 0, .v (I mm), .v (I ii), .v (I cc), .v (I (wI (k + (1 : Int))))] ⟨[[.v (Value.slice none (0 : Nat) (0 : Nat)), .v (I 0), .v (I 0), .v (I 0), .v (I 0), .v (I 0), .v (I 0), .v (I 0), .v (I 0)], [.v (S (dt (4 : Nat) (dt (4 : Nat) t)))], [.v (Value.slice none (0 : Nat) (0 : Nat)), .v (I r1), .v (I r2), .v (I r3), .v (I r4), .v (I r5), .v (I r6), .v (I r7), .v (I r8)], [.row 0, .v (I g), .v (I v), .v (I m), .v (I u)]], [true, true, true, true], [.live ⟨51, [.num .i64, .num .i64], A ++ [[Dat.n (wd t), Dat.n (wd (dt (4 : Nat) t))]], true, false⟩]⟩) KTi else none) else none) else none) else some ((.exit 2), mk (xTi (.exit 2)) [.ptr 0 0, .ptr 1 0, .ptr 2 0, .ptr 3 0, .v (I mm), .v (I ii)] ⟨[[.v (Value.slice none (0 : Nat) (0 : Nat)), .v (I 0), .v (I 0), .v (I 0), .v (I 0), .v (I 0), .v (I 0), .v (I 0), .v (I 0)], [.v (S t)], [.v (Value.slice none (0 : Nat) (0 : Nat)), .v (I r1), .v (I r2), .v (I r3), .v (I r4), .v (I r5), .v (I r6), .v (I r7), .v (I r8)], [.row 0, .v (I g), .v (I v), .v (I m), .v (I u)]], [true, true, true, true], [.live ⟨51, [.num .i64, .num .i64], A, true, false⟩]⟩)) := by kernel_rfl
noncomputable def ETi01 (n : Nat) (t : ByteArray) (r1 : Int) (r2 : Int) (r3 : Int) (r4 : Int) (r5 : Int) (r6 : Int) (r7 : Int) (r8 : Int) (g : Int) (v : Int) (m : Int) (u : Int) (mm : Int) (ii : Int) (cc : Int) (k : Int) (A : List (List Dat)) : Option (Ex × St) :=
  evLoop Γt3 Tryz.prog L0 (cutC 0 0 kTi) bdTi n (mk kTi [.ptr 0 0, .ptr 1 0, .ptr 2 0, .ptr 3 0, .v (I mm), .v (I ii), .v (I cc), .v (I k)] ⟨[[.v (.slice none 0 0), .v (I 0), .v (I 0), .v (I 0), .v (I 0), .v (I 0), .v (I 0), .v (I 0), .v (I 0)], [.v (S t)], [.v (.slice none 0 0), .v (I r1), .v (I r2), .v (I r3), .v (I r4), .v (I r5), .v (I r6), .v (I r7), .v (I r8)], [.row 0, .v (I g), .v (I v), .v (I m), .v (I u)]], [true, true, true, true], [rP A true false]⟩) KTi
set_option maxRecDepth 20000 in
theorem stepTi10 (t : ByteArray) (r1 : Int) (r2 : Int) (r3 : Int) (r4 : Int) (r5 : Int) (r6 : Int) (r7 : Int) (r8 : Int) (g : Int) (v : Int) (m : Int) (u : Int) (mm : Int) (ii : Int) (cc : Int) (k : Int) (L : List (List Dat)) (n : Nat) : evLoop Γt3 Tryz.prog L0 (cutC 0 0 kTi) bdTi (n + 1) (mk kTi [.ptr 0 0, .ptr 1 0, .ptr 2 0, .ptr 3 0, .v (I mm), .v (I ii), .v (I cc), .v (I k)] ⟨[[.v (.slice none 0 0), .v (I 0), .v (I 0), .v (I 0), .v (I 0), .v (I 0), .v (I 0), .v (I 0), .v (I 0)], [.v (S t)], [.row 0, .v (I r1), .v (I r2), .v (I r3), .v (I r4), .v (I r5), .v (I r6), .v (I r7), .v (I r8)], [.v (.slice none 0 0), .v (I g), .v (I v), .v (I m), .v (I u)]], [true, true, true, true], [rH L true false]⟩) KTi =
    (bif decide (k < cc) then (bif szS t && decide ((4 : Int) ≤ (t.size : Int)) then (bif szS (dt (4 : Nat) t) && decide ((4 : Int) ≤ ((dt (4 : Nat) t).size : Int)) then evLoop Γt3 Tryz.prog L0 (cutC 0 0 kTi) bdTi n (mk kTi [.ptr 0 0, .ptr 1 0, .ptr 2 0, .ptr 3 0, .v (I mm), .v (I ii), .v (I cc), .v (I (wI (k + (1 : Int))))] ⟨[[.v (Value.slice none (0 : Nat) (0 : Nat)), .v (I 0), .v (I 0), .v (I 0), .v (I 0), .v (I 0), .v (I 0), .v (I 0), .v (I 0)], [.v (S (dt (4 : Nat) (dt (4 : Nat) t)))], [.row 0, .v (I r1), .v (I r2), .v (I r3), .v (I r4), .v (I r5), .v (I r6), .v (I r7), .v (I r8)], [.row 1, .v (I g), .v (I v), .v (I m), .v (I u)]], [true, true, true, true], [.live ⟨49, kPh, L, true, false⟩, .live ⟨51, [.num .i64, .num .i64], [[.n (wd t), .n (wd (dt (4 : Nat) t))]], true, false⟩]⟩) KTi else none) else none) else some ((.exit 2), mk (xTi (.exit 2)) [.ptr 0 0, .ptr 1 0, .ptr 2 0, .ptr 3 0, .v (I mm), .v (I ii)] ⟨[[.v (Value.slice none (0 : Nat) (0 : Nat)), .v (I 0), .v (I 0), .v (I 0), .v (I 0), .v (I 0), .v (I 0), .v (I 0), .v (I 0)], [.v (S t)], [.row 0, .v (I r1), .v (I r2), .v (I r3), .v (I r4), .v (I r5), .v (I r6), .v (I r7), .v (I r8)], [.v (Value.slice none (0 : Nat) (0 : Nat)), .v (I g), .v (I v), .v (I m), .v (I u)]], [true, true, true, true], [.live ⟨49, kPh, L, true, false⟩]⟩)) := by kernel_rfl
noncomputable def ETi10 (n : Nat) (t : ByteArray) (r1 : Int) (r2 : Int) (r3 : Int) (r4 : Int) (r5 : Int) (r6 : Int) (r7 : Int) (r8 : Int) (g : Int) (v : Int) (m : Int) (u : Int) (mm : Int) (ii : Int) (cc : Int) (k : Int) (L : List (List Dat)) : Option (Ex × St) :=
  evLoop Γt3 Tryz.prog L0 (cutC 0 0 kTi) bdTi n (mk kTi [.ptr 0 0, .ptr 1 0, .ptr 2 0, .ptr 3 0, .v (I mm), .v (I ii), .v (I cc), .v (I k)] ⟨[[.v (.slice none 0 0), .v (I 0), .v (I 0), .v (I 0), .v (I 0), .v (I 0), .v (I 0), .v (I 0), .v (I 0)], [.v (S t)], [.row 0, .v (I r1), .v (I r2), .v (I r3), .v (I r4), .v (I r5), .v (I r6), .v (I r7), .v (I r8)], [.v (.slice none 0 0), .v (I g), .v (I v), .v (I m), .v (I u)]], [true, true, true, true], [rH L true false]⟩) KTi
set_option maxRecDepth 20000 in
theorem stepTi11 (t : ByteArray) (r1 : Int) (r2 : Int) (r3 : Int) (r4 : Int) (r5 : Int) (r6 : Int) (r7 : Int) (r8 : Int) (g : Int) (v : Int) (m : Int) (u : Int) (mm : Int) (ii : Int) (cc : Int) (k : Int) (L : List (List Dat)) (A : List (List Dat)) (n : Nat) : evLoop Γt3 Tryz.prog L0 (cutC 0 0 kTi) bdTi (n + 1) (mk kTi [.ptr 0 0, .ptr 1 0, .ptr 2 0, .ptr 3 0, .v (I mm), .v (I ii), .v (I cc), .v (I k)] ⟨[[.v (.slice none 0 0), .v (I 0), .v (I 0), .v (I 0), .v (I 0), .v (I 0), .v (I 0), .v (I 0), .v (I 0)], [.v (S t)], [.row 0, .v (I r1), .v (I r2), .v (I r3), .v (I r4), .v (I r5), .v (I r6), .v (I r7), .v (I r8)], [.row 1, .v (I g), .v (I v), .v (I m), .v (I u)]], [true, true, true, true], [rH L true false, rP A true false]⟩) KTi =
    (bif decide (k < cc) then (bif szS t && decide ((4 : Int) ≤ (t.size : Int)) then (bif szS (dt (4 : Nat) t) && decide ((4 : Int) ≤ ((dt (4 : Nat) t).size : Int)) then (bif decide ((A.length + [[Dat.n (wd t), Dat.n (wd (dt (4 : Nat) t))]].length) * (16 : Nat) ≤ (140737488355328 : Nat) ∧ A.length + [[Dat.n (wd t), Dat.n (wd (dt (4 : Nat) t))]].length ≤ (9223372036854775807 : Nat)) then evLoop Γt3 Tryz.prog L0 (cutC 0 0 kTi) bdTi n (mk kTi [.ptr 0 0, .ptr 1 0, .ptr 2 0, .ptr 3 0, .v (I mm), .v (I ii), .v (I cc), .v (I (wI (k + (1 : Int))))] ⟨[[.v (Value.slice none (0 : Nat) (0 : Nat)), .v (I 0), .v (I 0), .v (I 0), .v (I 0), .v (I 0), .v (I 0), .v (I 0), .v (I 0)], [.v (S (dt (4 : Nat) (dt (4 : Nat) t)))], [.row 0, .v (I r1), .v (I r2), .v (I r3), .v (I r4), .v (I r5), .v (I r6), .v (I r7), .v (I r8)], [.row 1, .v (I g), .v (I v), .v (I m), .v (I u)]], [true, true, true, true], [.live ⟨49, kPh, L, true, false⟩, .live ⟨51, [.num .i64, .num .i64], A ++ [[Dat.n (wd t), Dat.n (wd (dt (4 : Nat) t))]], true, false⟩]⟩) KTi else none) else none) else none) else some ((.exit 2), mk (xTi (.exit 2)) [.ptr 0 0, .ptr 1 0, .ptr 2 0, .ptr 3 0, .v (I mm), .v (I ii)] ⟨[[.v (Value.slice none (0 : Nat) (0 : Nat)), .v (I 0), .v (I 0), .v (I 0), .v (I 0), .v (I 0), .v (I 0), .v (I 0), .v (I 0)], [.v (S t)], [.row 0, .v (I r1), .v (I r2), .v (I r3), .v (I r4), .v (I r5), .v (I r6), .v (I r7), .v (I r8)], [.row 1, .v (I g), .v (I v), .v (I m), .v (I u)]], [true, true, true, true], [.live ⟨49, kPh, L, true, false⟩, .live ⟨51, [.num .i64, .num .i64], A, true, false⟩]⟩)) := by kernel_rfl
noncomputable def ETi11 (n : Nat) (t : ByteArray) (r1 : Int) (r2 : Int) (r3 : Int) (r4 : Int) (r5 : Int) (r6 : Int) (r7 : Int) (r8 : Int) (g : Int) (v : Int) (m : Int) (u : Int) (mm : Int) (ii : Int) (cc : Int) (k : Int) (L : List (List Dat)) (A : List (List Dat)) : Option (Ex × St) :=
  evLoop Γt3 Tryz.prog L0 (cutC 0 0 kTi) bdTi n (mk kTi [.ptr 0 0, .ptr 1 0, .ptr 2 0, .ptr 3 0, .v (I mm), .v (I ii), .v (I cc), .v (I k)] ⟨[[.v (.slice none 0 0), .v (I 0), .v (I 0), .v (I 0), .v (I 0), .v (I 0), .v (I 0), .v (I 0), .v (I 0)], [.v (S t)], [.row 0, .v (I r1), .v (I r2), .v (I r3), .v (I r4), .v (I r5), .v (I r6), .v (I r7), .v (I r8)], [.row 1, .v (I g), .v (I v), .v (I m), .v (I u)]], [true, true, true, true], [rH L true false, rP A true false]⟩) KTi
theorem wd_is {t : ByteArray} (h : 4 ≤ t.size) : wd t = sgn (num4s t) := word_is h
theorem sm_is (t : ByteArray) : sm t = (by1 t : Int) := small_is t
theorem szS_of {t : ByteArray} (h : t.size ≤ 9223372036854775807) : szS t = true := Nat.ble_eq_true_of_le h
/-- A loop that reads corners, where there are some already. -/
theorem ptLoop {α : Type} (cc : Int) (hc : cc ≤ 255) (E : Nat → ByteArray → Int → List (List Dat) → Option α) (X : ByteArray → List (List Dat) → Option α) (he : ∀ n t k A, ¬ k < cc → E (n + 1) t k A = X t A)
    (hr : ∀ n t k A, 0 ≤ k → k < cc → 8 ≤ t.size → t.size ≤ 1000000 → A.length ≤ 255 → E (n + 1) t k A = E n (dt 8 t) (k + 1) (A ++ [[.n (sgn (num4s t)), .n (sgn (num4s (dt 4 t)))]])) :
    ∀ (m : Nat) (t : ByteArray) (k : Int) (A : List (List Dat)), 0 ≤ k → k + m = cc → 8 * m ≤ t.size → t.size ≤ 1000000 → (A.length : Int) ≤ k → E (m + 1) t k A = X (dt (8 * m) t) (A ++ ptsP m t) := by
  intro m
  induction m with
  | zero =>
    intro t k A h0 h1 h2 h3 h4
    rw [he 0 t k A (by omega)]
    show X t A = X (dt 0 t) (A ++ [])
    rw [dt_0, List.append_nil]
  | succ m ih =>
    intro t k A h0 h1 h2 h3 h4
    rw [hr (m + 1) t k A h0 (by omega) (by omega) h3 (by omega), ih (dt 8 t) (k + 1) _ (by omega) (by omega) (by rw [dt_size]; omega) (by rw [dt_size]; omega) (by rw [List.length_append, List.length_singleton]; omega), dt_dt, show 8 + 8 * m = 8 * (m + 1) by omega, ptsP, List.append_assoc]
    rfl
theorem loopTi01 (r1 : Int) (r2 : Int) (r3 : Int) (r4 : Int) (r5 : Int) (r6 : Int) (r7 : Int) (r8 : Int) (g : Int) (v : Int) (m : Int) (u : Int) (mm : Int) (ii : Int) (cc : Int) (hc : cc ≤ 255) : ∀ (q : Nat) (t : ByteArray) (k : Int) (A : List (List Dat)), 0 ≤ k → k + q = cc → 8 * q ≤ t.size → t.size ≤ 1000000 → (A.length : Int) ≤ k → ETi01 (q + 1) t r1 r2 r3 r4 r5 r6 r7 r8 g v m u mm ii cc k A = some (.exit 2, mk (xTi (.exit 2)) [.ptr 0 0, .ptr 1 0, .ptr 2 0, .ptr 3 0, .v (I mm), .v (I ii)] ⟨[[.v (.slice none 0 0), .v (I 0), .v (I 0), .v (I 0), .v (I 0), .v (I 0), .v (I 0), .v (I 0), .v (I 0)], [.v (S (dt (8 * q) t))], [.v (.slice none 0 0), .v (I r1), .v (I r2), .v (I r3), .v (I r4), .v (I r5), .v (I r6), .v (I r7), .v (I r8)], [.row 0, .v (I g), .v (I v), .v (I m), .v (I u)]], [true, true, true, true], [rP (A ++ ptsP q t) true false]⟩) := by
  refine ptLoop cc hc (fun n t k A => ETi01 n t r1 r2 r3 r4 r5 r6 r7 r8 g v m u mm ii cc k A) (fun t A => some (.exit 2, mk (xTi (.exit 2)) [.ptr 0 0, .ptr 1 0, .ptr 2 0, .ptr 3 0, .v (I mm), .v (I ii)] ⟨[[.v (.slice none 0 0), .v (I 0), .v (I 0), .v (I 0), .v (I 0), .v (I 0), .v (I 0), .v (I 0), .v (I 0)], [.v (S (t))], [.v (.slice none 0 0), .v (I r1), .v (I r2), .v (I r3), .v (I r4), .v (I r5), .v (I r6), .v (I r7), .v (I r8)], [.row 0, .v (I g), .v (I v), .v (I m), .v (I u)]], [true, true, true, true], [rP (A) true false]⟩)) (fun n t k A hk => ?_) (fun n t k A h0 h1 h2 h3 h4 => ?_)
  · refine (stepTi01 t r1 r2 r3 r4 r5 r6 r7 r8 g v m u mm ii cc k A n).trans ?_
    rw [decide_eq_false hk]
    rfl
  · refine (stepTi01 t r1 r2 r3 r4 r5 r6 r7 r8 g v m u mm ii cc k A n).trans ?_
    rw [decide_eq_true h1, szS_of (t := t) (by omega), szS_of (t := dt 4 t) (by rw [dt_size]; omega), decide_eq_true (show (4 : Int) ≤ (t.size : Int) by omega), decide_eq_true (show (4 : Int) ≤ ((dt 4 t).size : Int) by rw [dt_size]; omega), wI_id (n := k + 1) (by omega), wd_is (t := t) (by omega), wd_is (t := dt 4 t) (by rw [dt_size]; omega), dt_dt]
    rw [decide_eq_true (show (A.length + [[Dat.n (sgn (num4s t)), Dat.n (sgn (num4s (dt 4 t)))]].length) * 16 ≤ 140737488355328 ∧ A.length + [[Dat.n (sgn (num4s t)), Dat.n (sgn (num4s (dt 4 t)))]].length ≤ 9223372036854775807 by rw [List.length_singleton]; omega)]
    rfl
theorem loopTi00 (r1 : Int) (r2 : Int) (r3 : Int) (r4 : Int) (r5 : Int) (r6 : Int) (r7 : Int) (r8 : Int) (g : Int) (v : Int) (m : Int) (u : Int) (mm : Int) (ii : Int) (cc : Int) (hc : cc ≤ 255) (h0 : 0 ≤ cc) (t : ByteArray) (ht : 8 * cc.toNat ≤ t.size) (hs : t.size ≤ 1000000) : ∃ q, ETi00 q t r1 r2 r3 r4 r5 r6 r7 r8 g v m u mm ii cc 0 = some (bif decide (cc ≤ 0) then (.exit 2, mk (xTi (.exit 2)) [.ptr 0 0, .ptr 1 0, .ptr 2 0, .ptr 3 0, .v (I mm), .v (I ii)] ⟨[[.v (.slice none 0 0), .v (I 0), .v (I 0), .v (I 0), .v (I 0), .v (I 0), .v (I 0), .v (I 0), .v (I 0)], [.v (S (t))], [.v (.slice none 0 0), .v (I r1), .v (I r2), .v (I r3), .v (I r4), .v (I r5), .v (I r6), .v (I r7), .v (I r8)], [.v (.slice none 0 0), .v (I g), .v (I v), .v (I m), .v (I u)]], [true, true, true, true], []⟩) else (.exit 2, mk (xTi (.exit 2)) [.ptr 0 0, .ptr 1 0, .ptr 2 0, .ptr 3 0, .v (I mm), .v (I ii)] ⟨[[.v (.slice none 0 0), .v (I 0), .v (I 0), .v (I 0), .v (I 0), .v (I 0), .v (I 0), .v (I 0), .v (I 0)], [.v (S (dt (8 * cc.toNat) t))], [.v (.slice none 0 0), .v (I r1), .v (I r2), .v (I r3), .v (I r4), .v (I r5), .v (I r6), .v (I r7), .v (I r8)], [.row 0, .v (I g), .v (I v), .v (I m), .v (I u)]], [true, true, true, true], [rP (ptsP cc.toNat t) true false]⟩)) := by
  by_cases hz : cc ≤ 0
  · refine ⟨1, (stepTi00 t r1 r2 r3 r4 r5 r6 r7 r8 g v m u mm ii cc 0 0).trans ?_⟩
    rw [decide_eq_false (show ¬ (0 : Int) < cc by omega), decide_eq_true hz]
    rfl
  · obtain ⟨q, hq⟩ : ∃ q : Nat, cc = (q : Int) + 1 := ⟨(cc - 1).toNat, by omega⟩
    have hq' : cc.toNat = q + 1 := by omega
    refine ⟨q + 2, (stepTi00 t r1 r2 r3 r4 r5 r6 r7 r8 g v m u mm ii cc 0 (q + 1)).trans ?_⟩
    rw [decide_eq_true (show (0 : Int) < cc by omega), szS_of (t := t) (by omega), szS_of (t := dt 4 t) (by rw [dt_size]; omega), decide_eq_true (show (4 : Int) ≤ (t.size : Int) by omega), decide_eq_true (show (4 : Int) ≤ ((dt 4 t).size : Int) by rw [dt_size]; omega), wI_id (n := (0 : Int) + 1) (by omega), wd_is (t := t) (by omega), wd_is (t := dt 4 t) (by rw [dt_size]; omega), dt_dt, show 4 + 4 = 8 from rfl, decide_eq_false hz]
    have e := (loopTi01 r1 r2 r3 r4 r5 r6 r7 r8 g v m u mm ii cc hc q (dt 8 t) (0 + 1) [[.n (sgn (num4s t)), .n (sgn (num4s (dt 4 t)))]] (by omega) (by omega) (by rw [dt_size]; omega) (by rw [dt_size]; omega) (by rw [List.length_singleton]; omega))
    unfold ETi01 at e
    simp only [cond_true, Bool.and_self]
    refine Eq.trans e ?_
    rw [hq', dt_dt, show 8 + 8 * q = 8 * (q + 1) by omega]
    rfl
theorem loopTi11 (r1 : Int) (r2 : Int) (r3 : Int) (r4 : Int) (r5 : Int) (r6 : Int) (r7 : Int) (r8 : Int) (g : Int) (v : Int) (m : Int) (u : Int) (mm : Int) (ii : Int) (cc : Int) (L : List (List Dat)) (hc : cc ≤ 255) : ∀ (q : Nat) (t : ByteArray) (k : Int) (A : List (List Dat)), 0 ≤ k → k + q = cc → 8 * q ≤ t.size → t.size ≤ 1000000 → (A.length : Int) ≤ k → ETi11 (q + 1) t r1 r2 r3 r4 r5 r6 r7 r8 g v m u mm ii cc k L A = some (.exit 2, mk (xTi (.exit 2)) [.ptr 0 0, .ptr 1 0, .ptr 2 0, .ptr 3 0, .v (I mm), .v (I ii)] ⟨[[.v (.slice none 0 0), .v (I 0), .v (I 0), .v (I 0), .v (I 0), .v (I 0), .v (I 0), .v (I 0), .v (I 0)], [.v (S (dt (8 * q) t))], [.row 0, .v (I r1), .v (I r2), .v (I r3), .v (I r4), .v (I r5), .v (I r6), .v (I r7), .v (I r8)], [.row 1, .v (I g), .v (I v), .v (I m), .v (I u)]], [true, true, true, true], [rH L true false, rP (A ++ ptsP q t) true false]⟩) := by
  refine ptLoop cc hc (fun n t k A => ETi11 n t r1 r2 r3 r4 r5 r6 r7 r8 g v m u mm ii cc k L A) (fun t A => some (.exit 2, mk (xTi (.exit 2)) [.ptr 0 0, .ptr 1 0, .ptr 2 0, .ptr 3 0, .v (I mm), .v (I ii)] ⟨[[.v (.slice none 0 0), .v (I 0), .v (I 0), .v (I 0), .v (I 0), .v (I 0), .v (I 0), .v (I 0), .v (I 0)], [.v (S (t))], [.row 0, .v (I r1), .v (I r2), .v (I r3), .v (I r4), .v (I r5), .v (I r6), .v (I r7), .v (I r8)], [.row 1, .v (I g), .v (I v), .v (I m), .v (I u)]], [true, true, true, true], [rH L true false, rP (A) true false]⟩)) (fun n t k A hk => ?_) (fun n t k A h0 h1 h2 h3 h4 => ?_)
  · refine (stepTi11 t r1 r2 r3 r4 r5 r6 r7 r8 g v m u mm ii cc k L A n).trans ?_
    rw [decide_eq_false hk]
    rfl
  · refine (stepTi11 t r1 r2 r3 r4 r5 r6 r7 r8 g v m u mm ii cc k L A n).trans ?_
    rw [decide_eq_true h1, szS_of (t := t) (by omega), szS_of (t := dt 4 t) (by rw [dt_size]; omega), decide_eq_true (show (4 : Int) ≤ (t.size : Int) by omega), decide_eq_true (show (4 : Int) ≤ ((dt 4 t).size : Int) by rw [dt_size]; omega), wI_id (n := k + 1) (by omega), wd_is (t := t) (by omega), wd_is (t := dt 4 t) (by rw [dt_size]; omega), dt_dt]
    rw [decide_eq_true (show (A.length + [[Dat.n (sgn (num4s t)), Dat.n (sgn (num4s (dt 4 t)))]].length) * 16 ≤ 140737488355328 ∧ A.length + [[Dat.n (sgn (num4s t)), Dat.n (sgn (num4s (dt 4 t)))]].length ≤ 9223372036854775807 by rw [List.length_singleton]; omega)]
    rfl
theorem loopTi10 (r1 : Int) (r2 : Int) (r3 : Int) (r4 : Int) (r5 : Int) (r6 : Int) (r7 : Int) (r8 : Int) (g : Int) (v : Int) (m : Int) (u : Int) (mm : Int) (ii : Int) (cc : Int) (L : List (List Dat)) (hc : cc ≤ 255) (h0 : 0 ≤ cc) (t : ByteArray) (ht : 8 * cc.toNat ≤ t.size) (hs : t.size ≤ 1000000) : ∃ q, ETi10 q t r1 r2 r3 r4 r5 r6 r7 r8 g v m u mm ii cc 0 L = some (bif decide (cc ≤ 0) then (.exit 2, mk (xTi (.exit 2)) [.ptr 0 0, .ptr 1 0, .ptr 2 0, .ptr 3 0, .v (I mm), .v (I ii)] ⟨[[.v (.slice none 0 0), .v (I 0), .v (I 0), .v (I 0), .v (I 0), .v (I 0), .v (I 0), .v (I 0), .v (I 0)], [.v (S (t))], [.row 0, .v (I r1), .v (I r2), .v (I r3), .v (I r4), .v (I r5), .v (I r6), .v (I r7), .v (I r8)], [.v (.slice none 0 0), .v (I g), .v (I v), .v (I m), .v (I u)]], [true, true, true, true], [rH L true false]⟩) else (.exit 2, mk (xTi (.exit 2)) [.ptr 0 0, .ptr 1 0, .ptr 2 0, .ptr 3 0, .v (I mm), .v (I ii)] ⟨[[.v (.slice none 0 0), .v (I 0), .v (I 0), .v (I 0), .v (I 0), .v (I 0), .v (I 0), .v (I 0), .v (I 0)], [.v (S (dt (8 * cc.toNat) t))], [.row 0, .v (I r1), .v (I r2), .v (I r3), .v (I r4), .v (I r5), .v (I r6), .v (I r7), .v (I r8)], [.row 1, .v (I g), .v (I v), .v (I m), .v (I u)]], [true, true, true, true], [rH L true false, rP (ptsP cc.toNat t) true false]⟩)) := by
  by_cases hz : cc ≤ 0
  · refine ⟨1, (stepTi10 t r1 r2 r3 r4 r5 r6 r7 r8 g v m u mm ii cc 0 L 0).trans ?_⟩
    rw [decide_eq_false (show ¬ (0 : Int) < cc by omega), decide_eq_true hz]
    rfl
  · obtain ⟨q, hq⟩ : ∃ q : Nat, cc = (q : Int) + 1 := ⟨(cc - 1).toNat, by omega⟩
    have hq' : cc.toNat = q + 1 := by omega
    refine ⟨q + 2, (stepTi10 t r1 r2 r3 r4 r5 r6 r7 r8 g v m u mm ii cc 0 L (q + 1)).trans ?_⟩
    rw [decide_eq_true (show (0 : Int) < cc by omega), szS_of (t := t) (by omega), szS_of (t := dt 4 t) (by rw [dt_size]; omega), decide_eq_true (show (4 : Int) ≤ (t.size : Int) by omega), decide_eq_true (show (4 : Int) ≤ ((dt 4 t).size : Int) by rw [dt_size]; omega), wI_id (n := (0 : Int) + 1) (by omega), wd_is (t := t) (by omega), wd_is (t := dt 4 t) (by rw [dt_size]; omega), dt_dt, show 4 + 4 = 8 from rfl, decide_eq_false hz]
    have e := (loopTi11 r1 r2 r3 r4 r5 r6 r7 r8 g v m u mm ii cc L hc q (dt 8 t) (0 + 1) [[.n (sgn (num4s t)), .n (sgn (num4s (dt 4 t)))]] (by omega) (by omega) (by rw [dt_size]; omega) (by rw [dt_size]; omega) (by rw [List.length_singleton]; omega))
    unfold ETi11 at e
    simp only [cond_true, Bool.and_self]
    refine Eq.trans e ?_
    rw [hq', dt_dt, show 8 + 8 * q = 8 * (q + 1) by omega]
    rfl
def lfTi0 (t : ByteArray) (r1 r2 r3 r4 r5 r6 r7 r8 g v m u mm ii cc : Int) : LT := .br (decide (cc ≤ 0)) (.leaf (.exit 2) (mk (xTi (.exit 2)) [.ptr 0 0, .ptr 1 0, .ptr 2 0, .ptr 3 0, .v (I mm), .v (I ii)] ⟨[[.v (.slice none 0 0), .v (I 0), .v (I 0), .v (I 0), .v (I 0), .v (I 0), .v (I 0), .v (I 0), .v (I 0)], [.v (S (t))], [.v (.slice none 0 0), .v (I r1), .v (I r2), .v (I r3), .v (I r4), .v (I r5), .v (I r6), .v (I r7), .v (I r8)], [.v (.slice none 0 0), .v (I g), .v (I v), .v (I m), .v (I u)]], [true, true, true, true], []⟩)) (.leaf (.exit 2) (mk (xTi (.exit 2)) [.ptr 0 0, .ptr 1 0, .ptr 2 0, .ptr 3 0, .v (I mm), .v (I ii)] ⟨[[.v (.slice none 0 0), .v (I 0), .v (I 0), .v (I 0), .v (I 0), .v (I 0), .v (I 0), .v (I 0), .v (I 0)], [.v (S (dt (8 * cc.toNat) t))], [.v (.slice none 0 0), .v (I r1), .v (I r2), .v (I r3), .v (I r4), .v (I r5), .v (I r6), .v (I r7), .v (I r8)], [.row 0, .v (I g), .v (I v), .v (I m), .v (I u)]], [true, true, true, true], [rP (ptsP cc.toNat t) true false]⟩))
def lfTi1 (t : ByteArray) (r1 r2 r3 r4 r5 r6 r7 r8 g v m u mm ii cc : Int) (L : List (List Dat)) : LT := .br (decide (cc ≤ 0)) (.leaf (.exit 2) (mk (xTi (.exit 2)) [.ptr 0 0, .ptr 1 0, .ptr 2 0, .ptr 3 0, .v (I mm), .v (I ii)] ⟨[[.v (.slice none 0 0), .v (I 0), .v (I 0), .v (I 0), .v (I 0), .v (I 0), .v (I 0), .v (I 0), .v (I 0)], [.v (S (t))], [.row 0, .v (I r1), .v (I r2), .v (I r3), .v (I r4), .v (I r5), .v (I r6), .v (I r7), .v (I r8)], [.v (.slice none 0 0), .v (I g), .v (I v), .v (I m), .v (I u)]], [true, true, true, true], [rH L true false]⟩)) (.leaf (.exit 2) (mk (xTi (.exit 2)) [.ptr 0 0, .ptr 1 0, .ptr 2 0, .ptr 3 0, .v (I mm), .v (I ii)] ⟨[[.v (.slice none 0 0), .v (I 0), .v (I 0), .v (I 0), .v (I 0), .v (I 0), .v (I 0), .v (I 0), .v (I 0)], [.v (S (dt (8 * cc.toNat) t))], [.row 0, .v (I r1), .v (I r2), .v (I r3), .v (I r4), .v (I r5), .v (I r6), .v (I r7), .v (I r8)], [.row 1, .v (I g), .v (I v), .v (I m), .v (I u)]], [true, true, true, true], [rH L true false, rP (ptsP cc.toNat t) true false]⟩))
def okTi (t : ByteArray) (cc k : Int) : Bool := k == 0 && (decide (0 ≤ cc ∧ cc ≤ 255) && (Nat.ble (8 * cc.toNat) t.size && Nat.ble t.size 1000000))
def GTi4 (t : ByteArray) (g v m u mm ii cc k : Int) (p2 : List SA) (rows : List RowS) : Option (Bool × LT) :=
  match p2, rows with
  | [.v (.slice none 0 0), .v (.int .i64 r1), .v (.int .i64 r2), .v (.int .i64 r3), .v (.int .i64 r4), .v (.int .i64 r5), .v (.int .i64 r6), .v (.int .i64 r7), .v (.int .i64 r8)], [] => some (okTi t cc k, lfTi0 t r1 r2 r3 r4 r5 r6 r7 r8 g v m u mm ii cc)
  | [.row 0, .v (.int .i64 r1), .v (.int .i64 r2), .v (.int .i64 r3), .v (.int .i64 r4), .v (.int .i64 r5), .v (.int .i64 r6), .v (.int .i64 r7), .v (.int .i64 r8)], [.live ⟨49, [.sl 51 [.num .i64, .num .i64], .num .i64, .num .i64, .num .i64, .num .i64], L, true, false⟩] => some (okTi t cc k, lfTi1 t r1 r2 r3 r4 r5 r6 r7 r8 g v m u mm ii cc L)
  | _, _ => none
def GTi3 (t : ByteArray) (g v m u mm ii cc k : Int) (p0 p2 : List SA) (rows : List RowS) : Option (Bool × LT) :=
  match p0 with
  | [.v (.slice none 0 0), .v (.int .i64 0), .v (.int .i64 0), .v (.int .i64 0), .v (.int .i64 0), .v (.int .i64 0), .v (.int .i64 0), .v (.int .i64 0), .v (.int .i64 0)] => GTi4 t g v m u mm ii cc k p2 rows
  | _ => none
def GTi2 (mm ii cc k : Int) (m : Mem) : Option (Bool × LT) :=
  match m with
  | ⟨[p0, [.v (.string t)], p2, [.v (.slice none 0 0), .v (.int .i64 g), .v (.int .i64 v), .v (.int .i64 m), .v (.int .i64 u)]], [true, true, true, true], rows⟩ => GTi3 t g v m u mm ii cc k p0 p2 rows
  | _ => none
def GTi (vals : List SV) (m : Mem) : Option (Bool × LT) :=
  match vals with
  | [.ptr 0 0, .ptr 1 0, .ptr 2 0, .ptr 3 0, .v (.int .i64 mm), .v (.int .i64 ii), .v (.int .i64 cc), .v (.int .i64 k)] => GTi2 mm ii cc k m
  | _ => none
noncomputable def ΛTi : LoopOrc := fun _ st => viaT 0 0 kTi GTi st
theorem loopsTi : loopsOf bdTo = [bdTi] := by kernel_rfl
theorem loopOkTi (z : Base) (z1 : z.L.length = 0) (z2 : z.U.length = 0) : LoopOk ΛTi Tryz.prog z bdTi := by
  refine loop_okT (Λ := L0) (kx := xTi) Okt3 mixed z1 z2 (fun b hb st t h => by cases h) (G := GTi) (fun _ => rfl) ?_
  intro vals m t h
  unfold GTi at h
  split at h
  case h_2 => cases h
  rename_i mm ii cc k
  unfold GTi2 at h
  split at h
  case h_2 => cases h
  rename_i p0 t p2 g v m u rows
  unfold GTi3 at h
  split at h
  case h_2 => cases h
  unfold GTi4 at h
  split at h
  · rename_i r1 r2 r3 r4 r5 r6 r7 r8
    obtain ⟨h1, rfl⟩ := some_t h
    unfold okTi at h1
    simp only [Bool.and_eq_true, beq_iff_eq, decide_eq_true_eq] at h1
    obtain ⟨rfl, h1, h2, h3⟩ := h1
    obtain ⟨q, hq⟩ := loopTi00 r1 r2 r3 r4 r5 r6 r7 r8 g v m u mm ii cc h1.2 h1.1 t (Nat.le_of_ble_eq_true h2) (Nat.le_of_ble_eq_true h3)
    refine ⟨q, hq.trans ?_⟩
    unfold lfTi0
    cases decide (cc ≤ 0) <;> rfl
  · rename_i r1 r2 r3 r4 r5 r6 r7 r8 L
    obtain ⟨h1, rfl⟩ := some_t h
    unfold okTi at h1
    simp only [Bool.and_eq_true, beq_iff_eq, decide_eq_true_eq] at h1
    obtain ⟨rfl, h1, h2, h3⟩ := h1
    obtain ⟨q, hq⟩ := loopTi10 r1 r2 r3 r4 r5 r6 r7 r8 g v m u mm ii cc L h1.2 h1.1 t (Nat.le_of_ble_eq_true h2) (Nat.le_of_ble_eq_true h3)
    refine ⟨q, hq.trans ?_⟩
    unfold lfTi1
    cases decide (cc ≤ 0) <;> rfl
  · cases h
def kTo : List Bool := maskOf 53 [2,3,5,24,25]
def xTo (e : Ex) : List Bool := match e with
  | .exit _ => maskOf 53 [2,5]
  | .ret => maskOf 53 []
  | .normal => maskOf 53 [2,3,5,24,25]
def KTo (e : Ex) (st : St) : Option (Ex × St) := some (e, cutC 0 0 (xTo e) st)
set_option maxRecDepth 20000 in
theorem stepTo0 (t : ByteArray) (r1 : Int) (r2 : Int) (r3 : Int) (r4 : Int) (r5 : Int) (r6 : Int) (r7 : Int) (r8 : Int) (mm : Int) (ii : Int) (n : Nat) : evLoop Γt3 Tryz.prog ΛTi (cutC 0 0 kTo) bdTo (n + 1) (mk kTo [.ptr 0 0, .ptr 1 0, .ptr 2 0, .v (I mm), .v (I ii)] ⟨[[.v (.slice none 0 0), .v (I 0), .v (I 0), .v (I 0), .v (I 0), .v (I 0), .v (I 0), .v (I 0), .v (I 0)], [.v (S t)], [.v (.slice none 0 0), .v (I r1), .v (I r2), .v (I r3), .v (I r4), .v (I r5), .v (I r6), .v (I r7), .v (I r8)]], [true, true, true], []⟩) KTo =
    (bif decide (ii < mm) then (bif szS t && decide ((1 : Int) ≤ (t.size : Int)) then (bif szS (dt (1 : Nat) t) && decide ((1 : Int) ≤ ((dt (1 : Nat) t).size : Int)) then (bif szS (dt (1 : Nat) (dt (1 : Nat) t)) && decide ((4 : Int) ≤ ((dt (1 : Nat) (dt (1 : Nat) t)).size : Int)) then (bif szS (dt (4 : Nat) (dt (1 : Nat) (dt (1 : Nat) t))) && decide ((4 : Int) ≤ ((dt (4 : Nat) (dt (1 : Nat) (dt (1 : Nat) t))).size : Int)) then (bif szS (dt (4 : Nat) (dt (4 : Nat) (dt (1 : Nat) (dt (1 : Nat) t)))) && decide ((4 : Int) ≤ ((dt (4 : Nat) (dt (4 : Nat) (dt (1 : Nat) (dt (1 : Nat) t)))).size : Int)) then (bif okTi (dt (4 : Nat) (dt (4 : Nat) (dt (4 : Nat) (dt (1 : Nat) (dt (1 : Nat) t))))) (sm t) (0 : Int) then (bif decide (sm t ≤ (0 : Int)) then evLoop Γt3 Tryz.prog ΛTi (cutC 0 0 kTo) bdTo n (mk kTo [.ptr 0 0, .ptr 1 0, .ptr 2 0, .v (I mm), .v (I (wI (ii + (1 : Int))))] ⟨[[.v (Value.slice none (0 : Nat) (0 : Nat)), .v (I 0), .v (I 0), .v (I 0), .v (I 0), .v (I 0), .v (I 0), .v (I 0), .v (I 0)], [.v (S (dt (4 : Nat) (dt (4 : Nat) (dt (4 : Nat) (dt (1 : Nat) (dt (1 : Nat) t))))))], [.row 0, .v (I r1), .v (I r2), .v (I r3), .v (I r4), .v (I r5), .v (I r6), .v (I r7), .v (I r8)]], [true, true, true], [.live ⟨49, kPh, [[Dat.l (Value.slice none (0 : Nat) (0 : Nat)) [], .n (sm (dt (1 : Nat) t)), .n (wd (dt (1 : Nat) (dt (1 : Nat) t))), .n (wd (dt (4 : Nat) (dt (1 : Nat) (dt (1 : Nat) t)))), .n (wd (dt (4 : Nat) (dt (4 : Nat) (dt (1 : Nat) (dt (1 : Nat) t)))))]], true, false⟩]⟩) KTo else evLoop Γt3 Tryz.prog ΛTi (cutC 0 0 kTo) bdTo n (mk kTo [.ptr 0 0, .ptr 1 0, .ptr 2 0, .v (I mm), .v (I (wI (ii + (1 : Int))))] ⟨[[.v (Value.slice none (0 : Nat) (0 : Nat)), .v (I 0), .v (I 0), .v (I 0), .v (I 0), .v (I 0), .v (I 0), .v (I 0), .v (I 0)], [.v (S (dt ((8 : Nat) * (sm t).toNat) (dt (4 : Nat) (dt (4 : Nat) (dt (4 : Nat) (dt (1 : Nat) (dt (1 : Nat) t)))))))], [.row 0, .v (I r1), .v (I r2), .v (I r3), .v (I r4), .v (I r5), .v (I r6), .v (I r7), .v (I r8)]], [true, true, true], [.live ⟨49, kPh, [[Dat.l (Value.slice none (0 : Nat) (0 : Nat)) (ptsP (sm t).toNat (dt (4 : Nat) (dt (4 : Nat) (dt (4 : Nat) (dt (1 : Nat) (dt (1 : Nat) t)))))), .n (sm (dt (1 : Nat) t)), .n (wd (dt (1 : Nat) (dt (1 : Nat) t))), .n (wd (dt (4 : Nat) (dt (1 : Nat) (dt (1 : Nat) t)))), .n (wd (dt (4 : Nat) (dt (4 : Nat) (dt (1 : Nat) (dt (1 : Nat) t)))))]], true, false⟩]⟩) KTo) else none) else none) else none) else none) else none) else none) else some ((.exit 0), mk (xTo (.exit 0)) [.ptr 0 0, .ptr 1 0] ⟨[[.v (Value.slice none (0 : Nat) (0 : Nat)), .v (I 0), .v (I 0), .v (I 0), .v (I 0), .v (I 0), .v (I 0), .v (I 0), .v (I 0)], [.v (Value.slice none (0 : Nat) (0 : Nat)), .v (I r1), .v (I r2), .v (I r3), .v (I r4), .v (I r5), .v (I r6), .v (I r7), .v (I r8)]], [true, true], []⟩)) := by kernel_rfl
noncomputable def ETo0 (n : Nat) (t : ByteArray) (r1 : Int) (r2 : Int) (r3 : Int) (r4 : Int) (r5 : Int) (r6 : Int) (r7 : Int) (r8 : Int) (mm : Int) (ii : Int) : Option (Ex × St) :=
  evLoop Γt3 Tryz.prog ΛTi (cutC 0 0 kTo) bdTo n (mk kTo [.ptr 0 0, .ptr 1 0, .ptr 2 0, .v (I mm), .v (I ii)] ⟨[[.v (.slice none 0 0), .v (I 0), .v (I 0), .v (I 0), .v (I 0), .v (I 0), .v (I 0), .v (I 0), .v (I 0)], [.v (S t)], [.v (.slice none 0 0), .v (I r1), .v (I r2), .v (I r3), .v (I r4), .v (I r5), .v (I r6), .v (I r7), .v (I r8)]], [true, true, true], []⟩) KTo
set_option maxRecDepth 20000 in
theorem stepTo1 (t : ByteArray) (r1 : Int) (r2 : Int) (r3 : Int) (r4 : Int) (r5 : Int) (r6 : Int) (r7 : Int) (r8 : Int) (mm : Int) (ii : Int) (L : List (List Dat)) (n : Nat) : evLoop Γt3 Tryz.prog ΛTi (cutC 0 0 kTo) bdTo (n + 1) (mk kTo [.ptr 0 0, .ptr 1 0, .ptr 2 0, .v (I mm), .v (I ii)] ⟨[[.v (.slice none 0 0), .v (I 0), .v (I 0), .v (I 0), .v (I 0), .v (I 0), .v (I 0), .v (I 0), .v (I 0)], [.v (S t)], [.row 0, .v (I r1), .v (I r2), .v (I r3), .v (I r4), .v (I r5), .v (I r6), .v (I r7), .v (I r8)]], [true, true, true], [rH L true false]⟩) KTo =
    (bif decide (ii < mm) then (bif szS t && decide ((1 : Int) ≤ (t.size : Int)) then (bif szS (dt (1 : Nat) t) && decide ((1 : Int) ≤ ((dt (1 : Nat) t).size : Int)) then (bif szS (dt (1 : Nat) (dt (1 : Nat) t)) && decide ((4 : Int) ≤ ((dt (1 : Nat) (dt (1 : Nat) t)).size : Int)) then (bif szS (dt (4 : Nat) (dt (1 : Nat) (dt (1 : Nat) t))) && decide ((4 : Int) ≤ ((dt (4 : Nat) (dt (1 : Nat) (dt (1 : Nat) t))).size : Int)) then (bif szS (dt (4 : Nat) (dt (4 : Nat) (dt (1 : Nat) (dt (1 : Nat) t)))) && decide ((4 : Int) ≤ ((dt (4 : Nat) (dt (4 : Nat) (dt (1 : Nat) (dt (1 : Nat) t)))).size : Int)) then (bif okTi (dt (4 : Nat) (dt (4 : Nat) (dt (4 : Nat) (dt (1 : Nat) (dt (1 : Nat) t))))) (sm t) (0 : Int) then (bif decide (sm t ≤ (0 : Int)) then (bif decide ((L.length + (one [Dat.l (Value.slice none (0 : Nat) (0 : Nat)) [], Dat.n (sm (dt (1 : Nat) t)), Dat.n (wd (dt (1 : Nat) (dt (1 : Nat) t))), Dat.n (wd (dt (4 : Nat) (dt (1 : Nat) (dt (1 : Nat) t)))), Dat.n (wd (dt (4 : Nat) (dt (4 : Nat) (dt (1 : Nat) (dt (1 : Nat) t)))))]).length) * (56 : Nat) ≤ (140737488355328 : Nat) ∧ L.length + (one [Dat.l (Value.slice none (0 : Nat) (0 : Nat)) [], Dat.n (sm (dt (1 : Nat) t)), Dat.n (wd (dt (1 : Nat) (dt (1 : Nat) t))), Dat.n (wd (dt (4 : Nat) (dt (1 : Nat) (dt (1 : Nat) t)))), Dat.n (wd (dt (4 : Nat) (dt (4 : Nat) (dt (1 : Nat) (dt (1 : Nat) t)))))]).length ≤ (9223372036854775807 : Nat)) then evLoop Γt3 Tryz.prog ΛTi (cutC 0 0 kTo) bdTo n (mk kTo [.ptr 0 0, .ptr 1 0, .ptr 2 0, .v (I mm), .v (I (wI (ii + (1 : Int))))] ⟨[[.v (Value.slice none (0 : Nat) (0 : Nat)), .v (I 0), .v (I 0), .v (I 0), .v (I 0), .v (I 0), .v (I 0), .v (I 0), .v (I 0)], [.v (S (dt (4 : Nat) (dt (4 : Nat) (dt (4 : Nat) (dt (1 : Nat) (dt (1 : Nat) t))))))], [.row 0, .v (I r1), .v (I r2), .v (I r3), .v (I r4), .v (I r5), .v (I r6), .v (I r7), .v (I r8)]], [true, true, true], [.live ⟨49, kPh, L ++ (one [Dat.l (Value.slice none (0 : Nat) (0 : Nat)) [], Dat.n (sm (dt (1 : Nat) t)), Dat.n (wd (dt (1 : Nat) (dt (1 : Nat) t))), Dat.n (wd (dt (4 : Nat) (dt (1 : Nat) (dt (1 : Nat) t)))), Dat.n (wd (dt (4 : Nat) (dt (4 : Nat) (dt (1 : Nat) (dt (1 : Nat) t)))))]), true, false⟩]⟩) KTo else none) else (bif decide ((L.length + (one [Dat.l (Value.slice none (0 : Nat) (0 : Nat)) (ptsP (sm t).toNat (dt (4 : Nat) (dt (4 : Nat) (dt (4 : Nat) (dt (1 : Nat) (dt (1 : Nat) t)))))), Dat.n (sm (dt (1 : Nat) t)), Dat.n (wd (dt (1 : Nat) (dt (1 : Nat) t))), Dat.n (wd (dt (4 : Nat) (dt (1 : Nat) (dt (1 : Nat) t)))), Dat.n (wd (dt (4 : Nat) (dt (4 : Nat) (dt (1 : Nat) (dt (1 : Nat) t)))))]).length) * (56 : Nat) ≤ (140737488355328 : Nat) ∧ L.length + (one [Dat.l (Value.slice none (0 : Nat) (0 : Nat)) (ptsP (sm t).toNat (dt (4 : Nat) (dt (4 : Nat) (dt (4 : Nat) (dt (1 : Nat) (dt (1 : Nat) t)))))), Dat.n (sm (dt (1 : Nat) t)), Dat.n (wd (dt (1 : Nat) (dt (1 : Nat) t))), Dat.n (wd (dt (4 : Nat) (dt (1 : Nat) (dt (1 : Nat) t)))), Dat.n (wd (dt (4 : Nat) (dt (4 : Nat) (dt (1 : Nat) (dt (1 : Nat) t)))))]).length ≤ (9223372036854775807 : Nat)) then evLoop Γt3 Tryz.prog ΛTi (cutC 0 0 kTo) bdTo n (mk kTo [.ptr 0 0, .ptr 1 0, .ptr 2 0, .v (I mm), .v (I (wI (ii + (1 : Int))))] ⟨[[.v (Value.slice none (0 : Nat) (0 : Nat)), .v (I 0), .v (I 0), .v (I 0), .v (I 0), .v (I 0), .v (I 0), .v (I 0), .v (I 0)], [.v (S (dt ((8 : Nat) * (sm t).toNat) (dt (4 : Nat) (dt (4 : Nat) (dt (4 : Nat) (dt (1 : Nat) (dt (1 : Nat) t)))))))], [.row 0, .v (I r1), .v (I r2), .v (I r3), .v (I r4), .v (I r5), .v (I r6), .v (I r7), .v (I r8)]], [true, true, true], [.live ⟨49, kPh, L ++ (one [Dat.l (Value.slice none (0 : Nat) (0 : Nat)) (ptsP (sm t).toNat (dt (4 : Nat) (dt (4 : Nat) (dt (4 : Nat) (dt (1 : Nat) (dt (1 : Nat) t)))))), Dat.n (sm (dt (1 : Nat) t)), Dat.n (wd (dt (1 : Nat) (dt (1 : Nat) t))), Dat.n (wd (dt (4 : Nat) (dt (1 : Nat) (dt (1 : Nat) t)))), Dat.n (wd (dt (4 : Nat) (dt (4 : Nat) (dt (1 : Nat) (dt (1 : Nat) t)))))]), true, false⟩]⟩) KTo else none)) else none) else none) else none) else none) else none) else none) else some ((.exit 0), mk (xTo (.exit 0)) [.ptr 0 0, .ptr 1 0] ⟨[[.v (Value.slice none (0 : Nat) (0 : Nat)), .v (I 0), .v (I 0), .v (I 0), .v (I 0), .v (I 0), .v (I 0), .v (I 0), .v (I 0)], [.row 0, .v (I r1), .v (I r2), .v (I r3), .v (I r4), .v (I r5), .v (I r6), .v (I r7), .v (I r8)]], [true, true], [.live ⟨49, kPh, L, true, false⟩]⟩)) := by kernel_rfl
noncomputable def ETo1 (n : Nat) (t : ByteArray) (r1 : Int) (r2 : Int) (r3 : Int) (r4 : Int) (r5 : Int) (r6 : Int) (r7 : Int) (r8 : Int) (mm : Int) (ii : Int) (L : List (List Dat)) : Option (Ex × St) :=
  evLoop Γt3 Tryz.prog ΛTi (cutC 0 0 kTo) bdTo n (mk kTo [.ptr 0 0, .ptr 1 0, .ptr 2 0, .v (I mm), .v (I ii)] ⟨[[.v (.slice none 0 0), .v (I 0), .v (I 0), .v (I 0), .v (I 0), .v (I 0), .v (I 0), .v (I 0), .v (I 0)], [.v (S t)], [.row 0, .v (I r1), .v (I r2), .v (I r3), .v (I r4), .v (I r5), .v (I r6), .v (I r7), .v (I r8)]], [true, true, true], [rH L true false]⟩) KTo
/-- A loop that reads phases, where there are some already. -/
theorem phLoop {α : Type} (mm : Int) (hc : mm ≤ 255) (E : Nat → ByteArray → Int → List (List Dat) → Option α) (X : ByteArray → List (List Dat) → Option α) (he : ∀ n t k A, ¬ k < mm → E (n + 1) t k A = X t A)
    (hr : ∀ n t k A, 0 ≤ k → k < mm → lenP t ≤ t.size → t.size ≤ 1000000 → A.length ≤ 255 → E (n + 1) t k A = E n (dt (lenP t) t) (k + 1) (A ++ [phP sgn t])) :
    ∀ (q : Nat) (t : ByteArray) (k : Int) (A : List (List Dat)), 0 ≤ k → k + q = mm → fitP q t = true → t.size ≤ 1000000 → (A.length : Int) ≤ k → E (q + 1) t k A = X (restP q t) (A ++ phsP sgn q t) := by
  intro m
  induction m with
  | zero =>
    intro t k A h0 h1 h2 h3 h4
    rw [he 0 t k A (by omega)]
    show X t A = X t (A ++ [])
    rw [List.append_nil]
  | succ m ih =>
    intro t k A h0 h1 h2 h3 h4
    rw [fitP, Bool.and_eq_true] at h2
    have hl := Nat.le_of_ble_eq_true h2.1
    rw [hr (m + 1) t k A h0 (by omega) hl h3 (by omega), ih (dt (lenP t) t) (k + 1) _ (by omega) (by omega) h2.2 (by rw [dt_size]; omega) (by rw [List.length_append, List.length_singleton]; omega), phsP, restP, List.append_assoc]
    rfl
theorem szS_dt (k : Nat) {t : ByteArray} (h : t.size ≤ 1000000) : szS (dt k t) = true := szS_of (by rw [dt_size]; omega)
theorem okTi_of {t : ByteArray} (h : lenP t ≤ t.size) (hs : t.size ≤ 1000000) : okTi (dt 14 t) (by1 t : Int) 0 = true := by
  have hb := by1_lt t
  unfold lenP at h
  unfold okTi
  rw [decide_eq_true (show (0 : Int) ≤ (by1 t : Int) ∧ (by1 t : Int) ≤ 255 by omega), Int.toNat_natCast, Nat.ble_eq_true_of_le (show 8 * by1 t ≤ (dt 14 t).size by rw [dt_size]; omega), Nat.ble_eq_true_of_le (show (dt 14 t).size ≤ 1000000 by rw [dt_size]; omega)]
  rfl
theorem phP_0 {t : ByteArray} (h : by1 t = 0) : phP sgn t = [.l (.slice none 0 0) [], .n (by1 (dt 1 t) : Int), .n (sgn (num4s (dt 2 t))), .n (sgn (num4s (dt 6 t))), .n (sgn (num4s (dt 10 t)))] := by
  unfold phP
  rw [h]
  rfl
theorem stepTo1' (t : ByteArray) (r1 : Int) (r2 : Int) (r3 : Int) (r4 : Int) (r5 : Int) (r6 : Int) (r7 : Int) (r8 : Int) (mm : Int) (ii : Int) (L : List (List Dat)) (n : Nat) (h0 : 0 ≤ ii) (hm : mm ≤ 255) (h1 : ii < mm) (h2 : lenP t ≤ t.size) (h3 : t.size ≤ 1000000) (h4 : L.length ≤ 255) : ETo1 (n + 1) t r1 r2 r3 r4 r5 r6 r7 r8 mm ii L = ETo1 n (dt (lenP t) t) r1 r2 r3 r4 r5 r6 r7 r8 mm (ii + 1) (L ++ [phP sgn t]) := by
  have h5 : 14 ≤ t.size := by unfold lenP at h2; omega
  refine (stepTo1 t r1 r2 r3 r4 r5 r6 r7 r8 mm ii L n).trans ?_
  rw [decide_eq_true h1]
  simp only [dt_dt, Nat.reduceAdd]
  rw [szS_of (t := t) (by omega), szS_dt 1 h3, szS_dt 2 h3, szS_dt 6 h3, szS_dt 10 h3, decide_eq_true (show (1 : Int) ≤ (t.size : Int) by omega), decide_eq_true (show (1 : Int) ≤ ((dt 1 t).size : Int) by rw [dt_size]; omega), decide_eq_true (show (4 : Int) ≤ ((dt 2 t).size : Int) by rw [dt_size]; omega), decide_eq_true (show (4 : Int) ≤ ((dt 6 t).size : Int) by rw [dt_size]; omega), decide_eq_true (show (4 : Int) ≤ ((dt 10 t).size : Int) by rw [dt_size]; omega), wI_id (n := ii + 1) (by omega)]
  simp only [sm_is]
  rw [okTi_of h2 h3, wd_is (t := dt 2 t) (by rw [dt_size]; omega), wd_is (t := dt 6 t) (by rw [dt_size]; omega), wd_is (t := dt 10 t) (by rw [dt_size]; omega)]
  simp only [cond_true, Bool.and_self]
  by_cases hz : by1 t = 0
  · rw [decide_eq_true (show (by1 t : Int) ≤ 0 by omega), show lenP t = 14 by unfold lenP; omega, phP_0 hz]
    rw [decide_eq_true (show (L.length + (one [Dat.l (Value.slice none 0 0) [], Dat.n (by1 (dt 1 t) : Int), Dat.n (sgn (num4s (dt 2 t))), Dat.n (sgn (num4s (dt 6 t))), Dat.n (sgn (num4s (dt 10 t)))]).length) * 56 ≤ 140737488355328 ∧ L.length + (one [Dat.l (Value.slice none 0 0) [], Dat.n (by1 (dt 1 t) : Int), Dat.n (sgn (num4s (dt 2 t))), Dat.n (sgn (num4s (dt 6 t))), Dat.n (sgn (num4s (dt 10 t)))]).length ≤ 9223372036854775807 by
      unfold one
      rw [List.length_singleton]
      omega)]
    rfl
  · rw [decide_eq_false (show ¬ (by1 t : Int) ≤ 0 by omega), Int.toNat_natCast]
    rw [decide_eq_true (show (L.length + (one [Dat.l (Value.slice none 0 0) (ptsP (by1 t) (dt 14 t)), Dat.n (by1 (dt 1 t) : Int), Dat.n (sgn (num4s (dt 2 t))), Dat.n (sgn (num4s (dt 6 t))), Dat.n (sgn (num4s (dt 10 t)))]).length) * 56 ≤ 140737488355328 ∧ L.length + (one [Dat.l (Value.slice none 0 0) (ptsP (by1 t) (dt 14 t)), Dat.n (by1 (dt 1 t) : Int), Dat.n (sgn (num4s (dt 2 t))), Dat.n (sgn (num4s (dt 6 t))), Dat.n (sgn (num4s (dt 10 t)))]).length ≤ 9223372036854775807 by
      unfold one
      rw [List.length_singleton]
      omega)]
    rfl
theorem stepTo0' (t : ByteArray) (r1 : Int) (r2 : Int) (r3 : Int) (r4 : Int) (r5 : Int) (r6 : Int) (r7 : Int) (r8 : Int) (mm : Int) (ii : Int) (n : Nat) (h0 : 0 ≤ ii) (hm : mm ≤ 255) (h1 : ii < mm) (h2 : lenP t ≤ t.size) (h3 : t.size ≤ 1000000) : ETo0 (n + 1) t r1 r2 r3 r4 r5 r6 r7 r8 mm ii = ETo1 n (dt (lenP t) t) r1 r2 r3 r4 r5 r6 r7 r8 mm (ii + 1) [phP sgn t] := by
  have h5 : 14 ≤ t.size := by unfold lenP at h2; omega
  refine (stepTo0 t r1 r2 r3 r4 r5 r6 r7 r8 mm ii n).trans ?_
  rw [decide_eq_true h1]
  simp only [dt_dt, Nat.reduceAdd]
  rw [szS_of (t := t) (by omega), szS_dt 1 h3, szS_dt 2 h3, szS_dt 6 h3, szS_dt 10 h3, decide_eq_true (show (1 : Int) ≤ (t.size : Int) by omega), decide_eq_true (show (1 : Int) ≤ ((dt 1 t).size : Int) by rw [dt_size]; omega), decide_eq_true (show (4 : Int) ≤ ((dt 2 t).size : Int) by rw [dt_size]; omega), decide_eq_true (show (4 : Int) ≤ ((dt 6 t).size : Int) by rw [dt_size]; omega), decide_eq_true (show (4 : Int) ≤ ((dt 10 t).size : Int) by rw [dt_size]; omega), wI_id (n := ii + 1) (by omega)]
  simp only [sm_is]
  rw [okTi_of h2 h3, wd_is (t := dt 2 t) (by rw [dt_size]; omega), wd_is (t := dt 6 t) (by rw [dt_size]; omega), wd_is (t := dt 10 t) (by rw [dt_size]; omega)]
  simp only [cond_true, Bool.and_self]
  by_cases hz : by1 t = 0
  · rw [decide_eq_true (show (by1 t : Int) ≤ 0 by omega), show lenP t = 14 by unfold lenP; omega, phP_0 hz]
    rfl
  · rw [decide_eq_false (show ¬ (by1 t : Int) ≤ 0 by omega), Int.toNat_natCast]
    rfl
theorem loopTo1 (r1 : Int) (r2 : Int) (r3 : Int) (r4 : Int) (r5 : Int) (r6 : Int) (r7 : Int) (r8 : Int) (mm : Int) (hm : mm ≤ 255) : ∀ (q : Nat) (t : ByteArray) (k : Int) (L : List (List Dat)), 0 ≤ k → k + q = mm → fitP q t = true → t.size ≤ 1000000 → (L.length : Int) ≤ k → ETo1 (q + 1) t r1 r2 r3 r4 r5 r6 r7 r8 mm k L = some (.exit 0, mk (xTo (.exit 0)) [.ptr 0 0, .ptr 1 0] ⟨[[.v (.slice none 0 0), .v (I 0), .v (I 0), .v (I 0), .v (I 0), .v (I 0), .v (I 0), .v (I 0), .v (I 0)], [.row 0, .v (I r1), .v (I r2), .v (I r3), .v (I r4), .v (I r5), .v (I r6), .v (I r7), .v (I r8)]], [true, true], [rH (L ++ phsP sgn q t) true false]⟩) := by
  refine phLoop mm hm (fun n t k L => ETo1 n t r1 r2 r3 r4 r5 r6 r7 r8 mm k L) (fun t L => some (.exit 0, mk (xTo (.exit 0)) [.ptr 0 0, .ptr 1 0] ⟨[[.v (.slice none 0 0), .v (I 0), .v (I 0), .v (I 0), .v (I 0), .v (I 0), .v (I 0), .v (I 0), .v (I 0)], [.row 0, .v (I r1), .v (I r2), .v (I r3), .v (I r4), .v (I r5), .v (I r6), .v (I r7), .v (I r8)]], [true, true], [rH (L) true false]⟩)) (fun n t k L hk => ?_) (fun n t k L h0 h1 h2 h3 h4 => stepTo1' t r1 r2 r3 r4 r5 r6 r7 r8 mm k L n h0 hm h1 h2 h3 h4)
  refine (stepTo1 t r1 r2 r3 r4 r5 r6 r7 r8 mm k L n).trans ?_
  rw [decide_eq_false hk]
  rfl
theorem loopTo0 (r1 : Int) (r2 : Int) (r3 : Int) (r4 : Int) (r5 : Int) (r6 : Int) (r7 : Int) (r8 : Int) (mm : Int) (hm : mm ≤ 255) (h0 : 0 ≤ mm) (t : ByteArray) (hf : fitP mm.toNat t = true) (hs : t.size ≤ 1000000) : ∃ q, ETo0 q t r1 r2 r3 r4 r5 r6 r7 r8 mm 0 = some (bif decide (mm ≤ 0) then (.exit 0, mk (xTo (.exit 0)) [.ptr 0 0, .ptr 1 0] ⟨[[.v (.slice none 0 0), .v (I 0), .v (I 0), .v (I 0), .v (I 0), .v (I 0), .v (I 0), .v (I 0), .v (I 0)], [.v (.slice none 0 0), .v (I r1), .v (I r2), .v (I r3), .v (I r4), .v (I r5), .v (I r6), .v (I r7), .v (I r8)]], [true, true], []⟩) else (.exit 0, mk (xTo (.exit 0)) [.ptr 0 0, .ptr 1 0] ⟨[[.v (.slice none 0 0), .v (I 0), .v (I 0), .v (I 0), .v (I 0), .v (I 0), .v (I 0), .v (I 0), .v (I 0)], [.row 0, .v (I r1), .v (I r2), .v (I r3), .v (I r4), .v (I r5), .v (I r6), .v (I r7), .v (I r8)]], [true, true], [rH (phsP sgn mm.toNat t) true false]⟩)) := by
  by_cases hz : mm ≤ 0
  · refine ⟨1, (stepTo0 t r1 r2 r3 r4 r5 r6 r7 r8 mm 0 0).trans ?_⟩
    rw [decide_eq_false (show ¬ (0 : Int) < mm by omega), decide_eq_true hz]
    rfl
  · obtain ⟨q, hq⟩ : ∃ q : Nat, mm = (q : Int) + 1 := ⟨(mm - 1).toNat, by omega⟩
    have hq' : mm.toNat = q + 1 := by omega
    rw [hq'] at hf ⊢
    rw [fitP, Bool.and_eq_true] at hf
    refine ⟨q + 2, (stepTo0' t r1 r2 r3 r4 r5 r6 r7 r8 mm 0 (q + 1) (by omega) hm (by omega) (Nat.le_of_ble_eq_true hf.1) hs).trans ?_⟩
    rw [decide_eq_false hz]
    exact loopTo1 r1 r2 r3 r4 r5 r6 r7 r8 mm hm q (dt (lenP t) t) (0 + 1) [phP sgn t] (by omega) (by omega) hf.2 (by rw [dt_size]; omega) (by rw [List.length_singleton]; omega)
def lfTo (t : ByteArray) (r1 r2 r3 r4 r5 r6 r7 r8 mm : Int) : LT := .br (decide (mm ≤ 0)) (.leaf (.exit 0) (mk (xTo (.exit 0)) [.ptr 0 0, .ptr 1 0] ⟨[[.v (.slice none 0 0), .v (I 0), .v (I 0), .v (I 0), .v (I 0), .v (I 0), .v (I 0), .v (I 0), .v (I 0)], [.v (.slice none 0 0), .v (I r1), .v (I r2), .v (I r3), .v (I r4), .v (I r5), .v (I r6), .v (I r7), .v (I r8)]], [true, true], []⟩)) (.leaf (.exit 0) (mk (xTo (.exit 0)) [.ptr 0 0, .ptr 1 0] ⟨[[.v (.slice none 0 0), .v (I 0), .v (I 0), .v (I 0), .v (I 0), .v (I 0), .v (I 0), .v (I 0), .v (I 0)], [.row 0, .v (I r1), .v (I r2), .v (I r3), .v (I r4), .v (I r5), .v (I r6), .v (I r7), .v (I r8)]], [true, true], [rH (phsP sgn mm.toNat t) true false]⟩))
def okTo (t : ByteArray) (mm ii : Int) : Bool := ii == 0 && (decide (0 ≤ mm ∧ mm ≤ 255) && (fitP mm.toNat t && Nat.ble t.size 1000000))
def GTo2 (mm ii : Int) (m : Mem) : Option (Bool × LT) :=
  match m with
  | ⟨[[.v (.slice none 0 0), .v (.int .i64 0), .v (.int .i64 0), .v (.int .i64 0), .v (.int .i64 0), .v (.int .i64 0), .v (.int .i64 0), .v (.int .i64 0), .v (.int .i64 0)], [.v (.string t)], [.v (.slice none 0 0), .v (.int .i64 r1), .v (.int .i64 r2), .v (.int .i64 r3), .v (.int .i64 r4), .v (.int .i64 r5), .v (.int .i64 r6), .v (.int .i64 r7), .v (.int .i64 r8)]], [true, true, true], []⟩ => some (okTo t mm ii, lfTo t r1 r2 r3 r4 r5 r6 r7 r8 mm)
  | _ => none
def GTo (vals : List SV) (m : Mem) : Option (Bool × LT) :=
  match vals with
  | [.ptr 0 0, .ptr 1 0, .ptr 2 0, .v (.int .i64 mm), .v (.int .i64 ii)] => GTo2 mm ii m
  | _ => none
noncomputable def ΛTo : LoopOrc := fun _ st => viaT 0 0 kTo GTo st
theorem loopsTo : loopsOf (Tryz.f40.body.getD .skip) = [bdTo] := by kernel_rfl
theorem loopOkTo (z : Base) (z1 : z.L.length = 0) (z2 : z.U.length = 0) : LoopOk ΛTo Tryz.prog z bdTo := by
  refine loop_okT (Λ := ΛTi) (kx := xTo) Okt3 mixed z1 z2 (oneLoop loopsTi (loopOkTi z z1 z2)) (G := GTo) (fun _ => rfl) ?_
  intro vals m t h
  unfold GTo at h
  split at h
  case h_2 => cases h
  rename_i mm ii
  unfold GTo2 at h
  split at h
  case h_2 => cases h
  rename_i t r1 r2 r3 r4 r5 r6 r7 r8
  obtain ⟨h1, rfl⟩ := some_t h
  unfold okTo at h1
  simp only [Bool.and_eq_true, beq_iff_eq, decide_eq_true_eq] at h1
  obtain ⟨rfl, h1, h2, h3⟩ := h1
  obtain ⟨q, hq⟩ := loopTo0 r1 r2 r3 r4 r5 r6 r7 r8 mm h1.2 h1.1 t h2 (Nat.le_of_ble_eq_true h3)
  refine ⟨q, hq.trans ?_⟩
  unfold lfTo
  cases decide (mm ≤ 0) <;> rfl
set_option maxRecDepth 20000 in
theorem runTol (s : ByteArray) : runG Γt3 ΛTo Tryz.prog Tryz.f40 [.v (S s)] M0 = 
    (bif true && (decide ((4 : Int) ≤ (s.size : Int)) && decide ((s.size : Int) ≤ (s.size : Int))) then (bif szS (dt 4 s) && decide ((1 : Int) ≤ ((dt 4 s).size : Int)) then (bif szS (dt (1 : Nat) (dt 4 s)) && decide ((1 : Int) ≤ ((dt (1 : Nat) (dt 4 s)).size : Int)) then (bif szS (dt (1 : Nat) (dt (1 : Nat) (dt 4 s))) && decide ((1 : Int) ≤ ((dt (1 : Nat) (dt (1 : Nat) (dt 4 s))).size : Int)) then (bif szS (dt (1 : Nat) (dt (1 : Nat) (dt (1 : Nat) (dt 4 s)))) && decide ((1 : Int) ≤ ((dt (1 : Nat) (dt (1 : Nat) (dt (1 : Nat) (dt 4 s)))).size : Int)) then (bif szS (dt (1 : Nat) (dt (1 : Nat) (dt (1 : Nat) (dt (1 : Nat) (dt 4 s))))) && decide ((1 : Int) ≤ ((dt (1 : Nat) (dt (1 : Nat) (dt (1 : Nat) (dt (1 : Nat) (dt 4 s))))).size : Int)) then (bif szS (dt (1 : Nat) (dt (1 : Nat) (dt (1 : Nat) (dt (1 : Nat) (dt (1 : Nat) (dt 4 s)))))) && decide ((1 : Int) ≤ ((dt (1 : Nat) (dt (1 : Nat) (dt (1 : Nat) (dt (1 : Nat) (dt (1 : Nat) (dt 4 s)))))).size : Int)) then (bif szS (dt (1 : Nat) (dt (1 : Nat) (dt (1 : Nat) (dt (1 : Nat) (dt (1 : Nat) (dt (1 : Nat) (dt 4 s))))))) && decide ((4 : Int) ≤ ((dt (1 : Nat) (dt (1 : Nat) (dt (1 : Nat) (dt (1 : Nat) (dt (1 : Nat) (dt (1 : Nat) (dt 4 s))))))).size : Int)) then (bif szS (dt (4 : Nat) (dt (1 : Nat) (dt (1 : Nat) (dt (1 : Nat) (dt (1 : Nat) (dt (1 : Nat) (dt (1 : Nat) (dt 4 s)))))))) && decide ((4 : Int) ≤ ((dt (4 : Nat) (dt (1 : Nat) (dt (1 : Nat) (dt (1 : Nat) (dt (1 : Nat) (dt (1 : Nat) (dt (1 : Nat) (dt 4 s)))))))).size : Int)) then (bif szS (dt (4 : Nat) (dt (4 : Nat) (dt (1 : Nat) (dt (1 : Nat) (dt (1 : Nat) (dt (1 : Nat) (dt (1 : Nat) (dt (1 : Nat) (dt 4 s))))))))) && decide ((4 : Int) ≤ ((dt (4 : Nat) (dt (4 : Nat) (dt (1 : Nat) (dt (1 : Nat) (dt (1 : Nat) (dt (1 : Nat) (dt (1 : Nat) (dt (1 : Nat) (dt 4 s))))))))).size : Int)) then (bif okTo (dt (4 : Nat) (dt (4 : Nat) (dt (4 : Nat) (dt (1 : Nat) (dt (1 : Nat) (dt (1 : Nat) (dt (1 : Nat) (dt (1 : Nat) (dt (1 : Nat) (dt 4 s)))))))))) (sm (dt 4 s)) (0 : Int) then (bif decide (sm (dt 4 s) ≤ (0 : Int)) then some (.v (.agg #[(Value.slice none (0 : Nat) (0 : Nat)), (I (sm (dt (1 : Nat) (dt 4 s)))), (I (sm (dt (1 : Nat) (dt (1 : Nat) (dt 4 s))))), (I (sm (dt (1 : Nat) (dt (1 : Nat) (dt (1 : Nat) (dt 4 s)))))), (I (wd (dt (1 : Nat) (dt (1 : Nat) (dt (1 : Nat) (dt (1 : Nat) (dt (1 : Nat) (dt (1 : Nat) (dt 4 s))))))))), (I (wd (dt (4 : Nat) (dt (1 : Nat) (dt (1 : Nat) (dt (1 : Nat) (dt (1 : Nat) (dt (1 : Nat) (dt (1 : Nat) (dt 4 s)))))))))), (I (sm (dt (1 : Nat) (dt (1 : Nat) (dt (1 : Nat) (dt (1 : Nat) (dt 4 s))))))), (I (wd (dt (4 : Nat) (dt (4 : Nat) (dt (1 : Nat) (dt (1 : Nat) (dt (1 : Nat) (dt (1 : Nat) (dt (1 : Nat) (dt (1 : Nat) (dt 4 s))))))))))), (I (sm (dt (1 : Nat) (dt (1 : Nat) (dt (1 : Nat) (dt (1 : Nat) (dt (1 : Nat) (dt 4 s))))))))]), M0) else some (.ag [.row 0, .v (I (sm (dt (1 : Nat) (dt 4 s)))), .v (I (sm (dt (1 : Nat) (dt (1 : Nat) (dt 4 s))))), .v (I (sm (dt (1 : Nat) (dt (1 : Nat) (dt (1 : Nat) (dt 4 s)))))), .v (I (wd (dt (1 : Nat) (dt (1 : Nat) (dt (1 : Nat) (dt (1 : Nat) (dt (1 : Nat) (dt (1 : Nat) (dt 4 s))))))))), .v (I (wd (dt (4 : Nat) (dt (1 : Nat) (dt (1 : Nat) (dt (1 : Nat) (dt (1 : Nat) (dt (1 : Nat) (dt (1 : Nat) (dt 4 s)))))))))), .v (I (sm (dt (1 : Nat) (dt (1 : Nat) (dt (1 : Nat) (dt (1 : Nat) (dt 4 s))))))), .v (I (wd (dt (4 : Nat) (dt (4 : Nat) (dt (1 : Nat) (dt (1 : Nat) (dt (1 : Nat) (dt (1 : Nat) (dt (1 : Nat) (dt (1 : Nat) (dt 4 s))))))))))), .v (I (sm (dt (1 : Nat) (dt (1 : Nat) (dt (1 : Nat) (dt (1 : Nat) (dt (1 : Nat) (dt 4 s))))))))], ⟨[], [], [.live ⟨49, kPh, phsP sgn (sm (dt 4 s)).toNat (dt (4 : Nat) (dt (4 : Nat) (dt (4 : Nat) (dt (1 : Nat) (dt (1 : Nat) (dt (1 : Nat) (dt (1 : Nat) (dt (1 : Nat) (dt (1 : Nat) (dt 4 s)))))))))), true, false⟩]⟩)) else none) else none) else none) else none) else none) else none) else none) else none) else none) else none) else none) := by kernel_rfl
def toldOk (s : ByteArray) : Bool := decide (22 ≤ s.size) && (Nat.ble s.size 1000000 && fitP (by1 (dt 4 s)) (dt 22 s))
theorem tolTree (s : ByteArray) (h : toldOk s = true) : runG Γt3 ΛTo Tryz.prog Tryz.f40 [.v (S s)] M0 = bif decide ((by1 (dt 4 s) : Int) ≤ 0) then some (.v (.agg #[.slice none 0 0, (I (by1 (dt 5 s) : Int)), (I (by1 (dt 6 s) : Int)), (I (by1 (dt 7 s) : Int)), (I (sgn (num4s (dt 10 s)) : Int)), (I (sgn (num4s (dt 14 s)) : Int)), (I (by1 (dt 8 s) : Int)), (I (sgn (num4s (dt 18 s)) : Int)), (I (by1 (dt 9 s) : Int))]), M0) else some (.ag [.row 0, .v (I (by1 (dt 5 s) : Int)), .v (I (by1 (dt 6 s) : Int)), .v (I (by1 (dt 7 s) : Int)), .v (I (sgn (num4s (dt 10 s)) : Int)), .v (I (sgn (num4s (dt 14 s)) : Int)), .v (I (by1 (dt 8 s) : Int)), .v (I (sgn (num4s (dt 18 s)) : Int)), .v (I (by1 (dt 9 s) : Int))], ⟨[], [], [rH (phsP sgn (by1 (dt 4 s)) (dt 22 s)) true false]⟩) := by
  unfold toldOk at h
  simp only [Bool.and_eq_true, decide_eq_true_eq] at h
  obtain ⟨h1, h2, h3⟩ := h
  have h2 := Nat.le_of_ble_eq_true h2
  have hb := by1_lt (dt 4 s)
  refine (runTol s).trans ?_
  generalize hX : (bif decide ((by1 (dt 4 s) : Int) ≤ 0) then some (SV.v (.agg #[.slice none 0 0, (I (by1 (dt 5 s) : Int)), (I (by1 (dt 6 s) : Int)), (I (by1 (dt 7 s) : Int)), (I (sgn (num4s (dt 10 s)) : Int)), (I (sgn (num4s (dt 14 s)) : Int)), (I (by1 (dt 8 s) : Int)), (I (sgn (num4s (dt 18 s)) : Int)), (I (by1 (dt 9 s) : Int))]), (M0 : Mem)) else some (.ag [.row 0, .v (I (by1 (dt 5 s) : Int)), .v (I (by1 (dt 6 s) : Int)), .v (I (by1 (dt 7 s) : Int)), .v (I (sgn (num4s (dt 10 s)) : Int)), .v (I (sgn (num4s (dt 14 s)) : Int)), .v (I (by1 (dt 8 s) : Int)), .v (I (sgn (num4s (dt 18 s)) : Int)), .v (I (by1 (dt 9 s) : Int))], ⟨[], [], [rH (phsP sgn (by1 (dt 4 s)) (dt 22 s)) true false]⟩)) = X
  simp only [dt_dt, Nat.reduceAdd, sm_is]
  have a0 : decide ((4 : Int) ≤ (s.size : Int)) = true := decide_eq_true (by omega)
  have a9 : decide ((s.size : Int) ≤ (s.size : Int)) = true := decide_eq_true (by omega)
  have b4 : decide ((1 : Int) ≤ ((dt 4 s).size : Int)) = true := decide_eq_true (by rw [dt_size]; omega)
  have b5 : decide ((1 : Int) ≤ ((dt 5 s).size : Int)) = true := decide_eq_true (by rw [dt_size]; omega)
  have b6 : decide ((1 : Int) ≤ ((dt 6 s).size : Int)) = true := decide_eq_true (by rw [dt_size]; omega)
  have b7 : decide ((1 : Int) ≤ ((dt 7 s).size : Int)) = true := decide_eq_true (by rw [dt_size]; omega)
  have b8 : decide ((1 : Int) ≤ ((dt 8 s).size : Int)) = true := decide_eq_true (by rw [dt_size]; omega)
  have b9 : decide ((1 : Int) ≤ ((dt 9 s).size : Int)) = true := decide_eq_true (by rw [dt_size]; omega)
  have b10 : decide ((4 : Int) ≤ ((dt 10 s).size : Int)) = true := decide_eq_true (by rw [dt_size]; omega)
  have b14 : decide ((4 : Int) ≤ ((dt 14 s).size : Int)) = true := decide_eq_true (by rw [dt_size]; omega)
  have b18 : decide ((4 : Int) ≤ ((dt 18 s).size : Int)) = true := decide_eq_true (by rw [dt_size]; omega)
  have c10 : wd (dt 10 s) = sgn (num4s (dt 10 s)) := wd_is (by rw [dt_size]; omega)
  have c14 : wd (dt 14 s) = sgn (num4s (dt 14 s)) := wd_is (by rw [dt_size]; omega)
  have c18 : wd (dt 18 s) = sgn (num4s (dt 18 s)) := wd_is (by rw [dt_size]; omega)
  have d : okTo (dt 22 s) (by1 (dt 4 s) : Int) 0 = true := by
    unfold okTo
    rw [decide_eq_true (show (0 : Int) ≤ (by1 (dt 4 s) : Int) ∧ (by1 (dt 4 s) : Int) ≤ 255 by omega), Int.toNat_natCast, h3, Nat.ble_eq_true_of_le (show (dt 22 s).size ≤ 1000000 by rw [dt_size]; omega)]
    rfl
  simp only [szS_dt 4 h2, szS_dt 5 h2, szS_dt 6 h2, szS_dt 7 h2, szS_dt 8 h2, szS_dt 9 h2, szS_dt 10 h2, szS_dt 14 h2, szS_dt 18 h2, a0, a9, b4, b5, b6, b7, b8, b9, b10, b14, b18, c10, c14, c18, d, Int.toNat_natCast, cond_true, Bool.and_self]
  exact hX
def gTo0 (xs : List SV) (m : Mem) : Option (Bool × SV × Mem) :=
  match xs, m with
  | [.v (.string s)], ⟨[], [], []⟩ => some (toldOk s && decide ((by1 (dt 4 s) : Int) ≤ 0), .v (.agg #[.slice none 0 0, (I (by1 (dt 5 s) : Int)), (I (by1 (dt 6 s) : Int)), (I (by1 (dt 7 s) : Int)), (I (sgn (num4s (dt 10 s)) : Int)), (I (sgn (num4s (dt 14 s)) : Int)), (I (by1 (dt 8 s) : Int)), (I (sgn (num4s (dt 18 s)) : Int)), (I (by1 (dt 9 s) : Int))]), M0)
  | _, _ => none
theorem gTo0_ok : ∀ xs m r m', gTo0 xs m = some (true, r, m') → CallOk Tryz.prog 40 xs m r m' := by
  intro xs m r m' h
  unfold gTo0 at h
  split at h
  · rename_i s
    obtain ⟨h1, rfl, rfl⟩ := some_t2 h
    rw [Bool.and_eq_true] at h1
    refine runOk (Λ := ΛTo) Okt3 Tryz.func40 rfl (fun z z1 z2 => oneLoop loopsTo (loopOkTo z z1 z2)) ?_
    refine (tolTree s h1.1).trans ?_
    have h2 := h1.2
    rw [h2]
    rfl
    
  · cases h
noncomputable def Γtd0 : Orc := addCl 40 gTo0 Γt3
theorem Oktd0 : Γtd0.Ok Tryz.prog := addCl_ok Okt3 gTo0_ok
def gTo1 (xs : List SV) (m : Mem) : Option (Bool × SV × Mem) :=
  match xs, m with
  | [.v (.string s)], ⟨[], [], []⟩ => some (toldOk s && !decide ((by1 (dt 4 s) : Int) ≤ 0), .ag [.row 0, .v (I (by1 (dt 5 s) : Int)), .v (I (by1 (dt 6 s) : Int)), .v (I (by1 (dt 7 s) : Int)), .v (I (sgn (num4s (dt 10 s)) : Int)), .v (I (sgn (num4s (dt 14 s)) : Int)), .v (I (by1 (dt 8 s) : Int)), .v (I (sgn (num4s (dt 18 s)) : Int)), .v (I (by1 (dt 9 s) : Int))], ⟨[], [], [rH (phsP sgn (by1 (dt 4 s)) (dt 22 s)) true false]⟩)
  | _, _ => none
theorem gTo1_ok : ∀ xs m r m', gTo1 xs m = some (true, r, m') → CallOk Tryz.prog 40 xs m r m' := by
  intro xs m r m' h
  unfold gTo1 at h
  split at h
  · rename_i s
    obtain ⟨h1, rfl, rfl⟩ := some_t2 h
    rw [Bool.and_eq_true] at h1
    refine runOk (Λ := ΛTo) Okt3 Tryz.func40 rfl (fun z z1 z2 => oneLoop loopsTo (loopOkTo z z1 z2)) ?_
    refine (tolTree s h1.1).trans ?_
    have h2 := h1.2
    rw [Bool.not_eq_true'] at h2
    rw [h2]
    rfl
  · cases h
noncomputable def Γtd1 : Orc := addCl 40 gTo1 Γt3
theorem Oktd1 : Γtd1.Ok Tryz.prog := addCl_ok Okt3 gTo1_ok
set_option maxRecDepth 20000 in
theorem runRd0 (s : ByteArray) : runG Γtd0 L0 Tryz.prog Tryz.f21 [.v (S s)] M0 = 
    (bif true && (decide ((0 : Int) ≤ if (4 : Int) < (s.size : Int) then (4 : Int) else (s.size : Int)) && decide ((if (4 : Int) < (s.size : Int) then (4 : Int) else (s.size : Int)) ≤ (4 : Int))) then (bif !hasP s ({ data := #[65, 70, 84, 85] : ByteArray }.extract (0 : Nat) (if (4 : Int) < (s.size : Int) then (4 : Int) else (s.size : Int)).toNat) then some (.v (.tuple #[(.agg #[(Value.slice none (0 : Nat) (0 : Nat)), (I 0), (I 0), (I 0), (I 0), (I 0), (I 0), (I 0), (I 0)]), (I 3)]), M0) else (bif s.size.ble (1000000) then (bif decide ((s.size : Int) < ((askN s) : Int)) then some (.v (.tuple #[(.agg #[(Value.slice none (0 : Nat) (0 : Nat)), (I 0), (I 0), (I 0), (I 0), (I 0), (I 0), (I 0), (I 0)]), (I 5)]), M0) else (bif decide ((s.size : Int) > ((askN s) : Int)) then some (.v (.tuple #[(.agg #[(Value.slice none (0 : Nat) (0 : Nat)), (I 0), (I 0), (I 0), (I 0), (I 0), (I 0), (I 0), (I 0)]), (I 3)]), M0) else (bif true && (decide ((0 : Int) ≤ wI (((askN s) : Int) - (4 : Int))) && decide (wI (((askN s) : Int) - (4 : Int)) ≤ (s.size : Int))) then (bif szS (s.extract (0 : Nat) (wI (((askN s) : Int) - (4 : Int))).toNat) then (bif szS s then (bif sum32 (s.extract (0 : Nat) (wI (((askN s) : Int) - (4 : Int))).toNat) != ((sumN s) : Int) then some (.v (.tuple #[(.agg #[(Value.slice none (0 : Nat) (0 : Nat)), (I 0), (I 0), (I 0), (I 0), (I 0), (I 0), (I 0), (I 0)]), (I 4)]), M0) else (bif toldOk s && decide (((by1 (dt (4 : Nat) s)) : Int) ≤ (0 : Int)) then some (.v (.tuple #[(.agg #[(Value.slice none (0 : Nat) (0 : Nat)), (I 0), (I 0), (I 0), (I 0), (I 0), (I 0), (I 0), (I 0)]), (I 3)]), M0) else none)) else none) else none) else none))) else none)) else none) := by kernel_rfl
set_option maxRecDepth 20000 in
theorem runRd1 (s : ByteArray) : runG Γtd1 L0 Tryz.prog Tryz.f21 [.v (S s)] M0 = 
    (bif true && (decide ((0 : Int) ≤ if (4 : Int) < (s.size : Int) then (4 : Int) else (s.size : Int)) && decide ((if (4 : Int) < (s.size : Int) then (4 : Int) else (s.size : Int)) ≤ (4 : Int))) then (bif !hasP s ({ data := #[65, 70, 84, 85] : ByteArray }.extract (0 : Nat) (if (4 : Int) < (s.size : Int) then (4 : Int) else (s.size : Int)).toNat) then some (.v (.tuple #[(.agg #[(Value.slice none (0 : Nat) (0 : Nat)), (I 0), (I 0), (I 0), (I 0), (I 0), (I 0), (I 0), (I 0)]), (I 3)]), M0) else (bif s.size.ble (1000000) then (bif decide ((s.size : Int) < ((askN s) : Int)) then some (.v (.tuple #[(.agg #[(Value.slice none (0 : Nat) (0 : Nat)), (I 0), (I 0), (I 0), (I 0), (I 0), (I 0), (I 0), (I 0)]), (I 5)]), M0) else (bif decide ((s.size : Int) > ((askN s) : Int)) then some (.v (.tuple #[(.agg #[(Value.slice none (0 : Nat) (0 : Nat)), (I 0), (I 0), (I 0), (I 0), (I 0), (I 0), (I 0), (I 0)]), (I 3)]), M0) else (bif true && (decide ((0 : Int) ≤ wI (((askN s) : Int) - (4 : Int))) && decide (wI (((askN s) : Int) - (4 : Int)) ≤ (s.size : Int))) then (bif szS (s.extract (0 : Nat) (wI (((askN s) : Int) - (4 : Int))).toNat) then (bif szS s then (bif sum32 (s.extract (0 : Nat) (wI (((askN s) : Int) - (4 : Int))).toNat) != ((sumN s) : Int) then some (.v (.tuple #[(.agg #[(Value.slice none (0 : Nat) (0 : Nat)), (I 0), (I 0), (I 0), (I 0), (I 0), (I 0), (I 0), (I 0)]), (I 4)]), M0) else (bif toldOk s && !decide (((by1 (dt (4 : Nat) s)) : Int) ≤ (0 : Int)) then (bif phOk (phsP sgn (by1 (dt (4 : Nat) s)) (dt (22 : Nat) s)) then (bif !wrB (phsP sgn (by1 (dt (4 : Nat) s)) (dt (22 : Nat) s)) (((by1 (dt (5 : Nat) s)) : Int)) (((by1 (dt (6 : Nat) s)) : Int)) (((by1 (dt (7 : Nat) s)) : Int)) (sgn (num4s (dt (10 : Nat) s))) (sgn (num4s (dt (14 : Nat) s))) (((by1 (dt (8 : Nat) s)) : Int)) (sgn (num4s (dt (18 : Nat) s))) ((by1 (dt (9 : Nat) s)) : Int) == (0 : Int) then some (.v (.tuple #[(.agg #[(Value.slice none (0 : Nat) (0 : Nat)), (I 0), (I 0), (I 0), (I 0), (I 0), (I 0), (I 0), (I 0)]), (I 3)]), M0) else some (.tup [.ag [.row 0, .v (I (((by1 (dt (5 : Nat) s)) : Int))), .v (I (((by1 (dt (6 : Nat) s)) : Int))), .v (I (((by1 (dt (7 : Nat) s)) : Int))), .v (I (sgn (num4s (dt (10 : Nat) s)))), .v (I (sgn (num4s (dt (14 : Nat) s)))), .v (I (((by1 (dt (8 : Nat) s)) : Int))), .v (I (sgn (num4s (dt (18 : Nat) s)))), .v (I (((by1 (dt (9 : Nat) s)) : Int)))], .one (.v (I 0))], ⟨[], [], [.live ⟨49, kPh, phsP sgn (by1 (dt (4 : Nat) s)) (dt (22 : Nat) s), true, false⟩]⟩)) else none) else none)) else none) else none) else none))) else none)) else none) := by kernel_rfl
def pfxB (s : ByteArray) : Bool := hasP s ({ data := #[65, 70, 84, 85] : ByteArray }.extract (0 : Nat) (if (4 : Int) < (s.size : Int) then (4 : Int) else (s.size : Int)).toNat)
/-- What a text is refused for: 0, where it isn't. -/
def rfE (s : ByteArray) : Int := bif !pfxB s then 3 else bif decide ((s.size : Int) < (askN s : Int)) then 5 else bif decide ((s.size : Int) > (askN s : Int)) then 3 else bif sum32 (s.extract 0 (askN s - 4)) != ((sumN s : Nat) : Int) then 4 else bif wrB (phsP sgn (by1 (dt 4 s)) (dt 22 s)) (((by1 (dt 5 s) : Nat) : Int)) (((by1 (dt 6 s) : Nat) : Int)) (((by1 (dt 7 s) : Nat) : Int)) (sgn (num4s (dt 10 s))) (sgn (num4s (dt 14 s))) (((by1 (dt 8 s) : Nat) : Int)) (sgn (num4s (dt 18 s))) (((by1 (dt 9 s) : Nat) : Int)) == 0 then 0 else 3
theorem phP_ok (t : ByteArray) : phOk1 (phP sgn t) = true := by
  unfold phP phOk1
  have := by1_lt t
  exact Nat.ble_eq_true_of_le (by rw [ptsP_len]; omega)
theorem phsP_all : ∀ (n : Nat) (t : ByteArray), (phsP sgn n t).all phOk1 = true
  | 0, _ => rfl
  | n + 1, t => by rw [phsP, List.all_cons, phP_ok, phsP_all n]; rfl
theorem phsP_ok {n : Nat} (h : n ≤ 1000000) (t : ByteArray) : phOk (phsP sgn n t) = true := by
  unfold phOk
  rw [phsP_all, phsP_len, Nat.ble_eq_true_of_le h]
  rfl
theorem ask_told {s : ByteArray} (hs : s.size ≤ 1000000) (h : s.size = askN s) : toldOk s = true ∧ 26 ≤ s.size := by
  have h22 : ¬ (s.size : Int) < 22 := by
    intro h'
    unfold askN at h
    rw [decide_eq_true h'] at h
    have h3 : s.size = 22 := h
    omega
  unfold askN at h
  rw [decide_eq_false h22] at h
  have h3 : s.size = 22 + needP (by1 (dt 4 s)) (dt 22 s) := h
  have hp := needP_pos (by1 (dt 4 s)) (dt 22 s)
  have hf := need_fit (by1 (dt 4 s)) (dt 22 s) (by rw [dt_size]; omega)
  unfold toldOk
  rw [decide_eq_true (show 22 ≤ s.size by omega), Nat.ble_eq_true_of_le hs, hf.1]
  exact ⟨rfl, by omega⟩
theorem askN_le (s : ByteArray) : askN s ≤ 1000000 ∧ 22 ≤ askN s := by
  unfold askN
  have := by1_lt (dt 4 s)
  have := needP_le (by1 (dt 4 s)) (dt 22 s)
  cases decide ((s.size : Int) < 22)
  · show 22 + _ ≤ _ ∧ 22 ≤ 22 + _
    omega
  · show 22 ≤ _ ∧ 22 ≤ 22
    omega
theorem min4 (s : ByteArray) : decide ((0 : Int) ≤ if (4 : Int) < (s.size : Int) then (4 : Int) else (s.size : Int)) = true ∧ decide ((if (4 : Int) < (s.size : Int) then (4 : Int) else (s.size : Int)) ≤ (4 : Int)) = true := by
  constructor <;> apply decide_eq_true <;> split <;> omega
theorem readTree0 (s : ByteArray) (hs : s.size ≤ 1000000) (hm : (by1 (dt 4 s) : Int) ≤ 0) : runG Γtd0 L0 Tryz.prog Tryz.f21 [.v (S s)] M0 = some (SV.v (.tuple #[(.agg #[(Value.slice none (0 : Nat) (0 : Nat)), (I 0), (I 0), (I 0), (I 0), (I 0), (I 0), (I 0), (I 0)]), I (rfE s)]), (M0 : Mem)) := by
  refine (runRd0 s).trans ?_
  have hb := by1_lt (dt 4 s)
  have ha := askN_le s
  have e1 : wI ((askN s : Int) - 4) = ((askN s - 4 : Nat) : Int) := by rw [wI_id (by omega)]; omega
  simp only [(min4 s).1, (min4 s).2, e1, Int.toNat_natCast, szS_of (t := s) (by omega), szS_of (t := s.extract 0 (askN s - 4)) (by rw [ByteArray.size_extract]; omega), Nat.ble_eq_true_of_le hs, cond_true, Bool.and_self]
  unfold rfE pfxB
  cases hasP s ({ data := #[65, 70, 84, 85] : ByteArray }.extract (0 : Nat) (if (4 : Int) < (s.size : Int) then (4 : Int) else (s.size : Int)).toNat)
  · rfl
  by_cases c1 : (s.size : Int) < (askN s : Int)
  · rw [decide_eq_true c1]
    rfl
  by_cases c2 : (s.size : Int) > (askN s : Int)
  · rw [decide_eq_false c1, decide_eq_true c2]
    rfl
  obtain ⟨ht, h26⟩ := ask_told hs (by omega)
  rw [decide_eq_false c1, decide_eq_false c2, decide_eq_true (show (0 : Int) ≤ ((askN s - 4 : Nat) : Int) by omega), decide_eq_true (show ((askN s - 4 : Nat) : Int) ≤ (s.size : Int) by omega), ht, decide_eq_true hm]
  cases sum32 (s.extract 0 (askN s - 4)) != ((sumN s : Nat) : Int)
  · rw [show by1 (dt 4 s) = 0 by omega]
    rfl
  · rfl
theorem readTree1 (s : ByteArray) (hs : s.size ≤ 1000000) (hm : ¬ (by1 (dt 4 s) : Int) ≤ 0) : runG Γtd1 L0 Tryz.prog Tryz.f21 [.v (S s)] M0 = bif rfE s == 0 then some (.tup [.ag [.row 0, .v (I (by1 (dt 5 s) : Int)), .v (I (by1 (dt 6 s) : Int)), .v (I (by1 (dt 7 s) : Int)), .v (I (sgn (num4s (dt 10 s)) : Int)), .v (I (sgn (num4s (dt 14 s)) : Int)), .v (I (by1 (dt 8 s) : Int)), .v (I (sgn (num4s (dt 18 s)) : Int)), .v (I (by1 (dt 9 s) : Int))], .one (.v (I 0))], ⟨[], [], [rH (phsP sgn (by1 (dt 4 s)) (dt 22 s)) true false]⟩) else some (SV.v (.tuple #[(.agg #[(Value.slice none (0 : Nat) (0 : Nat)), (I 0), (I 0), (I 0), (I 0), (I 0), (I 0), (I 0), (I 0)]), I (rfE s)]), (M0 : Mem)) := by
  refine (runRd1 s).trans ?_
  have hb := by1_lt (dt 4 s)
  have ha := askN_le s
  have e1 : wI ((askN s : Int) - 4) = ((askN s - 4 : Nat) : Int) := by rw [wI_id (by omega)]; omega
  simp only [(min4 s).1, (min4 s).2, e1, Int.toNat_natCast, szS_of (t := s) (by omega), szS_of (t := s.extract 0 (askN s - 4)) (by rw [ByteArray.size_extract]; omega), Nat.ble_eq_true_of_le hs, cond_true, Bool.and_self]
  unfold rfE pfxB
  cases hasP s ({ data := #[65, 70, 84, 85] : ByteArray }.extract (0 : Nat) (if (4 : Int) < (s.size : Int) then (4 : Int) else (s.size : Int)).toNat)
  · rfl
  by_cases c1 : (s.size : Int) < (askN s : Int)
  · rw [decide_eq_true c1]
    rfl
  by_cases c2 : (s.size : Int) > (askN s : Int)
  · rw [decide_eq_false c1, decide_eq_true c2]
    rfl
  obtain ⟨ht, h26⟩ := ask_told hs (by omega)
  rw [decide_eq_false c1, decide_eq_false c2, decide_eq_true (show (0 : Int) ≤ ((askN s - 4 : Nat) : Int) by omega), decide_eq_true (show ((askN s - 4 : Nat) : Int) ≤ (s.size : Int) by omega), ht, decide_eq_false hm, phsP_ok (by omega)]
  cases sum32 (s.extract 0 (askN s - 4)) != ((sumN s : Nat) : Int)
  · skip
    cases wrB (phsP sgn (by1 (dt 4 s)) (dt 22 s)) (((by1 (dt 5 s) : Nat) : Int)) (((by1 (dt 6 s) : Nat) : Int)) (((by1 (dt 7 s) : Nat) : Int)) (sgn (num4s (dt 10 s))) (sgn (num4s (dt 14 s))) (((by1 (dt 8 s) : Nat) : Int)) (sgn (num4s (dt 18 s))) (((by1 (dt 9 s) : Nat) : Int)) == 0 <;> rfl
  · rfl
def gRd0 (xs : List SV) (m : Mem) : Option (Bool × SV × Mem) :=
  match xs, m with
  | [.v (.string s)], ⟨[], [], []⟩ => some (Nat.ble s.size 1000000 && (!(rfE s == 0)), .v (.tuple #[(.agg #[(Value.slice none (0 : Nat) (0 : Nat)), (I 0), (I 0), (I 0), (I 0), (I 0), (I 0), (I 0), (I 0)]), I (rfE s)]), M0)
  | _, _ => none
theorem gRd0_ok : ∀ xs m r m', gRd0 xs m = some (true, r, m') → CallOk Tryz.prog 21 xs m r m' := by
  intro xs m r m' h
  unfold gRd0 at h
  split at h
  · rename_i s
    obtain ⟨h1, rfl, rfl⟩ := some_t2 h
    rw [Bool.and_eq_true] at h1
    have hs := Nat.le_of_ble_eq_true h1.1
    have h2 := h1.2
    by_cases hm : (by1 (dt 4 s) : Int) ≤ 0
    · refine runOk (Λ := L0) Oktd0 Tryz.func21 rfl (fun z _ _ => l0Ok' _ z) ?_
      have h3 := readTree0 s hs hm
      exact h3
    · refine runOk (Λ := L0) Oktd1 Tryz.func21 rfl (fun z _ _ => l0Ok' _ z) ?_
      refine (readTree1 s hs hm).trans ?_
      rw [Bool.not_eq_true'] at h2
      rw [h2]
      rfl
  · cases h
theorem rd_none {s : ByteArray} (hm : (by1 (dt 4 s) : Int) ≤ 0) : (rfE s == 0) = false := by
  unfold rfE
  rw [show by1 (dt 4 s) = 0 by omega]
  cases pfxB s
  · rfl
  cases decide ((s.size : Int) < (askN s : Int))
  case true => rfl
  cases decide ((s.size : Int) > (askN s : Int))
  case true => rfl
  cases sum32 (s.extract 0 (askN s - 4)) != ((sumN s : Nat) : Int)
  case true => rfl
  rfl
def gRd1 (xs : List SV) (m : Mem) : Option (Bool × SV × Mem) :=
  match xs, m with
  | [.v (.string s)], ⟨[], [], []⟩ => some (Nat.ble s.size 1000000 && (rfE s == 0), .tup [.ag [.row 0, .v (I (by1 (dt 5 s) : Int)), .v (I (by1 (dt 6 s) : Int)), .v (I (by1 (dt 7 s) : Int)), .v (I (sgn (num4s (dt 10 s)) : Int)), .v (I (sgn (num4s (dt 14 s)) : Int)), .v (I (by1 (dt 8 s) : Int)), .v (I (sgn (num4s (dt 18 s)) : Int)), .v (I (by1 (dt 9 s) : Int))], .one (.v (I 0))], ⟨[], [], [rH (phsP sgn (by1 (dt 4 s)) (dt 22 s)) true false]⟩)
  | _, _ => none
theorem gRd1_ok : ∀ xs m r m', gRd1 xs m = some (true, r, m') → CallOk Tryz.prog 21 xs m r m' := by
  intro xs m r m' h
  unfold gRd1 at h
  split at h
  · rename_i s
    obtain ⟨h1, rfl, rfl⟩ := some_t2 h
    rw [Bool.and_eq_true] at h1
    have hs := Nat.le_of_ble_eq_true h1.1
    have h2 := h1.2
    by_cases hm : (by1 (dt 4 s) : Int) ≤ 0
    · rw [rd_none hm] at h2
      cases h2
    · refine runOk (Λ := L0) Oktd1 Tryz.func21 rfl (fun z _ _ => l0Ok' _ z) ?_
      refine (readTree1 s hs hm).trans ?_
      rw [h2]
      rfl
  · cases h
noncomputable def ΓRf7 : Orc := Γt3
theorem OkRf7 : ΓRf7.Ok Tryz.prog := Okt3
end Go.Proofs.YtikekoabadhmiaaGreat

