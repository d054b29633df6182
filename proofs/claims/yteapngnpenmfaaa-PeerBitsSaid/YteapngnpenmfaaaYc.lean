/-
  The five laws of nav over values.
-/
import Derived.Test.YteapngnpenmfaaaYb
import Derived.DataShut
import Derived.Test.YteapngnpenmfaaaSx
namespace Go.Proofs.Yteapngnpenmfaaa
open Go Go.Proofs Go.Sx
set_option linter.unusedVariables false
/-! The laws of nav, over values. -/
theorem i64_wf {x : Int} (h : (Lit.int .i64 x).wf = true) : -9223372036854775808 ≤ x ∧ x < 9223372036854775808 := by
  have h := (Lit.wf_int_iff .i64 x).1 h
  have e1 : IntKind.i64.min = -9223372036854775808 := by decide
  have e2 : IntKind.i64.max = 9223372036854775807 := by decide
  rw [e1, e2] at h
  omega
theorem be_u64 (x : Int) : IntKind.u64.wrap x = x % 18446744073709551616 := by rw [← wr_eq true]; rfl
theorem s32_of {s : ByteArray} {i j : Nat} {x : Int} (h : s.extract i j = be 4 x) (h1 : -2147483648 ≤ x) (h2 : x ≤ 2147483647) : s32 s i j = x := by
  unfold s32
  rw [h, num_be4, wrap_i32]
  show wI _ = _
  by_cases h3 : x < 0
  · rw [if_pos (by omega), wI_id (by omega)]; omega
  · rw [if_neg (by omega), wI_id (by omega)]; omega
theorem navB_parts (a b c d e f g q : Int) : (navB a b c d e f g q).size = 27 ∧ (navB a b c d e f g q).extract 0 2 = be 2 a ∧ strAt (navB a b c d e f g q) 2 = b % 256 ∧ (navB a b c d e f g q).extract 3 7 = be 4 c ∧
    (navB a b c d e f g q).extract 7 11 = be 4 d ∧ (navB a b c d e f g q).extract 11 15 = be 4 e ∧ (navB a b c d e f g q).extract 15 19 = be 4 f ∧ (navB a b c d e f g q).extract 19 23 = be 4 g ∧ (navB a b c d e f g q).extract 23 27 = be 4 q := by
  have hl : L (navB a b c d e f g q) = L (be 2 a) ++ (L (be 1 b) ++ (L (be 4 c) ++ (L (be 4 d) ++ (L (be 4 e) ++ (L (be 4 f) ++ (L (be 4 g) ++ L (be 4 q))))))) := by
    unfold navB
    simp only [L_app, List.append_assoc]
  refine ⟨?_, ?_, ?_, ?_, ?_, ?_, ?_, ?_, ?_⟩
  · rw [← L_len, hl]; rfl
  · rw [← L_inj, L_ext, hl]; rfl
  · have := strAt_L (navB a b c d e f g q) 2
    rw [hl] at this
    refine this.trans ?_
    show (((UInt8.ofNat (b / 256 ^ 0 % 256).toNat).toNat : Nat) : Int) = _
    rw [toNat_ofI (by omega) (by omega)]
    omega
  · rw [← L_inj, L_ext, hl]; rfl
  · rw [← L_inj, L_ext, hl]; rfl
  · rw [← L_inj, L_ext, hl]; rfl
  · rw [← L_inj, L_ext, hl]; rfl
  · rw [← L_inj, L_ext, hl]; rfl
  · rw [← L_inj, L_ext, hl]; rfl
theorem nav_range {a b c d e f g q : Int} (h : navR a b c d e f g q = true) : 0 ≤ a ∧ a ≤ 65535 ∧ 0 ≤ b ∧ b ≤ 255 ∧ -2147483648 ≤ c ∧ c ≤ 2147483647 ∧ -2147483648 ≤ d ∧ d ≤ 2147483647 ∧ -2147483648 ≤ e ∧ e ≤ 2147483647 ∧ -2147483648 ≤ f ∧ f ≤ 2147483647 ∧ -2147483648 ≤ g ∧ g ≤ 2147483647 ∧ -2147483648 ≤ q ∧ q ≤ 2147483647 := of_decide_eq_true h
/-- A nav's bytes are read as it was. -/
theorem nav_rd {a b c d e f g q : Int} (h : navR a b c d e f g q = true) : printT a b c d e f g q = navB a b c d e f g q ∧ navE (navB a b c d e f g q) = 0 ∧ rdA (navB a b c d e f g q) = a ∧ rdB (navB a b c d e f g q) = b ∧ rdC (navB a b c d e f g q) 3 7 = c ∧ rdC (navB a b c d e f g q) 7 11 = d ∧ rdC (navB a b c d e f g q) 11 15 = e ∧ rdC (navB a b c d e f g q) 15 19 = f ∧ rdC (navB a b c d e f g q) 19 23 = g ∧ rdC (navB a b c d e f g q) 23 27 = q := by
  obtain ⟨h0, h1, h2, h3, h4, h5, h6, h7, h8, h9, h10, h11, h12, h13, h14, h15⟩ := nav_range h
  obtain ⟨hs, p0, p1, p2, p3, p4, p5, p6, p7⟩ := navB_parts a b c d e f g q
  unfold printT navE rdA rdB rdC rd27
  rw [h]
  simp only [if_pos hs]
  refine ⟨rfl, by rw [hs]; rfl, ?_, ?_, s32_of p2 h4 h5, s32_of p3 h6 h7, s32_of p4 h8 h9, s32_of p5 h10 h11, s32_of p6 h12 h13, s32_of p7 h14 h15⟩
  · rw [p0, num_be2, wI_id (by omega)]; omega
  · rw [p1, wI_id (by omega)]; omega
theorem treeNavPrints (a b c d e f g q : Int) : runG ΓN L0 Try.prog Try.f3 [.v (.agg #[I a, I b, I c, I d, I e, I f, I g, I q])] M0 = 
    (bif (printT a b c d e f g q).toList == (printT a b c d e f g q).toList then (bif navR a b c d e f g q == navR a b c d e f g q then (bif !((printT a b c d e f g q).toList == { data := #[] : ByteArray }.toList) == navR a b c d e f g q then (bif !navR a b c d e f g q then some (.v (.bool true), ⟨[], [], []⟩) else (bif rdA (printT a b c d e f g q) == a && (rdB (printT a b c d e f g q) == b && (rdC (printT a b c d e f g q) (3 : Nat) (7 : Nat) == c && (rdC (printT a b c d e f g q) (7 : Nat) (11 : Nat) == d && (rdC (printT a b c d e f g q) (11 : Nat) (15 : Nat) == e && (rdC (printT a b c d e f g q) (15 : Nat) (19 : Nat) == f && (rdC (printT a b c d e f g q) (19 : Nat) (23 : Nat) == g && (rdC (printT a b c d e f g q) (23 : Nat) (27 : Nat) == q && true))))))) then some (.v (.bool (navE (printT a b c d e f g q) == (0 : Int))), ⟨[], [], []⟩) else some (.v (.bool false), ⟨[], [], []⟩))) else some (.v (.bool false), ⟨[], [], []⟩)) else some (.v (.bool false), ⟨[], [], []⟩)) else some (.v (.bool false), ⟨[], [], []⟩)) := by kernel_rfl
theorem navPrints (a b c d e f g q : Int) : runG ΓN L0 Try.prog Try.f3 [.v (.agg #[I a, I b, I c, I d, I e, I f, I g, I q])] M0 = some (.v (.bool true), M0) := by
  rw [treeNavPrints]
  simp only [beq_self_eq_true, cond_true]
  cases hr : navR a b c d e f g q with
  | false =>
    have : printT a b c d e f g q = ⟨#[]⟩ := by unfold printT; rw [hr]; rfl
    rw [this, beq_self_eq_true]
    rfl
  | true =>
    obtain ⟨e0, e1, e2, e3, e4, e5, e6, e7, e8, e9⟩ := nav_rd hr
    have hne : ((navB a b c d e f g q).toList == ({ data := #[] } : ByteArray).toList) = false := by
      rw [beq_TS, ← Bool.not_eq_true, beq_S]
      intro he
      have := (navB_parts a b c d e f g q).1
      rw [he] at this
      cases this
    rw [e0, hne, e1, e2, e3, e4, e5, e6, e7, e8, e9]
    simp only [beq_self_eq_true, Bool.and_self]
    rfl
theorem treeNavReads (s : ByteArray) : runG ΓN L0 Try.prog Try.f4 [.v (S s)] M0 = 
    (bif decide ((↑s.size : Int) > (200 : Int)) then some (.v (.bool true), ⟨[], [], []⟩) else (bif rdA s == rdA s && (rdB s == rdB s && (rdC s (3 : Nat) (7 : Nat) == rdC s (3 : Nat) (7 : Nat) && (rdC s (7 : Nat) (11 : Nat) == rdC s (7 : Nat) (11 : Nat) && (rdC s (11 : Nat) (15 : Nat) == rdC s (11 : Nat) (15 : Nat) && (rdC s (15 : Nat) (19 : Nat) == rdC s (15 : Nat) (19 : Nat) && (rdC s (19 : Nat) (23 : Nat) == rdC s (19 : Nat) (23 : Nat) && (rdC s (23 : Nat) (27 : Nat) == rdC s (23 : Nat) (27 : Nat) && true))))))) then (bif navE s == navE s then (bif (navE s == (0 : Int)) == ((↑s.size : Int) == (27 : Int)) then (bif navE s != (0 : Int) then some (.v (.bool true), ⟨[], [], []⟩) else some (.v (.bool ((printT (rdA s) (rdB s) (rdC s (3 : Nat) (7 : Nat)) (rdC s (7 : Nat) (11 : Nat)) (rdC s (11 : Nat) (15 : Nat)) (rdC s (15 : Nat) (19 : Nat)) (rdC s (19 : Nat) (23 : Nat)) (rdC s (23 : Nat) (27 : Nat))).toList == s.toList)), ⟨[], [], []⟩)) else some (.v (.bool false), ⟨[], [], []⟩)) else some (.v (.bool false), ⟨[], [], []⟩)) else some (.v (.bool false), ⟨[], [], []⟩))) := by kernel_rfl
theorem ext_join {s : ByteArray} {a b c : Nat} (h1 : a ≤ b) (h2 : b ≤ c) : s.extract a b ++ s.extract b c = s.extract a c := by
  rw [← L_inj, L_app, L_ext, L_ext, L_ext]
  rw [show (L s).drop b = ((L s).drop a).drop (b - a) by rw [List.drop_drop]; congr 1; omega]
  rw [show c - a = (b - a) + (c - b) by omega, List.take_add]
theorem s32_be {s : ByteArray} {i j : Nat} (hj : j = i + 4) (h : j ≤ s.size) : be 4 (s32 s i j) = s.extract i j ∧ -2147483648 ≤ s32 s i j ∧ s32 s i j ≤ 2147483647 := by
  subst hj
  have hn := num4 h
  have r0 := strAt_range s i
  have r1 := strAt_range s (i + 1)
  have r2 := strAt_range s (i + 2)
  have r3 := strAt_range s (i + 3)
  have hr : 0 ≤ ((numN (s.extract i (i + 4)) : Nat) : Int) ∧ ((numN (s.extract i (i + 4)) : Nat) : Int) < 4294967296 := by rw [hn]; omega
  have hs : s32 s i (i + 4) = if ((numN (s.extract i (i + 4)) : Nat) : Int) ≥ 2147483648 then ((numN (s.extract i (i + 4)) : Nat) : Int) - 4294967296 else ((numN (s.extract i (i + 4)) : Nat) : Int) := by
    unfold s32
    rw [wrap_i32]
    show wI _ = _
    rw [Int.emod_eq_of_lt hr.1 hr.2]
    split
    · rw [wI_id (by omega)]
    · rw [wI_id (by omega)]
  refine ⟨be_num4 (by rw [ByteArray.size_extract]; omega) _ ?_, ?_, ?_⟩
  · rw [hs]; split <;> omega
  · rw [hs]; split <;> omega
  · rw [hs]; split <;> omega
theorem nav_back {s : ByteArray} (h : s.size = 27) : printT (rdA s) (rdB s) (rdC s 3 7) (rdC s 7 11) (rdC s 11 15) (rdC s 15 19) (rdC s 19 23) (rdC s 23 27) = s := by
  obtain ⟨q2, l2, u2⟩ := s32_be (s := s) (i := 3) (j := 7) rfl (by omega)
  obtain ⟨q3, l3, u3⟩ := s32_be (s := s) (i := 7) (j := 11) rfl (by omega)
  obtain ⟨q4, l4, u4⟩ := s32_be (s := s) (i := 11) (j := 15) rfl (by omega)
  obtain ⟨q5, l5, u5⟩ := s32_be (s := s) (i := 15) (j := 19) rfl (by omega)
  obtain ⟨q6, l6, u6⟩ := s32_be (s := s) (i := 19) (j := 23) rfl (by omega)
  obtain ⟨q7, l7, u7⟩ := s32_be (s := s) (i := 23) (j := 27) rfl (by omega)
  have r0 := strAt_range s 0
  have r1 := strAt_range s 1
  have r2 := strAt_range s 2
  have hn := num2 (s := s) (i := 0) (by omega)
  rw [show (0 + 2 : Nat) = 2 from rfl, show (0 + 1 : Nat) = 1 from rfl] at hn
  have ha : rdA s = ((numN (s.extract 0 2) : Nat) : Int) := by
    unfold rdA rd27
    rw [if_pos h, wI_id (by rw [hn]; omega)]
  have hb : rdB s = strAt s 2 := by
    unfold rdB rd27
    rw [show ((2 : Nat) : Int) = 2 from rfl] at r2
    rw [if_pos h, wI_id (by omega)]
  have hbe : be 1 (rdB s) = s.extract 2 3 := by
    have h2 : ∃ x r, (L s).drop 2 = x :: r := by
      have : 1 ≤ ((L s).drop 2).length := by rw [List.length_drop, L_len]; omega
      match hq : (L s).drop 2, this with
      | x :: r, _ => exact ⟨x, r, rfl⟩
    obtain ⟨x, r, h2⟩ := h2
    have hx : strAt s 2 = (x.toNat : Int) := by
      have := strAt_L s 2
      rw [show (L s)[2]? = ((L s).drop 2)[0]? by rw [List.getElem?_drop], h2] at this
      exact this
    have := byte_lt x
    rw [← L_inj, L_ext, h2, L_be1, hb, hx, byte_of x _ (by omega)]
    rfl
  have hbe2 : be 2 (rdA s) = s.extract 0 2 := be_num2 (by rw [ByteArray.size_extract]; omega) _ (by rw [ha, hn]; omega)
  have hc : ∀ i j, rdC s i j = s32 s i j := fun i j => by unfold rdC rd27; rw [if_pos h]
  have hR : navR (rdA s) (rdB s) (rdC s 3 7) (rdC s 7 11) (rdC s 11 15) (rdC s 15 19) (rdC s 19 23) (rdC s 23 27) = true := by
    unfold navR
    simp only [hc]
    rw [show ((2 : Nat) : Int) = 2 from rfl] at r2
    exact decide_eq_true ⟨by rw [ha]; omega, by rw [ha, hn]; omega, by rw [hb]; omega, by rw [hb]; omega, l2, u2, l3, u3, l4, u4, l5, u5, l6, u6, l7, u7⟩
  unfold printT
  rw [hR]
  unfold navB
  simp only [cond_true, hc]
  rw [hbe2, hbe, q2, q3, q4, q5, q6, q7, ext_join (by omega) (by omega), ext_join (by omega) (by omega), ext_join (by omega) (by omega), ext_join (by omega) (by omega), ext_join (by omega) (by omega), ext_join (by omega) (by omega), ext_join (by omega) (by omega)]
  rw [← h]
  exact ext_all s
theorem navReads (s : ByteArray) : runG ΓN L0 Try.prog Try.f4 [.v (S s)] M0 = some (.v (.bool true), M0) := by
  rw [treeNavReads]
  by_cases h0 : (s.size : Int) > 200
  · rw [decide_eq_true h0]; rfl
  have hE : navE s = if s.size = 27 then 0 else if s.size < 27 then 5 else 3 := by
    unfold navE
    by_cases c1 : s.size < 27
    · rw [if_pos c1, if_neg (by omega), if_pos c1]
    · by_cases c2 : s.size > 27
      · rw [if_neg c1, if_pos c2, if_neg (by omega), if_neg c1]
      · rw [if_neg c1, if_neg c2, if_pos (by omega)]
  rw [decide_eq_false h0]
  simp only [beq_self_eq_true, Bool.and_self, cond_true, cond_false]
  by_cases h27 : s.size = 27
  · rw [hE, if_pos h27, nav_back h27, beq_TS, (beq_S s s).2 rfl, show ((s.size : Int) == 27) = true from beq_iff_eq.2 (by omega)]
    rfl
  · rw [hE, if_neg h27, show ((s.size : Int) == 27) = false from beq_eq_false_iff_ne.2 (by omega)]
    split <;> rfl
theorem treeNavKinds (k : Int) (s : ByteArray) : runG ΓN L0 Try.prog Try.f6 [.v (I k), .v (S s)] M0 = 
    (bif decide ((↑s.size : Int) > (64 : Int)) then some (.v (.bool true), ⟨[], [], []⟩) else (bif k == (16 : Int) then (bif (k == (16 : Int) || k == (17 : Int)) == true then (bif k == (16 : Int) || k == (17 : Int) then (bif kindI (if k = (17 : Int) then (1 : Int) else (0 : Int)) == k then (bif k == (0 : Int) then some (.v (.bool (decide (kindI k ≥ (0 : Int)) == true)), ⟨[], [], []⟩) else some (.v (.bool (decide (kindI k ≥ (0 : Int)) == (k == (1 : Int)))), ⟨[], [], []⟩)) else (bif !(k == (16 : Int) || k == (17 : Int)) then (bif (if k = (17 : Int) then (1 : Int) else (0 : Int)) == (0 : Int) then (bif k == (0 : Int) then some (.v (.bool (decide (kindI k ≥ (0 : Int)) == true)), ⟨[], [], []⟩) else some (.v (.bool (decide (kindI k ≥ (0 : Int)) == (k == (1 : Int)))), ⟨[], [], []⟩)) else some (.v (.bool false), ⟨[], [], []⟩)) else some (.v (.bool false), ⟨[], [], []⟩))) else (bif !(k == (16 : Int) || k == (17 : Int)) then (bif (if k = (17 : Int) then (1 : Int) else (0 : Int)) == (0 : Int) then (bif k == (0 : Int) then some (.v (.bool (decide (kindI k ≥ (0 : Int)) == true)), ⟨[], [], []⟩) else some (.v (.bool (decide (kindI k ≥ (0 : Int)) == (k == (1 : Int)))), ⟨[], [], []⟩)) else some (.v (.bool false), ⟨[], [], []⟩)) else some (.v (.bool false), ⟨[], [], []⟩))) else some (.v (.bool false), ⟨[], [], []⟩)) else (bif (k == (16 : Int) || k == (17 : Int)) == (k == (17 : Int)) then (bif k == (16 : Int) || k == (17 : Int) then (bif kindI (if k = (17 : Int) then (1 : Int) else (0 : Int)) == k then (bif k == (0 : Int) then some (.v (.bool (decide (kindI k ≥ (0 : Int)) == true)), ⟨[], [], []⟩) else some (.v (.bool (decide (kindI k ≥ (0 : Int)) == (k == (1 : Int)))), ⟨[], [], []⟩)) else (bif !(k == (16 : Int) || k == (17 : Int)) then (bif (if k = (17 : Int) then (1 : Int) else (0 : Int)) == (0 : Int) then (bif k == (0 : Int) then some (.v (.bool (decide (kindI k ≥ (0 : Int)) == true)), ⟨[], [], []⟩) else some (.v (.bool (decide (kindI k ≥ (0 : Int)) == (k == (1 : Int)))), ⟨[], [], []⟩)) else some (.v (.bool false), ⟨[], [], []⟩)) else some (.v (.bool false), ⟨[], [], []⟩))) else (bif !(k == (16 : Int) || k == (17 : Int)) then (bif (if k = (17 : Int) then (1 : Int) else (0 : Int)) == (0 : Int) then (bif k == (0 : Int) then some (.v (.bool (decide (kindI k ≥ (0 : Int)) == true)), ⟨[], [], []⟩) else some (.v (.bool (decide (kindI k ≥ (0 : Int)) == (k == (1 : Int)))), ⟨[], [], []⟩)) else some (.v (.bool false), ⟨[], [], []⟩)) else some (.v (.bool false), ⟨[], [], []⟩))) else some (.v (.bool false), ⟨[], [], []⟩)))) := by kernel_rfl
theorem navKinds (k : Int) (s : ByteArray) : runG ΓN L0 Try.prog Try.f6 [.v (I k), .v (S s)] M0 = some (.v (.bool true), M0) := by
  rw [treeNavKinds]
  by_cases h0 : (s.size : Int) > 64
  · rw [decide_eq_true h0]; rfl
  rw [decide_eq_false h0]
  by_cases h1 : k = 16
  · subst h1; rfl
  by_cases h2 : k = 17
  · subst h2; rfl
  rw [beq_eq_false_iff_ne.2 h1, beq_eq_false_iff_ne.2 h2, if_neg h2]
  have hk : kindI 0 = 16 := rfl
  by_cases h3 : k = 0
  · subst h3; rfl
  by_cases h4 : k = 1
  · subst h4; rfl
  have h5 : kindI k = -1 := by unfold kindI; rw [if_neg h3, if_neg h4]
  rw [h5, beq_eq_false_iff_ne.2 h3, beq_eq_false_iff_ne.2 h4]
  have h6 : (kindI 0 == k) = false := beq_eq_false_iff_ne.2 (fun h => h1 (by rw [← h]; rfl))
  rw [h6]
  rfl
end Go.Proofs.Yteapngnpenmfaaa

namespace Go.Proofs.Yteapngnpenmfaaa
open Go Go.Proofs Go.Sx
set_option linter.unusedVariables false
def R64 (x : Int) : Prop := -9223372036854775808 ≤ x ∧ x < 9223372036854775808
theorem apartU_comm (x y : Int) : apartU x y = apartU y x := by
  unfold apartU
  by_cases h : x < y
  · rw [if_pos (show y > x from h), if_neg (show ¬ y < x by omega), if_neg (show ¬ x > y by omega), if_pos (show x < y from h)]
  · by_cases h2 : y < x
    · rw [if_neg (show ¬ y > x by omega), if_pos h2, if_pos (show x > y from h2), if_neg h]
    · rw [show y = x by omega]
theorem apartU_abs {x y : Int} (hx : R64 x) (hy : R64 y) : apartU x y = if x < y then y - x else x - y := by
  unfold R64 at *
  unfold apartU
  simp only [be_u64]
  by_cases h : x < y
  · rw [if_pos (show y > x from h), if_neg (show ¬ y < x by omega), if_pos h]; omega
  · by_cases h2 : y < x
    · rw [if_neg (show ¬ y > x by omega), if_pos h2, if_neg h]; omega
    · rw [show y = x by omega]; simp
theorem near1_iff {w x y : Int} (hx : R64 x) (hy : R64 y) (h0 : 0 ≤ w) (h1 : w < 9223372036854775808) : near1 w x y = true ↔ x - y ≤ w ∧ y - x ≤ w := by
  unfold near1
  rw [decide_eq_true_eq, apartU_abs hx hy, be_u64, Int.emod_eq_of_lt h0 (by omega)]
  by_cases h : x < y
  · rw [if_pos h]; omega
  · rw [if_neg h]; omega
theorem near1_comm (w x y : Int) : near1 w x y = near1 w y x := by unfold near1; rw [apartU_comm]
theorem nearB_comm (w c c' d d' e e' f f' g g' q q' : Int) : nearB w c c' d d' e e' f f' g g' q q' = nearB w c' c d' d e' e f' f g' g q' q := by
  unfold nearB
  rw [near1_comm w c, near1_comm w d, near1_comm w e, near1_comm w f, near1_comm w g, near1_comm w q]
theorem nearB_iff {w c c' d d' e e' f f' g g' q q' : Int} (h0 : 0 ≤ w) (h1 : w < 9223372036854775808) (r0 : R64 c) (r0' : R64 c') (r1 : R64 d) (r1' : R64 d') (r2 : R64 e) (r2' : R64 e') (r3 : R64 f) (r3' : R64 f') (r4 : R64 g) (r4' : R64 g') (r5 : R64 q) (r5' : R64 q') :
    nearB w c c' d d' e e' f f' g g' q q' = true ↔ (c - c' ≤ w ∧ c' - c ≤ w) ∧ (d - d' ≤ w ∧ d' - d ≤ w) ∧ (e - e' ≤ w ∧ e' - e ≤ w) ∧ (f - f' ≤ w ∧ f' - f ≤ w) ∧ (g - g' ≤ w ∧ g' - g ≤ w) ∧ (q - q' ≤ w ∧ q' - q ≤ w) := by
  unfold nearB
  rw [decide_eq_false (show ¬ w < 0 by omega)]
  simp only [Bool.not_false, Bool.true_and, Bool.and_eq_true]
  rw [near1_iff r0 r0' h0 h1, near1_iff r1 r1' h0 h1, near1_iff r2 r2' h0 h1, near1_iff r3 r3' h0 h1, near1_iff r4 r4' h0 h1, near1_iff r5 r5' h0 h1]
theorem treeNavNear (a b c d e f g q a' b' c' d' e' f' g' q' a'' b'' c'' d'' e'' f'' g'' q'' w m : Int) : runG ΓN L0 Try.prog Try.f5 [.v (.agg #[I a, I b, I c, I d, I e, I f, I g, I q]), .v (.agg #[I a', I b', I c', I d', I e', I f', I g', I q']), .v (.agg #[I a'', I b'', I c'', I d'', I e'', I f'', I g'', I q'']), .v (I w), .v (I m)] M0 = 
    (bif !nearB w c c' d d' e e' f f' g g' q q' == nearB w c c' d d' e e' f f' g g' q q' then some (.v (.bool false), ⟨[], [], []⟩) else (bif !nearB w c c' d d' e e' f f' g g' q q' == nearB w c' c d' d e' e f' f g' g q' q then some (.v (.bool false), ⟨[], [], []⟩) else (bif decide (w < (0 : Int)) then some (.v (.bool true), ⟨[], [], []⟩) else (bif decide (w > (1099511627776 : Int)) then some (.v (.bool true), ⟨[], [], []⟩) else (bif decide (m < (0 : Int)) then some (.v (.bool true), ⟨[], [], []⟩) else (bif decide (m > (1099511627776 : Int)) then some (.v (.bool true), ⟨[], [], []⟩) else (bif nearB w c c' d d' e e' f f' g g' q q' then (bif !nearB (wr false IntKind.i64 (w + m)) c c' d d' e e' f f' g g' q q' then some (.v (.bool false), ⟨[], [], []⟩) else (bif !nearB w c c' d d' e e' f f' g g' q q' then some (.v (.bool true), ⟨[], [], []⟩) else (bif !nearB m c' c'' d' d'' e' e'' f' f'' g' g'' q' q'' then some (.v (.bool true), ⟨[], [], []⟩) else some (.v (.bool (nearB (wr false IntKind.i64 (w + m)) c c'' d d'' e e'' f f'' g g'' q q'')), ⟨[], [], []⟩)))) else (bif !nearB w c c' d d' e e' f f' g g' q q' then some (.v (.bool true), ⟨[], [], []⟩) else (bif !nearB m c' c'' d' d'' e' e'' f' f'' g' g'' q' q'' then some (.v (.bool true), ⟨[], [], []⟩) else some (.v (.bool (nearB (wr false IntKind.i64 (w + m)) c c'' d d'' e e'' f f'' g g'' q q'')), ⟨[], [], []⟩)))))))))) := by kernel_rfl
theorem navNear (a b c d e f g q a' b' c' d' e' f' g' q' a'' b'' c'' d'' e'' f'' g'' q'' w m : Int) (r0 : R64 c) (r0' : R64 c') (r0'' : R64 c'') (r1 : R64 d) (r1' : R64 d') (r1'' : R64 d'') (r2 : R64 e) (r2' : R64 e') (r2'' : R64 e'') (r3 : R64 f) (r3' : R64 f') (r3'' : R64 f'') (r4 : R64 g) (r4' : R64 g') (r4'' : R64 g'') (r5 : R64 q) (r5' : R64 q') (r5'' : R64 q'') :
    runG ΓN L0 Try.prog Try.f5 [.v (.agg #[I a, I b, I c, I d, I e, I f, I g, I q]), .v (.agg #[I a', I b', I c', I d', I e', I f', I g', I q']), .v (.agg #[I a'', I b'', I c'', I d'', I e'', I f'', I g'', I q'']), .v (I w), .v (I m)] M0 = some (.v (.bool true), M0) := by
  rw [treeNavNear, ← nearB_comm w c c' d d' e e' f f' g g' q q', beq_self_eq_true]
  by_cases h1 : w < 0
  · rw [decide_eq_true h1]; rfl
  by_cases h2 : w > 1099511627776
  · rw [decide_eq_false h1, decide_eq_true h2]; rfl
  by_cases h3 : m < 0
  · rw [decide_eq_false h1, decide_eq_false h2, decide_eq_true h3]; rfl
  by_cases h4 : m > 1099511627776
  · rw [decide_eq_false h1, decide_eq_false h2, decide_eq_false h3, decide_eq_true h4]; rfl
  rw [decide_eq_false h1, decide_eq_false h2, decide_eq_false h3, decide_eq_false h4]
  have hw : wr false IntKind.i64 (w + m) = w + m := wI_id (by omega)
  rw [hw]
  cases hn : nearB w c c' d d' e e' f f' g g' q q' with
  | false => rfl
  | true =>
    have a1 := (nearB_iff (by omega) (by omega) r0 r0' r1 r1' r2 r2' r3 r3' r4 r4' r5 r5').1 hn
    have a2 : nearB (w + m) c c' d d' e e' f f' g g' q q' = true := (nearB_iff (by omega) (by omega) r0 r0' r1 r1' r2 r2' r3 r3' r4 r4' r5 r5').2 (by omega)
    rw [a2]
    cases hm : nearB m c' c'' d' d'' e' e'' f' f'' g' g'' q' q'' with
    | false => rfl
    | true =>
      have b1 := (nearB_iff (by omega) (by omega) r0' r0'' r1' r1'' r2' r2'' r3' r3'' r4' r4'' r5' r5'').1 hm
      have a3 : nearB (w + m) c c'' d d'' e e'' f f'' g g'' q q'' = true := (nearB_iff (by omega) (by omega) r0 r0'' r1 r1'' r2 r2'' r3 r3'' r4 r4'' r5 r5'').2 (by omega)
      rw [a3]
      rfl
end Go.Proofs.Yteapngnpenmfaaa

namespace Go.Proofs.Yteapngnpenmfaaa
open Go Go.Proofs Go.Sx
set_option linter.unusedVariables false
def kW : List Bool := maskOf 83 [1, 2, 3, 30, 31]
def xW (e : Ex) : List Bool := match e with
  | .ret => maskOf 83 [6]
  | _ => maskOf 83 [1, 2, 3]
noncomputable def bW : Code := loopAt (Try.f7.body.getD .skip) 0
theorem loopsW : loopsOf (Try.f7.body.getD .skip) = [bW] := by kernel_rfl
theorem loopsW0 : loopsOf bW = [] := by kernel_rfl
def HW (M : Mem) (k : Int) (s : ByteArray) (n i : Int) : St := mk kW [.v (I k), .v (S s), .ptr 0 0, .v (I n), .v (I i)] M
def XW (M : Mem) (k : Int) (s : ByteArray) : St := mk (maskOf 83 [1, 2, 3]) [.v (I k), .v (S s), .ptr 0 0] M
def KW (e : Ex) (st : St) : Option (Ex × St) := some (e, cutC 0 0 (xW e) st)
def YW : St := mk (maskOf 83 [6]) [.v (Bo true)] M0
theorem stepW (a b c d e f g q k : Int) (s : ByteArray) (n : Int) (j : Nat) (i : Int) : evLoop ΓN Try.prog L0 (cutC 0 0 kW) bW (j + 1) (HW (NavM a b c d e f g q) k s n i) KW =
    bif decide (i < n) then (bif decide (0 ≤ i) && decide (i < (s.size : Int)) then (bif strAt s i == 165 then some (.ret, YW) else evLoop ΓN Try.prog L0 (cutC 0 0 kW) bW j (HW (NavM a b c d e f g q) k s n (wI (i + 1))) KW) else none) else some (.exit 0, XW (NavM a b c d e f g q) k s) := by kernel_rfl
def GW (b : Bool) (vals : List SV) (m : Mem) : Option (Bool × Ex × St) :=
  match vals, m with
  | [.v (.int .i64 k), .v (.string s), .ptr 0 0, .v (.int .i64 n), .v (.int .i64 i)], ⟨[[.v (.int .i64 x0), .v (.int .i64 x1), .v (.int .i64 x2), .v (.int .i64 x3), .v (.int .i64 x4), .v (.int .i64 x5), .v (.int .i64 x6), .v (.int .i64 x7)]], [true], []⟩ =>
    some (n == (s.size : Int) && (i == 0 && (Nat.ble s.size 1000000 && (noA5 s == b))), (bif b then .exit 0 else .ret), (bif b then XW (NavM x0 x1 x2 x3 x4 x5 x6 x7) k s else YW))
  | _, _ => none
noncomputable def ΛW (b : Bool) : LoopOrc := fun _ st => viaC 0 0 kW (GW b) st
theorem loopOkW (b : Bool) (z : Base) (h1 : z.L.length = 0) (h2 : z.U.length = 0) : LoopOk (ΛW b) Try.prog z bW := by
  refine loop_okC (Λ := L0) (kx := xW) OkN mixed h1 h2 (fun b hb => by rw [loopsW0] at hb; cases hb) (G := GW b) (fun _ => rfl) ?_
  intro vals m e st' h
  unfold GW at h
  split at h
  · rename_i k s n i x0 x1 x2 x3 x4 x5 x6 x7
    obtain ⟨hg, rfl, rfl⟩ := some_t2 h
    simp only [Bool.and_eq_true, beq_iff_eq] at hg
    obtain ⟨rfl, rfl, hz, hb⟩ := hg
    have hz := Nat.le_of_ble_eq_true hz
    refine ⟨(L s).length + 1, (a5Loop s (by omega) (fun j i => evLoop ΓN Try.prog L0 (cutC 0 0 kW) bW j (HW (NavM x0 x1 x2 x3 x4 x5 x6 x7) k s (s.size : Int) i) KW) (some (.ret, YW)) (some (.exit 0, XW (NavM x0 x1 x2 x3 x4 x5 x6 x7) k s)) (fun j i => stepW x0 x1 x2 x3 x4 x5 x6 x7 k s (s.size : Int) j i) (L s) 0 rfl (by rw [L_len]; omega)).trans ?_⟩
    unfold noA5 at hb
    rw [hb]
    cases b <;> rfl
  · cases h
def gW (s : ByteArray) (b : Bool) : Bool := (s.size : Int) == (s.size : Int) && ((0 : Int) == 0 && (Nat.ble s.size 1000000 && (noA5 s == b)))
def lo1 (k : Int) : Int := IntKind.i64.wrap (((BitVec.ofInt 64 k &&& BitVec.ofInt 64 1).toNat : Nat) : Int)
theorem treeNavFrames1 (a b c d e f g q k : Int) (s : ByteArray) : runG ΓN (ΛW true) Try.prog Try.f7 [.v (.agg #[I a, I b, I c, I d, I e, I f, I g, I q]), .v (I k), .v (S s)] M0 = 
    (bif !navR a b c d e f g q then some (.v (.bool true), ⟨[], [], []⟩) else (bif decide ((↑s.size : Int) > (100 : Int)) then some (.v (.bool true), ⟨[], [], []⟩) else (bif (↑s.size : Int) == (↑s.size : Int) && (true && (s.size.ble (OfNat.ofNat (1000000 : Nat)) && noA5 s == true)) then (bif (s.size + (printB (kindI (wr false IntKind.i64 (↑(BitVec.ofInt (64 : Nat) k &&& BitVec.ofInt (64 : Nat) (1 : Int)).toNat : Int))) (printT a b c d e f g q)).size).ble (OfNat.ofNat (9223372036854775807 : Nat)) then (bif okFeed { data := #[] : ByteArray } (s ++ printB (kindI (wr false IntKind.i64 (↑(BitVec.ofInt (64 : Nat) k &&& BitVec.ofInt (64 : Nat) (1 : Int)).toNat : Int))) (printT a b c d e f g q)) (1000000 : Int) (0 : Int) then (bif (↑(sF ({ data := #[] : ByteArray } ++ (s ++ printB (kindI (wr false IntKind.i64 (↑(BitVec.ofInt (64 : Nat) k &&& BitVec.ofInt (64 : Nat) (1 : Int)).toNat : Int))) (printT a b c d e f g q)))).length : Int) != (1 : Int) then some (.v (.bool false), ⟨[], [], []⟩) else (bif true && decide ((0 : Int) < (↑(sF ({ data := #[] : ByteArray } ++ (s ++ printB (kindI (wr false IntKind.i64 (↑(BitVec.ofInt (64 : Nat) k &&& BitVec.ofInt (64 : Nat) (1 : Int)).toNat : Int))) (printT a b c d e f g q)))).length : Int)) then (bif true && decide ((0 : Int) < (↑(sF ({ data := #[] : ByteArray } ++ (s ++ printB (kindI (wr false IntKind.i64 (↑(BitVec.ofInt (64 : Nat) k &&& BitVec.ofInt (64 : Nat) (1 : Int)).toNat : Int))) (printT a b c d e f g q)))).length : Int)) then (bif (((sF ({ data := #[] : ByteArray } ++ (s ++ printB (kindI (wr false IntKind.i64 (↑(BitVec.ofInt (64 : Nat) k &&& BitVec.ofInt (64 : Nat) (1 : Int)).toNat : Int))) (printT a b c d e f g q)))).getD (0 : Nat) []).headD (Dat.n (0 : Int))).toI == (16 : Int) || (((sF ({ data := #[] : ByteArray } ++ (s ++ printB (kindI (wr false IntKind.i64 (↑(BitVec.ofInt (64 : Nat) k &&& BitVec.ofInt (64 : Nat) (1 : Int)).toNat : Int))) (printT a b c d e f g q)))).getD (0 : Nat) []).headD (Dat.n (0 : Int))).toI == (17 : Int) then (bif (if (((sF ({ data := #[] : ByteArray } ++ (s ++ printB (kindI (wr false IntKind.i64 (↑(BitVec.ofInt (64 : Nat) k &&& BitVec.ofInt (64 : Nat) (1 : Int)).toNat : Int))) (printT a b c d e f g q)))).getD (0 : Nat) []).headD (Dat.n (0 : Int))).toI = (17 : Int) then (1 : Int) else (0 : Int)) == wr false IntKind.i64 (↑(BitVec.ofInt (64 : Nat) k &&& BitVec.ofInt (64 : Nat) (1 : Int)).toNat : Int) then (bif navE (((sF ({ data := #[] : ByteArray } ++ (s ++ printB (kindI (wr false IntKind.i64 (↑(BitVec.ofInt (64 : Nat) k &&& BitVec.ofInt (64 : Nat) (1 : Int)).toNat : Int))) (printT a b c d e f g q)))).getD (0 : Nat) []).tail.headD (Dat.n (0 : Int))).toS == (0 : Int) then some (.v (.bool (rdA (((sF ({ data := #[] : ByteArray } ++ (s ++ printB (kindI (wr false IntKind.i64 (↑(BitVec.ofInt (64 : Nat) k &&& BitVec.ofInt (64 : Nat) (1 : Int)).toNat : Int))) (printT a b c d e f g q)))).getD (0 : Nat) []).tail.headD (Dat.n (0 : Int))).toS == a && (rdB (((sF ({ data := #[] : ByteArray } ++ (s ++ printB (kindI (wr false IntKind.i64 (↑(BitVec.ofInt (64 : Nat) k &&& BitVec.ofInt (64 : Nat) (1 : Int)).toNat : Int))) (printT a b c d e f g q)))).getD (0 : Nat) []).tail.headD (Dat.n (0 : Int))).toS == b && (rdC (((sF ({ data := #[] : ByteArray } ++ (s ++ printB (kindI (wr false IntKind.i64 (↑(BitVec.ofInt (64 : Nat) k &&& BitVec.ofInt (64 : Nat) (1 : Int)).toNat : Int))) (printT a b c d e f g q)))).getD (0 : Nat) []).tail.headD (Dat.n (0 : Int))).toS (3 : Nat) (7 : Nat) == c && (rdC (((sF ({ data := #[] : ByteArray } ++ (s ++ printB (kindI (wr false IntKind.i64 (↑(BitVec.ofInt (64 : Nat) k &&& BitVec.ofInt (64 : Nat) (1 : Int)).toNat : Int))) (printT a b c d e f g q)))).getD (0 : Nat) []).tail.headD (Dat.n (0 : Int))).toS (7 : Nat) (11 : Nat) == d && (rdC (((sF ({ data := #[] : ByteArray } ++ (s ++ printB (kindI (wr false IntKind.i64 (↑(BitVec.ofInt (64 : Nat) k &&& BitVec.ofInt (64 : Nat) (1 : Int)).toNat : Int))) (printT a b c d e f g q)))).getD (0 : Nat) []).tail.headD (Dat.n (0 : Int))).toS (11 : Nat) (15 : Nat) == e && (rdC (((sF ({ data := #[] : ByteArray } ++ (s ++ printB (kindI (wr false IntKind.i64 (↑(BitVec.ofInt (64 : Nat) k &&& BitVec.ofInt (64 : Nat) (1 : Int)).toNat : Int))) (printT a b c d e f g q)))).getD (0 : Nat) []).tail.headD (Dat.n (0 : Int))).toS (15 : Nat) (19 : Nat) == f && (rdC (((sF ({ data := #[] : ByteArray } ++ (s ++ printB (kindI (wr false IntKind.i64 (↑(BitVec.ofInt (64 : Nat) k &&& BitVec.ofInt (64 : Nat) (1 : Int)).toNat : Int))) (printT a b c d e f g q)))).getD (0 : Nat) []).tail.headD (Dat.n (0 : Int))).toS (19 : Nat) (23 : Nat) == g && (rdC (((sF ({ data := #[] : ByteArray } ++ (s ++ printB (kindI (wr false IntKind.i64 (↑(BitVec.ofInt (64 : Nat) k &&& BitVec.ofInt (64 : Nat) (1 : Int)).toNat : Int))) (printT a b c d e f g q)))).getD (0 : Nat) []).tail.headD (Dat.n (0 : Int))).toS (23 : Nat) (27 : Nat) == q && true))))))))), ⟨[], [], []⟩) else some (.v (.bool false), ⟨[], [], []⟩)) else some (.v (.bool false), ⟨[], [], []⟩)) else some (.v (.bool false), ⟨[], [], []⟩)) else none) else none)) else none) else none) else none))) := by kernel_rfl
theorem treeNavFrames0 (a b c d e f g q k : Int) (s : ByteArray) : runG ΓN (ΛW false) Try.prog Try.f7 [.v (.agg #[I a, I b, I c, I d, I e, I f, I g, I q]), .v (I k), .v (S s)] M0 = 
    (bif !navR a b c d e f g q then some (.v (.bool true), ⟨[], [], []⟩) else (bif decide ((↑s.size : Int) > (100 : Int)) then some (.v (.bool true), ⟨[], [], []⟩) else (bif (↑s.size : Int) == (↑s.size : Int) && (true && (s.size.ble (OfNat.ofNat (1000000 : Nat)) && noA5 s == false)) then some (.v (.bool true), ⟨[], [], []⟩) else none))) := by kernel_rfl
theorem lo1_cases (k : Int) : wr false IntKind.i64 (((BitVec.ofInt 64 k &&& BitVec.ofInt 64 1).toNat : Nat) : Int) = 0 ∨ wr false IntKind.i64 (((BitVec.ofInt 64 k &&& BitVec.ofInt 64 1).toNat : Nat) : Int) = 1 := by
  rw [BitVec.toNat_and]
  have e : (BitVec.ofInt 64 1).toNat = 1 := by decide
  rw [e, Nat.and_one_is_mod]
  rcases Nat.mod_two_eq_zero_or_one (BitVec.ofInt 64 k).toNat with h | h
  · rw [h]; exact .inl rfl
  · rw [h]; exact .inr rfl
theorem one_frame {K : Int} {p s : ByteArray} (hr : rightB K p = true) (hN : noA5 s = true) : sF ((⟨#[]⟩ : ByteArray) ++ (s ++ printB K p)) = [[.n K, .s p]] := by
  obtain ⟨e1, _, _⟩ := scan_cat [[.n K, .s p]] (by rw [List.all_cons]; show rightB K p && true = true; rw [hr]; rfl) rfl
  rw [show catD [[.n K, .s p]] = printB K p from app_nil _] at e1
  rw [nil_app, (scan_noise _ s.size s rfl hN).1, e1]
theorem navFrames (a b c d e f g q k : Int) (s : ByteArray) : ∃ Λ m', (∀ z : Base, z.L.length = 0 → z.U.length = 0 → ∀ b ∈ loopsOf (Try.f7.body.getD .skip), LoopOk Λ Try.prog z b) ∧ runG ΓN Λ Try.prog Try.f7 [.v (.agg #[I a, I b, I c, I d, I e, I f, I g, I q]), .v (I k), .v (S s)] M0 = some (.v (.bool true), m') := by
  have hL : ∀ (b : Bool) (z : Base), z.L.length = 0 → z.U.length = 0 → ∀ c ∈ loopsOf (Try.f7.body.getD .skip), LoopOk (ΛW b) Try.prog z c := fun b z h1 h2 => oneLoop loopsW (loopOkW b z h1 h2)
  cases hr : navR a b c d e f g q with
  | false => exact ⟨ΛW false, _, hL false, (treeNavFrames0 a b c d e f g q k s).trans (by rw [hr]; rfl)⟩
  | true =>
  by_cases h1 : (s.size : Int) > 100
  · exact ⟨ΛW false, _, hL false, (treeNavFrames0 a b c d e f g q k s).trans (by rw [hr, decide_eq_true h1]; rfl)⟩
  cases hN : noA5 s with
  | false => exact ⟨ΛW false, _, hL false, (treeNavFrames0 a b c d e f g q k s).trans (by rw [hr, decide_eq_false h1, hN, beq_self_eq_true, Nat.ble_eq_true_of_le (show s.size ≤ 1000000 by omega)]; rfl)⟩
  | true =>
  refine ⟨ΛW true, M0, hL true, (treeNavFrames1 a b c d e f g q k s).trans ?_⟩
  obtain ⟨e0, e1, e2, e3, e4, e5, e6, e7, e8, e9⟩ := nav_rd hr
  have hsz := (navB_parts a b c d e f g q).1
  have r6 : ∀ K : Int, 0 ≤ K → K ≤ 255 → rightB K (navB a b c d e f g q) = true := fun K h0 h1 => by
    unfold rightB
    rw [hsz, decide_eq_true (show K ≥ 0 from h0), decide_eq_true h1]
    rfl
  have hps : ∀ K : Int, (s ++ printB K (navB a b c d e f g q)).size ≤ 170 := fun K => by
    rw [ByteArray.size_append]
    have := printB_size K (navB a b c d e f g q)
    omega
  have hok : ∀ K : Int, okFeed (⟨#[]⟩ : ByteArray) (s ++ printB K (navB a b c d e f g q)) 1000000 0 = true := fun K => by
    unfold okFeed
    rw [Nat.ble_eq_true_of_le (show (⟨#[]⟩ : ByteArray).size + (s ++ printB K (navB a b c d e f g q)).size ≤ 1099511627775 by have := hps K; have : (⟨#[]⟩ : ByteArray).size = 0 := rfl; omega)]
    rfl
  have hb : ∀ K : Int, (s.size + (printB K (navB a b c d e f g q)).size).ble 9223372036854775807 = true := fun K => Nat.ble_eq_true_of_le (by have := hps K; rw [ByteArray.size_append] at this; omega)
  rw [hr, decide_eq_false h1, hN, beq_self_eq_true, Nat.ble_eq_true_of_le (show s.size ≤ 1000000 by omega), e0]
  generalize hy : wr false IntKind.i64 (((BitVec.ofInt 64 k &&& BitVec.ofInt 64 1).toNat : Nat) : Int) = y
  have hc : y = 0 ∨ y = 1 := by rw [← hy]; exact lo1_cases k
  have tl : ∀ K : Int, ((([[.n K, .s (navB a b c d e f g q)]] : List (List Dat)).getD 0 []).headD (.n 0)).toI = K := fun _ => rfl
  have tt : ∀ K : Int, ((([[.n K, .s (navB a b c d e f g q)]] : List (List Dat)).getD 0 []).tail.headD (.n 0)).toS = navB a b c d e f g q := fun _ => rfl
  have fin : ∀ K, rightB K (navB a b c d e f g q) = true → sF ((⟨#[]⟩ : ByteArray) ++ (s ++ printB K (navB a b c d e f g q))) = [[.n K, .s (navB a b c d e f g q)]] := fun K h => one_frame h hN
  rcases hc with rfl | rfl
  · rw [show kindI 0 = 16 from rfl, fin 16 (r6 16 (by omega) (by omega)), hok, hb]
    simp only [tl, tt, e1, e2, e3, e4, e5, e6, e7, e8, e9, beq_self_eq_true, Bool.and_self]
    rfl
  · rw [show kindI 1 = 17 from rfl, fin 17 (r6 17 (by omega) (by omega)), hok, hb]
    simp only [tl, tt, e1, e2, e3, e4, e5, e6, e7, e8, e9, beq_self_eq_true, Bool.and_self]
    rfl
/-! The laws, as they are asked of lists of what is told. -/
abbrev ksN : List CK := [.num .i64, .num .i64, .num .i64, .num .i64, .num .i64, .num .i64, .num .i64, .num .i64]
theorem nav_is {l : List Dat} (h : WfL ksN l) : ∃ a b c d e f g q, l = [.n a, .n b, .n c, .n d, .n e, .n f, .n g, .n q] ∧ R64 c ∧ R64 d ∧ R64 e ∧ R64 f ∧ R64 g ∧ R64 q := by
  match l, h with
  | [.n a, .n b, .n c, .n d, .n e, .n f, .n g, .n q], h => exact ⟨a, b, c, d, e, f, g, q, rfl, i64_wf h.2.2.1, i64_wf h.2.2.2.1, i64_wf h.2.2.2.2.1, i64_wf h.2.2.2.2.2.1, i64_wf h.2.2.2.2.2.2.1, i64_wf h.2.2.2.2.2.2.2.1⟩
theorem navPrintsLaw (l0 : List Dat) (w0 : WfL ksN l0) : ∃ m', runG ΓN L0 Try.prog Try.f3 (inArgs [.v (.agg (mkEl ksN l0).toArray)] 0) (inMem [.v (.agg (mkEl ksN l0).toArray)]) = some (.v (.bool true), m') := by
  obtain ⟨a, b, c, d, e, f, g, q, rfl, _⟩ := nav_is w0
  exact ⟨_, navPrints a b c d e f g q⟩
theorem navReadsLaw (z0 : ByteArray) (n0 : z0.size ≤ 281474976710656) : ∃ m', runG ΓN L0 Try.prog Try.f4 (inArgs [.v (.string z0)] 0) (inMem [.v (.string z0)]) = some (.v (.bool true), m') := ⟨_, navReads z0⟩
theorem navKindsLaw (a0 : Int) (z1 : ByteArray) (u0 : (Lit.int .i64 a0).wf = true) (n1 : z1.size ≤ 281474976710656) : ∃ m', runG ΓN L0 Try.prog Try.f6 (inArgs [.v (.int .i64 a0), .v (.string z1)] 0) (inMem [.v (.int .i64 a0), .v (.string z1)]) = some (.v (.bool true), m') := ⟨_, navKinds a0 z1⟩
theorem navNearLaw (l0 l1 l2 : List Dat) (a3 a4 : Int) (w0 : WfL ksN l0) (w1 : WfL ksN l1) (w2 : WfL ksN l2) (u3 : (Lit.int .i64 a3).wf = true) (u4 : (Lit.int .i64 a4).wf = true) :
    ∃ m', runG ΓN L0 Try.prog Try.f5 (inArgs [.v (.agg (mkEl ksN l0).toArray), .v (.agg (mkEl ksN l1).toArray), .v (.agg (mkEl ksN l2).toArray), .v (.int .i64 a3), .v (.int .i64 a4)] 0) (inMem [.v (.agg (mkEl ksN l0).toArray), .v (.agg (mkEl ksN l1).toArray), .v (.agg (mkEl ksN l2).toArray), .v (.int .i64 a3), .v (.int .i64 a4)]) = some (.v (.bool true), m') := by
  obtain ⟨a, b, c, d, e, f, g, q, rfl, r0, r1, r2, r3, r4, r5⟩ := nav_is w0
  obtain ⟨a', b', c', d', e', f', g', q', rfl, r0', r1', r2', r3', r4', r5'⟩ := nav_is w1
  obtain ⟨a'', b'', c'', d'', e'', f'', g'', q'', rfl, r0'', r1'', r2'', r3'', r4'', r5''⟩ := nav_is w2
  exact ⟨_, navNear a b c d e f g q a' b' c' d' e' f' g' q' a'' b'' c'' d'' e'' f'' g'' q'' a3 a4 r0 r0' r0'' r1 r1' r1'' r2 r2' r2'' r3 r3' r3'' r4 r4' r4'' r5 r5' r5''⟩
theorem navFramesLaw (l0 : List Dat) (a1 : Int) (z2 : ByteArray) (w0 : WfL ksN l0) (u1 : (Lit.int .i64 a1).wf = true) (n2 : z2.size ≤ 281474976710656) :
    ∃ Λ m', (∀ z : Base, z.L.length = 0 → z.U.length = 0 → ∀ b ∈ loopsOf (Try.f7.body.getD .skip), LoopOk Λ Try.prog z b) ∧ runG ΓN Λ Try.prog Try.f7 (inArgs [.v (.agg (mkEl ksN l0).toArray), .v (.int .i64 a1), .v (.string z2)] 0) (inMem [.v (.agg (mkEl ksN l0).toArray), .v (.int .i64 a1), .v (.string z2)]) = some (.v (.bool true), m') := by
  obtain ⟨a, b, c, d, e, f, g, q, rfl, _⟩ := nav_is w0
  exact navFrames a b c d e f g q a1 z2
end Go.Proofs.Yteapngnpenmfaaa

