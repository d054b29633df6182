/-
  The document's reading, and that it is the program's; a law of rulefile over values.
-/
import Derived.Test.YtikekoabadhmiaaYl
namespace Go.Proofs.Ytikekoabadhmiaa
open Go Go.Proofs Go.Sx
set_option linter.unusedVariables false
/-! norm -/
/-! cast -/
/-! rep [CK.sl 33 [CK0.num IntKind.i64, CK0.num IntKind.i64], .num .i64, .num .i64, .num .i64, .num .i64] => kPh -/
/-! rep (dropT (0 : Nat) (L.getD k.toNat [])) => (L.getD k.toNat []) -/
/-! rep (dropT (0 : Nat) (L2.getD k.toNat [])) => (L2.getD k.toNat []) -/
/-! rep (dropT (0 : Nat) (L.getD i.toNat [])) => (L.getD i.toNat []) -/
/-! rep (dropT (0 : Nat) (M.getD k.toNat [])) => (M.getD k.toNat []) -/
/-! repp (List.brecOn.go (motive := fun x => Nat → List Dat → List (List Dat)) M List.set._f).1 k.toNat ==> M.set k.toNat -/
/-! rep (((L.getD i.toNat []).headD (Dat.n (0 : Int))).toL) => (phA L i) -/
/-! rep ((L.getD i.toNat []).headD (Dat.n (0 : Int))).toL => (phA L i) -/
/-! rep (((L.getD i.toNat []).tail.headD (Dat.n (0 : Int))).toI) => (phG L i) -/
/-! rep ((L.getD i.toNat []).tail.headD (Dat.n (0 : Int))).toI => (phG L i) -/
/-! rep (((L.getD i.toNat []).tail.tail.headD (Dat.n (0 : Int))).toI) => (phV L i) -/
/-! rep ((L.getD i.toNat []).tail.tail.headD (Dat.n (0 : Int))).toI => (phV L i) -/
/-! rep (((L.getD i.toNat []).tail.tail.tail.headD (Dat.n (0 : Int))).toI) => (phM L i) -/
/-! rep ((L.getD i.toNat []).tail.tail.tail.headD (Dat.n (0 : Int))).toI => (phM L i) -/
/-! rep (((L.getD i.toNat []).tail.tail.tail.tail.headD (Dat.n (0 : Int))).toI) => (phU L i) -/
/-! rep ((L.getD i.toNat []).tail.tail.tail.tail.headD (Dat.n (0 : Int))).toI => (phU L i) -/
/-! rep (((L2.getD i.toNat []).headD (Dat.n (0 : Int))).toL) => (phA L2 i) -/
/-! rep ((L2.getD i.toNat []).headD (Dat.n (0 : Int))).toL => (phA L2 i) -/
/-! rep (((L2.getD i.toNat []).tail.headD (Dat.n (0 : Int))).toI) => (phG L2 i) -/
/-! rep ((L2.getD i.toNat []).tail.headD (Dat.n (0 : Int))).toI => (phG L2 i) -/
/-! rep (((L2.getD i.toNat []).tail.tail.headD (Dat.n (0 : Int))).toI) => (phV L2 i) -/
/-! rep ((L2.getD i.toNat []).tail.tail.headD (Dat.n (0 : Int))).toI => (phV L2 i) -/
/-! rep (((L2.getD i.toNat []).tail.tail.tail.headD (Dat.n (0 : Int))).toI) => (phM L2 i) -/
/-! rep ((L2.getD i.toNat []).tail.tail.tail.headD (Dat.n (0 : Int))).toI => (phM L2 i) -/
/-! rep (((L2.getD i.toNat []).tail.tail.tail.tail.headD (Dat.n (0 : Int))).toI) => (phU L2 i) -/
/-! rep ((L2.getD i.toNat []).tail.tail.tail.tail.headD (Dat.n (0 : Int))).toI => (phU L2 i) -/
/-! rep (((M.getD i.toNat []).headD (Dat.n (0 : Int))).toL) => (phA M i) -/
/-! rep ((M.getD i.toNat []).headD (Dat.n (0 : Int))).toL => (phA M i) -/
/-! rep (((M.getD i.toNat []).tail.headD (Dat.n (0 : Int))).toI) => (phG M i) -/
/-! rep ((M.getD i.toNat []).tail.headD (Dat.n (0 : Int))).toI => (phG M i) -/
/-! rep (((M.getD i.toNat []).tail.tail.headD (Dat.n (0 : Int))).toI) => (phV M i) -/
/-! rep ((M.getD i.toNat []).tail.tail.headD (Dat.n (0 : Int))).toI => (phV M i) -/
/-! rep (((M.getD i.toNat []).tail.tail.tail.headD (Dat.n (0 : Int))).toI) => (phM M i) -/
/-! rep ((M.getD i.toNat []).tail.tail.tail.headD (Dat.n (0 : Int))).toI => (phM M i) -/
/-! rep (((M.getD i.toNat []).tail.tail.tail.tail.headD (Dat.n (0 : Int))).toI) => (phU M i) -/
/-! rep ((M.getD i.toNat []).tail.tail.tail.tail.headD (Dat.n (0 : Int))).toI => (phU M i) -/
/-! rep (((L.getD k.toNat []).headD (Dat.n (0 : Int))).toL) => (phA L k) -/
/-! rep ((L.getD k.toNat []).headD (Dat.n (0 : Int))).toL => (phA L k) -/
/-! rep (((L.getD k.toNat []).tail.headD (Dat.n (0 : Int))).toI) => (phG L k) -/
/-! rep ((L.getD k.toNat []).tail.headD (Dat.n (0 : Int))).toI => (phG L k) -/
/-! rep (((L.getD k.toNat []).tail.tail.headD (Dat.n (0 : Int))).toI) => (phV L k) -/
/-! rep ((L.getD k.toNat []).tail.tail.headD (Dat.n (0 : Int))).toI => (phV L k) -/
/-! rep (((L.getD k.toNat []).tail.tail.tail.headD (Dat.n (0 : Int))).toI) => (phM L k) -/
/-! rep ((L.getD k.toNat []).tail.tail.tail.headD (Dat.n (0 : Int))).toI => (phM L k) -/
/-! rep (((L.getD k.toNat []).tail.tail.tail.tail.headD (Dat.n (0 : Int))).toI) => (phU L k) -/
/-! rep ((L.getD k.toNat []).tail.tail.tail.tail.headD (Dat.n (0 : Int))).toI => (phU L k) -/
/-! rep (((L2.getD k.toNat []).headD (Dat.n (0 : Int))).toL) => (phA L2 k) -/
/-! rep ((L2.getD k.toNat []).headD (Dat.n (0 : Int))).toL => (phA L2 k) -/
/-! rep (((L2.getD k.toNat []).tail.headD (Dat.n (0 : Int))).toI) => (phG L2 k) -/
/-! rep ((L2.getD k.toNat []).tail.headD (Dat.n (0 : Int))).toI => (phG L2 k) -/
/-! rep (((L2.getD k.toNat []).tail.tail.headD (Dat.n (0 : Int))).toI) => (phV L2 k) -/
/-! rep ((L2.getD k.toNat []).tail.tail.headD (Dat.n (0 : Int))).toI => (phV L2 k) -/
/-! rep (((L2.getD k.toNat []).tail.tail.tail.headD (Dat.n (0 : Int))).toI) => (phM L2 k) -/
/-! rep ((L2.getD k.toNat []).tail.tail.tail.headD (Dat.n (0 : Int))).toI => (phM L2 k) -/
/-! rep (((L2.getD k.toNat []).tail.tail.tail.tail.headD (Dat.n (0 : Int))).toI) => (phU L2 k) -/
/-! rep ((L2.getD k.toNat []).tail.tail.tail.tail.headD (Dat.n (0 : Int))).toI => (phU L2 k) -/
/-! rep (((M.getD k.toNat []).headD (Dat.n (0 : Int))).toL) => (phA M k) -/
/-! rep ((M.getD k.toNat []).headD (Dat.n (0 : Int))).toL => (phA M k) -/
/-! rep (((M.getD k.toNat []).tail.headD (Dat.n (0 : Int))).toI) => (phG M k) -/
/-! rep ((M.getD k.toNat []).tail.headD (Dat.n (0 : Int))).toI => (phG M k) -/
/-! rep (((M.getD k.toNat []).tail.tail.headD (Dat.n (0 : Int))).toI) => (phV M k) -/
/-! rep ((M.getD k.toNat []).tail.tail.headD (Dat.n (0 : Int))).toI => (phV M k) -/
/-! rep (((M.getD k.toNat []).tail.tail.tail.headD (Dat.n (0 : Int))).toI) => (phM M k) -/
/-! rep ((M.getD k.toNat []).tail.tail.tail.headD (Dat.n (0 : Int))).toI => (phM M k) -/
/-! rep (((M.getD k.toNat []).tail.tail.tail.tail.headD (Dat.n (0 : Int))).toI) => (phU M k) -/
/-! rep ((M.getD k.toNat []).tail.tail.tail.tail.headD (Dat.n (0 : Int))).toI => (phU M k) -/
/-! repp (List.brecOn.go (motive := fun x => List (List Dat) → List (List Dat)) A List.append._f).1 ==> A ++ -/
/-! repp (List.brecOn.go (motive := fun x => List (List Dat) → List (List Dat)) L List.append._f).1 ==> L ++ -/
/-! rex \(s\.extract \((\d+) : Nat\) \(\(s\.size : Int\)\)\.toNat\) ==> (dt \1 s) -/
/-! rex \(s\.extract (\w+|\((?:[^()]|\((?:[^()]|\([^()]*\))*\))*\))\.toNat \(\(s\.size : Int\)\)\.toNat\) ==> (dt (\1).toNat s) -/
/-! rex \(Nat\.brecOn\.go \(motive := fun x => ByteArray → List \(List Dat\)\) (.*?) \(phsP\._f idI\)\)\.1  ==> phsP idI \1  -/
/-! rex \(\(List\.replicate \(1 : Nat\) \[Dat\.l \(Value\.slice none \(0 : Nat\) \(0 : Nat\)\) \[\], Dat\.n \(0 : Int\), Dat\.n \(0 : Int\), Dat\.n \(0 : Int\), Dat\.n \(0 : Int\)\]\)\.set \(0 : Nat\)  ==> (one  -/
noncomputable def Γre : Orc := { ΓRf7 with sb := true, bs := true, av := true }
theorem Okre : Γre.Ok Try.prog := ⟨OkRf7.call, OkRf7.rd, OkRf7.eqv⟩

abbrev mkA : ByteArray := { data := #[65, 70, 84, 85] }
/-- Where a text's phases end. -/
def endN (s : ByteArray) : Nat := s.size - (restP (by1 (dt 4 s)) (dt 22 s)).size
theorem sum_wI (s : ByteArray) : wI (sum32 s) = sum32 s ∧ 0 ≤ sum32 s ∧ sum32 s < 4294967296 := by
  have h := F32_lt s
  have hx : Nat.xor (F32 s) 4294967295 < 4294967296 := Nat.xor_lt_two_pow (n := 32) h (by decide)
  unfold sum32
  exact ⟨wI_id (by omega), by omega, by omega⟩
noncomputable def ΓRf8 : Orc := Γre
theorem OkRf8 : ΓRf8.Ok Try.prog := Okre
end Go.Proofs.Ytikekoabadhmiaa

namespace Go.Proofs.Ytikekoabadhmiaa
open Go Go.Proofs Go.Sx
set_option linter.unusedVariables false
/-! What the program reads is what the document reads, as far as it may be. -/
def bad1 (l : List Dat) : Bool := !rpB (l.headD (.n 0)).toL (l.tail.headD (.n 0)).toI (l.tail.tail.headD (.n 0)).toI (l.tail.tail.tail.headD (.n 0)).toI (l.tail.tail.tail.tail.headD (.n 0)).toI
theorem anyN_drop {α : Type} (p : α → Bool) (d : α) (L : List α) : ∀ (B : List α) (i : Int), 0 ≤ i → L.drop i.toNat = B → anyN (fun k => p (L.getD k.toNat d)) B.length i = B.any p
  | [], i, _, _ => rfl
  | b :: B, i, h0, h => by
    show (p (L.getD i.toNat d) || anyN (fun k => p (L.getD k.toNat d)) B.length (i + 1)) = (p b || B.any p)
    rw [getD_drop d h, anyN_drop p d L B (i + 1) (by omega) (by rw [show (i + 1).toNat = i.toNat + 1 by omega]; exact drop_next h)]
theorem bph_any (L : List (List Dat)) : anyN (bphB L) L.length 0 = L.any bad1 := anyN_drop bad1 [] L L 0 (by decide) rfl
theorem frB_iff {lo hi n : Int} : frB lo hi n = true ↔ lo ≤ n ∧ n ≤ hi := by
  unfold frB
  by_cases h : lo ≤ n
  · rw [decide_eq_true h]
    show decide (n ≤ hi) = true ↔ _
    rw [decide_eq_true_eq]
    omega
  · rw [decide_eq_false h]
    show false = true ↔ _
    constructor
    · intro h; cases h
    · intro h'; omega
/-- Of rules that may be each number is in its range. -/
theorem wrB_0 {L : List (List Dat)} {r1 r2 r3 r4 r5 r6 r7 r8 : Int} (h : wrB L r1 r2 r3 r4 r5 r6 r7 r8 = 0) : (1 ≤ (L.length : Int) ∧ (L.length : Int) ≤ 4) ∧ L.any bad1 = false ∧ (1 ≤ r1 ∧ r1 ≤ 50) ∧ (1 ≤ r2 ∧ r2 ≤ 50) ∧ (1 ≤ r3 ∧ r3 ≤ 50) ∧ (0 ≤ r4 ∧ r4 ≤ 1024) ∧ (1 ≤ r5 ∧ r5 ≤ 65536) ∧ (1 ≤ r6 ∧ r6 ≤ 50) ∧ (1 ≤ r7 ∧ r7 ≤ 1073741824) ∧ (0 ≤ r8 ∧ r8 ≤ (L.length : Int)) := by
  unfold wrB at h
  rw [bph_any] at h
  cases h1 : frB 1 4 (L.length : Int)
  · rw [h1] at h; cases h
  cases h2 : L.any bad1
  case true => rw [h1, h2] at h; cases h
  cases h3 : frB 1 50 r1 && (frB 1 50 r2 && frB 1 50 r3)
  · rw [h1, h2, h3] at h; cases h
  cases h4 : frB 0 1024 r4
  · rw [h1, h2, h3, h4] at h; cases h
  cases h5 : frB 1 65536 r5
  · rw [h1, h2, h3, h4, h5] at h; cases h
  cases h6 : frB 1 50 r6
  · rw [h1, h2, h3, h4, h5, h6] at h; cases h
  cases h7 : frB 1 1073741824 r7
  · rw [h1, h2, h3, h4, h5, h6, h7] at h; cases h
  cases h8 : frB 0 (L.length : Int) r8
  · rw [h1, h2, h3, h4, h5, h6, h7, h8] at h; cases h
  simp only [Bool.and_eq_true] at h3
  exact ⟨frB_iff.1 h1, rfl, frB_iff.1 h3.1, frB_iff.1 h3.2.1, frB_iff.1 h3.2.2, frB_iff.1 h4, frB_iff.1 h5, frB_iff.1 h6, frB_iff.1 h7, frB_iff.1 h8⟩
theorem ask_end {s : ByteArray} (h : ¬ (s.size : Int) < 22) : (fitP (by1 (dt 4 s)) (dt 22 s) = true → askN s = endN s + 4) ∧ (fitP (by1 (dt 4 s)) (dt 22 s) = false → s.size < askN s) := by
  unfold askN
  rw [decide_eq_false h]
  show (_ → 22 + needP (by1 (dt 4 s)) (dt 22 s) = _) ∧ (_ → _ < 22 + needP (by1 (dt 4 s)) (dt 22 s))
  constructor
  · intro hf
    have := (fit_need _ _ hf).2
    rw [dt_size] at this
    unfold endN
    have hr : (restP (by1 (dt 4 s)) (dt 22 s)).size ≤ s.size - 22 := by
      have hp := needP_pos (by1 (dt 4 s)) (dt 22 s)
      omega
    omega
  · intro hf
    rcases Nat.lt_or_ge s.size (22 + needP (by1 (dt 4 s)) (dt 22 s)) with h1 | h1
    · exact h1
    · have := (need_fit (by1 (dt 4 s)) (dt 22 s) (by rw [dt_size]; omega)).1
      rw [this] at hf
      cases hf
theorem sum_end {s : ByteArray} (h : s.size = endN s + 4) : ((sumN s : Nat) : Int) = num4s (dt (endN s) s) := by
  unfold sumN num4s
  rw [decide_eq_false (show ¬ (s.size : Int) < 4 by omega), ext_dt 0 4 (endN s) s (by omega), Nat.add_zero, show s.size - 4 = endN s by omega, ← h, cond_false]
/-- What a text is that isn't refused. -/
theorem rf_ok {s : ByteArray} (h : rfE s = 0) : 26 ≤ s.size ∧ pfxB s = true ∧ fitP (by1 (dt 4 s)) (dt 22 s) = true ∧ s.size = endN s + 4 ∧ sum32 (s.extract 0 (endN s)) = num4s (dt (endN s) s) ∧ wrB (phsP sgn (by1 (dt 4 s)) (dt 22 s)) (by1 (dt 5 s)) (by1 (dt 6 s)) (by1 (dt 7 s)) (sgn (num4s (dt 10 s))) (sgn (num4s (dt 14 s))) (by1 (dt 8 s)) (sgn (num4s (dt 18 s))) (by1 (dt 9 s)) = 0 := by
  unfold rfE at h
  cases c0 : pfxB s
  · rw [c0] at h; cases h
  by_cases c2 : (s.size : Int) < (askN s : Int)
  · rw [c0, decide_eq_true c2] at h; cases h
  by_cases c3 : (s.size : Int) > (askN s : Int)
  · rw [c0, decide_eq_false c2, decide_eq_true c3] at h; cases h
  have ha := askN_le s
  have c1 : ¬ (s.size : Int) < 22 := by omega
  obtain ⟨a1, a2⟩ := ask_end c1
  cases hf : fitP (by1 (dt 4 s)) (dt 22 s)
  · have := a2 hf
    omega
  have e := a1 hf
  have hp := needP_pos (by1 (dt 4 s)) (dt 22 s)
  have h26 : 26 ≤ askN s := by
    unfold askN
    rw [decide_eq_false c1]
    show 26 ≤ 22 + _
    omega
  have he : s.size = endN s + 4 := by omega
  rw [c0, decide_eq_false c2, decide_eq_false c3, show askN s - 4 = endN s by omega, sum_end he] at h
  cases c5 : sum32 (s.extract 0 (endN s)) != num4s (dt (endN s) s)
  · rw [c5] at h
    refine ⟨by omega, rfl, rfl, he, ?_, ?_⟩
    · rw [bne_eq_false_iff_eq] at c5
      exact c5
    · cases c6 : wrB (phsP sgn (by1 (dt 4 s)) (dt 22 s)) (by1 (dt 5 s)) (by1 (dt 6 s)) (by1 (dt 7 s)) (sgn (num4s (dt 10 s))) (sgn (num4s (dt 14 s))) (by1 (dt 8 s)) (sgn (num4s (dt 18 s))) (by1 (dt 9 s)) == 0
      · rw [c6] at h; cases h
      · exact eq_of_beq c6
  · rw [c5] at h; cases h
end Go.Proofs.Ytikekoabadhmiaa

namespace Go.Proofs.Ytikekoabadhmiaa
open Go Go.Proofs Go.Sx
set_option linter.unusedVariables false
/-! norm -/
/-! cast -/
/-! rep [CK.sl 33 [CK0.num IntKind.i64, CK0.num IntKind.i64], .num .i64, .num .i64, .num .i64, .num .i64] => kPh -/
/-! rep (dropT (0 : Nat) (L.getD k.toNat [])) => (L.getD k.toNat []) -/
/-! rep (dropT (0 : Nat) (L2.getD k.toNat [])) => (L2.getD k.toNat []) -/
/-! rep (dropT (0 : Nat) (L.getD i.toNat [])) => (L.getD i.toNat []) -/
/-! rep (dropT (0 : Nat) (M.getD k.toNat [])) => (M.getD k.toNat []) -/
/-! repp (List.brecOn.go (motive := fun x => Nat → List Dat → List (List Dat)) M List.set._f).1 k.toNat ==> M.set k.toNat -/
/-! rep (((L.getD i.toNat []).headD (Dat.n (0 : Int))).toL) => (phA L i) -/
/-! rep ((L.getD i.toNat []).headD (Dat.n (0 : Int))).toL => (phA L i) -/
/-! rep (((L.getD i.toNat []).tail.headD (Dat.n (0 : Int))).toI) => (phG L i) -/
/-! rep ((L.getD i.toNat []).tail.headD (Dat.n (0 : Int))).toI => (phG L i) -/
/-! rep (((L.getD i.toNat []).tail.tail.headD (Dat.n (0 : Int))).toI) => (phV L i) -/
/-! rep ((L.getD i.toNat []).tail.tail.headD (Dat.n (0 : Int))).toI => (phV L i) -/
/-! rep (((L.getD i.toNat []).tail.tail.tail.headD (Dat.n (0 : Int))).toI) => (phM L i) -/
/-! rep ((L.getD i.toNat []).tail.tail.tail.headD (Dat.n (0 : Int))).toI => (phM L i) -/
/-! rep (((L.getD i.toNat []).tail.tail.tail.tail.headD (Dat.n (0 : Int))).toI) => (phU L i) -/
/-! rep ((L.getD i.toNat []).tail.tail.tail.tail.headD (Dat.n (0 : Int))).toI => (phU L i) -/
/-! rep (((L2.getD i.toNat []).headD (Dat.n (0 : Int))).toL) => (phA L2 i) -/
/-! rep ((L2.getD i.toNat []).headD (Dat.n (0 : Int))).toL => (phA L2 i) -/
/-! rep (((L2.getD i.toNat []).tail.headD (Dat.n (0 : Int))).toI) => (phG L2 i) -/
/-! rep ((L2.getD i.toNat []).tail.headD (Dat.n (0 : Int))).toI => (phG L2 i) -/
/-! rep (((L2.getD i.toNat []).tail.tail.headD (Dat.n (0 : Int))).toI) => (phV L2 i) -/
/-! rep ((L2.getD i.toNat []).tail.tail.headD (Dat.n (0 : Int))).toI => (phV L2 i) -/
/-! rep (((L2.getD i.toNat []).tail.tail.tail.headD (Dat.n (0 : Int))).toI) => (phM L2 i) -/
/-! rep ((L2.getD i.toNat []).tail.tail.tail.headD (Dat.n (0 : Int))).toI => (phM L2 i) -/
/-! rep (((L2.getD i.toNat []).tail.tail.tail.tail.headD (Dat.n (0 : Int))).toI) => (phU L2 i) -/
/-! rep ((L2.getD i.toNat []).tail.tail.tail.tail.headD (Dat.n (0 : Int))).toI => (phU L2 i) -/
/-! rep (((M.getD i.toNat []).headD (Dat.n (0 : Int))).toL) => (phA M i) -/
/-! rep ((M.getD i.toNat []).headD (Dat.n (0 : Int))).toL => (phA M i) -/
/-! rep (((M.getD i.toNat []).tail.headD (Dat.n (0 : Int))).toI) => (phG M i) -/
/-! rep ((M.getD i.toNat []).tail.headD (Dat.n (0 : Int))).toI => (phG M i) -/
/-! rep (((M.getD i.toNat []).tail.tail.headD (Dat.n (0 : Int))).toI) => (phV M i) -/
/-! rep ((M.getD i.toNat []).tail.tail.headD (Dat.n (0 : Int))).toI => (phV M i) -/
/-! rep (((M.getD i.toNat []).tail.tail.tail.headD (Dat.n (0 : Int))).toI) => (phM M i) -/
/-! rep ((M.getD i.toNat []).tail.tail.tail.headD (Dat.n (0 : Int))).toI => (phM M i) -/
/-! rep (((M.getD i.toNat []).tail.tail.tail.tail.headD (Dat.n (0 : Int))).toI) => (phU M i) -/
/-! rep ((M.getD i.toNat []).tail.tail.tail.tail.headD (Dat.n (0 : Int))).toI => (phU M i) -/
/-! rep (((L.getD k.toNat []).headD (Dat.n (0 : Int))).toL) => (phA L k) -/
/-! rep ((L.getD k.toNat []).headD (Dat.n (0 : Int))).toL => (phA L k) -/
/-! rep (((L.getD k.toNat []).tail.headD (Dat.n (0 : Int))).toI) => (phG L k) -/
/-! rep ((L.getD k.toNat []).tail.headD (Dat.n (0 : Int))).toI => (phG L k) -/
/-! rep (((L.getD k.toNat []).tail.tail.headD (Dat.n (0 : Int))).toI) => (phV L k) -/
/-! rep ((L.getD k.toNat []).tail.tail.headD (Dat.n (0 : Int))).toI => (phV L k) -/
/-! rep (((L.getD k.toNat []).tail.tail.tail.headD (Dat.n (0 : Int))).toI) => (phM L k) -/
/-! rep ((L.getD k.toNat []).tail.tail.tail.headD (Dat.n (0 : Int))).toI => (phM L k) -/
/-! rep (((L.getD k.toNat []).tail.tail.tail.tail.headD (Dat.n (0 : Int))).toI) => (phU L k) -/
/-! rep ((L.getD k.toNat []).tail.tail.tail.tail.headD (Dat.n (0 : Int))).toI => (phU L k) -/
/-! rep (((L2.getD k.toNat []).headD (Dat.n (0 : Int))).toL) => (phA L2 k) -/
/-! rep ((L2.getD k.toNat []).headD (Dat.n (0 : Int))).toL => (phA L2 k) -/
/-! rep (((L2.getD k.toNat []).tail.headD (Dat.n (0 : Int))).toI) => (phG L2 k) -/
/-! rep ((L2.getD k.toNat []).tail.headD (Dat.n (0 : Int))).toI => (phG L2 k) -/
/-! rep (((L2.getD k.toNat []).tail.tail.headD (Dat.n (0 : Int))).toI) => (phV L2 k) -/
/-! rep ((L2.getD k.toNat []).tail.tail.headD (Dat.n (0 : Int))).toI => (phV L2 k) -/
/-! rep (((L2.getD k.toNat []).tail.tail.tail.headD (Dat.n (0 : Int))).toI) => (phM L2 k) -/
/-! rep ((L2.getD k.toNat []).tail.tail.tail.headD (Dat.n (0 : Int))).toI => (phM L2 k) -/
/-! rep (((L2.getD k.toNat []).tail.tail.tail.tail.headD (Dat.n (0 : Int))).toI) => (phU L2 k) -/
/-! rep ((L2.getD k.toNat []).tail.tail.tail.tail.headD (Dat.n (0 : Int))).toI => (phU L2 k) -/
/-! rep (((M.getD k.toNat []).headD (Dat.n (0 : Int))).toL) => (phA M k) -/
/-! rep ((M.getD k.toNat []).headD (Dat.n (0 : Int))).toL => (phA M k) -/
/-! rep (((M.getD k.toNat []).tail.headD (Dat.n (0 : Int))).toI) => (phG M k) -/
/-! rep ((M.getD k.toNat []).tail.headD (Dat.n (0 : Int))).toI => (phG M k) -/
/-! rep (((M.getD k.toNat []).tail.tail.headD (Dat.n (0 : Int))).toI) => (phV M k) -/
/-! rep ((M.getD k.toNat []).tail.tail.headD (Dat.n (0 : Int))).toI => (phV M k) -/
/-! rep (((M.getD k.toNat []).tail.tail.tail.headD (Dat.n (0 : Int))).toI) => (phM M k) -/
/-! rep ((M.getD k.toNat []).tail.tail.tail.headD (Dat.n (0 : Int))).toI => (phM M k) -/
/-! rep (((M.getD k.toNat []).tail.tail.tail.tail.headD (Dat.n (0 : Int))).toI) => (phU M k) -/
/-! rep ((M.getD k.toNat []).tail.tail.tail.tail.headD (Dat.n (0 : Int))).toI => (phU M k) -/

set_option maxRecDepth 20000 in
theorem runSm0 : runG ΓRf8 L0 Try.prog Try.f14 [.v ((.agg #[(Value.slice none (0 : Nat) (0 : Nat)), (I 0), (I 0), (I 0), (I 0), (I 0), (I 0), (I 0), (I 0)])), .v ((.agg #[(Value.slice none (0 : Nat) (0 : Nat)), (I 0), (I 0), (I 0), (I 0), (I 0), (I 0), (I 0), (I 0)]))] M0 = 
    some (.v (Bo true), M0) := by kernel_rfl
def gSm0 (vs : List Value) : Option (Bool × Value) :=
  match vs with
  | [.agg ⟨[.slice none 0 0, .int .i64 0, .int .i64 0, .int .i64 0, .int .i64 0, .int .i64 0, .int .i64 0, .int .i64 0, .int .i64 0]⟩, .agg ⟨[.slice none 0 0, .int .i64 0, .int .i64 0, .int .i64 0, .int .i64 0, .int .i64 0, .int .i64 0, .int .i64 0, .int .i64 0]⟩] => some (true, Bo true)
  | _ => none
theorem gSm0_ok : ∀ vs r, gSm0 vs = some (true, r) → ∀ m, CallOk Try.prog 14 (vs.map .v) m (.v r) m := by
  intro vs r h
  unfold gSm0 at h
  split at h
  · skip
    obtain ⟨h1, rfl⟩ := some_t h
    refine runV (vs := [(.agg #[(Value.slice none (0 : Nat) (0 : Nat)), (I 0), (I 0), (I 0), (I 0), (I 0), (I 0), (I 0), (I 0)]), (.agg #[(Value.slice none (0 : Nat) (0 : Nat)), (I 0), (I 0), (I 0), (I 0), (I 0), (I 0), (I 0), (I 0)])]) (Λ := L0) (m' := M0) OkRf8 Try.func14 rfl (fun z _ _ => l0Ok' _ z) ?_
    exact (runSm0 ).trans (rfl)
  · cases h
noncomputable def Γz1 : Orc := addVal 14 gSm0 ΓRf8
theorem Okz1 : Γz1.Ok Try.prog := addVal_ok OkRf8 gSm0_ok
set_option maxRecDepth 20000 in
theorem runPr0 : runG Γz1 L0 Try.prog Try.f21 [.v ((.agg #[(Value.slice none (0 : Nat) (0 : Nat)), (I 0), (I 0), (I 0), (I 0), (I 0), (I 0), (I 0), (I 0)]))] M0 = 
    some (.v (.tuple #[(S { data := #[] : ByteArray }), (I 1)]), M0) := by kernel_rfl
def gPr0 (vs : List Value) : Option (Bool × Value) :=
  match vs with
  | [.agg ⟨[.slice none 0 0, .int .i64 0, .int .i64 0, .int .i64 0, .int .i64 0, .int .i64 0, .int .i64 0, .int .i64 0, .int .i64 0]⟩] => some (true, .tuple #[S ⟨#[]⟩, I 1])
  | _ => none
theorem gPr0_ok : ∀ vs r, gPr0 vs = some (true, r) → ∀ m, CallOk Try.prog 21 (vs.map .v) m (.v r) m := by
  intro vs r h
  unfold gPr0 at h
  split at h
  · skip
    obtain ⟨h1, rfl⟩ := some_t h
    refine runV (vs := [(.agg #[(Value.slice none (0 : Nat) (0 : Nat)), (I 0), (I 0), (I 0), (I 0), (I 0), (I 0), (I 0), (I 0)])]) (Λ := L0) (m' := M0) Okz1 Try.func21 rfl (fun z _ _ => l0Ok' _ z) ?_
    exact (runPr0 ).trans (rfl)
  · cases h
noncomputable def Γz2 : Orc := addVal 21 gPr0 Γz1
theorem Okz2 : Γz2.Ok Try.prog := addVal_ok Okz1 gPr0_ok
noncomputable def ΓRf9 : Orc := Γz2
theorem OkRf9 : ΓRf9.Ok Try.prog := Okz2
end Go.Proofs.Ytikekoabadhmiaa

namespace Go.Proofs.Ytikekoabadhmiaa
open Go Go.Proofs Go.Sx
set_option linter.unusedVariables false
theorem sameB_self (L : List (List Dat)) : sameB L L = true := by
  unfold sameB
  rw [beq_self_eq_true, anyN_none.2 fun k _ _ => ?_]
  · rfl
  · unfold neP
    simp
theorem samR_self (L : List (List Dat)) (r1 r2 r3 r4 r5 r6 r7 r8 : Int) : samR L r1 r2 r3 r4 r5 r6 r7 r8 L r1 r2 r3 r4 r5 r6 r7 r8 = true := by
  unfold samR
  rw [anyN_none.2 fun k _ _ => ?_]
  · simp
  · unfold neH smP
    rw [sameB_self]
    simp
theorem restP_dt : ∀ (n : Nat) (t : ByteArray), fitP n t = true → ∃ k, restP n t = dt k t ∧ k ≤ t.size
  | 0, t, _ => ⟨0, (dt_0 t).symm, by omega⟩
  | n + 1, t, h => by
    rw [fitP, Bool.and_eq_true] at h
    have hl := Nat.le_of_ble_eq_true h.1
    obtain ⟨k, e, hk⟩ := restP_dt n (dt (lenP t) t) h.2
    rw [dt_size] at hk
    exact ⟨lenP t + k, by rw [restP, e, dt_dt], by omega⟩
end Go.Proofs.Ytikekoabadhmiaa

