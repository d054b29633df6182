/-
  The four laws of latch over values.
-/
import Derived.Test.YtlhgaehjkpjniaaYe
import Derived.Test.YtlhgaehjkpjniaaSx
namespace Go.Proofs.Ytlhgaehjkpjniaa
open Go Go.Proofs Go.Sx
set_option linter.unusedVariables false
/-! norm -/
/-! cast -/
set_option maxRecDepth 40000 in
theorem treeLatchPrints (q c p u f v d i n : Int) (s : ByteArray) : runG ΓLk L0 Try.prog Try.f7 [.v (.agg #[I q, I c, I p, I u, I f, I v, I d, I i, I n]), .v (S s)] M0 = 
    (bif decide ((s.size : Int) > (100 : Int)) then some (.v (Bo true), M0) else (bif (recS q c p u f v d i n).toList == (recS q c p u f v d i n).toList then (bif rightL q c p u f v d i n == rightL q c p u f v d i n then (bif okS (recS q c p u f v d i n) == !(recS q c p u f v d i n).toList == { data := #[] : ByteArray }.toList then (bif !okS (recS q c p u f v d i n) then (bif zI (okS s) (qS s) == zI (okS s) (qS s) && (zI (okS s) (cS s) == zI (okS s) (cS s) && (zI (okS s) (pS s) == zI (okS s) (pS s) && (zI (okS s) (uS s) == zI (okS s) (uS s) && (zI (okS s) (fS s) == zI (okS s) (fS s) && (zI (okS s) (strAt s (9 : Int)) == zI (okS s) (strAt s (9 : Int)) && (zI (okS s) (strAt s (10 : Int)) == zI (okS s) (strAt s (10 : Int)) && (zI (okS s) (strAt s (11 : Int)) == zI (okS s) (strAt s (11 : Int)) && (zI (okS s) (nS s) == zI (okS s) (nS s) && true)))))))) then (bif okS s == okS s then (bif !okS s then some (.v (Bo true), M0) else some (.v (Bo ((recS (zI (okS s) (qS s)) (zI (okS s) (cS s)) (zI (okS s) (pS s)) (zI (okS s) (uS s)) (zI (okS s) (fS s)) (zI (okS s) (strAt s (9 : Int))) (zI (okS s) (strAt s (10 : Int))) (zI (okS s) (strAt s (11 : Int))) (zI (okS s) (nS s))).toList == s.toList)), M0)) else some (.v (Bo false), M0)) else some (.v (Bo false), M0)) else (bif zI (okS (recS q c p u f v d i n)) (qS (recS q c p u f v d i n)) == q && (zI (okS (recS q c p u f v d i n)) (cS (recS q c p u f v d i n)) == c && (zI (okS (recS q c p u f v d i n)) (pS (recS q c p u f v d i n)) == p && (zI (okS (recS q c p u f v d i n)) (uS (recS q c p u f v d i n)) == u && (zI (okS (recS q c p u f v d i n)) (fS (recS q c p u f v d i n)) == f && (zI (okS (recS q c p u f v d i n)) (strAt (recS q c p u f v d i n) (9 : Int)) == v && (zI (okS (recS q c p u f v d i n)) (strAt (recS q c p u f v d i n) (10 : Int)) == d && (zI (okS (recS q c p u f v d i n)) (strAt (recS q c p u f v d i n) (11 : Int)) == i && (zI (okS (recS q c p u f v d i n)) (nS (recS q c p u f v d i n)) == n && true)))))))) then (bif zI (okS s) (qS s) == zI (okS s) (qS s) && (zI (okS s) (cS s) == zI (okS s) (cS s) && (zI (okS s) (pS s) == zI (okS s) (pS s) && (zI (okS s) (uS s) == zI (okS s) (uS s) && (zI (okS s) (fS s) == zI (okS s) (fS s) && (zI (okS s) (strAt s (9 : Int)) == zI (okS s) (strAt s (9 : Int)) && (zI (okS s) (strAt s (10 : Int)) == zI (okS s) (strAt s (10 : Int)) && (zI (okS s) (strAt s (11 : Int)) == zI (okS s) (strAt s (11 : Int)) && (zI (okS s) (nS s) == zI (okS s) (nS s) && true)))))))) then (bif okS s == okS s then (bif !okS s then some (.v (Bo true), M0) else some (.v (Bo ((recS (zI (okS s) (qS s)) (zI (okS s) (cS s)) (zI (okS s) (pS s)) (zI (okS s) (uS s)) (zI (okS s) (fS s)) (zI (okS s) (strAt s (9 : Int))) (zI (okS s) (strAt s (10 : Int))) (zI (okS s) (strAt s (11 : Int))) (zI (okS s) (nS s))).toList == s.toList)), M0)) else some (.v (Bo false), M0)) else some (.v (Bo false), M0)) else some (.v (Bo false), M0))) else some (.v (Bo false), M0)) else some (.v (Bo false), M0)) else some (.v (Bo false), M0))) := by kernel_rfl
end Go.Proofs.Ytlhgaehjkpjniaa

namespace Go.Proofs.Ytlhgaehjkpjniaa
open Go Go.Proofs Go.Sx
set_option linter.unusedVariables false
theorem with_iff {n l m : Int} : withB n l m = true ↔ l ≤ n ∧ n ≤ m := by
  unfold withB
  by_cases h : n ≥ l
  · rw [decide_eq_true h, cond_true, decide_eq_true_iff]
    exact ⟨fun g => ⟨h, g⟩, fun g => g.2⟩
  · rw [decide_eq_false h]
    exact ⟨fun g => (by cases g), fun g => absurd g.1 h⟩
theorem rightL_and (q c p u f v d i n : Int) : rightL q c p u f v d i n = (withB v 0 255 && (withB d 0 255 && (withB i 0 255 && (withB p 0 3 && (withB u 0 2 && (withB f 0 1 && (withB q 1 2147483648 && (withB c 0 1000000 && withB n 0 1000000)))))))) := by
  unfold rightL
  cases withB v 0 255
  · rfl
  cases withB d 0 255
  · rfl
  cases withB i 0 255
  · rfl
  cases withB p 0 3
  · rfl
  cases withB u 0 2
  · rfl
  cases withB f 0 1
  · rfl
  cases withB q 1 2147483648
  · rfl
  cases withB c 0 1000000
  · rfl
  rfl
theorem right_iff {q c p u f v d i n : Int} (h : rightL q c p u f v d i n = true) : (0 ≤ v ∧ v ≤ 255) ∧ (0 ≤ d ∧ d ≤ 255) ∧ (0 ≤ i ∧ i ≤ 255) ∧ (0 ≤ p ∧ p ≤ 3) ∧ (0 ≤ u ∧ u ≤ 2) ∧ (0 ≤ f ∧ f ≤ 1) ∧ (1 ≤ q ∧ q ≤ 2147483648) ∧ (0 ≤ c ∧ c ≤ 1000000) ∧ (0 ≤ n ∧ n ≤ 1000000) := by
  rw [rightL_and] at h
  simpa only [Bool.and_eq_true, with_iff] using h
theorem rec_L {q c p u f v d i n : Int} (h : rightL q c p u f v d i n = true) : ∃ k : Int, L (recS q c p u f v d i n) = L (be 4 q) ++ (L (be 4 c) ++ (L (be 1 (p + 4 * f + 16 * u)) ++ (L (be 1 v) ++ (L (be 1 d) ++ (L (be 1 i) ++ (L (be 4 n) ++ (L (be 4 k) ++ L (be 4 q)))))))) := by
  obtain ⟨_, _, _, hp, hu, hf, _⟩ := right_iff h
  refine ⟨wI (sum32 (bodyS q c p u f v d i n)), ?_⟩
  unfold recS
  rw [h]
  show L (bodyS q c p u f v d i n ++ be 4 (wI (sum32 (bodyS q c p u f v d i n))) ++ be 4 q) = _
  generalize wI (sum32 (bodyS q c p u f v d i n)) = k
  unfold bodyS
  rw [wI_id (n := 4 * f) (by omega), wI_id (n := p + 4 * f) (by omega), wI_id (n := 16 * u) (by omega), wI_id (n := p + 4 * f + 16 * u) (by omega)]
  simp only [L_app, List.append_assoc]
theorem ext_is {s t : ByteArray} {a : Nat} {A B : List UInt8} (h : L s = A ++ (L t ++ B)) (ha : A.length = a) (ht : t.size = 4) : s.extract a (a + 4) = t := by
  rw [← L_inj, L_ext, h, List.drop_append, List.drop_of_length_le (by omega), ha, Nat.sub_self, List.drop_zero, List.nil_append, show a + 4 - a = (L t).length by rw [L_len]; omega, List.take_left]
theorem at_is {s : ByteArray} {a : Nat} {A B : List UInt8} {x : Int} (h : L s = A ++ (L (be 1 x) ++ B)) (ha : A.length = a) (hx : 0 ≤ x ∧ x < 256) : strAt s (a : Int) = x := by
  rw [strAt_L, h, List.getElem?_append_right (by omega), ha, Nat.sub_self, L_be1]
  show (((UInt8.ofNat (x / 256 ^ 0 % 256).toNat).toNat : Nat) : Int) = x
  rw [show (256 : Int) ^ 0 = 1 by decide, Int.ediv_one, toNat_ofI (by omega) (by omega)]
  omega
theorem rec_rd {q c p u f v d i n : Int} (h : rightL q c p u f v d i n = true) : (recS q c p u f v d i n).size = 24 ∧ qS (recS q c p u f v d i n) = q ∧ cS (recS q c p u f v d i n) = c ∧ pS (recS q c p u f v d i n) = p ∧ uS (recS q c p u f v d i n) = u ∧ fS (recS q c p u f v d i n) = f ∧ strAt (recS q c p u f v d i n) 9 = v ∧ strAt (recS q c p u f v d i n) 10 = d ∧ strAt (recS q c p u f v d i n) 11 = i ∧ nS (recS q c p u f v d i n) = n := by
  obtain ⟨k, hL⟩ := rec_L h
  obtain ⟨hv, hd, hi, hp, hu, hf, hq, hc, hn⟩ := right_iff h
  generalize recS q c p u f v d i n = s at hL ⊢
  have l4 : ∀ x, (L (be 4 x)).length = 4 := fun x => by rw [L_len, be_size]
  have l1 : ∀ x, (L (be 1 x)).length = 1 := fun x => by rw [L_len, be_size]
  have e0 : s.extract 0 4 = be 4 q := ext_is (A := []) (a := 0) hL rfl (be_size 4 q)
  have e4 : s.extract 4 8 = be 4 c := ext_is (A := L (be 4 q)) (a := 4) hL (l4 _) (be_size 4 c)
  have e8 : strAt s 8 = p + 4 * f + 16 * u := at_is (A := L (be 4 q) ++ L (be 4 c)) (a := 8) (by rw [hL]; simp only [List.append_assoc]; rfl) (by rw [List.length_append, l4, l4]) (by omega)
  have e9 : strAt s 9 = v := at_is (A := L (be 4 q) ++ (L (be 4 c) ++ L (be 1 (p + 4 * f + 16 * u)))) (a := 9) (by rw [hL]; simp only [List.append_assoc]; rfl) (by rw [List.length_append, List.length_append, l4, l4, l1]) (by omega)
  have e10 : strAt s 10 = d := at_is (A := L (be 4 q) ++ (L (be 4 c) ++ (L (be 1 (p + 4 * f + 16 * u)) ++ L (be 1 v)))) (a := 10) (by rw [hL]; simp only [List.append_assoc]; rfl) (by rw [List.length_append, List.length_append, List.length_append, l4, l4, l1, l1]) (by omega)
  have e11 : strAt s 11 = i := at_is (A := L (be 4 q) ++ (L (be 4 c) ++ (L (be 1 (p + 4 * f + 16 * u)) ++ (L (be 1 v) ++ L (be 1 d))))) (a := 11) (by rw [hL]; simp only [List.append_assoc]; rfl) (by rw [List.length_append, List.length_append, List.length_append, List.length_append, l4, l4, l1, l1, l1]) (by omega)
  have e12 : s.extract 12 16 = be 4 n := ext_is (A := L (be 4 q) ++ (L (be 4 c) ++ (L (be 1 (p + 4 * f + 16 * u)) ++ (L (be 1 v) ++ (L (be 1 d) ++ L (be 1 i)))))) (a := 12) (by rw [hL]; simp only [List.append_assoc]; rfl) (by rw [List.length_append, List.length_append, List.length_append, List.length_append, List.length_append, l4, l4, l1, l1, l1, l1]) (be_size 4 n)
  have hz : s.size = 24 := by
    rw [← L_len, hL]
    simp only [List.length_append, l4, l1]
  refine ⟨hz, ?_, ?_, ?_, ?_, ?_, e9, e10, e11, ?_⟩
  · unfold qS; rw [e0, num_be4]; omega
  · unfold cS; rw [e4, num_be4]; omega
  · unfold pS; rw [e8]; omega
  · unfold uS; rw [e8]; omega
  · unfold fS; rw [e8]; omega
  · unfold nS; rw [e12, num_be4]; omega
theorem toList_beq (a b : ByteArray) : (a.toList == b.toList) = decide (a = b) := by
  rw [beq_TS]
  by_cases h : a = b
  · rw [decide_eq_true h, (beq_S a b).2 h]
  · rw [decide_eq_false h]
    cases e : a == b
    · rfl
    · exact absurd ((beq_S a b).1 e) h
theorem okS_iff (s : ByteArray) : okS s = true ↔ s.size = 24 ∧ rdS s = s := by
  unfold okS
  by_cases hs : s.size = 24
  · rw [show ((s.size : Int) != 24) = false by rw [hs]; rfl, cond_false, toList_beq, decide_eq_true_iff]
    exact ⟨fun g => ⟨hs, g⟩, fun g => g.2⟩
  · rw [bne_iff_ne.2 (show (s.size : Int) ≠ 24 by omega)]
    exact ⟨fun g => (by cases g), fun g => absurd g.1 hs⟩
theorem recS_none {q c p u f v d i n : Int} (h : rightL q c p u f v d i n = false) : recS q c p u f v d i n = ⟨#[]⟩ := by
  unfold recS
  rw [h]
  rfl
theorem ok_rec (q c p u f v d i n : Int) : okS (recS q c p u f v d i n) = rightL q c p u f v d i n := by
  cases h : rightL q c p u f v d i n
  · rw [recS_none h]
    rfl
  · rw [okS_iff]
    obtain ⟨hz, e1, e2, e3, e4, e5, e6, e7, e8, e9⟩ := rec_rd h
    refine ⟨hz, ?_⟩
    unfold rdS
    rw [e1, e2, e3, e4, e5, e6, e7, e8, e9]
theorem rec_empty (q c p u f v d i n : Int) : ((recS q c p u f v d i n).toList == (⟨#[]⟩ : ByteArray).toList) = !rightL q c p u f v d i n := by
  rw [toList_beq]
  cases h : rightL q c p u f v d i n
  · rw [recS_none h, decide_eq_true rfl]; rfl
  · have hz := (rec_rd h).1
    rw [decide_eq_false (fun e => by rw [e] at hz; exact absurd hz (by decide))]; rfl
theorem latchPrints (q c p u f v d i n : Int) (s : ByteArray) : runG ΓLk L0 Try.prog Try.f7 [.v (.agg #[I q, I c, I p, I u, I f, I v, I d, I i, I n]), .v (S s)] M0 = some (.v (.bool true), M0) := (treeLatchPrints q c p u f v d i n s).trans (by
  have back : okS s = true → recS (zI (okS s) (qS s)) (zI (okS s) (cS s)) (zI (okS s) (pS s)) (zI (okS s) (uS s)) (zI (okS s) (fS s)) (zI (okS s) (strAt s 9)) (zI (okS s) (strAt s 10)) (zI (okS s) (strAt s 11)) (zI (okS s) (nS s)) = s := fun h => by
    rw [h]
    exact ((okS_iff s).1 h).2
  by_cases h1 : (s.size : Int) > 100
  · rw [decide_eq_true h1]; rfl
  rw [decide_eq_false h1]
  simp only [ok_rec, rec_empty, Bool.not_not, beq_self_eq_true, cond_true, cond_false, Bool.and_true]
  cases h : rightL q c p u f v d i n
  · cases hs : okS s
    · rfl
    · rw [hs] at back
      rw [back rfl, beq_self_eq_true]
      rfl
  · obtain ⟨hz, e1, e2, e3, e4, e5, e6, e7, e8, e9⟩ := rec_rd h
    have z : ∀ x, zI true x = x := fun x => rfl
    simp only [z, e1, e2, e3, e4, e5, e6, e7, e8, e9, beq_self_eq_true, Bool.and_self]
    cases hs : okS s
    · rfl
    · rw [hs] at back
      rw [back rfl, beq_self_eq_true]
      rfl)
end Go.Proofs.Ytlhgaehjkpjniaa

namespace Go.Proofs.Ytlhgaehjkpjniaa
open Go Go.Proofs Go.Sx
set_option linter.unusedVariables false
/-! norm -/
/-! cast -/
/-! rep (bytesL (recS q c p u f v d i n)) => (bytesL (recS q c p u f v d i n)) -/
noncomputable def ΓLm : Orc := { ΓLk with sb := true }
theorem OkLm : ΓLm.Ok Try.prog := ⟨OkLk.call, OkLk.rd, OkLk.eqv⟩
set_option maxRecDepth 40000 in
theorem treeLatchBits (q c p u f v d i n bit : Int) : runG ΓLm L0 Try.prog Try.f9 [.v (.agg #[I q, I c, I p, I u, I f, I v, I d, I i, I n]), .v (I bit)] M0 = 
    (bif (recS q c p u f v d i n).toList == { data := #[] : ByteArray }.toList then some (.v (Bo true), M0) else (bif decide ((0 : Int) ≤ wI ((wI ((IntKind.u64.wrap bit).tmod (192 : Int))).tdiv (8 : Int))) && decide (wI ((wI ((IntKind.u64.wrap bit).tmod (192 : Int))).tdiv (8 : Int)) < ((rowN (bytesL (recS q c p u f v d i n))).length : Int)) then (bif decide ((wI ((IntKind.u64.wrap bit).tmod (192 : Int))).tmod (8 : Int) < (0 : Int)) then none else (bif decide ((0 : Int) ≤ wI ((wI ((IntKind.u64.wrap bit).tmod (192 : Int))).tdiv (8 : Int))) && decide (wI ((wI ((IntKind.u64.wrap bit).tmod (192 : Int))).tdiv (8 : Int)) < ((rowN (bytesL (recS q c p u f v d i n))).length : Int)) then some (.v (Bo (!okS (strOfNums (numsOf ((rowN (bytesL (recS q c p u f v d i n))).set (wI ((wI ((IntKind.u64.wrap bit).tmod (192 : Int))).tdiv (8 : Int))).toNat [Dat.n (IntKind.u8.wrap ((BitVec.ofInt (8 : Nat) (((rowN (bytesL (recS q c p u f v d i n))).getD (wI ((wI ((IntKind.u64.wrap bit).tmod (192 : Int))).tdiv (8 : Int))).toNat []).headD (Dat.n (0 : Int))).toI ^^^ BitVec.ofInt (8 : Nat) (IntKind.u8.wrap ((1 : Int) * (2 : Int) ^ min ((wI ((IntKind.u64.wrap bit).tmod (192 : Int))).tmod (8 : Int)).toNat (8 : Nat)))).toNat : Int))]))))), M0) else none)) else none)) := by kernel_rfl
end Go.Proofs.Ytlhgaehjkpjniaa

namespace Go.Proofs.Ytlhgaehjkpjniaa
open Go Go.Proofs Go.Sx
set_option linter.unusedVariables false
/-! Sums of 32 bits are linear. -/
theorem n32_eq (a : Nat) : n32 a = (a / 2) ^^^ (bif a.testBit 0 then 3988292384 else 0) := by
  have e : Nat.beq (a % 2) 1 = a.testBit 0 := by
    rw [Nat.testBit_zero]
    rcases Nat.mod_two_eq_zero_or_one a with h | h <;> rw [h] <;> rfl
  unfold n32
  rw [e]
  cases a.testBit 0
  · simp
  · rfl
theorem cond_xor (p q : Bool) (c : Nat) : (bif (p ^^ q) then c else 0) = (bif p then c else 0) ^^^ (bif q then c else 0) := by
  cases p <;> cases q <;> simp
theorem xor4 (a b c d : Nat) : (a ^^^ b) ^^^ (c ^^^ d) = (a ^^^ c) ^^^ (b ^^^ d) := by
  rw [Nat.xor_assoc, ← Nat.xor_assoc b c d, Nat.xor_comm b c, Nat.xor_assoc c b d, ← Nat.xor_assoc a c]
theorem n32_xor (a b : Nat) : n32 (a ^^^ b) = n32 a ^^^ n32 b := by
  rw [n32_eq a, n32_eq b, n32_eq (a ^^^ b), xor4, Nat.testBit_xor, cond_xor]
  congr 1
  apply Nat.eq_of_testBit_eq
  intro j
  rw [Nat.testBit_xor, Nat.testBit_div_two, Nat.testBit_div_two, Nat.testBit_div_two, Nat.testBit_xor]
theorem it32_xor : ∀ (k a b : Nat), it n32 k (a ^^^ b) = it n32 k a ^^^ it n32 k b
  | 0, _, _ => rfl
  | k + 1, a, b => by
    show it n32 k (n32 (a ^^^ b)) = it n32 k (n32 a) ^^^ it n32 k (n32 b)
    rw [n32_xor a b, it32_xor k]
theorem N32_xor (a b : Nat) : N32 (a ^^^ b) = N32 a ^^^ N32 b := it32_xor 8 a b
theorem it32_high : ∀ (j k : Nat), it n32 j (2 ^ j * k) = k
  | 0, k => by simp [it]
  | j + 1, k => by
    have e : n32 (2 ^ (j + 1) * k) = 2 ^ j * k := by
      have : 2 ^ (j + 1) * k = 2 * (2 ^ j * k) := by rw [Nat.pow_succ, Nat.mul_comm (2 ^ j) 2, Nat.mul_assoc]
      rw [this]
      unfold n32
      rw [show 2 * (2 ^ j * k) % 2 = 0 by omega]
      show 2 * (2 ^ j * k) / 2 = _
      omega
    show it n32 j (n32 (2 ^ (j + 1) * k)) = k
    rw [e, it32_high j k]
def p32n (x b : Nat) : Nat := N32 (x ^^^ b)
def small (B : List Nat) : Prop := ∀ b ∈ B, b < 256
theorem it_add (f : Nat → Nat) (a : Nat) : ∀ (b x : Nat), it f (a + b) x = it f a (it f b x)
  | 0, _ => rfl
  | b + 1, x => by
    show it f (a + b) (f x) = it f a (it f b (f x))
    exact it_add f a b (f x)
theorem fold32_xor : ∀ (B : List Nat) (x y : Nat), B.foldl p32n (x ^^^ y) = B.foldl p32n x ^^^ it n32 (8 * B.length) y
  | [], x, y => rfl
  | b :: B, x, y => by
    have e : p32n (x ^^^ y) b = p32n x b ^^^ N32 y := by
      unfold p32n
      rw [Nat.xor_assoc, Nat.xor_comm y, ← Nat.xor_assoc, N32_xor]
    rw [List.foldl_cons, List.foldl_cons, e, fold32_xor B, List.length_cons, show 8 * (B.length + 1) = 8 * B.length + 8 by omega, it_add]
    rfl
theorem flip32_fold (v : Nat) : ∀ (B : List Nat) (q x : Nat), q < B.length → (B.set q (B.getD q 0 ^^^ v)).foldl p32n x = B.foldl p32n x ^^^ it n32 (8 * (B.length - q)) v
  | [], _, _, h => by simp at h
  | b :: B, 0, x, _ => by
    have e : p32n x (b ^^^ v) = p32n x b ^^^ N32 v := by
      unfold p32n
      rw [← Nat.xor_assoc, N32_xor]
    show (B.foldl p32n (p32n x (b ^^^ v))) = B.foldl p32n (p32n x b) ^^^ _
    rw [e, fold32_xor B, List.length_cons, show 8 * (B.length + 1 - 0) = 8 * B.length + 8 by omega, it_add]
    rfl
  | b :: B, q + 1, x, h => by
    have := flip32_fold v B q (p32n x b) (by simpa using h)
    simpa using this
theorem down32 (r : Nat) : it n32 r (2 ^ r) = 1 := by
  have := it32_high r 1
  rwa [Nat.mul_one] at this
theorem turned32 {n a i : Nat} (hk : a + i < 8 * n) : it n32 (8 * (n - (a + i) / 8)) (2 ^ ((a + i) % 8)) = it n32 (8 * n - a) (2 ^ i) := by
  rw [show 8 * (n - (a + i) / 8) = (8 * n - (a + i)) + (a + i) % 8 by omega, show 8 * n - a = (8 * n - (a + i)) + i by omega, it_add, it_add, down32, down32]
theorem n32_zero {x : Nat} (hx : x < 4294967296) (h : n32 x = 0) : x = 0 := by
  rw [n32_eq, Nat.testBit_zero] at h
  rcases Nat.mod_two_eq_zero_or_one x with h1 | h1
  · rw [h1] at h
    simp at h
    omega
  · rw [h1] at h
    have h2 : x / 2 = 3988292384 := by
      have := congrArg (· ^^^ 3988292384) h
      simpa [Nat.xor_assoc] using this
    omega
theorem it32_zero : ∀ (k x : Nat), x < 4294967296 → it n32 k x = 0 → x = 0
  | 0, _, _, h => h
  | k + 1, x, hx, h => n32_zero hx (it32_zero k (n32 x) (n32_lt hx) h)
theorem F32_n (s : ByteArray) : F32 s = ((L s).map UInt8.toNat).foldl p32n 4294967295 := by
  unfold F32
  rw [List.foldl_map]
  rfl
theorem sum_flip {s t : ByteArray} {j v : Nat} (hj : j < s.size) (hv : v ≠ 0) (hv' : v < 4294967296) (ht : (L t).map UInt8.toNat = ((L s).map UInt8.toNat).set j (((L s).map UInt8.toNat).getD j 0 ^^^ v)) : sum32 t ≠ sum32 s := by
  intro h
  unfold sum32 at h
  have h1 : F32 t ^^^ 4294967295 = F32 s ^^^ 4294967295 := Int.ofNat.inj h
  have h2 : F32 t = F32 s := by
    have := congrArg (· ^^^ 4294967295) h1
    simpa [Nat.xor_assoc] using this
  rw [F32_n, F32_n, ht, flip32_fold v _ j _ (by rw [List.length_map, L_len]; exact hj)] at h2
  have h3 : it n32 (8 * (((L s).map UInt8.toNat).length - j)) v = 0 := by
    have := congrArg (((L s).map UInt8.toNat).foldl p32n 4294967295 ^^^ ·) h2
    simpa [← Nat.xor_assoc] using this
  exact hv (it32_zero _ _ hv' h3)
end Go.Proofs.Ytlhgaehjkpjniaa

namespace Go.Proofs.Ytlhgaehjkpjniaa
open Go Go.Proofs Go.Sx
set_option linter.unusedVariables false
theorem bitN (bit : Int) : ∃ j r : Nat, wI ((wI ((IntKind.u64.wrap bit).tmod (192 : Int))).tdiv (8 : Int)) = (j : Int) ∧ (wI ((IntKind.u64.wrap bit).tmod (192 : Int))).tmod (8 : Int) = (r : Int) ∧ j < 24 ∧ r < 8 := by
  rw [wrU]
  have a0 := Int.emod_nonneg bit (show (18446744073709551616 : Int) ≠ 0 by decide)
  rw [Int.tmod_eq_emod_of_nonneg a0, wI_id (n := bit % 18446744073709551616 % 192) (by omega), Int.tmod_eq_emod_of_nonneg (show 0 ≤ bit % 18446744073709551616 % 192 by omega), Int.tdiv_eq_ediv_of_nonneg (show 0 ≤ bit % 18446744073709551616 % 192 by omega), wI_id (by omega)]
  exact ⟨(bit % 18446744073709551616 % 192 / 8).toNat, (bit % 18446744073709551616 % 192 % 8).toNat, by omega, by omega, by omega, by omega⟩
/-- A text with one bit turned, as the law makes it. -/
def turnS (S : ByteArray) (j r : Nat) : ByteArray := strOfNums (numsOf ((rowN (bytesL S)).set j [Dat.n (IntKind.u8.wrap ((BitVec.ofInt 8 (((rowN (bytesL S)).getD j []).headD (Dat.n 0)).toI ^^^ BitVec.ofInt 8 (IntKind.u8.wrap ((1 : Int) * (2 : Int) ^ min r 8))).toNat : Int))]))
theorem turnS_L {S : ByteArray} {j r : Nat} (hj : j < S.size) (hr : r < 8) : ∃ b : UInt8, (L S)[j]? = some b ∧ L (turnS S j r) = (L S).set j (UInt8.ofNat (b.toNat ^^^ 2 ^ r)) ∧ b.toNat ^^^ 2 ^ r < 256 := by
  have hl : j < (L S).length := by rw [L_len]; exact hj
  refine ⟨(L S)[j], List.getElem?_eq_getElem hl, ?_, ?_⟩
  · have hb := byte_lt (L S)[j]
    have h2 : (2 : Nat) ^ r < 256 := by
      calc 2 ^ r < 2 ^ 8 := Nat.pow_lt_pow_right (by decide) hr
      _ = 256 := rfl
    have e0 : (rowN (bytesL S)).getD j [] = [Dat.n (((L S)[j]).toNat : Int)] := by
      simp [rowN, bytesL, List.getD, List.getElem?_eq_getElem hl]
    have e1 : IntKind.u8.wrap ((1 : Int) * (2 : Int) ^ min r 8) = ((2 ^ r : Nat) : Int) := by
      rw [wrap8_i, Int.one_mul, Nat.min_eq_left (by omega)]
      have : ((2 : Int) ^ r) = ((2 ^ r : Nat) : Int) := by simp
      rw [this]
      exact Int.emod_eq_of_lt (Int.natCast_nonneg _) (Int.ofNat_lt.2 h2)
    have e2 : IntKind.u8.wrap (((BitVec.ofInt 8 (((L S)[j]).toNat : Int) ^^^ BitVec.ofInt 8 ((2 ^ r : Nat) : Int)).toNat : Nat) : Int) = ((((L S)[j]).toNat ^^^ 2 ^ r : Nat) : Int) := by
      rw [xorB 8 _ _ hb h2, wrap8_i]
      have : Nat.xor ((L S)[j]).toNat (2 ^ r) < 2 ^ 8 := xor_lt 8 hb h2
      have e : Nat.xor ((L S)[j]).toNat (2 ^ r) = ((L S)[j]).toNat ^^^ 2 ^ r := rfl
      rw [e] at this ⊢
      omega
    unfold turnS
    rw [e0, e1]
    show L (strOfNums (numsOf ((rowN (bytesL S)).set j [Dat.n (IntKind.u8.wrap (((BitVec.ofInt 8 (((L S)[j]).toNat : Int) ^^^ BitVec.ofInt 8 ((2 ^ r : Nat) : Int)).toNat : Nat) : Int))]))) = _
    rw [e2]
    have e3 : (rowN (bytesL S)).set j [Dat.n ((((L S)[j]).toNat ^^^ 2 ^ r : Nat) : Int)] = rowN ((bytesL S).set j ((((L S)[j]).toNat ^^^ 2 ^ r : Nat) : Int)) := by
      simp [rowN, List.map_set]
    rw [e3, nums_rowN, L_nums, List.map_set]
    have e4 : (bytesL S).map (fun n => UInt8.ofNat n.toNat) = L S := by
      simp [bytesL, Function.comp_def]
    rw [e4]
    rfl
  · exact Nat.xor_lt_two_pow (n := 8) (byte_lt _) (by
      calc 2 ^ r < 2 ^ 8 := Nat.pow_lt_pow_right (by decide) hr
      _ = 256 := rfl)
theorem body_size (q c p u f v d i n : Int) : (bodyS q c p u f v d i n).size = 16 := by
  unfold bodyS
  simp only [ByteArray.size_append, be_size]
theorem sum_wI (s : ByteArray) : wI (sum32 s) = sum32 s ∧ 0 ≤ sum32 s ∧ sum32 s < 4294967296 := by
  have h : Nat.xor (F32 s) 4294967295 < 2 ^ 32 := xor_lt 32 (by rw [two32]; exact F32_lt s) (by decide)
  rw [two32] at h
  have e : sum32 s = ((Nat.xor (F32 s) 4294967295 : Nat) : Int) := rfl
  rw [e]
  exact ⟨wI_id (by omega), by omega, by omega⟩
theorem be4_inj {a b : Int} (ha : 0 ≤ a ∧ a < 4294967296) (hb : 0 ≤ b ∧ b < 4294967296) (h : be 4 a = be 4 b) : a = b := by
  have h1 := num_be4 a
  have h2 := num_be4 b
  rw [h] at h1
  omega
theorem rec_is {q c p u f v d i n : Int} (h : rightL q c p u f v d i n = true) : L (recS q c p u f v d i n) = L (bodyS q c p u f v d i n) ++ (L (be 4 (sum32 (bodyS q c p u f v d i n))) ++ L (be 4 q)) := by
  unfold recS
  rw [h, (sum_wI _).1]
  show L (bodyS q c p u f v d i n ++ be 4 (sum32 (bodyS q c p u f v d i n)) ++ be 4 q) = _
  rw [L_app, L_app, List.append_assoc]
theorem bit_none {q c p u f v d i n : Int} (h : rightL q c p u f v d i n = true) {j r : Nat} (hj : j < 24) (hr : r < 8) : okS (turnS (recS q c p u f v d i n) j r) = false := by
  obtain ⟨hz, hq, _⟩ := rec_rd h
  have hS := rec_is h
  have hB := body_size q c p u f v d i n
  generalize bodyS q c p u f v d i n = B at hS hB
  generalize recS q c p u f v d i n = S at hS hz hq ⊢
  obtain ⟨b, hb, hT, hx⟩ := turnS_L (S := S) (j := j) (r := r) (by omega) hr
  generalize turnS S j r = T at hT ⊢
  cases ho : okS T with
  | false => rfl
  | true =>
  exfalso
  obtain ⟨hTz, hrd⟩ := (okS_iff T).1 ho
  have hr' : rightL (qS T) (cS T) (pS T) (uS T) (fS T) (strAt T 9) (strAt T 10) (strAt T 11) (nS T) = true := by
    cases e : rightL (qS T) (cS T) (pS T) (uS T) (fS T) (strAt T 9) (strAt T 10) (strAt T 11) (nS T)
    · unfold rdS at hrd
      rw [recS_none e] at hrd
      rw [← hrd] at hTz
      exact absurd hTz (by decide)
    · rfl
  have hT2 := rec_is hr'
  have hB' := body_size (qS T) (cS T) (pS T) (uS T) (fS T) (strAt T 9) (strAt T 10) (strAt T 11) (nS T)
  have hrd' : recS (qS T) (cS T) (pS T) (uS T) (fS T) (strAt T 9) (strAt T 10) (strAt T 11) (nS T) = T := hrd
  rw [hrd'] at hT2
  generalize bodyS (qS T) (cS T) (pS T) (uS T) (fS T) (strAt T 9) (strAt T 10) (strAt T 11) (nS T) = B' at hT2 hB'
  have lB : (L B).length = 16 := by rw [L_len, hB]
  have lB' : (L B').length = 16 := by rw [L_len, hB']
  have tS : (L S).take 16 = L B := by rw [hS, List.take_append_of_le_length (by omega), List.take_of_length_le (by omega)]
  have tT : (L T).take 16 = L B' := by rw [hT2, List.take_append_of_le_length (by omega), List.take_of_length_le (by omega)]
  have dS : (L S).drop 16 = L (be 4 (sum32 B)) ++ L (be 4 q) := by rw [hS, List.drop_append, List.drop_of_length_le (by omega), lB]; rfl
  have dT : (L T).drop 16 = L (be 4 (sum32 B')) ++ L (be 4 (qS T)) := by rw [hT2, List.drop_append, List.drop_of_length_le (by omega), lB']; rfl
  have hne : UInt8.ofNat (b.toNat ^^^ 2 ^ r) ≠ b := by
    intro e
    have e1 := congrArg UInt8.toNat e
    rw [UInt8.toNat_ofNat', Nat.mod_eq_of_lt (show b.toNat ^^^ 2 ^ r < 2 ^ 8 from hx)] at e1
    have e2 := congrArg (b.toNat ^^^ ·) e1
    simp only [← Nat.xor_assoc, Nat.xor_self, Nat.zero_xor] at e2
    have := Nat.two_pow_pos r
    omega
  by_cases h16 : j < 16
  · have dE : (L T).drop 16 = (L S).drop 16 := by rw [hT, List.drop_set_of_lt (by omega)]
    rw [dS, dT] at dE
    have cE : L (be 4 (sum32 B')) = L (be 4 (sum32 B)) := by
      have := congrArg (List.take 4) dE
      rwa [List.take_append_of_le_length (by rw [L_len, be_size]; omega), List.take_append_of_le_length (by rw [L_len, be_size]; omega), List.take_of_length_le (by rw [L_len, be_size]; omega), List.take_of_length_le (by rw [L_len, be_size]; omega)] at this
    have sE : sum32 B' = sum32 B := be4_inj (sum_wI B').2 (sum_wI B).2 (L_inj.1 cE)
    have bE : L B' = (L B).set j (UInt8.ofNat (b.toNat ^^^ 2 ^ r)) := by rw [← tT, hT, List.take_set, tS]
    have hbB : (L B)[j]? = some b := by rw [← tS, List.getElem?_take_of_lt h16, hb]
    refine sum_flip (s := B) (t := B') (j := j) (v := 2 ^ r) (by omega) (by have := Nat.two_pow_pos r; omega) ?_ ?_ sE
    · calc 2 ^ r < 2 ^ 32 := Nat.pow_lt_pow_right (by decide) (by omega)
      _ = 4294967296 := by decide
    · rw [bE, List.map_set]
      congr 1
      rw [UInt8.toNat_ofNat', Nat.mod_eq_of_lt (show b.toNat ^^^ 2 ^ r < 2 ^ 8 from hx), List.getD_eq_getElem?_getD, List.getElem?_map, hbB]
      rfl
  · have bE : L B' = L B := by rw [← tT, hT, List.take_set_of_le (by omega), tS]
    have qE : qS T = q := by
      rw [← hq]
      unfold qS
      rw [show T.extract 0 4 = S.extract 0 4 by
        rw [← L_inj, L_ext, L_ext, List.drop_zero, List.drop_zero, hT, List.take_set_of_le (by omega)]]
    rw [L_inj.1 bE, qE, ← hS, hT] at hT2
    have := congrArg (·[j]?) hT2
    simp only [List.getElem?_set_self (show j < (L S).length by rw [L_len]; omega), hb] at this
    exact hne (Option.some.inj this)
theorem latchBits (q c p u f v d i n bit : Int) : runG ΓLm L0 Try.prog Try.f9 [.v (.agg #[I q, I c, I p, I u, I f, I v, I d, I i, I n]), .v (I bit)] M0 = some (.v (.bool true), M0) := (treeLatchBits q c p u f v d i n bit).trans (by
  rw [rec_empty]
  cases h : rightL q c p u f v d i n
  · rfl
  obtain ⟨j, r, hj, hr, hj', hr'⟩ := bitN bit
  have hz := (rec_rd h).1
  have hl : ((rowN (bytesL (recS q c p u f v d i n))).length : Int) = 24 := by
    rw [rowN_len, bytesL_len, hz]
    rfl
  have q1 : (decide ((0 : Int) ≤ (j : Int)) && decide ((j : Int) < 24)) = true := by simp; omega
  have q2 : decide ((r : Int) < (0 : Int)) = false := by simp
  have hb := bit_none h hj' hr'
  unfold turnS at hb
  rw [hj, hr, hl, q1, q2, Int.toNat_natCast, Int.toNat_natCast, hb]
  rfl)
end Go.Proofs.Ytlhgaehjkpjniaa

namespace Go.Proofs.Ytlhgaehjkpjniaa
open Go Go.Proofs Go.Sx
set_option linter.unusedVariables false
/-! norm -/
/-! cast -/
set_option maxRecDepth 40000 in
theorem treeNilS (q c p u f v d i n base : Int) : runG ΓLo L0 Try.prog Try.f10 [.v (.agg #[I q, I c, I p, I u, I f, I v, I d, I i, I n]), .v (I base)] M0 = 
    (bif okL (rowT (manyT (50 : Nat) (255))) (0 : Int) && refE false (50 : Int) base (48 : Int) == (0 : Int) then (bif decide (base ≥ (0 : Int)) then (bif true == decide (base ≤ (2 : Int)) then (bif decide (base ≤ (2 : Int)) then some (.v (Bo true), M0) else some (.v (Bo false), M0)) else some (.v (Bo false), M0)) else some (.v (Bo false), M0)) else none) := by kernel_rfl
set_option maxRecDepth 40000 in
theorem treeNilF (q c p u f v d i n base : Int) : runG ΓLp L0 Try.prog Try.f10 [.v (.agg #[I q, I c, I p, I u, I f, I v, I d, I i, I n]), .v (I base)] M0 = 
    (bif okL (rowT (manyT (50 : Nat) (255))) (0 : Int) && refE false (50 : Int) base (48 : Int) != (0 : Int) then (bif decide (base ≥ (0 : Int)) then (bif (refE false (50 : Int) base (48 : Int) == (0 : Int)) == decide (base ≤ (2 : Int)) then (bif decide (base ≤ (2 : Int)) then some (.v (Bo true), M0) else some (.v (Bo (refE false (50 : Int) base (48 : Int) == (2 : Int))), M0)) else some (.v (Bo false), M0)) else (bif (refE false (50 : Int) base (48 : Int) == (0 : Int)) == false then some (.v (Bo (refE false (50 : Int) base (48 : Int) == (2 : Int))), M0) else some (.v (Bo false), M0))) else none) := by kernel_rfl
end Go.Proofs.Ytlhgaehjkpjniaa

namespace Go.Proofs.Ytlhgaehjkpjniaa
open Go Go.Proofs Go.Sx
set_option linter.unusedVariables false
/-! norm -/
/-! cast -/
set_option maxRecDepth 40000 in
theorem treeSlots (a b : ByteArray) (q c p u f v d i n : Int) : runG ΓLo L0 Try.prog Try.f8 [.v (S a), .v (S b), .v (.agg #[I q, I c, I p, I u, I f, I v, I d, I i, I n])] M0 = 
    (bif (a.size : Int) != (24 : Int) then some (.v (Bo true), M0) else (bif (b.size : Int) != (24 : Int) then some (.v (Bo true), M0) else (bif okL (rowT (manyT (48 : Nat) (255))) (0 : Int) then (bif okL (rowT (wrB (txt (rowT (manyT (48 : Nat) (255)))) false false (0 : Int) (0 : Int) a)) (0 : Int) then (bif okL (rowT (wrB (txt (rowT (wrB (txt (rowT (manyT (48 : Nat) (255)))) false false (0 : Int) (0 : Int) a))) (wrD (txt (rowT (manyT (48 : Nat) (255)))) false false (0 : Int) a) (wrW (txt (rowT (manyT (48 : Nat) (255)))) false false (0 : Int) a) (0 : Int) (24 : Int) b)) (0 : Int) && refE (wrD (txt (rowT (wrB (txt (rowT (manyT (48 : Nat) (255)))) false false (0 : Int) (0 : Int) a))) (wrD (txt (rowT (manyT (48 : Nat) (255)))) false false (0 : Int) a) (wrW (txt (rowT (manyT (48 : Nat) (255)))) false false (0 : Int) a) (24 : Int) b) ((txt (rowT (wrB (txt (rowT (wrB (txt (rowT (manyT (48 : Nat) (255)))) false false (0 : Int) (0 : Int) a))) (wrD (txt (rowT (manyT (48 : Nat) (255)))) false false (0 : Int) a) (wrW (txt (rowT (manyT (48 : Nat) (255)))) false false (0 : Int) a) (0 : Int) (24 : Int) b))).size : Int) (0 : Int) (48 : Int) == (0 : Int) then (bif !decide (opI (sl0 (txt (rowT (wrB (txt (rowT (wrB (txt (rowT (manyT (48 : Nat) (255)))) false false (0 : Int) (0 : Int) a))) (wrD (txt (rowT (manyT (48 : Nat) (255)))) false false (0 : Int) a) (wrW (txt (rowT (manyT (48 : Nat) (255)))) false false (0 : Int) a) (0 : Int) (24 : Int) b))) (0 : Int)) (sl1 (txt (rowT (wrB (txt (rowT (wrB (txt (rowT (manyT (48 : Nat) (255)))) false false (0 : Int) (0 : Int) a))) (wrD (txt (rowT (manyT (48 : Nat) (255)))) false false (0 : Int) a) (wrW (txt (rowT (manyT (48 : Nat) (255)))) false false (0 : Int) a) (0 : Int) (24 : Int) b))) (0 : Int)) qS > (0 : Int)) == decide (kpK a b ≥ (0 : Int)) then some (.v (Bo false), M0) else (bif !(opI (sl0 (txt (rowT (wrB (txt (rowT (wrB (txt (rowT (manyT (48 : Nat) (255)))) false false (0 : Int) (0 : Int) a))) (wrD (txt (rowT (manyT (48 : Nat) (255)))) false false (0 : Int) a) (wrW (txt (rowT (manyT (48 : Nat) (255)))) false false (0 : Int) a) (0 : Int) (24 : Int) b))) (0 : Int)) (sl1 (txt (rowT (wrB (txt (rowT (wrB (txt (rowT (manyT (48 : Nat) (255)))) false false (0 : Int) (0 : Int) a))) (wrD (txt (rowT (manyT (48 : Nat) (255)))) false false (0 : Int) a) (wrW (txt (rowT (manyT (48 : Nat) (255)))) false false (0 : Int) a) (0 : Int) (24 : Int) b))) (0 : Int)) qS == kpC a b qS && (opI (sl0 (txt (rowT (wrB (txt (rowT (wrB (txt (rowT (manyT (48 : Nat) (255)))) false false (0 : Int) (0 : Int) a))) (wrD (txt (rowT (manyT (48 : Nat) (255)))) false false (0 : Int) a) (wrW (txt (rowT (manyT (48 : Nat) (255)))) false false (0 : Int) a) (0 : Int) (24 : Int) b))) (0 : Int)) (sl1 (txt (rowT (wrB (txt (rowT (wrB (txt (rowT (manyT (48 : Nat) (255)))) false false (0 : Int) (0 : Int) a))) (wrD (txt (rowT (manyT (48 : Nat) (255)))) false false (0 : Int) a) (wrW (txt (rowT (manyT (48 : Nat) (255)))) false false (0 : Int) a) (0 : Int) (24 : Int) b))) (0 : Int)) cS == kpC a b cS && (opI (sl0 (txt (rowT (wrB (txt (rowT (wrB (txt (rowT (manyT (48 : Nat) (255)))) false false (0 : Int) (0 : Int) a))) (wrD (txt (rowT (manyT (48 : Nat) (255)))) false false (0 : Int) a) (wrW (txt (rowT (manyT (48 : Nat) (255)))) false false (0 : Int) a) (0 : Int) (24 : Int) b))) (0 : Int)) (sl1 (txt (rowT (wrB (txt (rowT (wrB (txt (rowT (manyT (48 : Nat) (255)))) false false (0 : Int) (0 : Int) a))) (wrD (txt (rowT (manyT (48 : Nat) (255)))) false false (0 : Int) a) (wrW (txt (rowT (manyT (48 : Nat) (255)))) false false (0 : Int) a) (0 : Int) (24 : Int) b))) (0 : Int)) pS == kpC a b pS && (opI (sl0 (txt (rowT (wrB (txt (rowT (wrB (txt (rowT (manyT (48 : Nat) (255)))) false false (0 : Int) (0 : Int) a))) (wrD (txt (rowT (manyT (48 : Nat) (255)))) false false (0 : Int) a) (wrW (txt (rowT (manyT (48 : Nat) (255)))) false false (0 : Int) a) (0 : Int) (24 : Int) b))) (0 : Int)) (sl1 (txt (rowT (wrB (txt (rowT (wrB (txt (rowT (manyT (48 : Nat) (255)))) false false (0 : Int) (0 : Int) a))) (wrD (txt (rowT (manyT (48 : Nat) (255)))) false false (0 : Int) a) (wrW (txt (rowT (manyT (48 : Nat) (255)))) false false (0 : Int) a) (0 : Int) (24 : Int) b))) (0 : Int)) uS == kpC a b uS && (opI (sl0 (txt (rowT (wrB (txt (rowT (wrB (txt (rowT (manyT (48 : Nat) (255)))) false false (0 : Int) (0 : Int) a))) (wrD (txt (rowT (manyT (48 : Nat) (255)))) false false (0 : Int) a) (wrW (txt (rowT (manyT (48 : Nat) (255)))) false false (0 : Int) a) (0 : Int) (24 : Int) b))) (0 : Int)) (sl1 (txt (rowT (wrB (txt (rowT (wrB (txt (rowT (manyT (48 : Nat) (255)))) false false (0 : Int) (0 : Int) a))) (wrD (txt (rowT (manyT (48 : Nat) (255)))) false false (0 : Int) a) (wrW (txt (rowT (manyT (48 : Nat) (255)))) false false (0 : Int) a) (0 : Int) (24 : Int) b))) (0 : Int)) fS == kpC a b fS && (opI (sl0 (txt (rowT (wrB (txt (rowT (wrB (txt (rowT (manyT (48 : Nat) (255)))) false false (0 : Int) (0 : Int) a))) (wrD (txt (rowT (manyT (48 : Nat) (255)))) false false (0 : Int) a) (wrW (txt (rowT (manyT (48 : Nat) (255)))) false false (0 : Int) a) (0 : Int) (24 : Int) b))) (0 : Int)) (sl1 (txt (rowT (wrB (txt (rowT (wrB (txt (rowT (manyT (48 : Nat) (255)))) false false (0 : Int) (0 : Int) a))) (wrD (txt (rowT (manyT (48 : Nat) (255)))) false false (0 : Int) a) (wrW (txt (rowT (manyT (48 : Nat) (255)))) false false (0 : Int) a) (0 : Int) (24 : Int) b))) (0 : Int)) at9 == kpC a b at9 && (opI (sl0 (txt (rowT (wrB (txt (rowT (wrB (txt (rowT (manyT (48 : Nat) (255)))) false false (0 : Int) (0 : Int) a))) (wrD (txt (rowT (manyT (48 : Nat) (255)))) false false (0 : Int) a) (wrW (txt (rowT (manyT (48 : Nat) (255)))) false false (0 : Int) a) (0 : Int) (24 : Int) b))) (0 : Int)) (sl1 (txt (rowT (wrB (txt (rowT (wrB (txt (rowT (manyT (48 : Nat) (255)))) false false (0 : Int) (0 : Int) a))) (wrD (txt (rowT (manyT (48 : Nat) (255)))) false false (0 : Int) a) (wrW (txt (rowT (manyT (48 : Nat) (255)))) false false (0 : Int) a) (0 : Int) (24 : Int) b))) (0 : Int)) at10 == kpC a b at10 && (opI (sl0 (txt (rowT (wrB (txt (rowT (wrB (txt (rowT (manyT (48 : Nat) (255)))) false false (0 : Int) (0 : Int) a))) (wrD (txt (rowT (manyT (48 : Nat) (255)))) false false (0 : Int) a) (wrW (txt (rowT (manyT (48 : Nat) (255)))) false false (0 : Int) a) (0 : Int) (24 : Int) b))) (0 : Int)) (sl1 (txt (rowT (wrB (txt (rowT (wrB (txt (rowT (manyT (48 : Nat) (255)))) false false (0 : Int) (0 : Int) a))) (wrD (txt (rowT (manyT (48 : Nat) (255)))) false false (0 : Int) a) (wrW (txt (rowT (manyT (48 : Nat) (255)))) false false (0 : Int) a) (0 : Int) (24 : Int) b))) (0 : Int)) at11 == kpC a b at11 && (opI (sl0 (txt (rowT (wrB (txt (rowT (wrB (txt (rowT (manyT (48 : Nat) (255)))) false false (0 : Int) (0 : Int) a))) (wrD (txt (rowT (manyT (48 : Nat) (255)))) false false (0 : Int) a) (wrW (txt (rowT (manyT (48 : Nat) (255)))) false false (0 : Int) a) (0 : Int) (24 : Int) b))) (0 : Int)) (sl1 (txt (rowT (wrB (txt (rowT (wrB (txt (rowT (manyT (48 : Nat) (255)))) false false (0 : Int) (0 : Int) a))) (wrD (txt (rowT (manyT (48 : Nat) (255)))) false false (0 : Int) a) (wrW (txt (rowT (manyT (48 : Nat) (255)))) false false (0 : Int) a) (0 : Int) (24 : Int) b))) (0 : Int)) nS == kpC a b nS && true))))))))) then some (.v (Bo false), M0) else (bif okL (rowT (wrB (txt (rowT (wrB (txt (rowT (manyT (48 : Nat) (255)))) false false (0 : Int) (0 : Int) a))) (wrD (txt (rowT (manyT (48 : Nat) (255)))) false false (0 : Int) a) (wrW (txt (rowT (manyT (48 : Nat) (255)))) false false (0 : Int) a) (0 : Int) (24 : Int) b)) (0 : Int) then (bif !rightL (wI (kpC a b qS + (1 : Int))) c p u f v d i n then some (.v (Bo (svE (rightL (wI (opI (sl0 (txt (rowT (wrB (txt (rowT (wrB (txt (rowT (manyT (48 : Nat) (255)))) false false (0 : Int) (0 : Int) a))) (wrD (txt (rowT (manyT (48 : Nat) (255)))) false false (0 : Int) a) (wrW (txt (rowT (manyT (48 : Nat) (255)))) false false (0 : Int) a) (0 : Int) (24 : Int) b))) (0 : Int)) (sl1 (txt (rowT (wrB (txt (rowT (wrB (txt (rowT (manyT (48 : Nat) (255)))) false false (0 : Int) (0 : Int) a))) (wrD (txt (rowT (manyT (48 : Nat) (255)))) false false (0 : Int) a) (wrW (txt (rowT (manyT (48 : Nat) (255)))) false false (0 : Int) a) (0 : Int) (24 : Int) b))) (0 : Int)) qS + (1 : Int))) c p u f v d i n) (wrE (txt (rowT (wrB (txt (rowT (wrB (txt (rowT (manyT (48 : Nat) (255)))) false false (0 : Int) (0 : Int) a))) (wrD (txt (rowT (manyT (48 : Nat) (255)))) false false (0 : Int) a) (wrW (txt (rowT (manyT (48 : Nat) (255)))) false false (0 : Int) a) (0 : Int) (24 : Int) b))) (wrD (txt (rowT (wrB (txt (rowT (manyT (48 : Nat) (255)))) false false (0 : Int) (0 : Int) a))) (wrD (txt (rowT (manyT (48 : Nat) (255)))) false false (0 : Int) a) (wrW (txt (rowT (manyT (48 : Nat) (255)))) false false (0 : Int) a) (24 : Int) b) (wrW (txt (rowT (wrB (txt (rowT (manyT (48 : Nat) (255)))) false false (0 : Int) (0 : Int) a))) (wrD (txt (rowT (manyT (48 : Nat) (255)))) false false (0 : Int) a) (wrW (txt (rowT (manyT (48 : Nat) (255)))) false false (0 : Int) a) (24 : Int) b) (wI ((0 : Int) + wI (opN (sl0 (txt (rowT (wrB (txt (rowT (wrB (txt (rowT (manyT (48 : Nat) (255)))) false false (0 : Int) (0 : Int) a))) (wrD (txt (rowT (manyT (48 : Nat) (255)))) false false (0 : Int) a) (wrW (txt (rowT (manyT (48 : Nat) (255)))) false false (0 : Int) a) (0 : Int) (24 : Int) b))) (0 : Int)) (sl1 (txt (rowT (wrB (txt (rowT (wrB (txt (rowT (manyT (48 : Nat) (255)))) false false (0 : Int) (0 : Int) a))) (wrD (txt (rowT (manyT (48 : Nat) (255)))) false false (0 : Int) a) (wrW (txt (rowT (manyT (48 : Nat) (255)))) false false (0 : Int) a) (0 : Int) (24 : Int) b))) (0 : Int)) * (24 : Int)))) (recS (wI (opI (sl0 (txt (rowT (wrB (txt (rowT (wrB (txt (rowT (manyT (48 : Nat) (255)))) false false (0 : Int) (0 : Int) a))) (wrD (txt (rowT (manyT (48 : Nat) (255)))) false false (0 : Int) a) (wrW (txt (rowT (manyT (48 : Nat) (255)))) false false (0 : Int) a) (0 : Int) (24 : Int) b))) (0 : Int)) (sl1 (txt (rowT (wrB (txt (rowT (wrB (txt (rowT (manyT (48 : Nat) (255)))) false false (0 : Int) (0 : Int) a))) (wrD (txt (rowT (manyT (48 : Nat) (255)))) false false (0 : Int) a) (wrW (txt (rowT (manyT (48 : Nat) (255)))) false false (0 : Int) a) (0 : Int) (24 : Int) b))) (0 : Int)) qS + (1 : Int))) c p u f v d i n)) == (1 : Int))), M0) else (bif okL (rowT (svT (rightL (wI (opI (sl0 (txt (rowT (wrB (txt (rowT (wrB (txt (rowT (manyT (48 : Nat) (255)))) false false (0 : Int) (0 : Int) a))) (wrD (txt (rowT (manyT (48 : Nat) (255)))) false false (0 : Int) a) (wrW (txt (rowT (manyT (48 : Nat) (255)))) false false (0 : Int) a) (0 : Int) (24 : Int) b))) (0 : Int)) (sl1 (txt (rowT (wrB (txt (rowT (wrB (txt (rowT (manyT (48 : Nat) (255)))) false false (0 : Int) (0 : Int) a))) (wrD (txt (rowT (manyT (48 : Nat) (255)))) false false (0 : Int) a) (wrW (txt (rowT (manyT (48 : Nat) (255)))) false false (0 : Int) a) (0 : Int) (24 : Int) b))) (0 : Int)) qS + (1 : Int))) c p u f v d i n) (wrB (txt (rowT (wrB (txt (rowT (wrB (txt (rowT (manyT (48 : Nat) (255)))) false false (0 : Int) (0 : Int) a))) (wrD (txt (rowT (manyT (48 : Nat) (255)))) false false (0 : Int) a) (wrW (txt (rowT (manyT (48 : Nat) (255)))) false false (0 : Int) a) (0 : Int) (24 : Int) b))) (wrD (txt (rowT (wrB (txt (rowT (manyT (48 : Nat) (255)))) false false (0 : Int) (0 : Int) a))) (wrD (txt (rowT (manyT (48 : Nat) (255)))) false false (0 : Int) a) (wrW (txt (rowT (manyT (48 : Nat) (255)))) false false (0 : Int) a) (24 : Int) b) (wrW (txt (rowT (wrB (txt (rowT (manyT (48 : Nat) (255)))) false false (0 : Int) (0 : Int) a))) (wrD (txt (rowT (manyT (48 : Nat) (255)))) false false (0 : Int) a) (wrW (txt (rowT (manyT (48 : Nat) (255)))) false false (0 : Int) a) (24 : Int) b) (0 : Int) (wI ((0 : Int) + wI (opN (sl0 (txt (rowT (wrB (txt (rowT (wrB (txt (rowT (manyT (48 : Nat) (255)))) false false (0 : Int) (0 : Int) a))) (wrD (txt (rowT (manyT (48 : Nat) (255)))) false false (0 : Int) a) (wrW (txt (rowT (manyT (48 : Nat) (255)))) false false (0 : Int) a) (0 : Int) (24 : Int) b))) (0 : Int)) (sl1 (txt (rowT (wrB (txt (rowT (wrB (txt (rowT (manyT (48 : Nat) (255)))) false false (0 : Int) (0 : Int) a))) (wrD (txt (rowT (manyT (48 : Nat) (255)))) false false (0 : Int) a) (wrW (txt (rowT (manyT (48 : Nat) (255)))) false false (0 : Int) a) (0 : Int) (24 : Int) b))) (0 : Int)) * (24 : Int)))) (recS (wI (opI (sl0 (txt (rowT (wrB (txt (rowT (wrB (txt (rowT (manyT (48 : Nat) (255)))) false false (0 : Int) (0 : Int) a))) (wrD (txt (rowT (manyT (48 : Nat) (255)))) false false (0 : Int) a) (wrW (txt (rowT (manyT (48 : Nat) (255)))) false false (0 : Int) a) (0 : Int) (24 : Int) b))) (0 : Int)) (sl1 (txt (rowT (wrB (txt (rowT (wrB (txt (rowT (manyT (48 : Nat) (255)))) false false (0 : Int) (0 : Int) a))) (wrD (txt (rowT (manyT (48 : Nat) (255)))) false false (0 : Int) a) (wrW (txt (rowT (manyT (48 : Nat) (255)))) false false (0 : Int) a) (0 : Int) (24 : Int) b))) (0 : Int)) qS + (1 : Int))) c p u f v d i n)) (txt (rowT (wrB (txt (rowT (wrB (txt (rowT (manyT (48 : Nat) (255)))) false false (0 : Int) (0 : Int) a))) (wrD (txt (rowT (manyT (48 : Nat) (255)))) false false (0 : Int) a) (wrW (txt (rowT (manyT (48 : Nat) (255)))) false false (0 : Int) a) (0 : Int) (24 : Int) b))))) (0 : Int) then (bif kpK a b == (0 : Int) then (bif svE (rightL (wI (opI (sl0 (txt (rowT (wrB (txt (rowT (wrB (txt (rowT (manyT (48 : Nat) (255)))) false false (0 : Int) (0 : Int) a))) (wrD (txt (rowT (manyT (48 : Nat) (255)))) false false (0 : Int) a) (wrW (txt (rowT (manyT (48 : Nat) (255)))) false false (0 : Int) a) (0 : Int) (24 : Int) b))) (0 : Int)) (sl1 (txt (rowT (wrB (txt (rowT (wrB (txt (rowT (manyT (48 : Nat) (255)))) false false (0 : Int) (0 : Int) a))) (wrD (txt (rowT (manyT (48 : Nat) (255)))) false false (0 : Int) a) (wrW (txt (rowT (manyT (48 : Nat) (255)))) false false (0 : Int) a) (0 : Int) (24 : Int) b))) (0 : Int)) qS + (1 : Int))) c p u f v d i n) (wrE (txt (rowT (wrB (txt (rowT (wrB (txt (rowT (manyT (48 : Nat) (255)))) false false (0 : Int) (0 : Int) a))) (wrD (txt (rowT (manyT (48 : Nat) (255)))) false false (0 : Int) a) (wrW (txt (rowT (manyT (48 : Nat) (255)))) false false (0 : Int) a) (0 : Int) (24 : Int) b))) (wrD (txt (rowT (wrB (txt (rowT (manyT (48 : Nat) (255)))) false false (0 : Int) (0 : Int) a))) (wrD (txt (rowT (manyT (48 : Nat) (255)))) false false (0 : Int) a) (wrW (txt (rowT (manyT (48 : Nat) (255)))) false false (0 : Int) a) (24 : Int) b) (wrW (txt (rowT (wrB (txt (rowT (manyT (48 : Nat) (255)))) false false (0 : Int) (0 : Int) a))) (wrD (txt (rowT (manyT (48 : Nat) (255)))) false false (0 : Int) a) (wrW (txt (rowT (manyT (48 : Nat) (255)))) false false (0 : Int) a) (24 : Int) b) (wI ((0 : Int) + wI (opN (sl0 (txt (rowT (wrB (txt (rowT (wrB (txt (rowT (manyT (48 : Nat) (255)))) false false (0 : Int) (0 : Int) a))) (wrD (txt (rowT (manyT (48 : Nat) (255)))) false false (0 : Int) a) (wrW (txt (rowT (manyT (48 : Nat) (255)))) false false (0 : Int) a) (0 : Int) (24 : Int) b))) (0 : Int)) (sl1 (txt (rowT (wrB (txt (rowT (wrB (txt (rowT (manyT (48 : Nat) (255)))) false false (0 : Int) (0 : Int) a))) (wrD (txt (rowT (manyT (48 : Nat) (255)))) false false (0 : Int) a) (wrW (txt (rowT (manyT (48 : Nat) (255)))) false false (0 : Int) a) (0 : Int) (24 : Int) b))) (0 : Int)) * (24 : Int)))) (recS (wI (opI (sl0 (txt (rowT (wrB (txt (rowT (wrB (txt (rowT (manyT (48 : Nat) (255)))) false false (0 : Int) (0 : Int) a))) (wrD (txt (rowT (manyT (48 : Nat) (255)))) false false (0 : Int) a) (wrW (txt (rowT (manyT (48 : Nat) (255)))) false false (0 : Int) a) (0 : Int) (24 : Int) b))) (0 : Int)) (sl1 (txt (rowT (wrB (txt (rowT (wrB (txt (rowT (manyT (48 : Nat) (255)))) false false (0 : Int) (0 : Int) a))) (wrD (txt (rowT (manyT (48 : Nat) (255)))) false false (0 : Int) a) (wrW (txt (rowT (manyT (48 : Nat) (255)))) false false (0 : Int) a) (0 : Int) (24 : Int) b))) (0 : Int)) qS + (1 : Int))) c p u f v d i n)) == (0 : Int) then (bif (a.size + (recS (wI (kpC a b qS + (1 : Int))) c p u f v d i n).size).ble (9223372036854775807) then some (.v (Bo ((bif refE (svB (rightL (wI (opI (sl0 (txt (rowT (wrB (txt (rowT (wrB (txt (rowT (manyT (48 : Nat) (255)))) false false (0 : Int) (0 : Int) a))) (wrD (txt (rowT (manyT (48 : Nat) (255)))) false false (0 : Int) a) (wrW (txt (rowT (manyT (48 : Nat) (255)))) false false (0 : Int) a) (0 : Int) (24 : Int) b))) (0 : Int)) (sl1 (txt (rowT (wrB (txt (rowT (wrB (txt (rowT (manyT (48 : Nat) (255)))) false false (0 : Int) (0 : Int) a))) (wrD (txt (rowT (manyT (48 : Nat) (255)))) false false (0 : Int) a) (wrW (txt (rowT (manyT (48 : Nat) (255)))) false false (0 : Int) a) (0 : Int) (24 : Int) b))) (0 : Int)) qS + (1 : Int))) c p u f v d i n) (wrD (txt (rowT (wrB (txt (rowT (wrB (txt (rowT (manyT (48 : Nat) (255)))) false false (0 : Int) (0 : Int) a))) (wrD (txt (rowT (manyT (48 : Nat) (255)))) false false (0 : Int) a) (wrW (txt (rowT (manyT (48 : Nat) (255)))) false false (0 : Int) a) (0 : Int) (24 : Int) b))) (wrD (txt (rowT (wrB (txt (rowT (manyT (48 : Nat) (255)))) false false (0 : Int) (0 : Int) a))) (wrD (txt (rowT (manyT (48 : Nat) (255)))) false false (0 : Int) a) (wrW (txt (rowT (manyT (48 : Nat) (255)))) false false (0 : Int) a) (24 : Int) b) (wrW (txt (rowT (wrB (txt (rowT (manyT (48 : Nat) (255)))) false false (0 : Int) (0 : Int) a))) (wrD (txt (rowT (manyT (48 : Nat) (255)))) false false (0 : Int) a) (wrW (txt (rowT (manyT (48 : Nat) (255)))) false false (0 : Int) a) (24 : Int) b) (wI ((0 : Int) + wI (opN (sl0 (txt (rowT (wrB (txt (rowT (wrB (txt (rowT (manyT (48 : Nat) (255)))) false false (0 : Int) (0 : Int) a))) (wrD (txt (rowT (manyT (48 : Nat) (255)))) false false (0 : Int) a) (wrW (txt (rowT (manyT (48 : Nat) (255)))) false false (0 : Int) a) (0 : Int) (24 : Int) b))) (0 : Int)) (sl1 (txt (rowT (wrB (txt (rowT (wrB (txt (rowT (manyT (48 : Nat) (255)))) false false (0 : Int) (0 : Int) a))) (wrD (txt (rowT (manyT (48 : Nat) (255)))) false false (0 : Int) a) (wrW (txt (rowT (manyT (48 : Nat) (255)))) false false (0 : Int) a) (0 : Int) (24 : Int) b))) (0 : Int)) * (24 : Int)))) (recS (wI (opI (sl0 (txt (rowT (wrB (txt (rowT (wrB (txt (rowT (manyT (48 : Nat) (255)))) false false (0 : Int) (0 : Int) a))) (wrD (txt (rowT (manyT (48 : Nat) (255)))) false false (0 : Int) a) (wrW (txt (rowT (manyT (48 : Nat) (255)))) false false (0 : Int) a) (0 : Int) (24 : Int) b))) (0 : Int)) (sl1 (txt (rowT (wrB (txt (rowT (wrB (txt (rowT (manyT (48 : Nat) (255)))) false false (0 : Int) (0 : Int) a))) (wrD (txt (rowT (manyT (48 : Nat) (255)))) false false (0 : Int) a) (wrW (txt (rowT (manyT (48 : Nat) (255)))) false false (0 : Int) a) (0 : Int) (24 : Int) b))) (0 : Int)) qS + (1 : Int))) c p u f v d i n)) (wrD (txt (rowT (wrB (txt (rowT (manyT (48 : Nat) (255)))) false false (0 : Int) (0 : Int) a))) (wrD (txt (rowT (manyT (48 : Nat) (255)))) false false (0 : Int) a) (wrW (txt (rowT (manyT (48 : Nat) (255)))) false false (0 : Int) a) (24 : Int) b)) ((txt (rowT (svT (rightL (wI (opI (sl0 (txt (rowT (wrB (txt (rowT (wrB (txt (rowT (manyT (48 : Nat) (255)))) false false (0 : Int) (0 : Int) a))) (wrD (txt (rowT (manyT (48 : Nat) (255)))) false false (0 : Int) a) (wrW (txt (rowT (manyT (48 : Nat) (255)))) false false (0 : Int) a) (0 : Int) (24 : Int) b))) (0 : Int)) (sl1 (txt (rowT (wrB (txt (rowT (wrB (txt (rowT (manyT (48 : Nat) (255)))) false false (0 : Int) (0 : Int) a))) (wrD (txt (rowT (manyT (48 : Nat) (255)))) false false (0 : Int) a) (wrW (txt (rowT (manyT (48 : Nat) (255)))) false false (0 : Int) a) (0 : Int) (24 : Int) b))) (0 : Int)) qS + (1 : Int))) c p u f v d i n) (wrB (txt (rowT (wrB (txt (rowT (wrB (txt (rowT (manyT (48 : Nat) (255)))) false false (0 : Int) (0 : Int) a))) (wrD (txt (rowT (manyT (48 : Nat) (255)))) false false (0 : Int) a) (wrW (txt (rowT (manyT (48 : Nat) (255)))) false false (0 : Int) a) (0 : Int) (24 : Int) b))) (wrD (txt (rowT (wrB (txt (rowT (manyT (48 : Nat) (255)))) false false (0 : Int) (0 : Int) a))) (wrD (txt (rowT (manyT (48 : Nat) (255)))) false false (0 : Int) a) (wrW (txt (rowT (manyT (48 : Nat) (255)))) false false (0 : Int) a) (24 : Int) b) (wrW (txt (rowT (wrB (txt (rowT (manyT (48 : Nat) (255)))) false false (0 : Int) (0 : Int) a))) (wrD (txt (rowT (manyT (48 : Nat) (255)))) false false (0 : Int) a) (wrW (txt (rowT (manyT (48 : Nat) (255)))) false false (0 : Int) a) (24 : Int) b) (0 : Int) (wI ((0 : Int) + wI (opN (sl0 (txt (rowT (wrB (txt (rowT (wrB (txt (rowT (manyT (48 : Nat) (255)))) false false (0 : Int) (0 : Int) a))) (wrD (txt (rowT (manyT (48 : Nat) (255)))) false false (0 : Int) a) (wrW (txt (rowT (manyT (48 : Nat) (255)))) false false (0 : Int) a) (0 : Int) (24 : Int) b))) (0 : Int)) (sl1 (txt (rowT (wrB (txt (rowT (wrB (txt (rowT (manyT (48 : Nat) (255)))) false false (0 : Int) (0 : Int) a))) (wrD (txt (rowT (manyT (48 : Nat) (255)))) false false (0 : Int) a) (wrW (txt (rowT (manyT (48 : Nat) (255)))) false false (0 : Int) a) (0 : Int) (24 : Int) b))) (0 : Int)) * (24 : Int)))) (recS (wI (opI (sl0 (txt (rowT (wrB (txt (rowT (wrB (txt (rowT (manyT (48 : Nat) (255)))) false false (0 : Int) (0 : Int) a))) (wrD (txt (rowT (manyT (48 : Nat) (255)))) false false (0 : Int) a) (wrW (txt (rowT (manyT (48 : Nat) (255)))) false false (0 : Int) a) (0 : Int) (24 : Int) b))) (0 : Int)) (sl1 (txt (rowT (wrB (txt (rowT (wrB (txt (rowT (manyT (48 : Nat) (255)))) false false (0 : Int) (0 : Int) a))) (wrD (txt (rowT (manyT (48 : Nat) (255)))) false false (0 : Int) a) (wrW (txt (rowT (manyT (48 : Nat) (255)))) false false (0 : Int) a) (0 : Int) (24 : Int) b))) (0 : Int)) qS + (1 : Int))) c p u f v d i n)) (txt (rowT (wrB (txt (rowT (wrB (txt (rowT (manyT (48 : Nat) (255)))) false false (0 : Int) (0 : Int) a))) (wrD (txt (rowT (manyT (48 : Nat) (255)))) false false (0 : Int) a) (wrW (txt (rowT (manyT (48 : Nat) (255)))) false false (0 : Int) a) (0 : Int) (24 : Int) b)))))).size : Int) (0 : Int) (48 : Int) != (0 : Int) then { data := #[] : ByteArray } else (txt (rowT (svT (rightL (wI (opI (sl0 (txt (rowT (wrB (txt (rowT (wrB (txt (rowT (manyT (48 : Nat) (255)))) false false (0 : Int) (0 : Int) a))) (wrD (txt (rowT (manyT (48 : Nat) (255)))) false false (0 : Int) a) (wrW (txt (rowT (manyT (48 : Nat) (255)))) false false (0 : Int) a) (0 : Int) (24 : Int) b))) (0 : Int)) (sl1 (txt (rowT (wrB (txt (rowT (wrB (txt (rowT (manyT (48 : Nat) (255)))) false false (0 : Int) (0 : Int) a))) (wrD (txt (rowT (manyT (48 : Nat) (255)))) false false (0 : Int) a) (wrW (txt (rowT (manyT (48 : Nat) (255)))) false false (0 : Int) a) (0 : Int) (24 : Int) b))) (0 : Int)) qS + (1 : Int))) c p u f v d i n) (wrB (txt (rowT (wrB (txt (rowT (wrB (txt (rowT (manyT (48 : Nat) (255)))) false false (0 : Int) (0 : Int) a))) (wrD (txt (rowT (manyT (48 : Nat) (255)))) false false (0 : Int) a) (wrW (txt (rowT (manyT (48 : Nat) (255)))) false false (0 : Int) a) (0 : Int) (24 : Int) b))) (wrD (txt (rowT (wrB (txt (rowT (manyT (48 : Nat) (255)))) false false (0 : Int) (0 : Int) a))) (wrD (txt (rowT (manyT (48 : Nat) (255)))) false false (0 : Int) a) (wrW (txt (rowT (manyT (48 : Nat) (255)))) false false (0 : Int) a) (24 : Int) b) (wrW (txt (rowT (wrB (txt (rowT (manyT (48 : Nat) (255)))) false false (0 : Int) (0 : Int) a))) (wrD (txt (rowT (manyT (48 : Nat) (255)))) false false (0 : Int) a) (wrW (txt (rowT (manyT (48 : Nat) (255)))) false false (0 : Int) a) (24 : Int) b) (0 : Int) (wI ((0 : Int) + wI (opN (sl0 (txt (rowT (wrB (txt (rowT (wrB (txt (rowT (manyT (48 : Nat) (255)))) false false (0 : Int) (0 : Int) a))) (wrD (txt (rowT (manyT (48 : Nat) (255)))) false false (0 : Int) a) (wrW (txt (rowT (manyT (48 : Nat) (255)))) false false (0 : Int) a) (0 : Int) (24 : Int) b))) (0 : Int)) (sl1 (txt (rowT (wrB (txt (rowT (wrB (txt (rowT (manyT (48 : Nat) (255)))) false false (0 : Int) (0 : Int) a))) (wrD (txt (rowT (manyT (48 : Nat) (255)))) false false (0 : Int) a) (wrW (txt (rowT (manyT (48 : Nat) (255)))) false false (0 : Int) a) (0 : Int) (24 : Int) b))) (0 : Int)) * (24 : Int)))) (recS (wI (opI (sl0 (txt (rowT (wrB (txt (rowT (wrB (txt (rowT (manyT (48 : Nat) (255)))) false false (0 : Int) (0 : Int) a))) (wrD (txt (rowT (manyT (48 : Nat) (255)))) false false (0 : Int) a) (wrW (txt (rowT (manyT (48 : Nat) (255)))) false false (0 : Int) a) (0 : Int) (24 : Int) b))) (0 : Int)) (sl1 (txt (rowT (wrB (txt (rowT (wrB (txt (rowT (manyT (48 : Nat) (255)))) false false (0 : Int) (0 : Int) a))) (wrD (txt (rowT (manyT (48 : Nat) (255)))) false false (0 : Int) a) (wrW (txt (rowT (manyT (48 : Nat) (255)))) false false (0 : Int) a) (0 : Int) (24 : Int) b))) (0 : Int)) qS + (1 : Int))) c p u f v d i n)) (txt (rowT (wrB (txt (rowT (wrB (txt (rowT (manyT (48 : Nat) (255)))) false false (0 : Int) (0 : Int) a))) (wrD (txt (rowT (manyT (48 : Nat) (255)))) false false (0 : Int) a) (wrW (txt (rowT (manyT (48 : Nat) (255)))) false false (0 : Int) a) (0 : Int) (24 : Int) b)))))).extract (0 : Nat) (48 : Nat)).toList == (a ++ recS (wI (kpC a b qS + (1 : Int))) c p u f v d i n).toList)), M0) else none) else some (.v (Bo false), M0)) else (bif svE (rightL (wI (opI (sl0 (txt (rowT (wrB (txt (rowT (wrB (txt (rowT (manyT (48 : Nat) (255)))) false false (0 : Int) (0 : Int) a))) (wrD (txt (rowT (manyT (48 : Nat) (255)))) false false (0 : Int) a) (wrW (txt (rowT (manyT (48 : Nat) (255)))) false false (0 : Int) a) (0 : Int) (24 : Int) b))) (0 : Int)) (sl1 (txt (rowT (wrB (txt (rowT (wrB (txt (rowT (manyT (48 : Nat) (255)))) false false (0 : Int) (0 : Int) a))) (wrD (txt (rowT (manyT (48 : Nat) (255)))) false false (0 : Int) a) (wrW (txt (rowT (manyT (48 : Nat) (255)))) false false (0 : Int) a) (0 : Int) (24 : Int) b))) (0 : Int)) qS + (1 : Int))) c p u f v d i n) (wrE (txt (rowT (wrB (txt (rowT (wrB (txt (rowT (manyT (48 : Nat) (255)))) false false (0 : Int) (0 : Int) a))) (wrD (txt (rowT (manyT (48 : Nat) (255)))) false false (0 : Int) a) (wrW (txt (rowT (manyT (48 : Nat) (255)))) false false (0 : Int) a) (0 : Int) (24 : Int) b))) (wrD (txt (rowT (wrB (txt (rowT (manyT (48 : Nat) (255)))) false false (0 : Int) (0 : Int) a))) (wrD (txt (rowT (manyT (48 : Nat) (255)))) false false (0 : Int) a) (wrW (txt (rowT (manyT (48 : Nat) (255)))) false false (0 : Int) a) (24 : Int) b) (wrW (txt (rowT (wrB (txt (rowT (manyT (48 : Nat) (255)))) false false (0 : Int) (0 : Int) a))) (wrD (txt (rowT (manyT (48 : Nat) (255)))) false false (0 : Int) a) (wrW (txt (rowT (manyT (48 : Nat) (255)))) false false (0 : Int) a) (24 : Int) b) (wI ((0 : Int) + wI (opN (sl0 (txt (rowT (wrB (txt (rowT (wrB (txt (rowT (manyT (48 : Nat) (255)))) false false (0 : Int) (0 : Int) a))) (wrD (txt (rowT (manyT (48 : Nat) (255)))) false false (0 : Int) a) (wrW (txt (rowT (manyT (48 : Nat) (255)))) false false (0 : Int) a) (0 : Int) (24 : Int) b))) (0 : Int)) (sl1 (txt (rowT (wrB (txt (rowT (wrB (txt (rowT (manyT (48 : Nat) (255)))) false false (0 : Int) (0 : Int) a))) (wrD (txt (rowT (manyT (48 : Nat) (255)))) false false (0 : Int) a) (wrW (txt (rowT (manyT (48 : Nat) (255)))) false false (0 : Int) a) (0 : Int) (24 : Int) b))) (0 : Int)) * (24 : Int)))) (recS (wI (opI (sl0 (txt (rowT (wrB (txt (rowT (wrB (txt (rowT (manyT (48 : Nat) (255)))) false false (0 : Int) (0 : Int) a))) (wrD (txt (rowT (manyT (48 : Nat) (255)))) false false (0 : Int) a) (wrW (txt (rowT (manyT (48 : Nat) (255)))) false false (0 : Int) a) (0 : Int) (24 : Int) b))) (0 : Int)) (sl1 (txt (rowT (wrB (txt (rowT (wrB (txt (rowT (manyT (48 : Nat) (255)))) false false (0 : Int) (0 : Int) a))) (wrD (txt (rowT (manyT (48 : Nat) (255)))) false false (0 : Int) a) (wrW (txt (rowT (manyT (48 : Nat) (255)))) false false (0 : Int) a) (0 : Int) (24 : Int) b))) (0 : Int)) qS + (1 : Int))) c p u f v d i n)) == (0 : Int) then (bif ((recS (wI (kpC a b qS + (1 : Int))) c p u f v d i n).size + b.size).ble (9223372036854775807) then some (.v (Bo ((bif refE (svB (rightL (wI (opI (sl0 (txt (rowT (wrB (txt (rowT (wrB (txt (rowT (manyT (48 : Nat) (255)))) false false (0 : Int) (0 : Int) a))) (wrD (txt (rowT (manyT (48 : Nat) (255)))) false false (0 : Int) a) (wrW (txt (rowT (manyT (48 : Nat) (255)))) false false (0 : Int) a) (0 : Int) (24 : Int) b))) (0 : Int)) (sl1 (txt (rowT (wrB (txt (rowT (wrB (txt (rowT (manyT (48 : Nat) (255)))) false false (0 : Int) (0 : Int) a))) (wrD (txt (rowT (manyT (48 : Nat) (255)))) false false (0 : Int) a) (wrW (txt (rowT (manyT (48 : Nat) (255)))) false false (0 : Int) a) (0 : Int) (24 : Int) b))) (0 : Int)) qS + (1 : Int))) c p u f v d i n) (wrD (txt (rowT (wrB (txt (rowT (wrB (txt (rowT (manyT (48 : Nat) (255)))) false false (0 : Int) (0 : Int) a))) (wrD (txt (rowT (manyT (48 : Nat) (255)))) false false (0 : Int) a) (wrW (txt (rowT (manyT (48 : Nat) (255)))) false false (0 : Int) a) (0 : Int) (24 : Int) b))) (wrD (txt (rowT (wrB (txt (rowT (manyT (48 : Nat) (255)))) false false (0 : Int) (0 : Int) a))) (wrD (txt (rowT (manyT (48 : Nat) (255)))) false false (0 : Int) a) (wrW (txt (rowT (manyT (48 : Nat) (255)))) false false (0 : Int) a) (24 : Int) b) (wrW (txt (rowT (wrB (txt (rowT (manyT (48 : Nat) (255)))) false false (0 : Int) (0 : Int) a))) (wrD (txt (rowT (manyT (48 : Nat) (255)))) false false (0 : Int) a) (wrW (txt (rowT (manyT (48 : Nat) (255)))) false false (0 : Int) a) (24 : Int) b) (wI ((0 : Int) + wI (opN (sl0 (txt (rowT (wrB (txt (rowT (wrB (txt (rowT (manyT (48 : Nat) (255)))) false false (0 : Int) (0 : Int) a))) (wrD (txt (rowT (manyT (48 : Nat) (255)))) false false (0 : Int) a) (wrW (txt (rowT (manyT (48 : Nat) (255)))) false false (0 : Int) a) (0 : Int) (24 : Int) b))) (0 : Int)) (sl1 (txt (rowT (wrB (txt (rowT (wrB (txt (rowT (manyT (48 : Nat) (255)))) false false (0 : Int) (0 : Int) a))) (wrD (txt (rowT (manyT (48 : Nat) (255)))) false false (0 : Int) a) (wrW (txt (rowT (manyT (48 : Nat) (255)))) false false (0 : Int) a) (0 : Int) (24 : Int) b))) (0 : Int)) * (24 : Int)))) (recS (wI (opI (sl0 (txt (rowT (wrB (txt (rowT (wrB (txt (rowT (manyT (48 : Nat) (255)))) false false (0 : Int) (0 : Int) a))) (wrD (txt (rowT (manyT (48 : Nat) (255)))) false false (0 : Int) a) (wrW (txt (rowT (manyT (48 : Nat) (255)))) false false (0 : Int) a) (0 : Int) (24 : Int) b))) (0 : Int)) (sl1 (txt (rowT (wrB (txt (rowT (wrB (txt (rowT (manyT (48 : Nat) (255)))) false false (0 : Int) (0 : Int) a))) (wrD (txt (rowT (manyT (48 : Nat) (255)))) false false (0 : Int) a) (wrW (txt (rowT (manyT (48 : Nat) (255)))) false false (0 : Int) a) (0 : Int) (24 : Int) b))) (0 : Int)) qS + (1 : Int))) c p u f v d i n)) (wrD (txt (rowT (wrB (txt (rowT (manyT (48 : Nat) (255)))) false false (0 : Int) (0 : Int) a))) (wrD (txt (rowT (manyT (48 : Nat) (255)))) false false (0 : Int) a) (wrW (txt (rowT (manyT (48 : Nat) (255)))) false false (0 : Int) a) (24 : Int) b)) ((txt (rowT (svT (rightL (wI (opI (sl0 (txt (rowT (wrB (txt (rowT (wrB (txt (rowT (manyT (48 : Nat) (255)))) false false (0 : Int) (0 : Int) a))) (wrD (txt (rowT (manyT (48 : Nat) (255)))) false false (0 : Int) a) (wrW (txt (rowT (manyT (48 : Nat) (255)))) false false (0 : Int) a) (0 : Int) (24 : Int) b))) (0 : Int)) (sl1 (txt (rowT (wrB (txt (rowT (wrB (txt (rowT (manyT (48 : Nat) (255)))) false false (0 : Int) (0 : Int) a))) (wrD (txt (rowT (manyT (48 : Nat) (255)))) false false (0 : Int) a) (wrW (txt (rowT (manyT (48 : Nat) (255)))) false false (0 : Int) a) (0 : Int) (24 : Int) b))) (0 : Int)) qS + (1 : Int))) c p u f v d i n) (wrB (txt (rowT (wrB (txt (rowT (wrB (txt (rowT (manyT (48 : Nat) (255)))) false false (0 : Int) (0 : Int) a))) (wrD (txt (rowT (manyT (48 : Nat) (255)))) false false (0 : Int) a) (wrW (txt (rowT (manyT (48 : Nat) (255)))) false false (0 : Int) a) (0 : Int) (24 : Int) b))) (wrD (txt (rowT (wrB (txt (rowT (manyT (48 : Nat) (255)))) false false (0 : Int) (0 : Int) a))) (wrD (txt (rowT (manyT (48 : Nat) (255)))) false false (0 : Int) a) (wrW (txt (rowT (manyT (48 : Nat) (255)))) false false (0 : Int) a) (24 : Int) b) (wrW (txt (rowT (wrB (txt (rowT (manyT (48 : Nat) (255)))) false false (0 : Int) (0 : Int) a))) (wrD (txt (rowT (manyT (48 : Nat) (255)))) false false (0 : Int) a) (wrW (txt (rowT (manyT (48 : Nat) (255)))) false false (0 : Int) a) (24 : Int) b) (0 : Int) (wI ((0 : Int) + wI (opN (sl0 (txt (rowT (wrB (txt (rowT (wrB (txt (rowT (manyT (48 : Nat) (255)))) false false (0 : Int) (0 : Int) a))) (wrD (txt (rowT (manyT (48 : Nat) (255)))) false false (0 : Int) a) (wrW (txt (rowT (manyT (48 : Nat) (255)))) false false (0 : Int) a) (0 : Int) (24 : Int) b))) (0 : Int)) (sl1 (txt (rowT (wrB (txt (rowT (wrB (txt (rowT (manyT (48 : Nat) (255)))) false false (0 : Int) (0 : Int) a))) (wrD (txt (rowT (manyT (48 : Nat) (255)))) false false (0 : Int) a) (wrW (txt (rowT (manyT (48 : Nat) (255)))) false false (0 : Int) a) (0 : Int) (24 : Int) b))) (0 : Int)) * (24 : Int)))) (recS (wI (opI (sl0 (txt (rowT (wrB (txt (rowT (wrB (txt (rowT (manyT (48 : Nat) (255)))) false false (0 : Int) (0 : Int) a))) (wrD (txt (rowT (manyT (48 : Nat) (255)))) false false (0 : Int) a) (wrW (txt (rowT (manyT (48 : Nat) (255)))) false false (0 : Int) a) (0 : Int) (24 : Int) b))) (0 : Int)) (sl1 (txt (rowT (wrB (txt (rowT (wrB (txt (rowT (manyT (48 : Nat) (255)))) false false (0 : Int) (0 : Int) a))) (wrD (txt (rowT (manyT (48 : Nat) (255)))) false false (0 : Int) a) (wrW (txt (rowT (manyT (48 : Nat) (255)))) false false (0 : Int) a) (0 : Int) (24 : Int) b))) (0 : Int)) qS + (1 : Int))) c p u f v d i n)) (txt (rowT (wrB (txt (rowT (wrB (txt (rowT (manyT (48 : Nat) (255)))) false false (0 : Int) (0 : Int) a))) (wrD (txt (rowT (manyT (48 : Nat) (255)))) false false (0 : Int) a) (wrW (txt (rowT (manyT (48 : Nat) (255)))) false false (0 : Int) a) (0 : Int) (24 : Int) b)))))).size : Int) (0 : Int) (48 : Int) != (0 : Int) then { data := #[] : ByteArray } else (txt (rowT (svT (rightL (wI (opI (sl0 (txt (rowT (wrB (txt (rowT (wrB (txt (rowT (manyT (48 : Nat) (255)))) false false (0 : Int) (0 : Int) a))) (wrD (txt (rowT (manyT (48 : Nat) (255)))) false false (0 : Int) a) (wrW (txt (rowT (manyT (48 : Nat) (255)))) false false (0 : Int) a) (0 : Int) (24 : Int) b))) (0 : Int)) (sl1 (txt (rowT (wrB (txt (rowT (wrB (txt (rowT (manyT (48 : Nat) (255)))) false false (0 : Int) (0 : Int) a))) (wrD (txt (rowT (manyT (48 : Nat) (255)))) false false (0 : Int) a) (wrW (txt (rowT (manyT (48 : Nat) (255)))) false false (0 : Int) a) (0 : Int) (24 : Int) b))) (0 : Int)) qS + (1 : Int))) c p u f v d i n) (wrB (txt (rowT (wrB (txt (rowT (wrB (txt (rowT (manyT (48 : Nat) (255)))) false false (0 : Int) (0 : Int) a))) (wrD (txt (rowT (manyT (48 : Nat) (255)))) false false (0 : Int) a) (wrW (txt (rowT (manyT (48 : Nat) (255)))) false false (0 : Int) a) (0 : Int) (24 : Int) b))) (wrD (txt (rowT (wrB (txt (rowT (manyT (48 : Nat) (255)))) false false (0 : Int) (0 : Int) a))) (wrD (txt (rowT (manyT (48 : Nat) (255)))) false false (0 : Int) a) (wrW (txt (rowT (manyT (48 : Nat) (255)))) false false (0 : Int) a) (24 : Int) b) (wrW (txt (rowT (wrB (txt (rowT (manyT (48 : Nat) (255)))) false false (0 : Int) (0 : Int) a))) (wrD (txt (rowT (manyT (48 : Nat) (255)))) false false (0 : Int) a) (wrW (txt (rowT (manyT (48 : Nat) (255)))) false false (0 : Int) a) (24 : Int) b) (0 : Int) (wI ((0 : Int) + wI (opN (sl0 (txt (rowT (wrB (txt (rowT (wrB (txt (rowT (manyT (48 : Nat) (255)))) false false (0 : Int) (0 : Int) a))) (wrD (txt (rowT (manyT (48 : Nat) (255)))) false false (0 : Int) a) (wrW (txt (rowT (manyT (48 : Nat) (255)))) false false (0 : Int) a) (0 : Int) (24 : Int) b))) (0 : Int)) (sl1 (txt (rowT (wrB (txt (rowT (wrB (txt (rowT (manyT (48 : Nat) (255)))) false false (0 : Int) (0 : Int) a))) (wrD (txt (rowT (manyT (48 : Nat) (255)))) false false (0 : Int) a) (wrW (txt (rowT (manyT (48 : Nat) (255)))) false false (0 : Int) a) (0 : Int) (24 : Int) b))) (0 : Int)) * (24 : Int)))) (recS (wI (opI (sl0 (txt (rowT (wrB (txt (rowT (wrB (txt (rowT (manyT (48 : Nat) (255)))) false false (0 : Int) (0 : Int) a))) (wrD (txt (rowT (manyT (48 : Nat) (255)))) false false (0 : Int) a) (wrW (txt (rowT (manyT (48 : Nat) (255)))) false false (0 : Int) a) (0 : Int) (24 : Int) b))) (0 : Int)) (sl1 (txt (rowT (wrB (txt (rowT (wrB (txt (rowT (manyT (48 : Nat) (255)))) false false (0 : Int) (0 : Int) a))) (wrD (txt (rowT (manyT (48 : Nat) (255)))) false false (0 : Int) a) (wrW (txt (rowT (manyT (48 : Nat) (255)))) false false (0 : Int) a) (0 : Int) (24 : Int) b))) (0 : Int)) qS + (1 : Int))) c p u f v d i n)) (txt (rowT (wrB (txt (rowT (wrB (txt (rowT (manyT (48 : Nat) (255)))) false false (0 : Int) (0 : Int) a))) (wrD (txt (rowT (manyT (48 : Nat) (255)))) false false (0 : Int) a) (wrW (txt (rowT (manyT (48 : Nat) (255)))) false false (0 : Int) a) (0 : Int) (24 : Int) b)))))).extract (0 : Nat) (48 : Nat)).toList == (recS (wI (kpC a b qS + (1 : Int))) c p u f v d i n ++ b).toList)), M0) else none) else some (.v (Bo false), M0))) else none)) else none))) else none) else none) else none))) := by kernel_rfl
end Go.Proofs.Ytlhgaehjkpjniaa

namespace Go.Proofs.Ytlhgaehjkpjniaa
open Go Go.Proofs Go.Sx
set_option linter.unusedVariables false
theorem refE_2 {size k n : Int} (h : refE false size k n ≠ 0) : refE false size k n = 2 := by
  unfold refE at h ⊢
  revert h
  cases decide (k < 0) <;> cases decide (k > size) <;> cases decide (n < 0) <;> cases decide (n > wI (size - k)) <;> intro h <;> first | rfl | exact absurd rfl h
theorem latchNil (q c p u f v d i n base : Int) : ∃ Γ : Orc, Γ.Ok Try.prog ∧ runG Γ L0 Try.prog Try.f10 [.v (.agg #[I q, I c, I p, I u, I f, I v, I d, I i, I n]), .v (I base)] M0 = some (.v (.bool true), M0) := by
  have hk : okL (rowT (manyT 50 255)) 0 = true := okL_T (by rw [manyT_size]; decide) (by decide)
  by_cases hb : 0 ≤ base ∧ base ≤ 2
  · refine ⟨ΓLo, OkLo, (treeNilS q c p u f v d i n base).trans ?_⟩
    rw [hk, (refE_ok (by decide)).2 ⟨rfl, hb.1, by decide, by omega⟩, decide_eq_true (show base ≥ 0 from hb.1), decide_eq_true hb.2]
    rfl
  · refine ⟨ΓLp, OkLp, (treeNilF q c p u f v d i n base).trans ?_⟩
    have h0 : refE false 50 base 48 ≠ 0 := fun e => hb (by have := (refE_ok (by decide)).1 e; omega)
    rw [hk, refE_2 h0]
    by_cases h1 : base ≥ 0
    · rw [decide_eq_true h1, decide_eq_false (show ¬ base ≤ 2 by omega)]
      rfl
    · rw [decide_eq_false h1]
      rfl
theorem ok_pos {s : ByteArray} (h : okS s = true) : 1 ≤ qS s ∧ qS s ≤ 2147483648 := by
  obtain ⟨hz, hrd⟩ := (okS_iff s).1 h
  unfold rdS at hrd
  cases e : rightL (qS s) (cS s) (pS s) (uS s) (fS s) (strAt s 9) (strAt s 10) (strAt s 11) (nS s)
  · rw [recS_none e] at hrd
    rw [← hrd] at hz
    exact absurd hz (by decide)
  · exact (right_iff e).2.2.2.2.2.2.1
theorem zI_t (x : Int) : zI true x = x := rfl
theorem zI_f (x : Int) : zI false x = 0 := rfl
theorem has0_eq (a : ByteArray) : has0 a = okS a := by
  unfold has0
  cases h : okS a
  · rfl
  · rw [zI_t, decide_eq_true (show qS a > 0 by have := ok_pos h; omega)]; rfl
theorem kept_of {a b : ByteArray} {oa ob h1 k0 : Bool} (ha : okS a = oa) (hb : okS b = ob) (e1 : has1 a b = h1) (e0 : kp0 a b = k0) :
    (∀ g, opI a b g = bif h1 then zI ob (g b) else bif oa then zI oa (g a) else 0) ∧ (∀ g, kpC a b g = bif k0 then zI oa (g a) else bif ob then zI ob (g b) else 0) ∧ kpK a b = (bif k0 then 0 else bif ob then 1 else -1) ∧ opN a b = (bif h1 then 0 else bif oa then 1 else 0) := by
  unfold opI kpC kpK opN
  rw [has0_eq, e1, e0, ha, hb]
  exact ⟨fun _ => rfl, fun _ => rfl, rfl, rfl⟩
theorem kept_all (a b : ByteArray) : (∀ g, opI a b g = kpC a b g) ∧ decide (kpC a b qS > 0) = decide (kpK a b ≥ 0) ∧ (0 ≤ kpC a b qS ∧ kpC a b qS ≤ 2147483648) ∧ ((kpK a b = 0 ∧ opN a b = 1) ∨ (kpK a b ≠ 0 ∧ opN a b = 0)) := by
  cases ha : okS a <;> cases hb : okS b
  · obtain ⟨g1, g2, g3, g4⟩ := kept_of ha hb (h1 := false) (k0 := false) (by unfold has1; rw [hb]; rfl) (by unfold kp0; rw [ha]; rfl)
    rw [g3, g4, g2 qS]
    exact ⟨fun g => by rw [g1, g2]; rfl, rfl, (by decide : (0 : Int) ≤ 0 ∧ (0 : Int) ≤ 2147483648), .inr ⟨(by decide : (-1 : Int) ≠ 0), rfl⟩⟩
  · have h2 := ok_pos hb
    obtain ⟨g1, g2, g3, g4⟩ := kept_of ha hb (h1 := true) (k0 := false) (by unfold has1; rw [hb, has0_eq, ha]; exact decide_eq_true (show qS b > 0 by omega)) (by unfold kp0; rw [ha]; rfl)
    rw [g3, g4, g2 qS]
    refine ⟨fun g => by rw [g1, g2]; rfl, ?_, (⟨by omega, h2.2⟩ : 0 ≤ qS b ∧ qS b ≤ 2147483648), .inr ⟨(by decide : (1 : Int) ≠ 0), rfl⟩⟩
    exact (decide_eq_true (show qS b > 0 by omega)).trans rfl
  · have h1 := ok_pos ha
    obtain ⟨g1, g2, g3, g4⟩ := kept_of ha hb (h1 := false) (k0 := true) (by unfold has1; rw [hb]; rfl) (by unfold kp0; rw [ha, hb]; rfl)
    rw [g3, g4, g2 qS]
    refine ⟨fun g => by rw [g1, g2]; rfl, ?_, (⟨by omega, h1.2⟩ : 0 ≤ qS a ∧ qS a ≤ 2147483648), .inl ⟨rfl, rfl⟩⟩
    exact (decide_eq_true (show qS a > 0 by omega)).trans rfl
  · have h1 := ok_pos ha
    have h2 := ok_pos hb
    by_cases hq : qS b > qS a
    · obtain ⟨g1, g2, g3, g4⟩ := kept_of ha hb (h1 := true) (k0 := false) (by unfold has1; rw [hb, has0_eq, ha]; exact decide_eq_true hq) (by unfold kp0; rw [ha, hb]; exact decide_eq_false (show ¬ qS a ≥ qS b by omega))
      rw [g3, g4, g2 qS]
      refine ⟨fun g => by rw [g1, g2]; rfl, ?_, (⟨by omega, h2.2⟩ : 0 ≤ qS b ∧ qS b ≤ 2147483648), .inr ⟨(by decide : (1 : Int) ≠ 0), rfl⟩⟩
      exact (decide_eq_true (show qS b > 0 by omega)).trans rfl
    · obtain ⟨g1, g2, g3, g4⟩ := kept_of ha hb (h1 := false) (k0 := true) (by unfold has1; rw [hb, has0_eq, ha]; exact decide_eq_false hq) (by unfold kp0; rw [ha, hb]; exact decide_eq_true (show qS a ≥ qS b by omega))
      rw [g3, g4, g2 qS]
      refine ⟨fun g => by rw [g1, g2]; rfl, ?_, (⟨by omega, h1.2⟩ : 0 ≤ qS a ∧ qS a ≤ 2147483648), .inl ⟨rfl, rfl⟩⟩
      exact (decide_eq_true (show qS a > 0 by omega)).trans rfl
theorem put_ab {a b : ByteArray} (ha : a.size = 24) (hb : b.size = 24) : putT (putT (manyT 48 255) 0 a) 24 b = a ++ b := by
  apply ByteArray.ext
  apply Array.ext'
  have l1 : (manyT 48 255).data.toList.length = 48 := manyT_size 48 255
  have l2 : a.data.toList.length = 24 := ha
  have l3 : b.data.toList.length = 24 := hb
  rw [putT_list, putT_list, ByteArray.data_append, Array.toList_append, List.take_zero, List.nil_append, l2, l3, List.take_append_of_le_length (by omega), List.take_of_length_le (by omega), List.drop_of_length_le (by rw [List.length_append, List.length_drop]; omega), List.append_nil]
theorem put_0 {a b R : ByteArray} (ha : a.size = 24) (hb : b.size = 24) (hR : R.size = 24) : putT (a ++ b) 0 R = R ++ b := by
  apply ByteArray.ext
  apply Array.ext'
  have l2 : a.data.toList.length = 24 := ha
  have l3 : R.data.toList.length = 24 := hR
  rw [putT_list, ByteArray.data_append, ByteArray.data_append, Array.toList_append, Array.toList_append, List.take_zero, List.nil_append, l3, List.drop_append, List.drop_of_length_le (by omega), l2, List.nil_append]
  rfl
theorem put_24 {a b R : ByteArray} (ha : a.size = 24) (hb : b.size = 24) (hR : R.size = 24) : putT (a ++ b) 24 R = a ++ R := by
  apply ByteArray.ext
  apply Array.ext'
  have l2 : a.data.toList.length = 24 := ha
  have l3 : R.data.toList.length = 24 := hR
  have l4 : b.data.toList.length = 24 := hb
  rw [putT_list, ByteArray.data_append, ByteArray.data_append, Array.toList_append, Array.toList_append, l3, List.take_append_of_le_length (by omega), List.take_of_length_le (by omega), List.drop_of_length_le (by rw [List.length_append]; omega), List.append_nil]
theorem slots_of {a b : ByteArray} (ha : a.size = 24) (hb : b.size = 24) : sl0 (a ++ b) 0 = a ∧ sl1 (a ++ b) 0 = b := by
  have hz : (a ++ b).size = 48 := by rw [ByteArray.size_append]; omega
  have e : (a ++ b).extract (0 : Int).toNat ((0 : Int) + 48).toNat = a ++ b := by
    rw [show ((0 : Int) + 48).toNat = (a ++ b).size by omega]
    exact ext_all _
  unfold sl0 sl1
  rw [e]
  constructor
  · rw [← L_inj, L_ext, L_app, List.drop_zero, List.take_append_of_le_length (by rw [L_len]; omega), List.take_of_length_le (by rw [L_len]; omega)]
  · rw [← L_inj, L_ext, L_app, List.drop_append, List.drop_of_length_le (by rw [L_len]; omega), List.nil_append, L_len, ha, List.drop_zero, List.take_of_length_le (by rw [L_len]; omega)]
theorem latchSlots (a b : ByteArray) (q c p u f v d i n : Int) : runG ΓLo L0 Try.prog Try.f8 [.v (S a), .v (S b), .v (.agg #[I q, I c, I p, I u, I f, I v, I d, I i, I n])] M0 = some (.v (.bool true), M0) := (treeSlots a b q c p u f v d i n).trans (by
  by_cases ha : a.size = 24
  case neg => rw [bne_iff_ne.2 (show (a.size : Int) ≠ 24 by omega)]; rfl
  by_cases hb : b.size = 24
  case neg => rw [ha, bne_iff_ne.2 (show (b.size : Int) ≠ 24 by omega)]; rfl
  have hM : (manyT 48 255).size = 48 := manyT_size 48 255
  obtain ⟨a1, a2, a3, a4, _⟩ := wr_plain (B := manyT 48 255) (s := a) (k := 0) 0 0 0 (by omega) (by omega)
  rw [show (0 : Int).toNat = 0 from rfl] at a2
  have h1 : (putT (manyT 48 255) 0 a).size = 48 := by rw [putT_size (by omega), hM]
  obtain ⟨b1, b2, b3, b4, _⟩ := wr_plain (B := putT (manyT 48 255) 0 a) (s := b) (k := 24) 0 0 0 (by omega) (by omega)
  rw [show (24 : Int).toNat = 24 from rfl, put_ab ha hb] at b2
  have h2 : (a ++ b).size = 48 := by rw [ByteArray.size_append]; omega
  obtain ⟨s0, s1⟩ := slots_of ha hb
  have r0 : refE false 48 0 48 = 0 := (refE_ok (by decide)).2 ⟨rfl, by decide, by decide, by decide⟩
  have o0 := okL_T (B := manyT 48 255) (lets := 0) (by omega) (by decide)
  have o1 := okL_T (B := putT (manyT 48 255) 0 a) (lets := 0) (by omega) (by decide)
  have o2 := okL_T (B := a ++ b) (lets := 0) (by omega) (by decide)
  obtain ⟨k1, k2, k3, k4⟩ := kept_all a b
  have hz : ((48 : Nat) : Int) = 48 := rfl
  simp only [txt_rowT, a2, a3, a4, b2, b3, b4, o0, o1, o2, h2, hz, r0, s0, s1, k1, k2, ha, hb, beq_self_eq_true, Bool.and_self, Bool.not_true, cond_true, cond_false]
  cases hr : rightL (wI (kpC a b qS + 1)) c p u f v d i n
  · rfl
  have hR := (rec_rd hr).1
  generalize recS (wI (kpC a b qS + 1)) c p u f v d i n = R at hR ⊢
  rcases k4 with ⟨e1, e2⟩ | ⟨e1, e2⟩
  · rw [e1, e2, show wI (0 + wI (1 * 24)) = 24 by decide]
    obtain ⟨c1, c2, c3, c4, _⟩ := wr_plain (B := a ++ b) (s := R) (k := 24) 0 0 0 (by omega) (by omega)
    rw [show (24 : Int).toNat = 24 from rfl, put_24 ha hb hR] at c2
    have h3 : (a ++ R).size = 48 := by rw [ByteArray.size_append]; omega
    have o3 := okL_T (B := a ++ R) (lets := 0) (by omega) (by decide)
    have x1 : (a ++ R).extract 0 48 = a ++ R := by
      rw [← h3]
      exact ext_all _
    have t1 : ∀ x y : ByteArray, svT true x y = x := fun _ _ => rfl
    have t2 : ∀ x y : Bool, svB true x y = x := fun _ _ => rfl
    have t3 : ∀ x : Int, svE true x = x := fun _ => rfl
    simp only [c1, c2, c3, t1, t2, t3, o3, h3, hz, r0, x1, hR, beq_self_eq_true, bne_self_eq_false, Bool.not_true, cond_true, cond_false]
    rfl
  · rw [e2, show wI (0 + wI (0 * 24)) = 0 by decide]
    obtain ⟨c1, c2, c3, c4, _⟩ := wr_plain (B := a ++ b) (s := R) (k := 0) 0 0 0 (by omega) (by omega)
    rw [show (0 : Int).toNat = 0 from rfl, put_0 ha hb hR] at c2
    have h3 : (R ++ b).size = 48 := by rw [ByteArray.size_append]; omega
    have o3 := okL_T (B := R ++ b) (lets := 0) (by omega) (by decide)
    have x1 : (R ++ b).extract 0 48 = R ++ b := by
      rw [← h3]
      exact ext_all _
    have t1 : ∀ x y : ByteArray, svT true x y = x := fun _ _ => rfl
    have t2 : ∀ x y : Bool, svB true x y = x := fun _ _ => rfl
    have t3 : ∀ x : Int, svE true x = x := fun _ => rfl
    simp only [c1, c2, c3, t1, t2, t3, o3, h3, hz, r0, x1, hR, beq_eq_false_iff_ne.2 e1, beq_self_eq_true, bne_self_eq_false, Bool.not_true, cond_true, cond_false]
    rfl)
end Go.Proofs.Ytlhgaehjkpjniaa

namespace Go.Proofs.Ytlhgaehjkpjniaa
open Go Go.Proofs Go.Sx
set_option linter.unusedVariables false
abbrev ksRec : List CK := [.num .i64, .num .i64, .num .i64, .num .i64, .num .i64, .num .i64, .num .i64, .num .i64, .num .i64]
theorem rec_of {l : List Dat} (h : WfL ksRec l) : ∃ q c p u f v d i n, l = [.n q, .n c, .n p, .n u, .n f, .n v, .n d, .n i, .n n] := by
  match l, h with
  | [.n q, .n c, .n p, .n u, .n f, .n v, .n d, .n i, .n n], _ => exact ⟨q, c, p, u, f, v, d, i, n, rfl⟩
theorem latchPrintsLaw (l0 : List Dat) (z1 : ByteArray) (w0 : WfL ksRec l0) (n1 : z1.size ≤ 281474976710656) : ∃ m', runG ΓLk L0 Try.prog Try.f7 (inArgs [.v (.agg (mkEl ksRec l0).toArray), .v (.string z1)] 0) (inMem [.v (.agg (mkEl ksRec l0).toArray), .v (.string z1)]) = some (.v (.bool true), m') := by
  obtain ⟨q, c, p, u, f, v, d, i, n, rfl⟩ := rec_of w0
  exact ⟨_, latchPrints q c p u f v d i n z1⟩
theorem latchSlotsLaw (z0 : ByteArray) (z1 : ByteArray) (l2 : List Dat) (n0 : z0.size ≤ 281474976710656) (n1 : z1.size ≤ 281474976710656) (w2 : WfL ksRec l2) : ∃ m', runG ΓLo L0 Try.prog Try.f8 (inArgs [.v (.string z0), .v (.string z1), .v (.agg (mkEl ksRec l2).toArray)] 0) (inMem [.v (.string z0), .v (.string z1), .v (.agg (mkEl ksRec l2).toArray)]) = some (.v (.bool true), m') := by
  obtain ⟨q, c, p, u, f, v, d, i, n, rfl⟩ := rec_of w2
  exact ⟨_, latchSlots z0 z1 q c p u f v d i n⟩
theorem latchBitsLaw (l0 : List Dat) (a1 : Int) (w0 : WfL ksRec l0) (u1 : (Lit.int .i64 a1).wf = true) : ∃ m', runG ΓLm L0 Try.prog Try.f9 (inArgs [.v (.agg (mkEl ksRec l0).toArray), .v (.int .i64 a1)] 0) (inMem [.v (.agg (mkEl ksRec l0).toArray), .v (.int .i64 a1)]) = some (.v (.bool true), m') := by
  obtain ⟨q, c, p, u, f, v, d, i, n, rfl⟩ := rec_of w0
  exact ⟨_, latchBits q c p u f v d i n a1⟩
theorem latchNilLaw (l0 : List Dat) (a1 : Int) (w0 : WfL ksRec l0) (u1 : (Lit.int .i64 a1).wf = true) : ∃ Γ : Orc, Γ.Ok Try.prog ∧ ∃ m', runG Γ L0 Try.prog Try.f10 (inArgs [.v (.agg (mkEl ksRec l0).toArray), .v (.int .i64 a1)] 0) (inMem [.v (.agg (mkEl ksRec l0).toArray), .v (.int .i64 a1)]) = some (.v (.bool true), m') := by
  obtain ⟨q, c, p, u, f, v, d, i, n, rfl⟩ := rec_of w0
  obtain ⟨Γ, hΓ, h⟩ := latchNil q c p u f v d i n a1
  exact ⟨Γ, hΓ, _, h⟩
end Go.Proofs.Ytlhgaehjkpjniaa

