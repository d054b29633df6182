/-
  The law CrcBits over numbers: a turned bit's change of a sum. No condition.
-/
import Derived.Test.YtjnkcojbeknpeaaYb
import Derived.Test.YtjnkcojbeknpeaaYe
namespace Go.Proofs.Ytjnkcojbeknpeaa
open Go Go.Proofs Go.Sx

/-! Bits that are turned. -/
def p16n (x b : Nat) : Nat := N16 (x ^^^ b * 256)
def p32n (x b : Nat) : Nat := N32 (x ^^^ b)
def small (B : List Nat) : Prop := ∀ b ∈ B, b < 256
theorem it_add (f : Nat → Nat) (a : Nat) : ∀ (b x : Nat), it f (a + b) x = it f a (it f b x)
  | 0, _ => rfl
  | b + 1, x => by
    show it f (a + b) (f x) = it f a (it f b (f x))
    exact it_add f a b (f x)
theorem p16n_lt {x b : Nat} (hx : x < 65536) (hb : b < 256) : p16n x b < 65536 := N16_lt (Nat.xor_lt_two_pow (n := 16) hx (by show _ < 65536; omega))
theorem p32n_lt {x b : Nat} (hx : x < 4294967296) (hb : b < 256) : p32n x b < 4294967296 := N32_lt (by
  have := Nat.xor_lt_two_pow (n := 32) (x := x) (y := b) (by rw [two32]; exact hx) (by rw [two32]; omega)
  rwa [two32] at this)
theorem fold16_xor : ∀ (B : List Nat) (x y : Nat), small B → x < 65536 → y < 65536 → B.foldl p16n (x ^^^ y) = B.foldl p16n x ^^^ it n16 (8 * B.length) y
  | [], x, y, _, _, _ => rfl
  | b :: B, x, y, hB, hx, hy => by
    have hb := hB b (by simp)
    have e : p16n (x ^^^ y) b = p16n x b ^^^ N16 y := by
      unfold p16n
      rw [Nat.xor_assoc, Nat.xor_comm y, ← Nat.xor_assoc, N16_xor (Nat.xor_lt_two_pow (n := 16) hx (by show _ < 65536; omega)) hy]
    rw [List.foldl_cons, List.foldl_cons, e, fold16_xor B _ _ (fun c hc => hB c (by simp [hc])) (p16n_lt hx hb) (N16_lt hy), List.length_cons, show 8 * (B.length + 1) = 8 * B.length + 8 by omega, it_add]
    rfl
theorem fold32_xor : ∀ (B : List Nat) (x y : Nat), B.foldl p32n (x ^^^ y) = B.foldl p32n x ^^^ it n32 (8 * B.length) y
  | [], x, y => rfl
  | b :: B, x, y => by
    have e : p32n (x ^^^ y) b = p32n x b ^^^ N32 y := by
      unfold p32n
      rw [Nat.xor_assoc, Nat.xor_comm y, ← Nat.xor_assoc, N32_xor]
    rw [List.foldl_cons, List.foldl_cons, e, fold32_xor B, List.length_cons, show 8 * (B.length + 1) = 8 * B.length + 8 by omega, it_add]
    rfl
theorem flip16_fold {v : Nat} (hv : v < 256) : ∀ (B : List Nat) (q x : Nat), small B → x < 65536 → q < B.length → (B.set q (B.getD q 0 ^^^ v)).foldl p16n x = B.foldl p16n x ^^^ it n16 (8 * (B.length - q)) (v * 256)
  | [], _, _, _, _, h => by simp at h
  | b :: B, 0, x, hB, hx, _ => by
    have hb := hB b (by simp)
    have e : p16n x (b ^^^ v) = p16n x b ^^^ N16 (v * 256) := by
      unfold p16n
      rw [mul256_xor, ← Nat.xor_assoc, N16_xor (Nat.xor_lt_two_pow (n := 16) hx (by show _ < 65536; omega)) (by omega)]
    show (B.foldl p16n (p16n x (b ^^^ v))) = B.foldl p16n (p16n x b) ^^^ _
    rw [e, fold16_xor B _ _ (fun c hc => hB c (by simp [hc])) (p16n_lt hx hb) (N16_lt (by omega)), List.length_cons, show 8 * (B.length + 1 - 0) = 8 * B.length + 8 by omega, it_add]
    rfl
  | b :: B, q + 1, x, hB, hx, h => by
    have hb := hB b (by simp)
    have := flip16_fold hv B q (p16n x b) (fun c hc => hB c (by simp [hc])) (p16n_lt hx hb) (by simpa using h)
    simpa using this
theorem flip32_fold (v : Nat) : ∀ (B : List Nat) (q x : Nat), q < B.length → (B.set q (B.getD q 0 ^^^ v)).foldl p32n x = B.foldl p32n x ^^^ it n32 (8 * (B.length - q)) v
  | [], _, _, h => by simp at h
  | b :: B, 0, x, _ => by
    have e : p32n x (b ^^^ v) = p32n x b ^^^ N32 v := by
      unfold p32n
      rw [← Nat.xor_assoc, N32_xor]
    show (B.foldl p32n (p32n x (b ^^^ v))) = B.foldl p32n (p32n x b) ^^^ _
    rw [e, fold32_xor B, List.length_cons, show 8 * (B.length + 1 - 0) = 8 * B.length + 8 by omega, it_add]
    rfl
  | b :: B, q + 1, x, h => by
    have := flip32_fold v B q (p32n x b) (by simpa using h)
    simpa using this
theorem up16 {r : Nat} (h : r < 16) : it n16 r (2 ^ (15 - r)) = 32768 := by
  have : ∀ r, r < 16 → it n16 r (2 ^ (15 - r)) = 32768 := of_decide_eq_true (by kernel_rfl)
  exact this r h
theorem down32 (r : Nat) : it n32 r (2 ^ r) = 1 := by
  have := it32_high r 1
  rwa [Nat.mul_one] at this
theorem turn16 {r : Nat} (h : r < 8) : 128 / 2 ^ r * 256 = 2 ^ (15 - r) := by
  have : ∀ r, r < 8 → 128 / 2 ^ r * 256 = 2 ^ (15 - r) := of_decide_eq_true (by kernel_rfl)
  exact this r h
/-- The bit k = a + i turned: what the sum's change is. -/
theorem turned16 {n a i : Nat} (hi : i < 16) (hk : a + i < 8 * n) : it n16 (8 * (n - (a + i) / 8)) (128 / 2 ^ ((a + i) % 8) * 256) = it n16 (8 * n - a) (2 ^ (15 - i)) := by
  rw [turn16 (Nat.mod_lt _ (by decide)), show 8 * (n - (a + i) / 8) = (8 * n - (a + i)) + (a + i) % 8 by omega, show 8 * n - a = (8 * n - (a + i)) + i by omega, it_add, it_add, up16 (by omega), up16 hi]
theorem turned32 {n a i : Nat} (hk : a + i < 8 * n) : it n32 (8 * (n - (a + i) / 8)) (2 ^ ((a + i) % 8)) = it n32 (8 * n - a) (2 ^ i) := by
  rw [show 8 * (n - (a + i) / 8) = (8 * n - (a + i)) + (a + i) % 8 by omega, show 8 * n - a = (8 * n - (a + i)) + i by omega, it_add, it_add, down32, down32]
theorem n16_zero {x : Nat} (hx : x < 65536) (h : n16 x = 0) : x = 0 := by
  rw [n16_eq hx] at h
  have e : x.testBit 15 = decide (32768 ≤ x) := by
    rw [Nat.testBit_eq_decide_div_mod_eq, show (2 : Nat) ^ 15 = 32768 from rfl]
    by_cases h1 : 32768 ≤ x
    · rw [decide_eq_true h1, decide_eq_true (by omega)]
    · rw [decide_eq_false h1, decide_eq_false (by omega)]
  rw [e] at h
  by_cases h1 : 32768 ≤ x
  · rw [decide_eq_true h1] at h
    have h2 : 2 * x % 65536 = 4129 := by
      have := congrArg (· ^^^ 4129) h
      simpa [Nat.xor_assoc] using this
    omega
  · rw [decide_eq_false h1] at h
    simp at h
    omega
theorem n32_zero {x : Nat} (hx : x < 4294967296) (h : n32 x = 0) : x = 0 := by
  rw [n32_eq, Nat.testBit_zero] at h
  rcases Nat.mod_two_eq_zero_or_one x with h1 | h1
  · rw [h1] at h
    simp at h
    omega
  · rw [h1] at h
    have h2 : x / 2 = 3988292384 := by
      have := congrArg (· ^^^ 3988292384) h
      simpa [Nat.xor_assoc] using this
    omega
theorem it16_zero : ∀ (k x : Nat), x < 65536 → it n16 k x = 0 → x = 0
  | 0, _, _, h => h
  | k + 1, x, hx, h => n16_zero hx (it16_zero k (n16 x) (n16_lt x) h)
theorem it32_zero : ∀ (k x : Nat), x < 4294967296 → it n32 k x = 0 → x = 0
  | 0, _, _, h => h
  | k + 1, x, hx, h => n32_zero hx (it32_zero k (n32 x) (n32_lt hx) h)
theorem it_z16 : ∀ k : Nat, it n16 k 0 = 0
  | 0 => rfl
  | k + 1 => it_z16 k
theorem it_z32 : ∀ k : Nat, it n32 k 0 = 0
  | 0 => rfl
  | k + 1 => it_z32 k

/-- What the loop's rounds make. -/
structure TN where
  p : Bool
  q : Bool
  B : List Nat
  C : List Nat
def stN (a t n i : Nat) (z : TN) : TN :=
  bif !t.testBit i || decide (8 * n ≤ a + i) then z
  else bif decide (i < 16) then ⟨true, true, z.B.set ((a + i) / 8) (z.B.getD ((a + i) / 8) 0 ^^^ 128 / 2 ^ ((a + i) % 8)), z.C.set ((a + i) / 8) (z.C.getD ((a + i) / 8) 0 ^^^ 2 ^ ((a + i) % 8))⟩
  else ⟨z.p, true, z.B, z.C.set ((a + i) / 8) (z.C.getD ((a + i) / 8) 0 ^^^ 2 ^ ((a + i) % 8))⟩
def goN (a t n : Nat) : Nat → Nat → TN → TN
  | 0, _, z => z
  | j + 1, i, z => goN a t n j (i + 1) (stN a t n i z)
structure InvN (n : Nat) (z : TN) : Prop where
  lb : z.B.length = n
  lc : z.C.length = n
  sb : small z.B
  sc : small z.C
theorem small_set {B : List Nat} (h : small B) {q v : Nat} (hv : v < 256) : small (B.set q (B.getD q 0 ^^^ v)) := by
  intro b hb
  rcases List.mem_or_eq_of_mem_set hb with h1 | h1
  · exact h b h1
  · subst h1
    refine Nat.xor_lt_two_pow (n := 8) ?_ hv
    show B.getD q 0 < 256
    by_cases hq : q < B.length
    · have : B.getD q 0 = B[q] := by simp [List.getD, hq]
      rw [this]; exact h _ (List.getElem_mem hq)
    · have : B.getD q 0 = 0 := by simp [List.getD, List.getElem?_eq_none (by omega : B.length ≤ q)]
      rw [this]; decide
theorem pow8 {r : Nat} : 2 ^ (r % 8) < 256 := by
  have h : r % 8 < 8 := Nat.mod_lt _ (by decide)
  calc 2 ^ (r % 8) < 2 ^ 8 := Nat.pow_lt_pow_right (by decide) h
  _ = 256 := rfl
theorem div8 (r : Nat) : 128 / 2 ^ (r % 8) < 256 := Nat.lt_of_le_of_lt (Nat.div_le_self _ _) (by decide)
theorem stN_inv {a t n i : Nat} {z : TN} (h : InvN n z) : InvN n (stN a t n i z) := by
  unfold stN
  cases !t.testBit i || decide (8 * n ≤ a + i)
  · cases decide (i < 16)
    · exact ⟨h.lb, by simp [h.lc], h.sb, small_set h.sc pow8⟩
    · exact ⟨by simp [h.lb], by simp [h.lc], small_set h.sb (div8 _), small_set h.sc pow8⟩
  · exact h
/-- How far both texts are from the one that came in. -/
structure Far (a n i : Nat) (l : List Nat) (z : TN) (W V : Nat) : Prop where
  w : W < 65536
  v : V < 2 ^ i
  wz : W % 2 ^ (16 - i) = 0
  p : z.p = decide (W ≠ 0)
  q : z.q = decide (V ≠ 0)
  b : ∀ x, x < 65536 → z.B.foldl p16n x = l.foldl p16n x ^^^ it n16 (8 * n - a) W
  c : ∀ x, z.C.foldl p32n x = l.foldl p32n x ^^^ it n32 (8 * n - a) V
theorem stN_far {a t n i : Nat} {l : List Nat} {z : TN} {W V : Nat} (hi : i < 32) (h : InvN n z) (hf : Far a n i l z W V) : ∃ W' V', Far a n (i + 1) l (stN a t n i z) W' V' := by
  have hv2 : V < 2 ^ (i + 1) := Nat.lt_of_lt_of_le hf.v (Nat.pow_le_pow_right (by decide) (by omega))
  have hw2 : W % 2 ^ (16 - (i + 1)) = 0 := Nat.mod_eq_zero_of_dvd (Nat.dvd_trans (Nat.pow_dvd_pow 2 (by omega)) (Nat.dvd_of_mod_eq_zero hf.wz))
  have hV : V ^^^ 2 ^ i < 2 ^ (i + 1) := Nat.xor_lt_two_pow hv2 (Nat.pow_lt_pow_right (by decide) (by omega))
  have hVz : V ^^^ 2 ^ i ≠ 0 := by
    intro h0
    have : V = 2 ^ i := by
      have := congrArg (· ^^^ 2 ^ i) h0
      simpa [Nat.xor_assoc] using this
    have := hf.v
    omega
  have h32 : ∀ V, V < 2 ^ i → V < 4294967296 := fun V hV => Nat.lt_of_lt_of_le hV (by rw [← two32]; exact Nat.pow_le_pow_right (by decide) (by omega))
  unfold stN
  cases hc : !t.testBit i || decide (8 * n ≤ a + i)
  · simp only [Bool.or_eq_false_iff, decide_eq_false_iff_not, Nat.not_le] at hc
    have hk := hc.2
    have hq : (a + i) / 8 < n := by omega
    have eC : ∀ x, (z.C.set ((a + i) / 8) (z.C.getD ((a + i) / 8) 0 ^^^ 2 ^ ((a + i) % 8))).foldl p32n x = l.foldl p32n x ^^^ it n32 (8 * n - a) (V ^^^ 2 ^ i) := by
      intro x
      rw [flip32_fold _ z.C _ x (by rw [h.lc]; exact hq), hf.c, h.lc, turned32 hk, it32_xor, Nat.xor_assoc]
    cases h16 : decide (i < 16)
    · exact ⟨W, V ^^^ 2 ^ i, hf.w, hV, hw2, hf.p, by simp [hVz], hf.b, eC⟩
    · have h16' := of_decide_eq_true h16
      have hpow : 2 ^ (15 - i) < 65536 := by
        calc 2 ^ (15 - i) < 2 ^ 16 := Nat.pow_lt_pow_right (by decide) (by omega)
        _ = 65536 := rfl
      have hWz : W ^^^ 2 ^ (15 - i) ≠ 0 := by
        intro h0
        have e : W = 2 ^ (15 - i) := by
          have := congrArg (· ^^^ 2 ^ (15 - i)) h0
          simpa [Nat.xor_assoc] using this
        have hz := hf.wz
        rw [e, Nat.mod_eq_of_lt (Nat.pow_lt_pow_right (by decide) (by omega))] at hz
        exact absurd hz (Nat.ne_of_gt (Nat.pow_pos (by decide)))
      refine ⟨W ^^^ 2 ^ (15 - i), V ^^^ 2 ^ i, Nat.xor_lt_two_pow (n := 16) hf.w hpow, hV, ?_, by simp [hWz], by simp [hVz], fun x hx => ?_, eC⟩
      · rw [Nat.xor_mod_two_pow, hw2, show 16 - (i + 1) = 15 - i by omega, Nat.mod_self]
        rfl
      · show (z.B.set ((a + i) / 8) (z.B.getD ((a + i) / 8) 0 ^^^ 128 / 2 ^ ((a + i) % 8))).foldl p16n x = _
        rw [flip16_fold (div8 _) z.B _ x h.sb hx (by rw [h.lb]; exact hq), hf.b x hx, h.lb, turned16 h16' hk, it16_xor _ hf.w hpow, Nat.xor_assoc]
  · exact ⟨W, V, hf.w, hv2, hw2, hf.p, hf.q, hf.b, hf.c⟩
theorem goN_far {a t n : Nat} {l : List Nat} : ∀ (j i : Nat) (z : TN) (W V : Nat), i + j = 32 → InvN n z → Far a n i l z W V → InvN n (goN a t n j i z) ∧ ∃ W' V', Far a n 32 l (goN a t n j i z) W' V'
  | 0, i, z, W, V, hi, h, hf => by
    have : i = 32 := by omega
    subst this
    exact ⟨h, W, V, hf⟩
  | j + 1, i, z, W, V, hi, h, hf => by
    obtain ⟨W', V', hf'⟩ := stN_far (t := t) (by omega) h hf
    exact goN_far j (i + 1) _ W' V' (by omega) (stN_inv h) hf'
end Go.Proofs.Ytjnkcojbeknpeaa

namespace Go.Proofs.Ytjnkcojbeknpeaa
open Go Go.Proofs Go.Sx

/-! CrcBits. -/
def Γs : Orc := { Γd with sb := true }
theorem Oks : Γs.Ok Try.prog := ⟨Okd.call, Okd.rd, Okd.eff, Okd.once, Okd.eqv⟩
def kk (a i : Int) : Int := wI (a + i)
def dv (a i : Int) : Int := wI (Int.tdiv (kk a i) 8)
def rm (a i : Int) : Int := Int.tmod (kk a i) 8
def okR (B : List Int) (a i : Int) : Bool := decide (0 ≤ dv a i) && decide (dv a i < (B.length : Int))
def tz (t i : Int) : Bool := IntKind.u32.wrap (((BitVec.ofInt 32 (Int.fdiv t (2 ^ min i.toNat 32)) &&& BitVec.ofInt 32 1).toNat : Nat) : Int) == 0
def xB (B : List Int) (a i : Int) : List Int := B.set (dv a i).toNat (IntKind.u8.wrap (((BitVec.ofInt 8 (B.getD (dv a i).toNat 0) ^^^ BitVec.ofInt 8 (Int.fdiv 128 (2 ^ min (rm a i).toNat 8))).toNat : Nat) : Int))
def xC (B : List Int) (a i : Int) : List Int := B.set (dv a i).toNat (IntKind.u8.wrap (((BitVec.ofInt 8 (B.getD (dv a i).toNat 0) ^^^ BitVec.ofInt 8 (IntKind.u8.wrap (1 * 2 ^ min (rm a i).toNat 8))).toNat : Nat) : Int))
def k6 : List Bool := maskOf 97 [0, 1, 2, 7, 8, 9, 10, 38]
def x6 : List Bool := maskOf 97 [0, 7, 8, 9, 10]
noncomputable def body6 : Code := loopAt (Try.f6.body.getD .skip) 0
theorem loops6 : loopsOf (Try.f6.body.getD .skip) = [body6] := by kernel_rfl
theorem loops6a : loopsOf body6 = [] := by kernel_rfl
def rowM (B : List Int) : RowS := .live ⟨5, .u8, B, true, true⟩
def M6 (B C : List Int) : Mem := ⟨[], [], [rowM B, rowM C]⟩
def S6 (s : ByteArray) (a t : Int) (p q : Bool) (B C : List Int) (i : Int) : St := mk k6 [.v (Z s), .v (I a), .v (U32 t), .row 0, .row 1, .v (.bool p), .v (.bool q), .v (I i)] (M6 B C)
def K6 (e : Ex) (st : St) : Option (Ex × St) := some (e, cutG x6 st)
def F6 (s : ByteArray) (p q : Bool) (B C : List Int) : Option (Ex × St) := some (.exit 0, mk x6 [.v (Z s), .row 0, .row 1, .v (.bool p), .v (.bool q)] (M6 B C))
theorem step6 (s : ByteArray) (a t : Int) (k : Nat) (p q : Bool) (B C : List Int) (i : Int) : evLoop Γs Try.prog L0 (cutG k6) body6 (k + 1) (S6 s a t p q B C i) K6 =
    bif decide (i < 32) then
      bif decide (i < 0) then none
      else bif tz t i then evLoop Γs Try.prog L0 (cutG k6) body6 k (S6 s a t p q B C (wI (i + 1))) K6
      else bif decide (kk a i ≥ wI (8 * (s.size : Int))) then evLoop Γs Try.prog L0 (cutG k6) body6 k (S6 s a t p q B C (wI (i + 1))) K6
      else bif decide (i < 16) then
        bif okR B a i then bif decide (rm a i < 0) then none
        else bif okR B a i then bif okR C a i then bif decide (rm a i < 0) then none
        else bif okR C a i then evLoop Γs Try.prog L0 (cutG k6) body6 k (S6 s a t true true (xB B a i) (xC C a i) (wI (i + 1))) K6
        else none else none else none else none
      else
        bif okR C a i then bif decide (rm a i < 0) then none
        else bif okR C a i then evLoop Γs Try.prog L0 (cutG k6) body6 k (S6 s a t p true B (xC C a i) (wI (i + 1))) K6
        else none else none
    else F6 s p q B C := by kernel_rfl
/-! The rounds, over numbers. -/
def ci (B : List Nat) : List Int := B.map Int.ofNat
theorem ci_length (B : List Nat) : (ci B).length = B.length := by simp [ci]
theorem ci_get (B : List Nat) (q : Nat) : (ci B).getD q 0 = ((B.getD q 0 : Nat) : Int) := by
  unfold ci
  rw [List.getD_eq_getElem?_getD, List.getD_eq_getElem?_getD, List.getElem?_map]
  cases B[q]? <;> rfl
theorem ci_set (B : List Nat) (q v : Nat) : (ci B).set q (v : Int) = ci (B.set q v) := by
  unfold ci
  rw [List.map_set]
  rfl
theorem kk_nat {a i n : Nat} (hn : n ≤ 300) (ha : a < 8 * n) (hi : i < 32) : kk (a : Int) (i : Int) = ((a + i : Nat) : Int) := by
  unfold kk
  rw [wI_id (by omega)]
  omega
theorem dv_nat {a i n : Nat} (hn : n ≤ 300) (ha : a < 8 * n) (hi : i < 32) : dv (a : Int) (i : Int) = (((a + i) / 8 : Nat) : Int) := by
  unfold dv
  rw [kk_nat hn ha hi, Int.tdiv_eq_ediv_of_nonneg (by omega), wI_id (by omega)]
  omega
theorem rm_nat {a i n : Nat} (hn : n ≤ 300) (ha : a < 8 * n) (hi : i < 32) : rm (a : Int) (i : Int) = (((a + i) % 8 : Nat) : Int) := by
  unfold rm
  rw [kk_nat hn ha hi, Int.tmod_eq_emod_of_nonneg (by omega)]
  omega
theorem okR_nat {a i n : Nat} {B : List Nat} (hn : n ≤ 300) (ha : a < 8 * n) (hi : i < 32) (hB : B.length = n) (hk : a + i < 8 * n) : okR (ci B) (a : Int) (i : Int) = true := by
  unfold okR
  rw [dv_nat hn ha hi, ci_length, hB, decide_eq_true (by omega), decide_eq_true (by omega)]
  rfl
theorem rmneg {a i n : Nat} (hn : n ≤ 300) (ha : a < 8 * n) (hi : i < 32) : decide (rm (a : Int) (i : Int) < 0) = false := by
  rw [rm_nat hn ha hi]
  exact decide_eq_false (by omega)
theorem getD_lt {B : List Nat} (h : small B) (q : Nat) : B.getD q 0 < 256 := by
  by_cases hq : q < B.length
  · have : B.getD q 0 = B[q] := by simp [List.getD, hq]
    rw [this]; exact h _ (List.getElem_mem hq)
  · have : B.getD q 0 = 0 := by simp [List.getD, List.getElem?_eq_none (by omega : B.length ≤ q)]
    rw [this]; decide
theorem pow_nat (r : Nat) : (2 : Int) ^ r = ((2 ^ r : Nat) : Int) := by
  rw [Int.natCast_pow]; rfl
theorem xB_nat {a i n : Nat} {B : List Nat} (hn : n ≤ 300) (ha : a < 8 * n) (hi : i < 32) (hs : small B) : xB (ci B) (a : Int) (i : Int) = ci (B.set ((a + i) / 8) (B.getD ((a + i) / 8) 0 ^^^ 128 / 2 ^ ((a + i) % 8))) := by
  have h1 := getD_lt hs ((a + i) / 8)
  have h2 := div8 (a + i)
  unfold xB
  rw [dv_nat hn ha hi, rm_nat hn ha hi, Int.toNat_natCast, Int.toNat_natCast, ci_get, show min ((a + i) % 8) 8 = (a + i) % 8 by omega, pow_nat, Int.fdiv_eq_ediv_of_nonneg _ (Int.natCast_nonneg _), show (128 : Int) / ((2 ^ ((a + i) % 8) : Nat) : Int) = ((128 / 2 ^ ((a + i) % 8) : Nat) : Int) from (Int.natCast_ediv 128 _).symm, xorB 8 _ _ h1 h2, wrap8, Nat.mod_eq_of_lt (xor_lt 8 h1 h2), ci_set]
  rfl
theorem xC_nat {a i n : Nat} {B : List Nat} (hn : n ≤ 300) (ha : a < 8 * n) (hi : i < 32) (hs : small B) : xC (ci B) (a : Int) (i : Int) = ci (B.set ((a + i) / 8) (B.getD ((a + i) / 8) 0 ^^^ 2 ^ ((a + i) % 8))) := by
  have h1 := getD_lt hs ((a + i) / 8)
  have h2 := pow8 (r := a + i)
  unfold xC
  rw [dv_nat hn ha hi, rm_nat hn ha hi, Int.toNat_natCast, Int.toNat_natCast, ci_get, show min ((a + i) % 8) 8 = (a + i) % 8 by omega, pow_nat, Int.one_mul, wrap8 (2 ^ ((a + i) % 8)), Nat.mod_eq_of_lt h2, xorB 8 _ _ h1 h2, wrap8, Nat.mod_eq_of_lt (xor_lt 8 h1 h2), ci_set]
  rfl
theorem tz_nat {t i : Nat} (ht : t < 4294967296) (hi : i < 32) : tz (t : Int) (i : Int) = !t.testBit i := by
  have hq : t / 2 ^ i < 2 ^ 32 := by rw [two32]; exact Nat.lt_of_le_of_lt (Nat.div_le_self _ _) ht
  unfold tz
  rw [Int.toNat_natCast, show min i 32 = i by omega, pow_nat, Int.fdiv_eq_ediv_of_nonneg _ (Int.natCast_nonneg _), show ((t : Nat) : Int) / ((2 ^ i : Nat) : Int) = ((t / 2 ^ i : Nat) : Int) from (Int.natCast_ediv t _).symm, show (1 : Int) = ((1 : Nat) : Int) from rfl, andB 32 _ _ hq (by decide), wrap32, Nat.testBit_eq_decide_div_mod_eq]
  have e2 : Nat.land (t / 2 ^ i) 1 = t / 2 ^ i % 2 := Nat.and_one_is_mod _
  rw [e2]
  rcases Nat.mod_two_eq_zero_or_one (t / 2 ^ i) with h0 | h0 <;> rw [h0] <;> rfl

theorem goes6 {α : Type} {a t n : Nat} (hn : n ≤ 300) (ha : a < 8 * n) (ht : t < 4294967296) (E : Nat → Bool → Bool → List Int → List Int → Int → Option α) (F : Bool → Bool → List Int → List Int → Option α)
    (hE : ∀ k p q B C i, E (k + 1) p q B C i = bif decide (i < 32) then
      bif decide (i < 0) then none
      else bif tz t i then E k p q B C (wI (i + 1))
      else bif decide (kk a i ≥ wI (8 * (n : Int))) then E k p q B C (wI (i + 1))
      else bif decide (i < 16) then
        bif okR B a i then bif decide (rm a i < 0) then none
        else bif okR B a i then bif okR C a i then bif decide (rm a i < 0) then none
        else bif okR C a i then E k true true (xB B a i) (xC C a i) (wI (i + 1))
        else none else none else none else none
      else
        bif okR C a i then bif decide (rm a i < 0) then none
        else bif okR C a i then E k p true B (xC C a i) (wI (i + 1))
        else none else none
    else F p q B C) : ∀ (j i : Nat) (z : TN), i + j = 32 → InvN n z → E (j + 1) z.p z.q (ci z.B) (ci z.C) (i : Int) = F (goN a t n j i z).p (goN a t n j i z).q (ci (goN a t n j i z).B) (ci (goN a t n j i z).C) := by
  intro j
  induction j with
  | zero =>
    intro i z hi h
    have : i = 32 := by omega
    subst this
    rw [hE]
    rfl
  | succ j ih =>
    intro i z hi h
    have hi' : i < 32 := by omega
    have hih := ih (i + 1) (stN a t n i z) (by omega) (stN_inv h)
    show _ = F (goN a t n j (i + 1) (stN a t n i z)).p (goN a t n j (i + 1) (stN a t n i z)).q (ci (goN a t n j (i + 1) (stN a t n i z)).B) (ci (goN a t n j (i + 1) (stN a t n i z)).C)
    rw [← hih, hE, show decide ((i : Int) < 32) = true from decide_eq_true (by omega), show decide ((i : Int) < 0) = false from decide_eq_false (by omega), wI_id (n := (i : Int) + 1) (by omega), tz_nat ht hi', wI_id (n := 8 * (n : Int)) (by omega), kk_nat hn ha hi', show (i : Int) + 1 = ((i + 1 : Nat) : Int) by omega]
    simp only [cond_true, cond_false]
    have hge : decide (((a + i : Nat) : Int) ≥ 8 * (n : Int)) = decide (8 * n ≤ a + i) := by
      by_cases h1 : 8 * n ≤ a + i
      · rw [decide_eq_true h1, decide_eq_true (by omega)]
      · rw [decide_eq_false h1, decide_eq_false (by omega)]
    have h16 : decide ((i : Int) < 16) = decide (i < 16) := by
      by_cases h1 : i < 16
      · rw [decide_eq_true h1, decide_eq_true (by omega)]
      · rw [decide_eq_false h1, decide_eq_false (by omega)]
    rw [hge, h16]
    unfold stN
    cases hb : t.testBit i
    · rfl
    · cases hk : decide (8 * n ≤ a + i)
      · have hk' := of_decide_eq_false hk
        rw [okR_nat hn ha hi' h.lb (by omega), okR_nat hn ha hi' h.lc (by omega), rmneg hn ha hi', xB_nat hn ha hi' h.sb, xC_nat hn ha hi' h.sc]
        cases decide (i < 16) <;> rfl
      · rfl
def in8 (b : Int) : Bool := inN 256 b
def z6 (s : ByteArray) (a t : Int) (p q : Bool) (B C : List Int) : TN := goN a.toNat t.toNat s.size 32 0 ⟨p, q, B.map Int.toNat, C.map Int.toNat⟩
def g6 (s : ByteArray) (a t i : Int) (B C : List Int) : Bool := i == 0 && (decide (0 ≤ a) && (decide (a < 8 * (s.size : Int)) && (Nat.ble s.size 300 && (in32 t && (Nat.beq B.length s.size && (Nat.beq C.length s.size && (B.all in8 && C.all in8)))))))
def G6 (vals : List SV) (m : Mem) : Option (Bool × Ex × St) :=
  match vals, m with
  | [.v (.string s), .v (.int .i64 a), .v (.int .u32 t), .row 0, .row 1, .v (.bool p), .v (.bool q), .v (.int .i64 i)], ⟨[], [], [.live ⟨5, .u8, B, true, true⟩, .live ⟨5, .u8, C, true, true⟩]⟩ =>
    some (g6 s a t i B C, .exit 0, mk x6 [.v (Z s), .row 0, .row 1, .v (.bool (z6 s a t p q B C).p), .v (.bool (z6 s a t p q B C).q)] (M6 (ci (z6 s a t p q B C).B) (ci (z6 s a t p q B C).C)))
  | _, _ => none
noncomputable def Λ6 : LoopOrc := fun _ st => viaK k6 G6 st
theorem ci_all : ∀ {B : List Int}, B.all in8 = true → B = ci (B.map Int.toNat) ∧ small (B.map Int.toNat)
  | [], _ => ⟨rfl, fun _ h => by simp at h⟩
  | b :: B, h => by
    simp only [List.all_cons, Bool.and_eq_true] at h
    obtain ⟨n, rfl, hn⟩ := inN_nat h.1
    obtain ⟨h1, h2⟩ := ci_all h.2
    refine ⟨?_, fun c hc => ?_⟩
    · conv => lhs; rw [h1]
      rfl
    · rw [List.map_cons, List.mem_cons] at hc
      rcases hc with rfl | hc
      · simpa using hn
      · exact h2 c hc
theorem loopOk6 (w0 : Base) : LoopOk Λ6 Try.prog w0 body6 := by
  refine loop_okK (Λ := L0) (kx := fun _ => x6) Oks mixed (fun b hb => by rw [loops6a] at hb; cases hb) (G := G6) (fun _ => rfl) ?_
  intro vals m e st' h
  unfold G6 at h
  split at h
  · rename_i s a t p q i B C
    injection h with h
    injection h with h1 h
    injection h with h2 h3
    subst h2 h3
    unfold g6 at h1
    simp only [Bool.and_eq_true, beq_iff_eq, decide_eq_true_eq] at h1
    obtain ⟨rfl, ha0, ha1, hn, ht, hB, hC, hB2, hC2⟩ := h1
    obtain ⟨tn, rfl, htn⟩ := inN_nat ht
    obtain ⟨an, rfl⟩ : ∃ n : Nat, a = (n : Int) := ⟨a.toNat, by omega⟩
    have hn := Nat.le_of_ble_eq_true hn
    have hB := Nat.eq_of_beq_eq_true hB
    have hC := Nat.eq_of_beq_eq_true hC
    obtain ⟨eB, sB⟩ := ci_all hB2
    obtain ⟨eC, sC⟩ := ci_all hC2
    have := goes6 (n := s.size) hn (by omega : an < 8 * s.size) htn (fun k p q B C i => evLoop Γs Try.prog L0 (cutG k6) body6 k (S6 s (an : Int) (tn : Int) p q B C i) K6) (F6 s) (step6 s (an : Int) (tn : Int)) 32 0 ⟨p, q, B.map Int.toNat, C.map Int.toNat⟩ rfl ⟨by simp [hB], by simp [hC], sB, sC⟩
    rw [← eB, ← eC] at this
    exact ⟨33, this⟩
  · cases h
def m6 (s : ByteArray) : Int := IntKind.u64.wrap (wI (8 * (s.size : Int)))
def a6 (s : ByteArray) (a : Int) : Int := wI (Int.tmod (IntKind.u64.wrap a) (m6 s))
def zz (s : ByteArray) (a t : Int) : TN := z6 s (a6 s a) t false false (bytesL s) (bytesL s)
theorem run6 (s : ByteArray) (a t : Int) : runA Γs Λ6 Try.prog Try.f6 [.v (Z s), .v (I a), .v (U32 t)] =
    bif decide ((s.size : Int) < 1) then some (.v (.bool true))
    else bif decide ((s.size : Int) > 300) then some (.v (.bool true))
    else bif m6 s == 0 then none
    else bif g6 s (a6 s a) t 0 (bytesL s) (bytesL s) then
      bif szS (strOfNums (ci (zz s a t).B)) then bif szS s then
        bif !((R16 65535 (strOfNums (ci (zz s a t).B)) == R16 65535 s) == (zz s a t).p) then
          bif szS (strOfNums (ci (zz s a t).C)) then bif szS s then some (.v (.bool (!((V32 (strOfNums (ci (zz s a t).C)) == V32 s) == (zz s a t).q)))) else none else none
        else some (.v (.bool false))
      else none else none
    else none := by kernel_rfl
/-- A text's bytes, as numbers. -/
def lN (s : ByteArray) : List Nat := s.data.toList.map UInt8.toNat
theorem bytesL_toNat (s : ByteArray) : (bytesL s).map Int.toNat = lN s := by
  simp [bytesL, lN]
theorem lN_small (s : ByteArray) : small (lN s) := by
  intro b hb
  obtain ⟨x, _, rfl⟩ := List.mem_map.1 hb
  exact byte_lt x
theorem lN_length (s : ByteArray) : (lN s).length = s.size := by simp [lN]
theorem bytesL_all (s : ByteArray) : (bytesL s).all in8 = true := by
  rw [List.all_eq_true]
  intro b hb
  obtain ⟨x, _, rfl⟩ := List.mem_map.1 hb
  exact inN_of (byte_lt x)
theorem R16_lN (x : Int) (s : ByteArray) : R16 x s = (((lN s).foldl p16n x.toNat : Nat) : Int) := by
  unfold R16 lN
  rw [List.foldl_map]
  rfl
theorem R32_lN (x : Int) (s : ByteArray) : R32 x s = (((lN s).foldl p32n x.toNat : Nat) : Int) := by
  unfold R32 lN
  rw [List.foldl_map]
  rfl
theorem lN_str {B : List Nat} (h : small B) : lN (strOfNums (ci B)) = B := by
  unfold lN
  rw [strOfNums_data]
  unfold ci
  rw [List.map_map, List.map_map]
  conv => rhs; rw [← List.map_id B]
  refine List.map_congr_left fun b hb => ?_
  have := h b hb
  show (UInt8.ofNat (Int.ofNat b).toNat).toNat = b
  simp
  omega
theorem xor_self_eq {x y : Nat} : (x ^^^ y = x) ↔ y = 0 := by
  constructor
  · intro h
    have := congrArg (x ^^^ ·) h
    simpa [← Nat.xor_assoc] using this
  · rintro rfl; simp
theorem V32_nat (s : ByteArray) : ∃ n : Nat, n < 4294967296 ∧ R32 4294967295 s = (n : Int) ∧ V32 s = ((n ^^^ 4294967295 : Nat) : Int) := by
  have hn := fold_lt (f := p32) (m := 4294967296) (fun n b => p32_lt b) s.data.toList 4294967295 (by decide)
  have h1 : s.data.toList.foldl p32 4294967295 < 2 ^ 32 := by rw [two32]; exact hn
  refine ⟨s.data.toList.foldl p32 4294967295, hn, rfl, ?_⟩
  unfold V32
  rw [show R32 4294967295 s = ((s.data.toList.foldl p32 4294967295 : Nat) : Int) from rfl, show (4294967295 : Int) = ((4294967295 : Nat) : Int) from rfl, xorB 32 _ _ h1 (by decide), wrap32, Nat.mod_eq_of_lt (by rw [← two32]; exact xor_lt 32 h1 (by decide))]
  rfl
theorem V32_eq (s u : ByteArray) : (V32 s == V32 u) = (R32 4294967295 s == R32 4294967295 u) := by
  obtain ⟨n, _, e1, e2⟩ := V32_nat s
  obtain ⟨m, _, e3, e4⟩ := V32_nat u
  rw [e1, e2, e3, e4]
  by_cases h : n = m
  · subst h; simp
  · have : n ^^^ 4294967295 ≠ m ^^^ 4294967295 := by
      intro h2
      apply h
      have := congrArg (· ^^^ 4294967295) h2
      simpa [Nat.xor_assoc] using this
    rw [beq_eq_false_iff_ne.2 (by omega), beq_eq_false_iff_ne.2 (by omega)]
theorem crcBits (s : ByteArray) (a t : Int) (hs : s.size ≤ 281474976710656) (_ : -9223372036854775808 ≤ a ∧ a < 9223372036854775808) (ht : 0 ≤ t ∧ t < 4294967296) : runA Γs Λ6 Try.prog Try.f6 [.v (Z s), .v (I a), .v (U32 t)] = some (.v (.bool true)) := by
  rw [run6]
  by_cases h0 : (s.size : Int) < 1
  · rw [decide_eq_true h0]; rfl
  by_cases h1 : (s.size : Int) > 300
  · rw [decide_eq_false h0, decide_eq_true h1]; rfl
  rw [decide_eq_false h0, decide_eq_false h1]
  have hn : s.size ≤ 300 := by omega
  have em : m6 s = 8 * (s.size : Int) := by
    unfold m6
    rw [wI_id (by omega), ← wr_eq true]
    simp only [wr]
    omega
  have eu : 0 ≤ IntKind.u64.wrap a := by
    rw [← wr_eq true]
    simp only [wr]
    omega
  have ea : 0 ≤ a6 s a ∧ a6 s a < 8 * (s.size : Int) := by
    unfold a6
    rw [em, Int.tmod_eq_emod_of_nonneg eu]
    have h2 := Int.emod_nonneg (IntKind.u64.wrap a) (show 8 * (s.size : Int) ≠ 0 by omega)
    have h3 := Int.emod_lt_of_pos (IntKind.u64.wrap a) (show 0 < 8 * (s.size : Int) by omega)
    rw [wI_id (by omega)]
    exact ⟨h2, h3⟩
  have e0 : (m6 s == 0) = false := beq_eq_false_iff_ne.2 (by omega)
  obtain ⟨tn, rfl, htn⟩ : ∃ n : Nat, t = (n : Int) ∧ n < 4294967296 := ⟨t.toNat, by omega, by omega⟩
  have hl : (bytesL s).length = s.size := by simp [bytesL]
  have eg : g6 s (a6 s a) tn 0 (bytesL s) (bytesL s) = true := by
    unfold g6
    rw [decide_eq_true ea.1, decide_eq_true ea.2, hl, bytesL_all, show Nat.ble s.size 300 = true from Nat.ble_eq_true_of_le hn, show in32 (tn : Int) = true from inN_of htn, show Nat.beq s.size s.size = true from Nat.beq_refl _]
    rfl
  rw [e0, eg]
  simp only [cond_true, cond_false]
  have hz : zz s a tn = goN (a6 s a).toNat tn s.size 32 0 ⟨false, false, lN s, lN s⟩ := by
    unfold zz z6
    rw [bytesL_toNat, Int.toNat_natCast]
  obtain ⟨inv, W, V, far⟩ := goN_far (a := (a6 s a).toNat) (t := tn) (n := s.size) (l := lN s) 32 0 ⟨false, false, lN s, lN s⟩ 0 0 rfl ⟨lN_length s, lN_length s, lN_small s, lN_small s⟩ ⟨by decide, by decide, rfl, rfl, rfl, fun x _ => by simp [it_z16], fun x => by simp [it_z32]⟩
  rw [hz]
  generalize goN (a6 s a).toNat tn s.size 32 0 ⟨false, false, lN s, lN s⟩ = z at *
  have hB : (strOfNums (ci z.B)).size = s.size := by rw [strOfNums_size, ci_length, inv.lb]
  have hC : (strOfNums (ci z.C)).size = s.size := by rw [strOfNums_size, ci_length, inv.lc]
  rw [szS_of (s := strOfNums (ci z.B)) (by omega), szS_of (s := strOfNums (ci z.C)) (by omega), szS_of (s := s) (by omega)]
  have e1 : (R16 65535 (strOfNums (ci z.B)) == R16 65535 s) = decide (W = 0) := by
    rw [R16_lN, R16_lN, lN_str inv.sb, show (65535 : Int).toNat = 65535 from rfl, far.b 65535 (by decide)]
    by_cases hw : W = 0
    · subst hw; simp [it_z16]
    · rw [decide_eq_false hw, beq_eq_false_iff_ne]
      intro h
      exact hw (it16_zero _ _ far.w (xor_self_eq.1 (by exact_mod_cast h)))
  have e2 : (V32 (strOfNums (ci z.C)) == V32 s) = decide (V = 0) := by
    rw [V32_eq, R32_lN, R32_lN, lN_str inv.sc, show (4294967295 : Int).toNat = 4294967295 from rfl, far.c 4294967295]
    by_cases hw : V = 0
    · subst hw; simp [it_z32]
    · rw [decide_eq_false hw, beq_eq_false_iff_ne]
      intro h
      exact hw (it32_zero _ _ (by have := far.v; rwa [two32] at this) (xor_self_eq.1 (by exact_mod_cast h)))
  rw [e1, e2, far.p, far.q]
  by_cases hw : W = 0 <;> by_cases hv : V = 0 <;> simp [hw, hv]
end Go.Proofs.Ytjnkcojbeknpeaa

