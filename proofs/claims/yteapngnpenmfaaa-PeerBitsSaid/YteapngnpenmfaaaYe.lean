/-
  The law PeerBits over values; the laws of peer as they are asked.
-/
import Derived.Test.YteapngnpenmfaaaYd
import Derived.Test.YteapngnpenmfaaaSx
namespace Go.Proofs.Yteapngnpenmfaaa
open Go Go.Proofs Go.Sx
set_option linter.unusedVariables false
/-! Sums of 32 bits are linear. -/
theorem n32_eq (a : Nat) : n32 a = (a / 2) ^^^ (bif a.testBit 0 then 3988292384 else 0) := by
  have e : Nat.beq (a % 2) 1 = a.testBit 0 := by
    rw [Nat.testBit_zero]
    rcases Nat.mod_two_eq_zero_or_one a with h | h <;> rw [h] <;> rfl
  unfold n32
  rw [e]
  cases a.testBit 0
  · simp
  · rfl
theorem cond_xor (p q : Bool) (c : Nat) : (bif (p ^^ q) then c else 0) = (bif p then c else 0) ^^^ (bif q then c else 0) := by
  cases p <;> cases q <;> simp
theorem xor4 (a b c d : Nat) : (a ^^^ b) ^^^ (c ^^^ d) = (a ^^^ c) ^^^ (b ^^^ d) := by
  rw [Nat.xor_assoc, ← Nat.xor_assoc b c d, Nat.xor_comm b c, Nat.xor_assoc c b d, ← Nat.xor_assoc a c]
theorem n32_xor (a b : Nat) : n32 (a ^^^ b) = n32 a ^^^ n32 b := by
  rw [n32_eq a, n32_eq b, n32_eq (a ^^^ b), xor4, Nat.testBit_xor, cond_xor]
  congr 1
  apply Nat.eq_of_testBit_eq
  intro j
  rw [Nat.testBit_xor, Nat.testBit_div_two, Nat.testBit_div_two, Nat.testBit_div_two, Nat.testBit_xor]
theorem it32_xor : ∀ (k a b : Nat), it n32 k (a ^^^ b) = it n32 k a ^^^ it n32 k b
  | 0, _, _ => rfl
  | k + 1, a, b => by
    show it n32 k (n32 (a ^^^ b)) = it n32 k (n32 a) ^^^ it n32 k (n32 b)
    rw [n32_xor a b, it32_xor k]
theorem N32_xor (a b : Nat) : N32 (a ^^^ b) = N32 a ^^^ N32 b := it32_xor 8 a b
theorem it32_high : ∀ (j k : Nat), it n32 j (2 ^ j * k) = k
  | 0, k => by simp [it]
  | j + 1, k => by
    have e : n32 (2 ^ (j + 1) * k) = 2 ^ j * k := by
      have : 2 ^ (j + 1) * k = 2 * (2 ^ j * k) := by rw [Nat.pow_succ, Nat.mul_comm (2 ^ j) 2, Nat.mul_assoc]
      rw [this]
      unfold n32
      rw [show 2 * (2 ^ j * k) % 2 = 0 by omega]
      show 2 * (2 ^ j * k) / 2 = _
      omega
    show it n32 j (n32 (2 ^ (j + 1) * k)) = k
    rw [e, it32_high j k]
def p32n (x b : Nat) : Nat := N32 (x ^^^ b)
def small (B : List Nat) : Prop := ∀ b ∈ B, b < 256
theorem it_add (f : Nat → Nat) (a : Nat) : ∀ (b x : Nat), it f (a + b) x = it f a (it f b x)
  | 0, _ => rfl
  | b + 1, x => by
    show it f (a + b) (f x) = it f a (it f b (f x))
    exact it_add f a b (f x)
theorem fold32_xor : ∀ (B : List Nat) (x y : Nat), B.foldl p32n (x ^^^ y) = B.foldl p32n x ^^^ it n32 (8 * B.length) y
  | [], x, y => rfl
  | b :: B, x, y => by
    have e : p32n (x ^^^ y) b = p32n x b ^^^ N32 y := by
      unfold p32n
      rw [Nat.xor_assoc, Nat.xor_comm y, ← Nat.xor_assoc, N32_xor]
    rw [List.foldl_cons, List.foldl_cons, e, fold32_xor B, List.length_cons, show 8 * (B.length + 1) = 8 * B.length + 8 by omega, it_add]
    rfl
theorem flip32_fold (v : Nat) : ∀ (B : List Nat) (q x : Nat), q < B.length → (B.set q (B.getD q 0 ^^^ v)).foldl p32n x = B.foldl p32n x ^^^ it n32 (8 * (B.length - q)) v
  | [], _, _, h => by simp at h
  | b :: B, 0, x, _ => by
    have e : p32n x (b ^^^ v) = p32n x b ^^^ N32 v := by
      unfold p32n
      rw [← Nat.xor_assoc, N32_xor]
    show (B.foldl p32n (p32n x (b ^^^ v))) = B.foldl p32n (p32n x b) ^^^ _
    rw [e, fold32_xor B, List.length_cons, show 8 * (B.length + 1 - 0) = 8 * B.length + 8 by omega, it_add]
    rfl
  | b :: B, q + 1, x, h => by
    have := flip32_fold v B q (p32n x b) (by simpa using h)
    simpa using this
theorem down32 (r : Nat) : it n32 r (2 ^ r) = 1 := by
  have := it32_high r 1
  rwa [Nat.mul_one] at this
theorem turned32 {n a i : Nat} (hk : a + i < 8 * n) : it n32 (8 * (n - (a + i) / 8)) (2 ^ ((a + i) % 8)) = it n32 (8 * n - a) (2 ^ i) := by
  rw [show 8 * (n - (a + i) / 8) = (8 * n - (a + i)) + (a + i) % 8 by omega, show 8 * n - a = (8 * n - (a + i)) + i by omega, it_add, it_add, down32, down32]
theorem n32_zero {x : Nat} (hx : x < 4294967296) (h : n32 x = 0) : x = 0 := by
  rw [n32_eq, Nat.testBit_zero] at h
  rcases Nat.mod_two_eq_zero_or_one x with h1 | h1
  · rw [h1] at h
    simp at h
    omega
  · rw [h1] at h
    have h2 : x / 2 = 3988292384 := by
      have := congrArg (· ^^^ 3988292384) h
      simpa [Nat.xor_assoc] using this
    omega
theorem it32_zero : ∀ (k x : Nat), x < 4294967296 → it n32 k x = 0 → x = 0
  | 0, _, _, h => h
  | k + 1, x, hx, h => n32_zero hx (it32_zero k (n32 x) (n32_lt hx) h)
theorem small_set {B : List Nat} (h : small B) {q v : Nat} (hv : v < 256) : small (B.set q (B.getD q 0 ^^^ v)) := by
  intro b hb
  rcases List.mem_or_eq_of_mem_set hb with h1 | h1
  · exact h b h1
  · subst h1
    refine Nat.xor_lt_two_pow (n := 8) ?_ hv
    show B.getD q 0 < 256
    by_cases hq : q < B.length
    · have : B.getD q 0 = B[q] := by simp [List.getD, hq]
      rw [this]; exact h _ (List.getElem_mem hq)
    · have : B.getD q 0 = 0 := by simp [List.getD, List.getElem?_eq_none (by omega : B.length ≤ q)]
      rw [this]; decide
theorem pow8 {r : Nat} : 2 ^ (r % 8) < 256 := by
  have h : r % 8 < 8 := Nat.mod_lt _ (by decide)
  calc 2 ^ (r % 8) < 2 ^ 8 := Nat.pow_lt_pow_right (by decide) h
  _ = 256 := rfl
theorem getD_lt {B : List Nat} (h : small B) (q : Nat) : B.getD q 0 < 256 := by
  by_cases hq : q < B.length
  · have : B.getD q 0 = B[q] := by simp [List.getD, hq]
    rw [this]; exact h _ (List.getElem_mem hq)
  · have : B.getD q 0 = 0 := by simp [List.getD, List.getElem?_eq_none (by omega : B.length ≤ q)]
    rw [this]; decide
/-! Some of 32 neighbouring bits turned, of the first n bytes. -/
structure TB where
  q : Bool
  C : List Nat
def turn (C : List Nat) (k : Nat) : List Nat := C.set (k / 8) (C.getD (k / 8) 0 ^^^ 2 ^ (k % 8))
def stB (a t n i : Nat) (z : TB) : TB := bif t.testBit i && decide (a + i < 8 * n) then ⟨true, turn z.C (a + i)⟩ else z
def goB (a t n : Nat) : Nat → Nat → TB → TB
  | 0, _, z => z
  | j + 1, i, z => goB a t n j (i + 1) (stB a t n i z)
theorem take_turn {C : List Nat} {k n : Nat} (h : k < 8 * n) : (turn C k).take n = turn (C.take n) k := by
  unfold turn
  rw [List.take_set]
  congr 1
  rw [List.getD_eq_getElem?_getD, List.getD_eq_getElem?_getD, List.getElem?_take_of_lt (by omega)]
theorem drop_turn {C : List Nat} {k n : Nat} (h : k < 8 * n) : (turn C k).drop n = C.drop n := by
  unfold turn
  rw [List.drop_set_of_lt (by omega)]
/-- How far it is from what came in. -/
structure Far (a n i : Nat) (l : List Nat) (z : TB) (V : Nat) : Prop where
  len : z.C.length = l.length
  sm : small z.C
  tl : z.C.drop n = l.drop n
  v : V < 2 ^ i
  q : z.q = decide (V ≠ 0)
  same : z.q = false → z.C = l
  c : ∀ x, (z.C.take n).foldl p32n x = (l.take n).foldl p32n x ^^^ it n32 (8 * n - a) V
theorem stB_far {a t n i : Nat} {l : List Nat} {z : TB} {V : Nat} (hn : n ≤ l.length) (hi : i < 32) (hf : Far a n i l z V) : ∃ V', Far a n (i + 1) l (stB a t n i z) V' := by
  have hv2 : V < 2 ^ (i + 1) := Nat.lt_of_lt_of_le hf.v (Nat.pow_le_pow_right (by decide) (by omega))
  have hV : V ^^^ 2 ^ i < 2 ^ (i + 1) := Nat.xor_lt_two_pow hv2 (Nat.pow_lt_pow_right (by decide) (by omega))
  have hVz : V ^^^ 2 ^ i ≠ 0 := by
    intro h0
    have : V = 2 ^ i := by
      have := congrArg (· ^^^ 2 ^ i) h0
      simpa [Nat.xor_assoc] using this
    have := hf.v
    omega
  unfold stB
  cases hc : t.testBit i && decide (a + i < 8 * n)
  · exact ⟨V, hf.len, hf.sm, hf.tl, hv2, hf.q, hf.same, hf.c⟩
  · simp only [Bool.and_eq_true, decide_eq_true_eq] at hc
    have hk := hc.2
    refine ⟨V ^^^ 2 ^ i, ?_, small_set hf.sm pow8, ?_, hV, by simp [hVz], fun h => by simp at h, fun x => ?_⟩
    · simp only [cond_true, turn, List.length_set]; exact hf.len
    · simp only [cond_true]; rw [drop_turn hk]; exact hf.tl
    · simp only [cond_true]
      have hl : (z.C.take n).length = n := by rw [List.length_take, hf.len]; omega
      rw [take_turn hk]
      unfold turn
      rw [flip32_fold _ (z.C.take n) _ x (by omega), hf.c, hl, turned32 hk, it32_xor, Nat.xor_assoc]
theorem goB_far {a t n : Nat} {l : List Nat} (hn : n ≤ l.length) : ∀ (j i : Nat) (z : TB) (V : Nat), i + j = 32 → Far a n i l z V → ∃ V', Far a n 32 l (goB a t n j i z) V'
  | 0, i, z, V, hi, hf => by
    have : i = 32 := by omega
    subst this
    exact ⟨V, hf⟩
  | j + 1, i, z, V, hi, hf => by
    obtain ⟨V', hf'⟩ := stB_far (t := t) hn (by omega) hf
    exact goB_far hn j (i + 1) _ V' (by omega) hf'
theorem start_far {a n : Nat} {l : List Nat} (h : small l) : Far a n 0 l ⟨false, l⟩ 0 :=
  ⟨rfl, h, rfl, by decide, rfl, fun _ => rfl, fun x => by
    have : it n32 (8 * n - a) 0 = 0 := by
      generalize 8 * n - a = k
      induction k with
      | zero => rfl
      | succ k ih => exact ih
    rw [this, Nat.xor_zero]⟩
/-- What comes out: the same if nothing is turned; else another sum of the first n bytes, the rest the same. -/
theorem bits_out {a t n : Nat} {l : List Nat} (hn : n ≤ l.length) (h : small l) :
    (goB a t n 32 0 ⟨false, l⟩).C.length = l.length ∧ small (goB a t n 32 0 ⟨false, l⟩).C ∧ (goB a t n 32 0 ⟨false, l⟩).C.drop n = l.drop n ∧
    ((goB a t n 32 0 ⟨false, l⟩).q = false → (goB a t n 32 0 ⟨false, l⟩).C = l) ∧
    ((goB a t n 32 0 ⟨false, l⟩).q = true → ((goB a t n 32 0 ⟨false, l⟩).C.take n).foldl p32n 4294967295 ≠ (l.take n).foldl p32n 4294967295) := by
  obtain ⟨V, hf⟩ := goB_far (t := t) hn 32 0 ⟨false, l⟩ 0 rfl (start_far (a := a) h)
  refine ⟨hf.len, hf.sm, hf.tl, hf.same, fun hq he => ?_⟩
  rw [hf.q] at hq
  have hV := of_decide_eq_true hq
  have hc := hf.c 4294967295
  rw [he] at hc
  have hz : it n32 (8 * n - a) V = 0 := by
    have := congrArg (fun y => (l.take n).foldl p32n 4294967295 ^^^ y) hc
    simp only [Nat.xor_self] at this
    rw [← Nat.xor_assoc, Nat.xor_self, Nat.zero_xor] at this
    exact this.symm
  exact hV (it32_zero _ V (by rw [← two32]; exact hf.v) hz)
/-- One bit turned. -/
theorem one_out {k n : Nat} {l : List Nat} (hn : n ≤ l.length) (h : small l) (hk : k < 8 * l.length) :
    (turn l k).length = l.length ∧ small (turn l k) ∧ turn l k ≠ l ∧ ((turn l k).take n = l.take n ∨ ((turn l k).drop n = l.drop n ∧ ((turn l k).take n).foldl p32n 4294967295 ≠ (l.take n).foldl p32n 4294967295)) := by
  have hne : turn l k ≠ l := by
    intro he
    have h2 : (turn l k).getD (k / 8) 0 = l.getD (k / 8) 0 := by rw [he]
    unfold turn at h2
    rw [List.getD_eq_getElem?_getD, List.getElem?_set_self (by omega), Option.getD_some] at h2
    have h3 := congrArg (fun y => l.getD (k / 8) 0 ^^^ y) h2
    simp only [Nat.xor_self] at h3
    rw [← Nat.xor_assoc, Nat.xor_self, Nat.zero_xor] at h3
    exact absurd h3 (Nat.ne_of_gt (Nat.pow_pos (by decide)))
  refine ⟨by simp [turn], small_set h pow8, hne, ?_⟩
  by_cases hq : k < 8 * n
  · refine .inr ⟨drop_turn hq, fun he => ?_⟩
    have hl : (l.take n).length = n := by rw [List.length_take]; omega
    rw [take_turn hq] at he
    unfold turn at he
    rw [flip32_fold _ (l.take n) _ _ (by omega), hl] at he
    have hz : it n32 (8 * (n - k / 8)) (2 ^ (k % 8)) = 0 := by
      have := congrArg (fun y => (l.take n).foldl p32n 4294967295 ^^^ y) he
      simp only [Nat.xor_self] at this
      rw [← Nat.xor_assoc, Nat.xor_self, Nat.zero_xor] at this
      exact this
    have := it32_zero _ _ (Nat.lt_of_lt_of_le (pow8 (r := k)) (by decide)) hz
    exact absurd this (Nat.ne_of_gt (Nat.pow_pos (by decide)))
  · refine .inl ?_
    unfold turn
    rw [List.take_set, List.set_eq_of_length_le (by rw [List.length_take]; omega)]
end Go.Proofs.Yteapngnpenmfaaa

namespace Go.Proofs.Yteapngnpenmfaaa
open Go Go.Proofs Go.Sx
set_option linter.unusedVariables false
/-! PeerBits: the loop that turns bits. -/
noncomputable def ΓS : Orc := { ΓP with sb := true, bs := true }
theorem OkS : ΓS.Ok Try.prog := ⟨OkP.call, OkP.rd, OkP.eqv⟩
def kk (a i : Int) : Int := wI (a + i)
def dv (k : Int) : Int := wI (Int.tdiv k 8)
def rm (k : Int) : Int := Int.tmod k 8
def okR (Q : List (List Dat)) (k : Int) : Bool := decide (0 ≤ dv k) && decide (dv k < (Q.length : Int))
def on (t i : Int) : Bool := IntKind.u32.wrap (((BitVec.ofInt 32 (Int.fdiv t (2 ^ min i.toNat 32)) &&& BitVec.ofInt 32 1).toNat : Nat) : Int) == 1
def get8 (Q : List (List Dat)) (j : Nat) : Int := ((Q.getD j []).headD (.n 0)).toI
def xQ (Q : List (List Dat)) (k : Int) : List (List Dat) := Q.set (dv k).toNat [.n (IntKind.u8.wrap (((BitVec.ofInt 8 (get8 Q (dv k).toNat) ^^^ BitVec.ofInt 8 (IntKind.u8.wrap (1 * 2 ^ min (rm k).toNat 8))).toNat : Nat) : Int))]
def rU (Q : List (List Dat)) : RowS := .live ⟨5, [.num .u8], Q, true, true⟩
def rS (T : List (List Dat)) : RowS := .live ⟨9, [.str], T, true, false⟩
def kB : List Bool := maskOf 167 [3, 4, 11, 12, 13, 14, 15, 16, 17, 50, 51, 52, 71]
def xB : List Bool := maskOf 167 [3, 4, 11, 12, 15, 16, 17, 50, 51, 52]
noncomputable def bA : Code := loopAt (Try.f11.body.getD .skip) 0
noncomputable def bB : Code := loopAt bA 0
noncomputable def bC : Code := loopAt bA 1
theorem loopsA : loopsOf (Try.f11.body.getD .skip) = [bA] := by kernel_rfl
theorem loopsA0 : loopsOf bA = [bB, bC] := by kernel_rfl
theorem loopsB : loopsOf bB = [] := by kernel_rfl
theorem loopsC : loopsOf bC = [] := by kernel_rfl
def HB (at_ t kind : Int) (s : ByteArray) (m a : Int) (B C : List (List Dat)) (q : Bool) (T : List (List Dat)) (u v i : Int) : St :=
  mk kB [.v (I at_), .v (U32 t), .v (I kind), .v (S s), .v (I m), .v (I a), .row 0, .row 1, .v (Bo q), .row 2, .v (I u), .v (I v), .v (I i)] ⟨[], [], [rU B, rU C, rS T]⟩
def XB (at_ t kind : Int) (s : ByteArray) (B C : List (List Dat)) (q : Bool) (T : List (List Dat)) (u v : Int) : St :=
  mk xB [.v (I at_), .v (U32 t), .v (I kind), .v (S s), .row 0, .row 1, .v (Bo q), .row 2, .v (I u), .v (I v)] ⟨[], [], [rU B, rU C, rS T]⟩
def KB (e : Ex) (st : St) : Option (Ex × St) := some (e, cutC 0 0 xB st)
theorem stepB (at_ t kind : Int) (s : ByteArray) (m a : Int) (C T : List (List Dat)) (u v : Int) (n : Nat) (B : List (List Dat)) (q : Bool) (i : Int) : evLoop ΓS Try.prog L0 (cutC 0 0 kB) bB (n + 1) (HB at_ t kind s m a B C q T u v i) KB =
    bif decide (i < 32) then
      bif decide (i < 0) then none
      else bif on t i then
        bif decide (kk a i < m) then
          bif okR B (kk a i) then bif decide (rm (kk a i) < 0) then none
          else bif okR B (kk a i) then evLoop ΓS Try.prog L0 (cutC 0 0 kB) bB n (HB at_ t kind s m a (xQ B (kk a i)) C true T u v (wI (i + 1))) KB
          else none else none
        else evLoop ΓS Try.prog L0 (cutC 0 0 kB) bB n (HB at_ t kind s m a B C q T u v (wI (i + 1))) KB
      else evLoop ΓS Try.prog L0 (cutC 0 0 kB) bB n (HB at_ t kind s m a B C q T u v (wI (i + 1))) KB
    else some (.exit 2, XB at_ t kind s B C q T u v) := by kernel_rfl
end Go.Proofs.Yteapngnpenmfaaa

namespace Go.Proofs.Yteapngnpenmfaaa
open Go Go.Proofs Go.Sx
set_option linter.unusedVariables false
/-! The loop that turns bits, over numbers. -/
def rw8 (C : List Nat) : List (List Dat) := C.map fun (n : Nat) => [.n ((n : Nat) : Int)]
def nats (B : List (List Dat)) : List Nat := B.map fun l => ((l.headD (.n 0)).toI).toNat
def isU8 (l : List Dat) : Bool :=
  match l with
  | [.n x] => inN 256 x
  | _ => false
theorem rw8_length (C : List Nat) : (rw8 C).length = C.length := by simp [rw8]
theorem rw8_get (C : List Nat) (j : Nat) : get8 (rw8 C) j = ((C.getD j 0 : Nat) : Int) := by
  unfold get8 rw8
  rw [List.getD_eq_getElem?_getD, List.getD_eq_getElem?_getD, List.getElem?_map]
  cases C[j]? <;> rfl
theorem rw8_set (C : List Nat) (j v : Nat) : (rw8 C).set j [.n (v : Int)] = rw8 (C.set j v) := by
  unfold rw8
  rw [List.map_set]
theorem rw8_of : ∀ {B : List (List Dat)}, B.all isU8 = true → B = rw8 (nats B) ∧ small (nats B)
  | [], _ => ⟨rfl, fun _ h => by simp [nats] at h⟩
  | b :: B, h => by
    simp only [List.all_cons, Bool.and_eq_true] at h
    obtain ⟨h1, h2⟩ := rw8_of h.2
    have hb : ∃ n : Nat, b = [.n (n : Int)] ∧ n < 256 := by
      have := h.1
      unfold isU8 at this
      split at this
      · obtain ⟨n, rfl, hn⟩ := inN_nat this
        exact ⟨n, rfl, hn⟩
      · cases this
    obtain ⟨n, rfl, hn⟩ := hb
    refine ⟨?_, fun c hc => ?_⟩
    · conv => lhs; rw [h1]
      rfl
    · unfold nats at hc
      rw [List.map_cons, List.mem_cons] at hc
      rcases hc with rfl | hc
      · simpa [Dat.toI] using hn
      · exact h2 c hc
theorem pow_nat (r : Nat) : (2 : Int) ^ r = ((2 ^ r : Nat) : Int) := by
  rw [Int.natCast_pow]; rfl
theorem dv_nat {k : Nat} (h : k < 100000) : dv (k : Int) = ((k / 8 : Nat) : Int) := by
  unfold dv
  rw [Int.tdiv_eq_ediv_of_nonneg (by omega), wI_id (by omega)]
  omega
theorem rm_nat (k : Nat) : rm (k : Int) = ((k % 8 : Nat) : Int) := by
  unfold rm
  rw [Int.tmod_eq_emod_of_nonneg (by omega)]
  omega
theorem okR_nat {k : Nat} {C : List Nat} (h : k < 100000) (hk : k < 8 * C.length) : okR (rw8 C) (k : Int) = true := by
  unfold okR
  rw [dv_nat h, rw8_length, decide_eq_true (by omega), decide_eq_true (by omega)]
  rfl
theorem xQ_nat {k : Nat} {C : List Nat} (h : k < 100000) (hs : small C) : xQ (rw8 C) (k : Int) = rw8 (turn C k) := by
  have h1 := getD_lt hs (k / 8)
  have h2 := pow8 (r := k)
  unfold xQ turn
  rw [dv_nat h, rm_nat, Int.toNat_natCast, Int.toNat_natCast, rw8_get, show min (k % 8) 8 = k % 8 by omega, pow_nat, Int.one_mul, wrap8 (2 ^ (k % 8)), Nat.mod_eq_of_lt h2, xorB 8 _ _ h1 h2, wrap8, Nat.mod_eq_of_lt (xor_lt 8 h1 h2), rw8_set]
  rfl
theorem on_nat {t i : Nat} (ht : t < 4294967296) (hi : i < 32) : on (t : Int) (i : Int) = t.testBit i := by
  have hq : t / 2 ^ i < 2 ^ 32 := by rw [two32]; exact Nat.lt_of_le_of_lt (Nat.div_le_self _ _) ht
  unfold on
  rw [Int.toNat_natCast, show min i 32 = i by omega, pow_nat, Int.fdiv_eq_ediv_of_nonneg _ (Int.natCast_nonneg _), show ((t : Nat) : Int) / ((2 ^ i : Nat) : Int) = ((t / 2 ^ i : Nat) : Int) from (Int.natCast_ediv t _).symm, show (1 : Int) = ((1 : Nat) : Int) from rfl, andB 32 _ _ hq (by decide), wrap32, Nat.testBit_eq_decide_div_mod_eq]
  have e2 : Nat.land (t / 2 ^ i) 1 = t / 2 ^ i % 2 := Nat.and_one_is_mod _
  rw [e2]
  rcases Nat.mod_two_eq_zero_or_one (t / 2 ^ i) with h0 | h0 <;> rw [h0] <;> rfl
theorem stB_small {a t n i : Nat} {z : TB} (h : small z.C) : small (stB a t n i z).C ∧ (stB a t n i z).C.length = z.C.length := by
  unfold stB
  cases t.testBit i && decide (a + i < 8 * n)
  · exact ⟨h, rfl⟩
  · exact ⟨small_set h pow8, by simp [turn]⟩
theorem goesB {α : Type} {a t n : Nat} (hn : n ≤ 1000) (ha : a < 8000) (ht : t < 4294967296) (E : Nat → List (List Dat) → Bool → Int → Option α) (F : List (List Dat) → Bool → Option α)
    (hE : ∀ k B q i, E (k + 1) B q i = bif decide (i < 32) then
      bif decide (i < 0) then none
      else bif on t i then
        bif decide (kk a i < 8 * (n : Int)) then
          bif okR B (kk a i) then bif decide (rm (kk a i) < 0) then none
          else bif okR B (kk a i) then E k (xQ B (kk a i)) true (wI (i + 1))
          else none else none
        else E k B q (wI (i + 1))
      else E k B q (wI (i + 1))
    else F B q) : ∀ (j i : Nat) (z : TB), i + j = 32 → small z.C → n ≤ z.C.length → E (j + 1) (rw8 z.C) z.q (i : Int) = F (rw8 (goB a t n j i z).C) (goB a t n j i z).q := by
  intro j
  induction j with
  | zero =>
    intro i z hi h hl
    have : i = 32 := by omega
    subst this
    rw [hE]
    rfl
  | succ j ih =>
    intro i z hi h hl
    have hi' : i < 32 := by omega
    have hs := stB_small (a := a) (t := t) (n := n) (i := i) h
    have hih := ih (i + 1) (stB a t n i z) (by omega) hs.1 (by omega)
    show _ = F (rw8 (goB a t n j (i + 1) (stB a t n i z)).C) (goB a t n j (i + 1) (stB a t n i z)).q
    have hkk : kk (a : Int) (i : Int) = ((a + i : Nat) : Int) := by unfold kk; rw [wI_id (by omega)]; omega
    rw [← hih, hE, decide_eq_true (show (i : Int) < 32 by omega), decide_eq_false (show ¬ (i : Int) < 0 by omega), wI_id (n := (i : Int) + 1) (by omega), on_nat ht hi', hkk, show (i : Int) + 1 = ((i + 1 : Nat) : Int) by omega]
    simp only [cond_true, cond_false]
    have hlt : decide (((a + i : Nat) : Int) < 8 * (n : Int)) = decide (a + i < 8 * n) := by
      by_cases h1 : a + i < 8 * n
      · rw [decide_eq_true h1, decide_eq_true (by omega)]
      · rw [decide_eq_false h1, decide_eq_false (by omega)]
    rw [hlt]
    unfold stB
    cases hb : t.testBit i
    · rfl
    · cases hk : decide (a + i < 8 * n)
      · rfl
      · have hk' := of_decide_eq_true hk
        rw [okR_nat (by omega) (by omega), rm_nat, decide_eq_false (show ¬ (((a + i) % 8 : Nat) : Int) < 0 by omega), xQ_nat (by omega) h]
        rfl
def gB (s : ByteArray) (m a t i : Int) (B : List (List Dat)) : Bool := i == 0 && (inN 8000 m && (m % 8 == 0 && (inN 8000 a && (in32 t && (B.all isU8 && Nat.ble (m / 8).toNat B.length)))))
def zB (m a t : Int) (B : List (List Dat)) (q : Bool) : TB := goB a.toNat t.toNat (m / 8).toNat 32 0 ⟨q, nats B⟩
def GB (vals : List SV) (mm : Mem) : Option (Bool × Ex × St) :=
  match vals, mm with
  | [.v (.int .i64 at_), .v (.int .u32 t), .v (.int .i64 kind), .v (.string s), .v (.int .i64 m), .v (.int .i64 a), .row 0, .row 1, .v (.bool q), .row 2, .v (.int .i64 u), .v (.int .i64 v), .v (.int .i64 i)],
    ⟨[], [], [.live ⟨5, [.num .u8], B, true, true⟩, .live ⟨5, [.num .u8], C, true, true⟩, .live ⟨9, [.str], T, true, false⟩]⟩ =>
    some (gB s m a t i B, .exit 2, XB at_ t kind s (rw8 (zB m a t B q).C) C (zB m a t B q).q T u v)
  | _, _ => none
theorem loopOkB {Λ : LoopOrc} (hΛ : ∀ st, Λ bB st = viaC 0 0 kB GB st) (z : Base) (z1 : z.L.length = 0) (z2 : z.U.length = 0) : LoopOk Λ Try.prog z bB := by
  refine loop_okC (Λ := L0) (kx := fun _ => xB) OkS mixed z1 z2 (fun b hb => by rw [loopsB] at hb; cases hb) (G := GB) hΛ ?_
  intro vals mm e st' h
  unfold GB at h
  split at h
  · rename_i at_ t kind s m a q u v i B C T
    obtain ⟨hg, rfl, rfl⟩ := some_t2 h
    unfold gB at hg
    simp only [Bool.and_eq_true, beq_iff_eq] at hg
    obtain ⟨rfl, hm, h8, ha, ht, hB, hl⟩ := hg
    obtain ⟨mn, rfl, hmn⟩ := inN_nat hm
    obtain ⟨an, rfl, han⟩ := inN_nat ha
    obtain ⟨tn, rfl, htn⟩ := in32_nat ht
    have hl := Nat.le_of_ble_eq_true hl
    obtain ⟨eB, sB⟩ := rw8_of hB
    have hn : ((mn : Int) / 8).toNat = mn / 8 := by omega
    have hm8 : (mn : Int) = 8 * (((mn / 8 : Nat) : Nat) : Int) := by omega
    rw [hn] at hl
    have := goesB (a := an) (t := tn) (n := mn / 8) (by omega) han htn (fun k B q i => evLoop ΓS Try.prog L0 (cutC 0 0 kB) bB k (HB at_ (tn : Int) kind s (mn : Int) (an : Int) B C q T u v i) KB) (fun B q => some (.exit 2, XB at_ (tn : Int) kind s B C q T u v))
      (fun k B q i => by rw [← hm8]; exact stepB at_ (tn : Int) kind s (mn : Int) (an : Int) C T u v k B q i) 32 0 ⟨q, nats B⟩ rfl sB (by rw [show (nats B).length = B.length by simp [nats]]; exact hl)
    rw [← eB] at this
    unfold zB
    rw [hn]
    exact ⟨33, this⟩
  · cases h
theorem tagB : tagOf bB = 12 := by kernel_rfl
theorem tagC : tagOf bC = 22 := by kernel_rfl
end Go.Proofs.Yteapngnpenmfaaa

namespace Go.Proofs.Yteapngnpenmfaaa
open Go Go.Proofs Go.Sx
set_option linter.unusedVariables false
/-! PeerBits: one of the three payloads. -/
noncomputable def ΛI : LoopOrc := fun b st => match tagOf b with
  | 12 => viaC 0 0 kB GB st
  | _ => none
theorem loopOkI (z : Base) (z1 : z.L.length = 0) (z2 : z.U.length = 0) : ∀ b ∈ loopsOf bA, LoopOk ΛI Try.prog z b := by
  intro b hb
  rw [loopsA0] at hb
  simp only [List.mem_cons, List.not_mem_nil, or_false] at hb
  rcases hb with rfl | rfl
  · exact loopOkB (fun st => by unfold ΛI; rw [tagB]; rfl) z z1 z2
  · intro st e st' h
    unfold ΛI at h
    rw [tagC] at h
    cases h
def m1 (s : ByteArray) : Int := wI (8 * wI ((s.size : Int) - 4))
def a1 (s : ByteArray) (a : Int) : Int := wI (Int.tmod (IntKind.u64.wrap a) (IntKind.u64.wrap (m1 s)))
def m2 (s : ByteArray) : Int := wI (8 * (s.size : Int))
def k2 (s : ByteArray) (a : Int) : Int := wI (Int.tmod (IntKind.u64.wrap a) (IntKind.u64.wrap (m2 s)))
def z1 (s : ByteArray) (a t : Int) : TB := zB (m1 s) (a1 s a) t (rowN (bytesL s)) false
def xb (s : ByteArray) (a t : Int) : ByteArray := strOfNums (numsOf (rw8 (z1 s a t).C))
def xo (s : ByteArray) (a : Int) : ByteArray := strOfNums (numsOf (xQ (rowN (bytesL s)) (k2 s a)))
def one {α : Type} (x s : ByteArray) (e : Int) (q : Bool) (R N : Option α) : Option α :=
  bif !(x.toList == s.toList) then (bif e == 0 then R else (bif x.toList == s.toList then (bif e != 0 then R else bif q then R else N) else N))
  else (bif x.toList == s.toList then (bif e != 0 then R else bif q then R else N) else N)
def rnd {α : Type} (E : ByteArray → Int) (s : ByteArray) (a t : Int) (R N : Option α) : Option α :=
  bif IntKind.u64.wrap (m1 s) == 0 then none else bif gB s (m1 s) (a1 s a) t 0 (rowN (bytesL s)) then
    (bif IntKind.u64.wrap (m2 s) == 0 then none else bif okR (rowN (bytesL s)) (k2 s a) then (bif decide (rm (k2 s a) < 0) then none else
      bif okR (rowN (bytesL s)) (k2 s a) then (bif Nat.ble (xb s a t).size 1000000 then one (xb s a t) s (E (xb s a t)) (z1 s a t).q R (bif Nat.ble (xo s a).size 1000000 then one (xo s a) s (E (xo s a)) (z1 s a t).q R N else none) else none) else none) else none) else none
def kA : List Bool := maskOf 167 [3, 4, 50, 51, 52]
def kAx : Ex → List Bool
  | .ret => maskOf 167 [10]
  | _ => maskOf 167 []
def HA (a t : Int) (s0 s1 s2 : ByteArray) (i : Int) : St := mk kA [.v (I a), .v (U32 t), .row 0, .v (I 3), .v (I i)] ⟨[], [], [rS [[.s s0], [.s s1], [.s s2]]]⟩
def KA (e : Ex) (st : St) : Option (Ex × St) := some (e, cutC 0 0 (kAx e) st)
def YA : St := mk (maskOf 167 [10]) [.v (Bo false)] M0
def XA : St := mk (maskOf 167 []) [] M0
set_option maxRecDepth 20000 in
theorem stepA0 (a t : Int) (s0 s1 s2 : ByteArray) (n : Nat) : evLoop ΓS Try.prog ΛI (cutC 0 0 kA) bA (n + 1) (HA a t s0 s1 s2 0) KA = rnd wdE s0 a t (some (.ret, YA)) (evLoop ΓS Try.prog ΛI (cutC 0 0 kA) bA n (HA a t s0 s1 s2 1) KA) := by kernel_rfl
set_option maxRecDepth 20000 in
theorem stepA1 (a t : Int) (s0 s1 s2 : ByteArray) (n : Nat) : evLoop ΓS Try.prog ΛI (cutC 0 0 kA) bA (n + 1) (HA a t s0 s1 s2 1) KA = rnd rpE s1 a t (some (.ret, YA)) (evLoop ΓS Try.prog ΛI (cutC 0 0 kA) bA n (HA a t s0 s1 s2 2) KA) := by kernel_rfl
set_option maxRecDepth 20000 in
theorem stepA2 (a t : Int) (s0 s1 s2 : ByteArray) (n : Nat) : evLoop ΓS Try.prog ΛI (cutC 0 0 kA) bA (n + 1) (HA a t s0 s1 s2 2) KA = rnd coE s2 a t (some (.ret, YA)) (evLoop ΓS Try.prog ΛI (cutC 0 0 kA) bA n (HA a t s0 s1 s2 3) KA) := by kernel_rfl
theorem stepA3 (a t : Int) (s0 s1 s2 : ByteArray) (n : Nat) : evLoop ΓS Try.prog ΛI (cutC 0 0 kA) bA (n + 1) (HA a t s0 s1 s2 3) KA = some (.exit 0, XA) := by kernel_rfl
end Go.Proofs.Yteapngnpenmfaaa

namespace Go.Proofs.Yteapngnpenmfaaa
open Go Go.Proofs Go.Sx
set_option linter.unusedVariables false
/-! Texts as numbers. -/
def lN (s : ByteArray) : List Nat := (L s).map UInt8.toNat
def ofN (C : List Nat) : ByteArray := ⟨(C.map UInt8.ofNat).toArray⟩
theorem lN_small (s : ByteArray) : small (lN s) := by
  intro b hb
  obtain ⟨c, _, rfl⟩ := List.mem_map.1 hb
  exact byte_lt c
theorem lN_length (s : ByteArray) : (lN s).length = s.size := by unfold lN; rw [List.length_map, L_len]
theorem L_ofN (C : List Nat) : L (ofN C) = C.map UInt8.ofNat := by simp [L, ofN]
theorem lN_ofN {C : List Nat} (h : small C) : lN (ofN C) = C := by
  unfold lN
  rw [L_ofN, List.map_map]
  refine (List.map_congr_left (g := id) fun c hc => ?_).trans (List.map_id C)
  show (UInt8.ofNat c).toNat = c
  rw [UInt8.toNat_ofNat', Nat.mod_eq_of_lt (h c hc)]
theorem lN_inj {x y : ByteArray} (h : lN x = lN y) : x = y := by
  rw [← L_inj]
  unfold lN at h
  exact (List.map_inj_right (fun a b h => UInt8.toNat_inj.1 h)).1 h
theorem rowN_lN (s : ByteArray) : rowN (bytesL s) = rw8 (lN s) := by
  unfold rowN bytesL rw8 lN L
  rw [List.map_map, List.map_map]
  rfl
theorem nats_rw8 (C : List Nat) : nats (rw8 C) = C := by
  unfold nats rw8
  rw [List.map_map]
  refine (List.map_congr_left (g := id) fun c _ => ?_).trans (List.map_id C)
  show ((c : Int)).toNat = c
  omega
theorem str_rw8 (C : List Nat) : strOfNums (numsOf (rw8 C)) = ofN C := by
  rw [← L_inj, L_nums, L_ofN]
  unfold numsOf rw8
  rw [List.map_map, List.map_map]
  refine List.map_congr_left fun c _ => ?_
  show UInt8.ofNat ((c : Int)).toNat = UInt8.ofNat c
  rw [Int.toNat_natCast]
theorem all_rw8 {C : List Nat} (h : small C) : (rw8 C).all isU8 = true := by
  unfold rw8
  rw [List.all_map, List.all_eq_true]
  intro c hc
  exact inN_of (h c hc)
theorem F32_lN (s : ByteArray) : F32 s = (lN s).foldl p32n 4294967295 := by
  unfold F32 lN
  rw [List.foldl_map]
  rfl
theorem lN_ext (s : ByteArray) (n : Nat) : lN (s.extract 0 n) = (lN s).take n := by
  unfold lN
  rw [L_ext, List.drop_zero, List.map_take, Nat.sub_zero]
theorem lN_ext2 (s : ByteArray) (n : Nat) : lN (s.extract n s.size) = (lN s).drop n := by
  unfold lN
  rw [L_ext, List.take_of_length_le (by rw [List.length_drop, L_len]; omega), List.map_drop]
theorem sum32_range (s : ByteArray) : 0 ≤ sum32 s ∧ sum32 s < 4294967296 := by
  have h := xor_lt (a := F32 s) (b := 4294967295) 32 (by rw [two32]; exact F32_lt s) (by decide)
  rw [two32] at h
  unfold sum32
  omega
theorem sum32_inj {x y : ByteArray} (h : sum32 x = sum32 y) : F32 x = F32 y := by
  unfold sum32 at h
  have h : Nat.xor (F32 x) 4294967295 = Nat.xor (F32 y) 4294967295 := by omega
  have h2 : F32 x ^^^ 4294967295 = F32 y ^^^ 4294967295 := h
  have h3 := congrArg (· ^^^ 4294967295) h2
  simpa [Nat.xor_assoc] using h3
theorem seal_tail {b : ByteArray} {n : Nat} (h : b.size = n) : (sealT b).extract n (sealT b).size = be 4 (sum32 b) := by
  unfold sealT
  rw [ext_app (by omega), ← L_inj, L_app, L_ext, h, Nat.sub_self, List.take_zero, List.nil_append]
/-- Bytes that are not those of which the sum held, but with the same bytes ahead of it, or with the same sum and another one reckoned: the sum doesn't hold. -/
theorem chk_turned {s x : ByteArray} {n : Nat} (hs : chkE s (n : Int) = 0) (hx : x.size = s.size) (hne : x ≠ s)
    (h : (lN x).take n = (lN s).take n ∨ ((lN x).drop n = (lN s).drop n ∧ ((lN x).take n).foldl p32n 4294967295 ≠ ((lN s).take n).foldl p32n 4294967295)) : chkE x (n : Int) ≠ 0 := by
  intro he
  have e1 := chk_sum hs
  have e2 := chk_sum he
  have l1 := chk0 hs
  have l2 := chk0 he
  rcases h with h | ⟨h, h'⟩
  · refine hne ?_
    rw [← e1, ← e2, lN_inj (x := x.extract 0 n) (y := s.extract 0 n) (by rw [lN_ext, lN_ext, h])]
  · refine h' ?_
    rw [← lN_ext, ← lN_ext, ← F32_lN, ← F32_lN]
    refine sum32_inj ?_
    have t1 := seal_tail (b := s.extract 0 n) (n := n) (by rw [ByteArray.size_extract]; omega)
    have t2 := seal_tail (b := x.extract 0 n) (n := n) (by rw [ByteArray.size_extract]; omega)
    rw [e1] at t1
    rw [e2] at t2
    have t3 : x.extract n x.size = s.extract n s.size := lN_inj (by rw [lN_ext2, lN_ext2, h])
    rw [t1, t2] at t3
    have n1 := num_be4 (sum32 (x.extract 0 n))
    have n2 := num_be4 (sum32 (s.extract 0 n))
    rw [t3, n2] at n1
    have r1 := sum32_range (x.extract 0 n)
    have r2 := sum32_range (s.extract 0 n)
    omega
theorem one_ok {α : Type} {x s : ByteArray} {e : Int} {q : Bool} {R N : Option α} (h : (x ≠ s ∧ e ≠ 0) ∨ (x = s ∧ e = 0 ∧ q = false)) : one x s e q R N = N := by
  unfold one
  rw [beq_TS]
  rcases h with ⟨h1, h2⟩ | ⟨h1, h2, h3⟩
  · rw [show (x == s) = false from by rw [← Bool.not_eq_true, beq_S]; exact h1, beq_eq_false_iff_ne.2 h2]
    rfl
  · rw [show (x == s) = true from (beq_S _ _).2 h1, h2, h3]
    rfl
theorem rem_at (a : Int) (m : Nat) (h0 : 0 < m) (h : m ≤ 8000) : ∃ j : Nat, j < m ∧ wI (Int.tmod (IntKind.u64.wrap a) (IntKind.u64.wrap (m : Int))) = (j : Int) := by
  have e : IntKind.u64.wrap (m : Int) = (m : Int) := by rw [be_u64]; omega
  have h1 : 0 ≤ IntKind.u64.wrap a := by rw [be_u64]; omega
  rw [e, Int.tmod_eq_emod_of_nonneg h1]
  have h2 := Int.emod_nonneg (IntKind.u64.wrap a) (show (m : Int) ≠ 0 by omega)
  have h3 := Int.emod_lt_of_pos (IntKind.u64.wrap a) (show (0 : Int) < (m : Int) by omega)
  rw [wI_id (by omega)]
  exact ⟨(IntKind.u64.wrap a % (m : Int)).toNat, by omega, by omega⟩
theorem rnd_ok {α : Type} {E : ByteArray → Int} {s : ByteArray} {n : Nat} {a t : Int} {R N : Option α} (hn : 1 ≤ n) (hn2 : n ≤ 900) (hs : chkE s (n : Int) = 0) (ht : in32 t = true) (h0 : E s = 0) (hE : ∀ x, E x = 0 → chkE x (n : Int) = 0) : rnd E s a t R N = N := by
  have hz := chk0 hs
  have hsz : s.size = n + 4 := by omega
  have hm1 : m1 s = ((8 * n : Nat) : Int) := by
    unfold m1
    rw [wI_id (n := (s.size : Int) - 4) (by omega), wI_id (by omega)]
    omega
  have hm2 : m2 s = ((8 * (n + 4) : Nat) : Int) := by
    unfold m2
    rw [wI_id (by omega)]
    omega
  obtain ⟨j, hj, ej⟩ := rem_at a (8 * n) (by omega) (by omega)
  obtain ⟨k, hk, ek⟩ := rem_at a (8 * (n + 4)) (by omega) (by omega)
  have ha1 : a1 s a = (j : Int) := by unfold a1; rw [hm1]; exact ej
  have hk2 : k2 s a = (k : Int) := by unfold k2; rw [hm2]; exact ek
  have hll := lN_length s
  obtain ⟨tn, rfl, htn⟩ := in32_nat ht
  have hg : gB s (m1 s) (a1 s a) (tn : Int) 0 (rowN (bytesL s)) = true := by
    unfold gB
    rw [hm1, ha1, rowN_lN, inN_of (show 8 * n < 8000 by omega), inN_of (show j < 8000 by omega), ht, all_rw8 (lN_small s), rw8_length, hll, show (((8 * n : Nat) : Int) % 8 == 0) = true from beq_iff_eq.2 (by omega), show (((8 * n : Nat) : Int) / 8).toNat = n by omega, Nat.ble_eq_true_of_le (show n ≤ s.size by omega)]
    rfl
  have hz1 : z1 s a (tn : Int) = goB j tn n 32 0 ⟨false, lN s⟩ := by
    unfold z1 zB
    rw [hm1, ha1, rowN_lN, nats_rw8, Int.toNat_natCast, Int.toNat_natCast, show (((8 * n : Nat) : Int) / 8).toNat = n by omega]
  obtain ⟨b1, b2, b3, b4, b5⟩ := bits_out (a := j) (t := tn) (n := n) (l := lN s) (by omega) (lN_small s)
  obtain ⟨c1, c2, c3, c4⟩ := one_out (k := k) (n := n) (l := lN s) (by omega) (lN_small s) (by omega)
  have hxb : xb s a (tn : Int) = ofN (goB j tn n 32 0 ⟨false, lN s⟩).C := by unfold xb; rw [str_rw8, hz1]
  have hxo : xo s a = ofN (turn (lN s) k) := by unfold xo; rw [rowN_lN, hk2, xQ_nat (by omega) (lN_small s), str_rw8]
  have hok : okR (rowN (bytesL s)) (k2 s a) = true := by rw [rowN_lN, hk2]; exact okR_nat (by omega) (by omega)
  have hrm : decide (rm (k2 s a) < 0) = false := by rw [hk2, rm_nat]; exact decide_eq_false (by omega)
  have sb : (ofN (goB j tn n 32 0 ⟨false, lN s⟩).C).size = s.size := by rw [← lN_length, lN_ofN b2, b1, hll]
  have so : (ofN (turn (lN s) k)).size = s.size := by rw [← lN_length, lN_ofN c2, c1, hll]
  have w1 : (IntKind.u64.wrap (m1 s) == 0) = false := by rw [hm1, be_u64]; exact beq_eq_false_iff_ne.2 (by omega)
  have w2 : (IntKind.u64.wrap (m2 s) == 0) = false := by rw [hm2, be_u64]; exact beq_eq_false_iff_ne.2 (by omega)
  unfold rnd
  rw [w1, w2, hg, hok, hrm, hxb, hxo, hz1, Nat.ble_eq_true_of_le (show (ofN (goB j tn n 32 0 ⟨false, lN s⟩).C).size ≤ 1000000 by omega), Nat.ble_eq_true_of_le (show (ofN (turn (lN s) k)).size ≤ 1000000 by omega)]
  have o2 : one (ofN (turn (lN s) k)) s (E (ofN (turn (lN s) k))) (goB j tn n 32 0 ⟨false, lN s⟩).q R N = N := by
    have hne : ofN (turn (lN s) k) ≠ s := fun h => c3 (by rw [← lN_ofN c2, h])
    refine one_ok (.inl ⟨hne, fun h => ?_⟩)
    exact chk_turned hs so hne (by rw [lN_ofN c2]; exact c4) (hE _ h)
  have o1 : one (ofN (goB j tn n 32 0 ⟨false, lN s⟩).C) s (E (ofN (goB j tn n 32 0 ⟨false, lN s⟩).C)) (goB j tn n 32 0 ⟨false, lN s⟩).q R N = N := by
    cases hq : (goB j tn n 32 0 ⟨false, lN s⟩).q with
    | false =>
      have : ofN (goB j tn n 32 0 ⟨false, lN s⟩).C = s := lN_inj (by rw [lN_ofN b2, b4 hq])
      rw [this]
      exact one_ok (.inr ⟨rfl, h0, rfl⟩)
    | true =>
      have hd := b5 hq
      have hne : ofN (goB j tn n 32 0 ⟨false, lN s⟩).C ≠ s := fun h => hd (by rw [← lN_ofN b2, h])
      refine one_ok (.inl ⟨hne, fun h => ?_⟩)
      exact chk_turned hs sb hne (by rw [lN_ofN b2]; exact .inr ⟨b3, hd⟩) (hE _ h)
  show one _ s _ _ R (one _ s _ _ R N) = N
  rw [o2, o1]
end Go.Proofs.Yteapngnpenmfaaa

namespace Go.Proofs.Yteapngnpenmfaaa
open Go Go.Proofs Go.Sx
set_option linter.unusedVariables false
/-! norm -/
def gA (a t : Int) (s0 s1 s2 : ByteArray) : Bool := in32 t && (wdE s0 == 0 && (rpE s1 == 0 && (coE s2 == 0)))
def GA (vals : List SV) (mm : Mem) : Option (Bool × Ex × St) :=
  match vals, mm with
  | [.v (.int .i64 a), .v (.int .u32 t), .row 0, .v (.int .i64 u), .v (.int .i64 v)], ⟨[], [], [.live ⟨9, [.str], [[.s s0], [.s s1], [.s s2]], true, false⟩]⟩ =>
    some (u == 3 && (v == 0 && gA a t s0 s1 s2), .exit 0, XA)
  | _, _ => none
noncomputable def ΛA : LoopOrc := fun _ st => viaC 0 0 kA GA st
theorem loopOkA (z : Base) (z1 : z.L.length = 0) (z2 : z.U.length = 0) : LoopOk ΛA Try.prog z bA := by
  refine loop_okC (Λ := ΛI) (kx := kAx) OkS mixed z1 z2 (loopOkI z z1 z2) (G := GA) (fun _ => rfl) ?_
  intro vals mm e st' h
  unfold GA at h
  split at h
  · rename_i a t u v s0 s1 s2
    obtain ⟨hg, rfl, rfl⟩ := some_t2 h
    unfold gA at hg
    simp only [Bool.and_eq_true, beq_iff_eq] at hg
    obtain ⟨rfl, rfl, ht, h0, h1, h2⟩ := hg
    refine ⟨4, ?_⟩
    refine (stepA0 a t s0 s1 s2 3).trans ?_
    rw [rnd_ok (n := 6) (by omega) (by omega) (wd_ok h0).2 ht h0 (fun x hx => (wd_ok hx).2)]
    refine (stepA1 a t s0 s1 s2 2).trans ?_
    rw [rnd_ok (n := 10) (by omega) (by omega) (rp_ok h1).2 ht h1 (fun x hx => (rp_ok hx).2)]
    refine (stepA2 a t s0 s1 s2 1).trans ?_
    rw [rnd_ok (n := 4) (by omega) (by omega) (co_ok h2).2 ht h2 (fun x hx => (co_ok hx).2)]
    exact stepA3 a t s0 s1 s2 0
  · cases h
def c3 (k : Int) : Int := wI (1 + wI (Int.tmod (IntKind.u64.wrap k) 3))
def treeBits (w r : Bool) (W R C : ByteArray) (a t : Int) : Option (SV × Mem) := bif !w then some (.v (Bo true), M0) else bif !r then some (.v (Bo true), M0) else bif gA a t W R C then some (.v (Bo true), M0) else none
theorem treePeerBits (c p w x c' p' w' x' y z u v f k a t : Int) : runG ΓS ΛA Try.prog Try.f11 [.v (.agg #[I c, I p, I w, I x]), .v (.agg #[I c', I p', I w', I x', I y, I z, I u, I v, I f]), .v (I k), .v (I a), .v (U32 t)] M0 =
    bif !wordR c p w x then some (.v (Bo true), M0) else bif !repR c' p' w' x' y z u v f then some (.v (Bo true), M0) else
      same (bif gA a t (wordT c p w x) (repT c' p' w' x' y z u v f) (comT (c3 k)) then some (.v (Bo true), M0) else none) (bif gA a t (wordT c p w x) (repT c' p' w' x' y z u v f) (comT (c3 k)) then some (.v (Bo true), M0) else none) := by kernel_rfl
theorem c3_in (k : Int) : comR (c3 k) = true := by
  have h1 : 0 ≤ IntKind.u64.wrap k := by rw [be_u64]; omega
  unfold c3 comR
  rw [Int.tmod_eq_emod_of_nonneg h1, wI_id (n := IntKind.u64.wrap k % 3) (by omega), wI_id (by omega), decide_eq_true (by omega), decide_eq_true (by omega)]
  rfl
theorem peerBits (c p w x c' p' w' x' y z u v f k a t : Int) (ht : in32 t = true) : runG ΓS ΛA Try.prog Try.f11 [.v (.agg #[I c, I p, I w, I x]), .v (.agg #[I c', I p', I w', I x', I y, I z, I u, I v, I f]), .v (I k), .v (I a), .v (U32 t)] M0 = some (.v (.bool true), M0) := by
  rw [treePeerBits, same_self]
  cases hw : wordR c p w x with
  | false => rfl
  | true =>
    cases hr : repR c' p' w' x' y z u v f with
    | false => rfl
    | true =>
      have e0 := word_rd hw
      have e1 := rep_rd hr
      have e2 := com_rd (c3_in k)
      have : gA a t (wordT c p w x) (repT c' p' w' x' y z u v f) (comT (c3 k)) = true := by
        unfold gA
        rw [ht, e0.1, e0.2.2.1, e1.1, e1.2.2.1, e2.1, e2.2.2.1]
        rfl
      rw [this]
      rfl
end Go.Proofs.Yteapngnpenmfaaa

namespace Go.Proofs.Yteapngnpenmfaaa
open Go Go.Proofs Go.Sx
set_option linter.unusedVariables false
/-! The laws of peer, as they are asked of lists of what is told. -/
abbrev ks4 : List CK := [.num .i64, .num .i64, .num .i64, .num .i64]
abbrev ks9 : List CK := [.num .i64, .num .i64, .num .i64, .num .i64, .num .i64, .num .i64, .num .i64, .num .i64, .num .i64]
theorem four_is {l : List Dat} (h : WfL ks4 l) : ∃ a b c d, l = [.n a, .n b, .n c, .n d] := by
  match l, h with
  | [.n a, .n b, .n c, .n d], h => exact ⟨a, b, c, d, rfl⟩
theorem nine_is {l : List Dat} (h : WfL ks9 l) : ∃ a b c d e f g x y, l = [.n a, .n b, .n c, .n d, .n e, .n f, .n g, .n x, .n y] := by
  match l, h with
  | [.n a, .n b, .n c, .n d, .n e, .n f, .n g, .n x, .n y], h => exact ⟨a, b, c, d, e, f, g, x, y, rfl⟩
theorem in32_wf {x : Int} (h : (Lit.int .u32 x).wf = true) : in32 x = true := by
  have h := (Lit.wf_int_iff .u32 x).1 h
  have e1 : IntKind.u32.min = 0 := by decide
  have e2 : IntKind.u32.max = 4294967295 := by decide
  rw [e1, e2] at h
  obtain ⟨n, rfl⟩ : ∃ n : Nat, x = (n : Int) := ⟨x.toNat, by omega⟩
  exact inN_of (by omega)
theorem peerWordsLaw (l0 : List Dat) (z1 : ByteArray) (w0 : WfL ks4 l0) (n1 : z1.size ≤ 281474976710656) : ∃ m', runG ΓP L0 Try.prog Try.f8 (inArgs [.v (.agg (mkEl ks4 l0).toArray), .v (.string z1)] 0) (inMem [.v (.agg (mkEl ks4 l0).toArray), .v (.string z1)]) = some (.v (.bool true), m') := by
  obtain ⟨a, b, c, d, rfl⟩ := four_is w0
  exact ⟨_, peerWords a b c d z1⟩
theorem peerReportsLaw (l0 : List Dat) (z1 : ByteArray) (w0 : WfL ks9 l0) (n1 : z1.size ≤ 281474976710656) : ∃ m', runG ΓP L0 Try.prog Try.f9 (inArgs [.v (.agg (mkEl ks9 l0).toArray), .v (.string z1)] 0) (inMem [.v (.agg (mkEl ks9 l0).toArray), .v (.string z1)]) = some (.v (.bool true), m') := by
  obtain ⟨a, b, c, d, e, f, g, x, y, rfl⟩ := nine_is w0
  exact ⟨_, peerReports a b c d e f g x y z1⟩
theorem peerCommandsLaw (a0 : Int) (z1 : ByteArray) (u0 : (Lit.int .i64 a0).wf = true) (n1 : z1.size ≤ 281474976710656) : ∃ m', runG ΓP L0 Try.prog Try.f10 (inArgs [.v (.int .i64 a0), .v (.string z1)] 0) (inMem [.v (.int .i64 a0), .v (.string z1)]) = some (.v (.bool true), m') := ⟨_, peerCommands a0 z1⟩
theorem peerApartLaw (z0 : ByteArray) (a1 : Int) (n0 : z0.size ≤ 281474976710656) (u1 : (Lit.int .i64 a1).wf = true) : ∃ m', runG ΓP L0 Try.prog Try.f12 (inArgs [.v (.string z0), .v (.int .i64 a1)] 0) (inMem [.v (.string z0), .v (.int .i64 a1)]) = some (.v (.bool true), m') := ⟨_, peerApart z0 a1⟩
theorem peerBitsLaw (l0 l1 : List Dat) (a2 a3 a4 : Int) (w0 : WfL ks4 l0) (w1 : WfL ks9 l1) (u2 : (Lit.int .i64 a2).wf = true) (u3 : (Lit.int .i64 a3).wf = true) (u4 : (Lit.int .u32 a4).wf = true) :
    ∃ m', runG ΓS ΛA Try.prog Try.f11 (inArgs [.v (.agg (mkEl ks4 l0).toArray), .v (.agg (mkEl ks9 l1).toArray), .v (.int .i64 a2), .v (.int .i64 a3), .v (.int .u32 a4)] 0) (inMem [.v (.agg (mkEl ks4 l0).toArray), .v (.agg (mkEl ks9 l1).toArray), .v (.int .i64 a2), .v (.int .i64 a3), .v (.int .u32 a4)]) = some (.v (.bool true), m') := by
  obtain ⟨a, b, c, d, rfl⟩ := four_is w0
  obtain ⟨a', b', c', d', e, f, g, x, y, rfl⟩ := nine_is w1
  exact ⟨_, peerBits a b c d a' b' c' d' e f g x y a2 a3 a4 (in32_wf u4)⟩
theorem loopsApart (z : Base) (_ : z.L.length = 0) (_ : z.U.length = 0) : ∀ b ∈ loopsOf (Try.f12.body.getD .skip), LoopOk L0 Try.prog z b := l0Ok _ z
theorem loopsBits (z : Base) (z1 : z.L.length = 0) (z2 : z.U.length = 0) : ∀ b ∈ loopsOf (Try.f11.body.getD .skip), LoopOk ΛA Try.prog z b := oneLoop loopsA (loopOkA z z1 z2)
end Go.Proofs.Yteapngnpenmfaaa

