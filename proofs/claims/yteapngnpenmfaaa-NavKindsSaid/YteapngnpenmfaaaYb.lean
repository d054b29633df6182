/-
  Contracts of order and nav, and of the document's nav; what a stream tells behind noise.
-/
import Derived.Test.YteapngnpenmfaaaYa
import Derived.Laws.Strings
namespace Go.Proofs.Yteapngnpenmfaaa
open Go Go.Proofs Go.Sx
set_option linter.unusedVariables false
/-! Numbers as bytes, the highest one first. -/
def U64 (x : Int) : Value := .int .u64 x
theorem l0Ok (c : Code) (z : Base) : ∀ b ∈ loopsOf c, LoopOk L0 Try.prog z b := fun b _ st e st' h => by cases h
def p8 (n : Nat) (b : UInt8) : Nat := n * 256 % 18446744073709551616 + b.toNat
theorem p8_lt (n : Nat) (b : UInt8) (_ : n < 18446744073709551616) : p8 n b < 18446744073709551616 := by
  have := byte_lt b
  unfold p8
  omega
def numN (s : ByteArray) : Nat := s.data.toList.foldl p8 0
theorem wrap64 (n : Nat) : IntKind.u64.wrap (n : Int) = ((n % 18446744073709551616 : Nat) : Int) := by
  rw [← wr_eq true]; simp only [wr]; omega
theorem two64 : (2 : Nat) ^ 64 = 18446744073709551616 := by decide
theorem orB (w a b : Nat) (ha : a < 2 ^ w) (hb : b < 2 ^ w) : (((BitVec.ofInt w (a : Int) ||| BitVec.ofInt w (b : Int)).toNat : Nat) : Int) = ((Nat.lor a b : Nat) : Int) := by
  rw [BitVec.toNat_or, BitVec.ofInt_natCast, BitVec.ofInt_natCast, BitVec.toNat_ofNat, BitVec.toNat_ofNat, Nat.mod_eq_of_lt ha, Nat.mod_eq_of_lt hb]
  rfl
/-- A number shifted by a byte, and a byte. -/
def a64 (s : ByteArray) (x i : Int) : Int := IntKind.u64.wrap (((BitVec.ofInt 64 (IntKind.u64.wrap (x * 2 ^ min (Int.toNat 8) 64)) ||| BitVec.ofInt 64 (IntKind.u64.wrap (strAt s i))).toNat : Nat) : Int)
theorem a64_nat {s : ByteArray} {n k : Nat} {b : UInt8} (hb : s.data[k]? = some b) : a64 s n k = ((p8 n b : Nat) : Int) := by
  have h := byte_lt b
  unfold a64 p8
  have e : (n : Int) * 2 ^ min (Int.toNat 8) 64 = ((n * 256 : Nat) : Int) := by
    rw [show min (Int.toNat 8) 64 = 8 from rfl]; omega
  rw [e, wrap64 (n * 256), strAt_some hb, wrap64 b.toNat, Nat.mod_eq_of_lt (show b.toNat < 18446744073709551616 by omega), orB 64 _ _ (by rw [two64]; exact Nat.mod_lt _ (by decide)) (by rw [two64]; omega)]
  have e2 : Nat.lor (n * 256 % 18446744073709551616) b.toNat = n * 256 % 18446744073709551616 + b.toNat := by
    have e3 : n * 256 % 18446744073709551616 = 2 ^ 8 * (n % 72057594037927936) := by
      rw [show (2 : Nat) ^ 8 = 256 from rfl]; omega
    rw [e3]
    exact (Nat.two_pow_add_eq_or_of_lt (show b.toNat < 2 ^ 8 by rw [show (2 : Nat) ^ 8 = 256 from rfl]; exact h) _).symm
  rw [e2, wrap64, Nat.mod_eq_of_lt (by omega)]
/-- The lowest bytes of a number. -/
def be (k : Nat) (x : Int) : ByteArray := strOfNums ((List.range k).reverse.map fun i => x / 256 ^ i % 256)
def kNumber : List Bool := maskOf 19 [0, 3, 6, 7]
def xNumber : List Bool := maskOf 19 [3]
noncomputable def bodyNumber : Code := loopAt (Try.f46.body.getD .skip) 0
theorem loopsNumber : loopsOf (Try.f46.body.getD .skip) = [bodyNumber] := by kernel_rfl
theorem loopsNumber0 : loopsOf bodyNumber = [] := by kernel_rfl
def ENumber (e : Ex) (st : St) : Option (Ex × St) := some (e, cutC 0 0 xNumber st)
def HNumber (s : ByteArray) (x i : Int) : St := mk kNumber [.v (S s), .v (U64 x), .v (I (s.size : Int)), .v (I i)] M0
theorem stepNumber (s : ByteArray) (k : Nat) (x i : Int) : evLoop ΓM2 Try.prog L0 (cutC 0 0 kNumber) bodyNumber (k + 1) (HNumber s x i) ENumber =
    bif decide (i < (s.size : Int)) then (bif decide (0 ≤ i) && decide (i < (s.size : Int)) then evLoop ΓM2 Try.prog L0 (cutC 0 0 kNumber) bodyNumber k (HNumber s (a64 s x i) (wI (i + 1))) ENumber else none)
    else some (.exit 0, mk xNumber [.v (U64 x)] M0) := by kernel_rfl
def GNumber (vals : List SV) (m : Mem) : Option (Bool × Ex × St) :=
  match vals, m with
  | [.v (.string s), .v (.int .u64 x), .v (.int .i64 n), .v (.int .i64 i)], ⟨[], [], []⟩ => some (n == (s.size : Int) && (i == 0 && (x == 0 && szS s)), .exit 0, mk xNumber [.v (U64 ((numN s : Nat) : Int))] M0)
  | _, _ => none
noncomputable def ΛNumber : LoopOrc := fun _ st => viaC 0 0 kNumber GNumber st
theorem loopOkNumber (z : Base) (z1 : z.L.length = 0) (z2 : z.U.length = 0) : LoopOk ΛNumber Try.prog z bodyNumber := by
  refine loop_okC (Λ := L0) (kx := fun _ => xNumber) OkM2 mixed z1 z2 (fun b hb => by rw [loopsNumber0] at hb; cases hb) (G := GNumber) (fun _ => rfl) ?_
  intro vals m e st' h
  unfold GNumber at h
  split at h
  · rename_i s x n i
    obtain ⟨h1, rfl, rfl⟩ := some_t2 h
    simp only [Bool.and_eq_true, beq_iff_eq] at h1
    obtain ⟨rfl, rfl, rfl, h4⟩ := h1
    exact ⟨s.size + 1, overS s (Nat.le_of_ble_eq_true h4) (fun k x i => evLoop ΓM2 Try.prog L0 (cutC 0 0 kNumber) bodyNumber k (HNumber s x i) ENumber) (fun x => some (.exit 0, mk xNumber [.v (U64 x)] M0)) (fun _ _ => true) (a64 s) p8 18446744073709551616 p8_lt (fun n k b _ hb => ⟨rfl, a64_nat hb⟩) (stepNumber s) s.size 0 0 (by omega) (by omega)⟩
  · cases h
theorem runNumber (s : ByteArray) : runG ΓM2 ΛNumber Try.prog Try.f46 [.v (S s)] M0 = bif (s.size : Int) == (s.size : Int) && ((0 : Int) == 0 && ((0 : Int) == 0 && szS s)) then some (.v (U64 ((numN s : Nat) : Int)), M0) else none := by kernel_rfl
def gNumber (vs : List Value) : Option (Bool × Value) :=
  match vs with
  | [.string s] => some (szS s, U64 ((numN s : Nat) : Int))
  | _ => none
theorem gNumber_ok : ∀ vs r, gNumber vs = some (true, r) → ∀ m, CallOk Try.prog 46 (vs.map .v) m (.v r) m := by
  intro vs r h
  unfold gNumber at h
  split at h
  · rename_i s
    obtain ⟨h1, rfl⟩ := some_t h
    refine runV (vs := [S s]) (Λ := ΛNumber) (m' := M0) OkM2 Try.func46 rfl (fun z z1 z2 => oneLoop (c := Try.f46.body.getD .skip) loopsNumber (loopOkNumber z z1 z2)) ?_
    exact (runNumber s).trans (by rw [h1, beq_self_eq_true]; rfl)
  · cases h
noncomputable def ΓO1 : Orc := addVal 46 gNumber ΓM2
theorem OkO1 : ΓO1.Ok Try.prog := addVal_ok OkM2 gNumber_ok
theorem runBytes1 (x : Int) : runG ΓO1 L0 Try.prog Try.f44 [.v (U64 x), .v (I 1)] M0 = some (.v (S (strOfNums [IntKind.u8.wrap (x.fdiv (2 ^ min (Int.toNat 0) 64))])), M0) := by kernel_rfl
theorem runBytes2 (x : Int) : runG ΓO1 L0 Try.prog Try.f44 [.v (U64 x), .v (I 2)] M0 = some (.v (S (strOfNums [IntKind.u8.wrap (x.fdiv (2 ^ min (Int.toNat 8) 64)), IntKind.u8.wrap (x.fdiv (2 ^ min (Int.toNat 0) 64))])), M0) := by kernel_rfl
theorem runBytes4 (x : Int) : runG ΓO1 L0 Try.prog Try.f44 [.v (U64 x), .v (I 4)] M0 = some (.v (S (strOfNums [IntKind.u8.wrap (x.fdiv (2 ^ min (Int.toNat 24) 64)), IntKind.u8.wrap (x.fdiv (2 ^ min (Int.toNat 16) 64)), IntKind.u8.wrap (x.fdiv (2 ^ min (Int.toNat 8) 64)), IntKind.u8.wrap (x.fdiv (2 ^ min (Int.toNat 0) 64))])), M0) := by kernel_rfl
theorem byteAt (x : Int) (j k : Nat) (h : (2 : Int) ^ min (Int.toNat (8 * k : Nat)) 64 = 256 ^ k) (hj : j = 8 * k) : IntKind.u8.wrap (x.fdiv (2 ^ min (Int.toNat (j : Nat)) 64)) = x / 256 ^ k % 256 := by
  subst hj
  rw [h, Int.fdiv_eq_ediv_of_nonneg _ (Int.le_of_lt (Int.pow_pos (by decide))), ← wr_eq true]
  rfl
theorem be1 (x : Int) : strOfNums [IntKind.u8.wrap (x.fdiv (2 ^ min (Int.toNat 0) 64))] = be 1 x := by
  have e0 := byteAt x 0 0 (by decide) rfl
  rw [show ((0 : Nat) : Int) = 0 from rfl] at e0
  rw [e0]; rfl
theorem be2 (x : Int) : strOfNums [IntKind.u8.wrap (x.fdiv (2 ^ min (Int.toNat 8) 64)), IntKind.u8.wrap (x.fdiv (2 ^ min (Int.toNat 0) 64))] = be 2 x := by
  have e0 := byteAt x 0 0 (by decide) rfl
  have e1 := byteAt x 8 1 (by decide) rfl
  rw [show ((0 : Nat) : Int) = 0 from rfl] at e0
  rw [show ((8 : Nat) : Int) = 8 from rfl] at e1
  rw [e0, e1]; rfl
theorem be4 (x : Int) : strOfNums [IntKind.u8.wrap (x.fdiv (2 ^ min (Int.toNat 24) 64)), IntKind.u8.wrap (x.fdiv (2 ^ min (Int.toNat 16) 64)), IntKind.u8.wrap (x.fdiv (2 ^ min (Int.toNat 8) 64)), IntKind.u8.wrap (x.fdiv (2 ^ min (Int.toNat 0) 64))] = be 4 x := by
  have e0 := byteAt x 0 0 (by decide) rfl
  have e1 := byteAt x 8 1 (by decide) rfl
  have e2 := byteAt x 16 2 (by decide) rfl
  have e3 := byteAt x 24 3 (by decide) rfl
  rw [show ((0 : Nat) : Int) = 0 from rfl] at e0
  rw [show ((8 : Nat) : Int) = 8 from rfl] at e1
  rw [show ((16 : Nat) : Int) = 16 from rfl] at e2
  rw [show ((24 : Nat) : Int) = 24 from rfl] at e3
  rw [e0, e1, e2, e3]; rfl
def gBytes (vs : List Value) : Option (Bool × Value) :=
  match vs with
  | [.int .u64 x, .int .i64 (.ofNat k)] => some (Nat.beq k 1 || (Nat.beq k 2 || Nat.beq k 4), S (be k x))
  | _ => none
theorem gBytes_ok : ∀ vs r, gBytes vs = some (true, r) → ∀ m, CallOk Try.prog 44 (vs.map .v) m (.v r) m := by
  intro vs r h
  unfold gBytes at h
  split at h
  · rename_i x k
    obtain ⟨h1, rfl⟩ := some_t h
    have hk : k = 1 ∨ k = 2 ∨ k = 4 := by
      simp only [Bool.or_eq_true] at h1
      rcases h1 with h1 | h1 | h1
      · exact .inl (Nat.eq_of_beq_eq_true h1)
      · exact .inr (.inl (Nat.eq_of_beq_eq_true h1))
      · exact .inr (.inr (Nat.eq_of_beq_eq_true h1))
    rcases hk with rfl | rfl | rfl
    · exact runV (vs := [U64 x, I 1]) (Λ := L0) (m' := M0) OkO1 Try.func44 rfl (fun z _ _ => l0Ok _ z) ((runBytes1 x).trans (by rw [be1]))
    · exact runV (vs := [U64 x, I 2]) (Λ := L0) (m' := M0) OkO1 Try.func44 rfl (fun z _ _ => l0Ok _ z) ((runBytes2 x).trans (by rw [be2]))
    · exact runV (vs := [U64 x, I 4]) (Λ := L0) (m' := M0) OkO1 Try.func44 rfl (fun z _ _ => l0Ok _ z) ((runBytes4 x).trans (by rw [be4]))
  · cases h
noncomputable def ΓO : Orc := addVal 44 gBytes ΓO1
theorem OkO : ΓO.Ok Try.prog := addVal_ok OkO1 gBytes_ok
end Go.Proofs.Yteapngnpenmfaaa

namespace Go.Proofs.Yteapngnpenmfaaa
open Go Go.Proofs Go.Sx
theorem wrap_i32 (n : Int) : IntKind.i32.wrap n = if n % 4294967296 ≥ 2147483648 then n % 4294967296 - 4294967296 else n % 4294967296 := by
  have e32 : (2 : Int) ^ 32 = 4294967296 := by decide
  have e31 : (2 : Int) ^ 31 = 2147483648 := by decide
  simp only [IntKind.wrap, IntKind.signed, IntKind.bits, Bool.true_and, Nat.reduceSub, e32, e31]
  split <;> simp_all <;> omega
theorem nums_app (a b : List Int) : strOfNums (a ++ b) = strOfNums a ++ strOfNums b := by
  rw [← L_inj, L_app, L_nums, L_nums, L_nums, List.map_append]
theorem be_size (k : Nat) (x : Int) : (be k x).size = k := by
  unfold be
  rw [strOfNums_size]
  simp
theorem be_u64_1 (x : Int) : be 1 (IntKind.u64.wrap x) = be 1 x := by
  have e : ∀ j : Int, IntKind.u64.wrap j = j % 18446744073709551616 := fun j => by rw [← wr_eq true]; rfl
  show strOfNums [_] = strOfNums [_]
  rw [e]
  congr 2
  show x % 18446744073709551616 / 256 ^ 0 % 256 = x / 256 ^ 0 % 256
  omega
theorem be_u64_2 (x : Int) : be 2 (IntKind.u64.wrap x) = be 2 x := by
  have e : ∀ j : Int, IntKind.u64.wrap j = j % 18446744073709551616 := fun j => by rw [← wr_eq true]; rfl
  have h0 : x % 18446744073709551616 / 256 ^ 0 % 256 = x / 256 ^ 0 % 256 := by omega
  have h1 : x % 18446744073709551616 / 256 ^ 1 % 256 = x / 256 ^ 1 % 256 := by omega
  show strOfNums [_ / 256 ^ 1 % 256, _ / 256 ^ 0 % 256] = strOfNums [_ / 256 ^ 1 % 256, _ / 256 ^ 0 % 256]
  rw [e, h0, h1]
theorem be_u64_4 (x : Int) : be 4 (IntKind.u64.wrap x) = be 4 x := by
  have e : ∀ j : Int, IntKind.u64.wrap j = j % 18446744073709551616 := fun j => by rw [← wr_eq true]; rfl
  have h0 : x % 18446744073709551616 / 256 ^ 0 % 256 = x / 256 ^ 0 % 256 := by omega
  have h1 : x % 18446744073709551616 / 256 ^ 1 % 256 = x / 256 ^ 1 % 256 := by omega
  have h2 : x % 18446744073709551616 / 256 ^ 2 % 256 = x / 256 ^ 2 % 256 := by omega
  have h3 : x % 18446744073709551616 / 256 ^ 3 % 256 = x / 256 ^ 3 % 256 := by omega
  show strOfNums [_ / 256 ^ 3 % 256, _ / 256 ^ 2 % 256, _ / 256 ^ 1 % 256, _ / 256 ^ 0 % 256] = strOfNums [_ / 256 ^ 3 % 256, _ / 256 ^ 2 % 256, _ / 256 ^ 1 % 256, _ / 256 ^ 0 % 256]
  rw [e, h0, h1, h2, h3]
/-- Four bytes of a text, and the number that they are. -/
theorem four_of {s : ByteArray} {i : Nat} (h : i + 4 ≤ s.size) : ∃ b0 b1 b2 b3 : UInt8, L (s.extract i (i + 4)) = [b0, b1, b2, b3] ∧ strAt s (i : Int) = (b0.toNat : Int) ∧ strAt s ((i + 1 : Nat) : Int) = (b1.toNat : Int) ∧ strAt s ((i + 2 : Nat) : Int) = (b2.toNat : Int) ∧ strAt s ((i + 3 : Nat) : Int) = (b3.toNat : Int) := by
  have hl := L_len s
  have hd : ∃ b0 b1 b2 b3 r, (L s).drop i = b0 :: b1 :: b2 :: b3 :: r := by
    have : 4 ≤ ((L s).drop i).length := by rw [List.length_drop]; omega
    match hq : (L s).drop i, this with
    | b0 :: b1 :: b2 :: b3 :: r, _ => exact ⟨b0, b1, b2, b3, r, rfl⟩
  obtain ⟨b0, b1, b2, b3, r, hd⟩ := hd
  have g : ∀ j, (L s)[i + j]? = ((L s).drop i)[j]? := fun j => by rw [List.getElem?_drop]
  refine ⟨b0, b1, b2, b3, ?_, ?_, ?_, ?_, ?_⟩
  · rw [L_ext, hd, show i + 4 - i = 4 by omega]; rfl
  · have := g 0
    rw [hd] at this
    rw [strAt_L, show i = i + 0 from rfl, this]; rfl
  · have := g 1
    rw [hd] at this
    rw [strAt_L, this]; rfl
  · have := g 2
    rw [hd] at this
    rw [strAt_L, this]; rfl
  · have := g 3
    rw [hd] at this
    rw [strAt_L, this]; rfl
theorem numN_four {s : ByteArray} {b0 b1 b2 b3 : UInt8} (h : L s = [b0, b1, b2, b3]) : ((numN s : Nat) : Int) = (b0.toNat : Int) * 16777216 + (b1.toNat : Int) * 65536 + (b2.toNat : Int) * 256 + (b3.toNat : Int) := by
  have h0 := byte_lt b0
  have h1 := byte_lt b1
  have h2 := byte_lt b2
  have h3 := byte_lt b3
  unfold numN
  rw [show s.data.toList = [b0, b1, b2, b3] from h]
  simp only [List.foldl_cons, List.foldl_nil, p8]
  omega
theorem num4 {s : ByteArray} {i : Nat} (h : i + 4 ≤ s.size) : ((numN (s.extract i (i + 4)) : Nat) : Int) = strAt s (i : Int) * 16777216 + strAt s ((i + 1 : Nat) : Int) * 65536 + strAt s ((i + 2 : Nat) : Int) * 256 + strAt s ((i + 3 : Nat) : Int) := by
  obtain ⟨b0, b1, b2, b3, hb, e0, e1, e2, e3⟩ := four_of h
  rw [numN_four hb, e0, e1, e2, e3]
theorem two_of {s : ByteArray} {i : Nat} (h : i + 2 ≤ s.size) : ∃ b0 b1 : UInt8, L (s.extract i (i + 2)) = [b0, b1] ∧ strAt s (i : Int) = (b0.toNat : Int) ∧ strAt s ((i + 1 : Nat) : Int) = (b1.toNat : Int) := by
  have hl := L_len s
  have hd : ∃ b0 b1 r, (L s).drop i = b0 :: b1 :: r := by
    have : 2 ≤ ((L s).drop i).length := by rw [List.length_drop]; omega
    match hq : (L s).drop i, this with
    | b0 :: b1 :: r, _ => exact ⟨b0, b1, r, rfl⟩
  obtain ⟨b0, b1, r, hd⟩ := hd
  have g : ∀ j, (L s)[i + j]? = ((L s).drop i)[j]? := fun j => by rw [List.getElem?_drop]
  refine ⟨b0, b1, ?_, ?_, ?_⟩
  · rw [L_ext, hd, show i + 2 - i = 2 by omega]; rfl
  · have := g 0
    rw [hd] at this
    rw [strAt_L, show i = i + 0 from rfl, this]; rfl
  · have := g 1
    rw [hd] at this
    rw [strAt_L, this]; rfl
theorem numN_two {s : ByteArray} {b0 b1 : UInt8} (h : L s = [b0, b1]) : ((numN s : Nat) : Int) = (b0.toNat : Int) * 256 + (b1.toNat : Int) := by
  have h0 := byte_lt b0
  have h1 := byte_lt b1
  unfold numN
  rw [show s.data.toList = [b0, b1] from h]
  simp only [List.foldl_cons, List.foldl_nil, p8]
  omega
theorem num2 {s : ByteArray} {i : Nat} (h : i + 2 ≤ s.size) : ((numN (s.extract i (i + 2)) : Nat) : Int) = strAt s (i : Int) * 256 + strAt s ((i + 1 : Nat) : Int) := by
  obtain ⟨b0, b1, hb, e0, e1⟩ := two_of h
  rw [numN_two hb, e0, e1]
theorem byte_of (b : UInt8) (x : Int) (h : x = (b.toNat : Int)) : UInt8.ofNat x.toNat = b := by
  subst h
  rw [Int.toNat_natCast]
  exact UInt8.ofNat_toNat
theorem L_be4 (x : Int) : L (be 4 x) = [UInt8.ofNat (x / 256 ^ 3 % 256).toNat, UInt8.ofNat (x / 256 ^ 2 % 256).toNat, UInt8.ofNat (x / 256 ^ 1 % 256).toNat, UInt8.ofNat (x / 256 ^ 0 % 256).toNat] := rfl
theorem L_be2 (x : Int) : L (be 2 x) = [UInt8.ofNat (x / 256 ^ 1 % 256).toNat, UInt8.ofNat (x / 256 ^ 0 % 256).toNat] := rfl
theorem L_be1 (x : Int) : L (be 1 x) = [UInt8.ofNat (x / 256 ^ 0 % 256).toNat] := rfl
theorem toNat_ofI {x : Int} (h0 : 0 ≤ x) (h : x < 256) : (((UInt8.ofNat x.toNat).toNat : Nat) : Int) = x := by
  rw [UInt8.toNat_ofNat', Nat.mod_eq_of_lt (by omega)]
  omega
theorem num_be4 (x : Int) : ((numN (be 4 x) : Nat) : Int) = x % 4294967296 := by
  rw [numN_four (L_be4 x), toNat_ofI (by omega) (by omega), toNat_ofI (by omega) (by omega), toNat_ofI (by omega) (by omega), toNat_ofI (by omega) (by omega)]
  omega
theorem num_be2 (x : Int) : ((numN (be 2 x) : Nat) : Int) = x % 65536 := by
  rw [numN_two (L_be2 x), toNat_ofI (by omega) (by omega), toNat_ofI (by omega) (by omega)]
  omega
/-- Bytes are those of the number that they are, and of each one that is alike modulo 2^32. -/
theorem be_num4 {s : ByteArray} (h : s.size = 4) (x : Int) (hx : x % 4294967296 = ((numN s : Nat) : Int)) : be 4 x = s := by
  have he := four_of (s := s) (i := 0) (by omega)
  obtain ⟨b0, b1, b2, b3, hb, _⟩ := he
  rw [show (0 + 4 : Nat) = s.size by omega, ext_all] at hb
  have hn := numN_four hb
  have h0 := byte_lt b0
  have h1 := byte_lt b1
  have h2 := byte_lt b2
  have h3 := byte_lt b3
  rw [← L_inj, hb, L_be4, byte_of b0 _ (by omega), byte_of b1 _ (by omega), byte_of b2 _ (by omega), byte_of b3 _ (by omega)]
theorem be_num2 {s : ByteArray} (h : s.size = 2) (x : Int) (hx : x % 65536 = ((numN s : Nat) : Int)) : be 2 x = s := by
  have he := two_of (s := s) (i := 0) (by omega)
  obtain ⟨b0, b1, hb, _⟩ := he
  rw [show (0 + 2 : Nat) = s.size by omega, ext_all] at hb
  have hn := numN_two hb
  have h0 := byte_lt b0
  have h1 := byte_lt b1
  rw [← L_inj, hb, L_be2, byte_of b0 _ (by omega), byte_of b1 _ (by omega)]
end Go.Proofs.Yteapngnpenmfaaa

namespace Go.Proofs.Yteapngnpenmfaaa
open Go Go.Proofs Go.Sx
set_option linter.unusedVariables false
/-! Navs. -/
def NavM (a b c d e f g q : Int) : Mem := ⟨[[.v (I a), .v (I b), .v (I c), .v (I d), .v (I e), .v (I f), .v (I g), .v (I q)]], [true], []⟩
theorem bif_f (b X : Bool) : (bif b then some (SV.v (Bo false), M0) else some (SV.v (Bo X), M0)) = some (SV.v (Bo (!b && X)), M0) := by cases b <;> rfl
theorem bif_t (b X : Bool) : (bif b then some (SV.v (Bo X), M0) else some (SV.v (Bo false), M0)) = some (SV.v (Bo (b && X)), M0) := by cases b <;> rfl
def navR (a b c d e f g q : Int) : Bool := decide (0 ≤ a ∧ a ≤ 65535 ∧ 0 ≤ b ∧ b ≤ 255 ∧ -2147483648 ≤ c ∧ c ≤ 2147483647 ∧ -2147483648 ≤ d ∧ d ≤ 2147483647 ∧ -2147483648 ≤ e ∧ e ≤ 2147483647 ∧ -2147483648 ≤ f ∧ f ≤ 2147483647 ∧ -2147483648 ≤ g ∧ g ≤ 2147483647 ∧ -2147483648 ≤ q ∧ q ≤ 2147483647)
set_option maxRecDepth 20000 in
theorem runNumbers0 (a b c d e f g q : Int) : runG ΓO L0 Try.prog Try.f45 [.ptr 0 0] (NavM a b c d e f g q) = some (.ag [.ptr 0 2, .ptr 0 3, .ptr 0 4, .ptr 0 5, .ptr 0 6, .ptr 0 7], NavM a b c d e f g q) := by kernel_rfl
def gNumbers (xs : List SV) (m : Mem) : Option (Bool × SV × Mem) :=
  match xs, m with
  | [.ptr 0 0], ⟨[[.v (.int .i64 a), .v (.int .i64 b), .v (.int .i64 c), .v (.int .i64 d), .v (.int .i64 e), .v (.int .i64 f), .v (.int .i64 g), .v (.int .i64 q)]], [true], []⟩ => some (true, .ag [.ptr 0 2, .ptr 0 3, .ptr 0 4, .ptr 0 5, .ptr 0 6, .ptr 0 7], NavM a b c d e f g q)
  | _, _ => none
theorem gNumbers_ok : ∀ xs m r m', gNumbers xs m = some (true, r, m') → CallOk Try.prog 45 xs m r m' := by
  intro xs m r m' h
  unfold gNumbers at h
  split at h
  · rename_i a b c d e f g q
    obtain ⟨h1, rfl, rfl⟩ := some_t2 h
    refine runOk (Λ := L0) OkO Try.func45 rfl (fun z _ _ => l0Ok _ z) ?_
    exact (runNumbers0 a b c d e f g q).trans (rfl)
  · cases h
noncomputable def ΓN1 : Orc := addCl 45 gNumbers ΓO
theorem OkN1 : ΓN1.Ok Try.prog := addCl_ok OkO gNumbers_ok
set_option maxRecDepth 20000 in
theorem runRNumbers0 (a b c d e f g q : Int) : runG ΓN1 L0 Try.prog Try.f47 [.v (.agg #[I a, I b, I c, I d, I e, I f, I g, I q])] M0 = some (.row 0, ⟨[], [], [.live ⟨2, [.num .i64], [[.n c], [.n d], [.n e], [.n f], [.n g], [.n q]], true, false⟩]⟩) := by kernel_rfl
def gRNumbers (xs : List SV) (m : Mem) : Option (Bool × SV × Mem) :=
  match xs, m with
  | [.v (.agg ⟨[.int .i64 a, .int .i64 b, .int .i64 c, .int .i64 d, .int .i64 e, .int .i64 f, .int .i64 g, .int .i64 q]⟩)], ⟨[], [], []⟩ => some (true, .row 0, ⟨[], [], [.live ⟨2, [.num .i64], [[.n c], [.n d], [.n e], [.n f], [.n g], [.n q]], true, false⟩]⟩)
  | _, _ => none
theorem gRNumbers_ok : ∀ xs m r m', gRNumbers xs m = some (true, r, m') → CallOk Try.prog 47 xs m r m' := by
  intro xs m r m' h
  unfold gRNumbers at h
  split at h
  · rename_i a b c d e f g q
    obtain ⟨h1, rfl, rfl⟩ := some_t2 h
    refine runOk (Λ := L0) OkN1 Try.func47 rfl (fun z _ _ => l0Ok _ z) ?_
    exact (runRNumbers0 a b c d e f g q).trans (rfl)
  · cases h
noncomputable def ΓN2 : Orc := addCl 47 gRNumbers ΓN1
theorem OkN2 : ΓN2.Ok Try.prog := addCl_ok OkN1 gRNumbers_ok
set_option maxRecDepth 20000 in
theorem runNRight (a b c d e f g q : Int) : runG ΓN2 L0 Try.prog Try.f18 [.v (.agg #[I a, I b, I c, I d, I e, I f, I g, I q])] M0 = bif decide (a < 0) then some (.v (Bo false), M0) else (bif decide (a > 65535) then some (.v (Bo false), M0) else (bif decide (b < 0) then some (.v (Bo false), M0) else (bif decide (b > 255) then some (.v (Bo false), M0) else (bif decide (c < -2147483648) then some (.v (Bo false), M0) else (bif decide (c > 2147483647) then some (.v (Bo false), M0) else (bif decide (d < -2147483648) then some (.v (Bo false), M0) else (bif decide (d > 2147483647) then some (.v (Bo false), M0) else (bif decide (e < -2147483648) then some (.v (Bo false), M0) else (bif decide (e > 2147483647) then some (.v (Bo false), M0) else (bif decide (f < -2147483648) then some (.v (Bo false), M0) else (bif decide (f > 2147483647) then some (.v (Bo false), M0) else (bif decide (g < -2147483648) then some (.v (Bo false), M0) else (bif decide (g > 2147483647) then some (.v (Bo false), M0) else (bif decide (q < -2147483648) then some (.v (Bo false), M0) else (bif decide (q > 2147483647) then some (.v (Bo false), M0) else (some (.v (Bo true), M0))))))))))))))))) := by kernel_rfl
def gNRight (vs : List Value) : Option (Bool × Value) :=
  match vs with
  | [.agg ⟨[.int .i64 a, .int .i64 b, .int .i64 c, .int .i64 d, .int .i64 e, .int .i64 f, .int .i64 g, .int .i64 q]⟩] => some (true, Bo (navR a b c d e f g q))
  | _ => none
theorem gNRight_ok : ∀ vs r, gNRight vs = some (true, r) → ∀ m, CallOk Try.prog 18 (vs.map .v) m (.v r) m := by
  intro vs r h
  unfold gNRight at h
  split at h
  · rename_i a b c d e f g q
    obtain ⟨h1, rfl⟩ := some_t h
    refine runV (vs := [.agg #[I a, I b, I c, I d, I e, I f, I g, I q]]) (Λ := L0) (m' := M0) OkN2 Try.func18 rfl (fun z _ _ => l0Ok _ z) ?_
    exact (runNRight a b c d e f g q).trans (by
      simp only [bif_f]
      congr 4
      rw [Bool.eq_iff_iff]
      unfold navR
      simp only [Bool.and_true, Bool.and_eq_true, Bool.not_eq_true', decide_eq_false_iff_not, decide_eq_true_eq]
      omega)
  · cases h
noncomputable def ΓN3 : Orc := addVal 18 gNRight ΓN2
theorem OkN3 : ΓN3.Ok Try.prog := addVal_ok OkN2 gNRight_ok
set_option maxRecDepth 20000 in
theorem runRNRight (a b c d e f g q : Int) : runG ΓN3 L0 Try.prog Try.f15 [.v (.agg #[I a, I b, I c, I d, I e, I f, I g, I q])] M0 = bif decide (c < -2147483648) then some (.v (Bo false), M0) else (bif decide (c > 2147483647) then some (.v (Bo false), M0) else (bif decide (d < -2147483648) then some (.v (Bo false), M0) else (bif decide (d > 2147483647) then some (.v (Bo false), M0) else (bif decide (e < -2147483648) then some (.v (Bo false), M0) else (bif decide (e > 2147483647) then some (.v (Bo false), M0) else (bif decide (f < -2147483648) then some (.v (Bo false), M0) else (bif decide (f > 2147483647) then some (.v (Bo false), M0) else (bif decide (g < -2147483648) then some (.v (Bo false), M0) else (bif decide (g > 2147483647) then some (.v (Bo false), M0) else (bif decide (q < -2147483648) then some (.v (Bo false), M0) else (bif decide (q > 2147483647) then some (.v (Bo false), M0) else (bif decide (a ≥ 0) then (bif decide (a ≤ 65535) then (bif decide (b ≥ 0) then some (.v (Bo (decide (b ≤ 255))), M0) else some (.v (Bo false), M0)) else some (.v (Bo false), M0)) else some (.v (Bo false), M0))))))))))))) := by kernel_rfl
def gRNRight (vs : List Value) : Option (Bool × Value) :=
  match vs with
  | [.agg ⟨[.int .i64 a, .int .i64 b, .int .i64 c, .int .i64 d, .int .i64 e, .int .i64 f, .int .i64 g, .int .i64 q]⟩] => some (true, Bo (navR a b c d e f g q))
  | _ => none
theorem gRNRight_ok : ∀ vs r, gRNRight vs = some (true, r) → ∀ m, CallOk Try.prog 15 (vs.map .v) m (.v r) m := by
  intro vs r h
  unfold gRNRight at h
  split at h
  · rename_i a b c d e f g q
    obtain ⟨h1, rfl⟩ := some_t h
    refine runV (vs := [.agg #[I a, I b, I c, I d, I e, I f, I g, I q]]) (Λ := L0) (m' := M0) OkN3 Try.func15 rfl (fun z _ _ => l0Ok _ z) ?_
    exact (runRNRight a b c d e f g q).trans (by
      simp only [bif_f, bif_t]
      congr 4
      rw [Bool.eq_iff_iff]
      unfold navR
      simp only [Bool.and_eq_true, Bool.not_eq_true', decide_eq_false_iff_not, decide_eq_true_eq]
      omega)
  · cases h
noncomputable def ΓN4 : Orc := addVal 15 gRNRight ΓN3
theorem OkN4 : ΓN4.Ok Try.prog := addVal_ok OkN3 gRNRight_ok
def apartU (x y : Int) : Int := IntKind.u64.wrap (IntKind.u64.wrap (if y > x then y else x) - IntKind.u64.wrap (if y < x then y else x))
set_option maxRecDepth 20000 in
theorem runApart (x y : Int) : runG ΓN4 L0 Try.prog Try.f48 [.v (I x), .v (I y)] M0 = some (.v (U64 (apartU x y)), M0) := by kernel_rfl
def gApart (vs : List Value) : Option (Bool × Value) :=
  match vs with
  | [.int .i64 x, .int .i64 y] => some (true, U64 (apartU x y))
  | _ => none
theorem gApart_ok : ∀ vs r, gApart vs = some (true, r) → ∀ m, CallOk Try.prog 48 (vs.map .v) m (.v r) m := by
  intro vs r h
  unfold gApart at h
  split at h
  · rename_i x y
    obtain ⟨h1, rfl⟩ := some_t h
    refine runV (vs := [I x, I y]) (Λ := L0) (m' := M0) OkN4 Try.func48 rfl (fun z _ _ => l0Ok _ z) ?_
    exact (runApart x y).trans (rfl)
  · cases h
noncomputable def ΓN5 : Orc := addVal 48 gApart ΓN4
theorem OkN5 : ΓN5.Ok Try.prog := addVal_ok OkN4 gApart_ok
def apartR (x y : Int) : Int := IntKind.u64.wrap (IntKind.u64.wrap x - IntKind.u64.wrap y)
set_option maxRecDepth 20000 in
theorem runRApart0 (x y w : Int) : runG ΓN5 L0 Try.prog Try.f49 [.v (I x), .v (I y), .v (I w)] M0 = bif decide (x < y) then none else some (.v (Bo (decide (apartR x y ≤ IntKind.u64.wrap w))), M0) := by kernel_rfl
def gRApart0 (vs : List Value) : Option (Bool × Value) :=
  match vs with
  | [.int .i64 x, .int .i64 y, .int .i64 w] => some (!decide (x < y), Bo (decide (apartR x y ≤ IntKind.u64.wrap w)))
  | _ => none
theorem gRApart0_ok : ∀ vs r, gRApart0 vs = some (true, r) → ∀ m, CallOk Try.prog 49 (vs.map .v) m (.v r) m := by
  intro vs r h
  unfold gRApart0 at h
  split at h
  · rename_i x y w
    obtain ⟨h1, rfl⟩ := some_t h
    refine runV (vs := [I x, I y, I w]) (Λ := L0) (m' := M0) OkN5 Try.func49 rfl (fun z _ _ => l0Ok _ z) ?_
    exact (runRApart0 x y w).trans (by cases hc : decide (x < y) <;> rw [hc] at h1 <;> first | rfl | cases h1)
  · cases h
noncomputable def ΓN6 : Orc := addVal 49 gRApart0 ΓN5
theorem OkN6 : ΓN6.Ok Try.prog := addVal_ok OkN5 gRApart0_ok
set_option maxRecDepth 20000 in
theorem runRApart (x y w : Int) : runG ΓN6 L0 Try.prog Try.f49 [.v (I x), .v (I y), .v (I w)] M0 = bif decide (x < y) then (bif !decide (y < x) then some (.v (Bo (decide (apartR y x ≤ IntKind.u64.wrap w))), M0) else none) else some (.v (Bo (decide (apartR x y ≤ IntKind.u64.wrap w))), M0) := by kernel_rfl
def gRApart (vs : List Value) : Option (Bool × Value) :=
  match vs with
  | [.int .i64 x, .int .i64 y, .int .i64 w] => some (true, Bo (decide (apartU x y ≤ IntKind.u64.wrap w)))
  | _ => none
theorem gRApart_ok : ∀ vs r, gRApart vs = some (true, r) → ∀ m, CallOk Try.prog 49 (vs.map .v) m (.v r) m := by
  intro vs r h
  unfold gRApart at h
  split at h
  · rename_i x y w
    obtain ⟨h1, rfl⟩ := some_t h
    refine runV (vs := [I x, I y, I w]) (Λ := L0) (m' := M0) OkN6 Try.func49 rfl (fun z _ _ => l0Ok _ z) ?_
    exact (runRApart x y w).trans (by
      unfold apartU apartR
      by_cases hc : x < y
      · rw [decide_eq_true hc, decide_eq_false (show ¬ y < x by omega), if_pos (show y > x by omega), if_neg (show ¬ y < x by omega)]
        rfl
      · rw [decide_eq_false hc, if_neg (show ¬ y > x by omega)]
        by_cases h2 : y < x
        · rw [if_pos h2]; rfl
        · rw [if_neg h2, show y = x by omega]; rfl)
  · cases h
noncomputable def ΓN7 : Orc := addVal 49 gRApart ΓN6
theorem OkN7 : ΓN7.Ok Try.prog := addVal_ok OkN6 gRApart_ok
def kindI (x : Int) : Int := if x = 0 then 16 else if x = 1 then 17 else -1
set_option maxRecDepth 20000 in
theorem runKind (x : Int) : runG ΓN7 L0 Try.prog Try.f23 [.v (I x)] M0 = bif decide (x < 0) then some (.v (I (-1)), M0) else (bif decide (x ≥ 2) then some (.v (I (-1)), M0) else some (.v (I (IntKind.i64.wrap (16 + x))), M0)) := by kernel_rfl
def gKind (vs : List Value) : Option (Bool × Value) :=
  match vs with
  | [.int .i64 x] => some (true, I (kindI x))
  | _ => none
theorem gKind_ok : ∀ vs r, gKind vs = some (true, r) → ∀ m, CallOk Try.prog 23 (vs.map .v) m (.v r) m := by
  intro vs r h
  unfold gKind at h
  split at h
  · rename_i x
    obtain ⟨h1, rfl⟩ := some_t h
    refine runV (vs := [I x]) (Λ := L0) (m' := M0) OkN7 Try.func23 rfl (fun z _ _ => l0Ok _ z) ?_
    exact (runKind x).trans (by
      unfold kindI
      by_cases h0 : x = 0
      · subst h0; rfl
      by_cases h2 : x = 1
      · subst h2; rfl
      rw [if_neg h0, if_neg h2]
      by_cases h3 : x < 0
      · rw [decide_eq_true h3]; rfl
      · rw [decide_eq_false h3, decide_eq_true (show x ≥ 2 by omega)]; rfl)
  · cases h
noncomputable def ΓN8 : Orc := addVal 23 gKind ΓN7
theorem OkN8 : ΓN8.Ok Try.prog := addVal_ok OkN7 gKind_ok
set_option maxRecDepth 20000 in
theorem runSource (k : Int) (p : ByteArray) : runG ΓN8 L0 Try.prog Try.f22 [.v (.agg #[I k, S p])] M0 = bif k == kindI 0 then some (.v (.tuple #[I 0, Bo true]), M0) else (bif k == kindI 1 then some (.v (.tuple #[I 1, Bo true]), M0) else some (.v (.tuple #[I 0, Bo false]), M0)) := by kernel_rfl
def gSource (vs : List Value) : Option (Bool × Value) :=
  match vs with
  | [.agg ⟨[.int .i64 k, .string p]⟩] => some (true, .tuple #[I (if k = 17 then 1 else 0), Bo (k == 16 || k == 17)])
  | _ => none
theorem gSource_ok : ∀ vs r, gSource vs = some (true, r) → ∀ m, CallOk Try.prog 22 (vs.map .v) m (.v r) m := by
  intro vs r h
  unfold gSource at h
  split at h
  · rename_i k p
    obtain ⟨h1, rfl⟩ := some_t h
    refine runV (vs := [.agg #[I k, S p]]) (Λ := L0) (m' := M0) OkN8 Try.func22 rfl (fun z _ _ => l0Ok _ z) ?_
    exact (runSource k p).trans (by
      rw [show kindI 0 = 16 from rfl, show kindI 1 = 17 from rfl]
      by_cases h0 : k = 16
      · subst h0; rfl
      · by_cases h2 : k = 17
        · subst h2; rfl
        · rw [if_neg h2, beq_eq_false_iff_ne.2 h0, beq_eq_false_iff_ne.2 h2]; rfl)
  · cases h
noncomputable def ΓN9 : Orc := addVal 22 gSource ΓN8
theorem OkN9 : ΓN9.Ok Try.prog := addVal_ok OkN8 gSource_ok
def navB (a b c d e f g q : Int) : ByteArray := ((((((be 2 (a) ++ be 1 (b)) ++ be 4 (c)) ++ be 4 (d)) ++ be 4 (e)) ++ be 4 (f)) ++ be 4 (g)) ++ be 4 (q)
def printT (a b c d e f g q : Int) : ByteArray := bif navR a b c d e f g q then navB a b c d e f g q else ⟨#[]⟩
set_option maxRecDepth 20000 in
theorem runNPrint (a b c d e f g q : Int) : runG ΓN9 L0 Try.prog Try.f13 [.v (.agg #[I a, I b, I c, I d, I e, I f, I g, I q])] M0 = bif !navR a b c d e f g q then some (.v (S ⟨#[]⟩), M0) else (bif Nat.ble ((be 2 (IntKind.u64.wrap a)).size + (be 1 (IntKind.u64.wrap b)).size) 9223372036854775807 then (bif Nat.ble ((be 2 (IntKind.u64.wrap a) ++ be 1 (IntKind.u64.wrap b)).size + (be 4 (IntKind.u64.wrap c)).size) 9223372036854775807 then (bif Nat.ble (((be 2 (IntKind.u64.wrap a) ++ be 1 (IntKind.u64.wrap b)) ++ be 4 (IntKind.u64.wrap c)).size + (be 4 (IntKind.u64.wrap d)).size) 9223372036854775807 then (bif Nat.ble ((((be 2 (IntKind.u64.wrap a) ++ be 1 (IntKind.u64.wrap b)) ++ be 4 (IntKind.u64.wrap c)) ++ be 4 (IntKind.u64.wrap d)).size + (be 4 (IntKind.u64.wrap e)).size) 9223372036854775807 then (bif Nat.ble (((((be 2 (IntKind.u64.wrap a) ++ be 1 (IntKind.u64.wrap b)) ++ be 4 (IntKind.u64.wrap c)) ++ be 4 (IntKind.u64.wrap d)) ++ be 4 (IntKind.u64.wrap e)).size + (be 4 (IntKind.u64.wrap f)).size) 9223372036854775807 then (bif Nat.ble ((((((be 2 (IntKind.u64.wrap a) ++ be 1 (IntKind.u64.wrap b)) ++ be 4 (IntKind.u64.wrap c)) ++ be 4 (IntKind.u64.wrap d)) ++ be 4 (IntKind.u64.wrap e)) ++ be 4 (IntKind.u64.wrap f)).size + (be 4 (IntKind.u64.wrap g)).size) 9223372036854775807 then (bif Nat.ble (((((((be 2 (IntKind.u64.wrap a) ++ be 1 (IntKind.u64.wrap b)) ++ be 4 (IntKind.u64.wrap c)) ++ be 4 (IntKind.u64.wrap d)) ++ be 4 (IntKind.u64.wrap e)) ++ be 4 (IntKind.u64.wrap f)) ++ be 4 (IntKind.u64.wrap g)).size + (be 4 (IntKind.u64.wrap q)).size) 9223372036854775807 then some (.v (S (((((((be 2 (IntKind.u64.wrap a) ++ be 1 (IntKind.u64.wrap b)) ++ be 4 (IntKind.u64.wrap c)) ++ be 4 (IntKind.u64.wrap d)) ++ be 4 (IntKind.u64.wrap e)) ++ be 4 (IntKind.u64.wrap f)) ++ be 4 (IntKind.u64.wrap g)) ++ be 4 (IntKind.u64.wrap q))), M0) else none) else none) else none) else none) else none) else none) else none) := by kernel_rfl
def gNPrint (vs : List Value) : Option (Bool × Value) :=
  match vs with
  | [.agg ⟨[.int .i64 a, .int .i64 b, .int .i64 c, .int .i64 d, .int .i64 e, .int .i64 f, .int .i64 g, .int .i64 q]⟩] => some (true, S (printT a b c d e f g q))
  | _ => none
theorem gNPrint_ok : ∀ vs r, gNPrint vs = some (true, r) → ∀ m, CallOk Try.prog 13 (vs.map .v) m (.v r) m := by
  intro vs r h
  unfold gNPrint at h
  split at h
  · rename_i a b c d e f g q
    obtain ⟨h1, rfl⟩ := some_t h
    refine runV (vs := [.agg #[I a, I b, I c, I d, I e, I f, I g, I q]]) (Λ := L0) (m' := M0) OkN9 Try.func13 rfl (fun z _ _ => l0Ok _ z) ?_
    exact (runNPrint a b c d e f g q).trans (by
      unfold printT
      cases navR a b c d e f g q with
      | false => rfl
      | true =>
        simp only [be_u64_1, be_u64_2, be_u64_4, ByteArray.size_append, be_size]
        rfl)
  · cases h
noncomputable def ΓN10 : Orc := addVal 13 gNPrint ΓN9
theorem OkN10 : ΓN10.Ok Try.prog := addVal_ok OkN9 gNPrint_ok
theorem rb32 (x : Int) (j k : Nat) (h : (2 : Int) ^ min (Int.toNat (8 * k : Nat)) 32 = 256 ^ k) (hj : j = 8 * k) (hk : k ≤ 3) : IntKind.u8.wrap ((IntKind.u32.wrap x).fdiv (2 ^ min (Int.toNat (j : Nat)) 32)) = x / 256 ^ k % 256 := by
  subst hj
  rw [h, Int.fdiv_eq_ediv_of_nonneg _ (Int.le_of_lt (Int.pow_pos (by decide))), ← wr_eq true, ← wr_eq true]
  simp only [wr]
  have : k = 0 ∨ k = 1 ∨ k = 2 ∨ k = 3 := by omega
  rcases this with rfl | rfl | rfl | rfl <;> omega
theorem rbe4 (x : Int) : strOfNums [IntKind.u8.wrap ((IntKind.u32.wrap x).fdiv (2 ^ min (Int.toNat 24) 32)), IntKind.u8.wrap ((IntKind.u32.wrap x).fdiv (2 ^ min (Int.toNat 16) 32)), IntKind.u8.wrap ((IntKind.u32.wrap x).fdiv (2 ^ min (Int.toNat 8) 32)), IntKind.u8.wrap (IntKind.u32.wrap x)] = be 4 x := by
  have e1 := rb32 x 8 1 (by decide) rfl (by decide)
  have e2 := rb32 x 16 2 (by decide) rfl (by decide)
  have e3 := rb32 x 24 3 (by decide) rfl (by decide)
  rw [show ((8 : Nat) : Int) = 8 from rfl] at e1
  rw [show ((16 : Nat) : Int) = 16 from rfl] at e2
  rw [show ((24 : Nat) : Int) = 24 from rfl] at e3
  have e0 : IntKind.u8.wrap (IntKind.u32.wrap x) = x / 256 ^ 0 % 256 := by
    rw [← wr_eq true, ← wr_eq true]
    simp only [wr]
    omega
  rw [e0, e1, e2, e3]; rfl
theorem rprint_eq (a b c d e f g q : Int) (h0 : 0 ≤ a) (h1 : a ≤ 65535) : strOfNums [IntKind.u8.wrap (IntKind.i64.wrap (a.tdiv 256)), IntKind.u8.wrap (a.tmod 256), IntKind.u8.wrap b, IntKind.u8.wrap ((IntKind.u32.wrap c).fdiv (2 ^ min (Int.toNat 24) 32)), IntKind.u8.wrap ((IntKind.u32.wrap c).fdiv (2 ^ min (Int.toNat 16) 32)), IntKind.u8.wrap ((IntKind.u32.wrap c).fdiv (2 ^ min (Int.toNat 8) 32)), IntKind.u8.wrap (IntKind.u32.wrap c), IntKind.u8.wrap ((IntKind.u32.wrap d).fdiv (2 ^ min (Int.toNat 24) 32)), IntKind.u8.wrap ((IntKind.u32.wrap d).fdiv (2 ^ min (Int.toNat 16) 32)), IntKind.u8.wrap ((IntKind.u32.wrap d).fdiv (2 ^ min (Int.toNat 8) 32)), IntKind.u8.wrap (IntKind.u32.wrap d), IntKind.u8.wrap ((IntKind.u32.wrap e).fdiv (2 ^ min (Int.toNat 24) 32)), IntKind.u8.wrap ((IntKind.u32.wrap e).fdiv (2 ^ min (Int.toNat 16) 32)), IntKind.u8.wrap ((IntKind.u32.wrap e).fdiv (2 ^ min (Int.toNat 8) 32)), IntKind.u8.wrap (IntKind.u32.wrap e), IntKind.u8.wrap ((IntKind.u32.wrap f).fdiv (2 ^ min (Int.toNat 24) 32)), IntKind.u8.wrap ((IntKind.u32.wrap f).fdiv (2 ^ min (Int.toNat 16) 32)), IntKind.u8.wrap ((IntKind.u32.wrap f).fdiv (2 ^ min (Int.toNat 8) 32)), IntKind.u8.wrap (IntKind.u32.wrap f), IntKind.u8.wrap ((IntKind.u32.wrap g).fdiv (2 ^ min (Int.toNat 24) 32)), IntKind.u8.wrap ((IntKind.u32.wrap g).fdiv (2 ^ min (Int.toNat 16) 32)), IntKind.u8.wrap ((IntKind.u32.wrap g).fdiv (2 ^ min (Int.toNat 8) 32)), IntKind.u8.wrap (IntKind.u32.wrap g), IntKind.u8.wrap ((IntKind.u32.wrap q).fdiv (2 ^ min (Int.toNat 24) 32)), IntKind.u8.wrap ((IntKind.u32.wrap q).fdiv (2 ^ min (Int.toNat 16) 32)), IntKind.u8.wrap ((IntKind.u32.wrap q).fdiv (2 ^ min (Int.toNat 8) 32)), IntKind.u8.wrap (IntKind.u32.wrap q)] = navB a b c d e f g q := by
  unfold navB
  rw [← rbe4 c, ← rbe4 d, ← rbe4 e, ← rbe4 f, ← rbe4 g, ← rbe4 q]
  have e1 : be 2 a ++ be 1 b = strOfNums [IntKind.u8.wrap (IntKind.i64.wrap (a.tdiv 256)), IntKind.u8.wrap (a.tmod 256), IntKind.u8.wrap b] := by
    have t1 : IntKind.u8.wrap (IntKind.i64.wrap (a.tdiv 256)) = a / 256 ^ 1 % 256 := by
      rw [Int.tdiv_eq_ediv_of_nonneg h0]
      have := wI_id (n := a / 256) (by omega)
      unfold wI at this
      rw [this, ← wr_eq true]
      simp only [wr]
      omega
    have t2 : IntKind.u8.wrap (a.tmod 256) = a / 256 ^ 0 % 256 := by
      rw [Int.tmod_eq_emod_of_nonneg h0, ← wr_eq true]
      simp only [wr]
      omega
    have t3 : IntKind.u8.wrap b = b / 256 ^ 0 % 256 := by
      rw [← wr_eq true]
      simp only [wr]
      omega
    rw [t1, t2, t3]
    rfl
  rw [e1]
  simp only [← nums_app]
  rfl
set_option maxRecDepth 20000 in
theorem runRNPrint (a b c d e f g q : Int) : runG ΓN10 L0 Try.prog Try.f17 [.v (.agg #[I a, I b, I c, I d, I e, I f, I g, I q])] M0 = bif !navR a b c d e f g q then some (.v (S ⟨#[]⟩), M0) else some (.v (S (strOfNums [IntKind.u8.wrap (IntKind.i64.wrap (a.tdiv 256)), IntKind.u8.wrap (a.tmod 256), IntKind.u8.wrap b, IntKind.u8.wrap ((IntKind.u32.wrap c).fdiv (2 ^ min (Int.toNat 24) 32)), IntKind.u8.wrap ((IntKind.u32.wrap c).fdiv (2 ^ min (Int.toNat 16) 32)), IntKind.u8.wrap ((IntKind.u32.wrap c).fdiv (2 ^ min (Int.toNat 8) 32)), IntKind.u8.wrap (IntKind.u32.wrap c), IntKind.u8.wrap ((IntKind.u32.wrap d).fdiv (2 ^ min (Int.toNat 24) 32)), IntKind.u8.wrap ((IntKind.u32.wrap d).fdiv (2 ^ min (Int.toNat 16) 32)), IntKind.u8.wrap ((IntKind.u32.wrap d).fdiv (2 ^ min (Int.toNat 8) 32)), IntKind.u8.wrap (IntKind.u32.wrap d), IntKind.u8.wrap ((IntKind.u32.wrap e).fdiv (2 ^ min (Int.toNat 24) 32)), IntKind.u8.wrap ((IntKind.u32.wrap e).fdiv (2 ^ min (Int.toNat 16) 32)), IntKind.u8.wrap ((IntKind.u32.wrap e).fdiv (2 ^ min (Int.toNat 8) 32)), IntKind.u8.wrap (IntKind.u32.wrap e), IntKind.u8.wrap ((IntKind.u32.wrap f).fdiv (2 ^ min (Int.toNat 24) 32)), IntKind.u8.wrap ((IntKind.u32.wrap f).fdiv (2 ^ min (Int.toNat 16) 32)), IntKind.u8.wrap ((IntKind.u32.wrap f).fdiv (2 ^ min (Int.toNat 8) 32)), IntKind.u8.wrap (IntKind.u32.wrap f), IntKind.u8.wrap ((IntKind.u32.wrap g).fdiv (2 ^ min (Int.toNat 24) 32)), IntKind.u8.wrap ((IntKind.u32.wrap g).fdiv (2 ^ min (Int.toNat 16) 32)), IntKind.u8.wrap ((IntKind.u32.wrap g).fdiv (2 ^ min (Int.toNat 8) 32)), IntKind.u8.wrap (IntKind.u32.wrap g), IntKind.u8.wrap ((IntKind.u32.wrap q).fdiv (2 ^ min (Int.toNat 24) 32)), IntKind.u8.wrap ((IntKind.u32.wrap q).fdiv (2 ^ min (Int.toNat 16) 32)), IntKind.u8.wrap ((IntKind.u32.wrap q).fdiv (2 ^ min (Int.toNat 8) 32)), IntKind.u8.wrap (IntKind.u32.wrap q)])), M0) := by kernel_rfl
def gRNPrint (vs : List Value) : Option (Bool × Value) :=
  match vs with
  | [.agg ⟨[.int .i64 a, .int .i64 b, .int .i64 c, .int .i64 d, .int .i64 e, .int .i64 f, .int .i64 g, .int .i64 q]⟩] => some (true, S (printT a b c d e f g q))
  | _ => none
theorem gRNPrint_ok : ∀ vs r, gRNPrint vs = some (true, r) → ∀ m, CallOk Try.prog 17 (vs.map .v) m (.v r) m := by
  intro vs r h
  unfold gRNPrint at h
  split at h
  · rename_i a b c d e f g q
    obtain ⟨h1, rfl⟩ := some_t h
    refine runV (vs := [.agg #[I a, I b, I c, I d, I e, I f, I g, I q]]) (Λ := L0) (m' := M0) OkN10 Try.func17 rfl (fun z _ _ => l0Ok _ z) ?_
    exact (runRNPrint a b c d e f g q).trans (by
      unfold printT
      cases hr : navR a b c d e f g q with
      | false => rfl
      | true =>
        have h0 : 0 ≤ a ∧ a ≤ 65535 := by
          unfold navR at hr
          have := of_decide_eq_true hr
          omega
        rw [rprint_eq a b c d e f g q h0.1 h0.2]
        rfl)
  · cases h
noncomputable def ΓN11 : Orc := addVal 17 gRNPrint ΓN10
theorem OkN11 : ΓN11.Ok Try.prog := addVal_ok OkN10 gRNPrint_ok
noncomputable def ΓNa : Orc := ΓN11
theorem OkNa : ΓNa.Ok Try.prog := OkN11
end Go.Proofs.Yteapngnpenmfaaa

namespace Go.Proofs.Yteapngnpenmfaaa
open Go Go.Proofs Go.Sx
set_option linter.unusedVariables false
theorem gt_le (x y b : Int) : decide (apartU x y > b) = !decide (apartU x y ≤ b) := by
  rw [Bool.eq_iff_iff]
  simp only [decide_eq_true_eq, Bool.not_eq_true', decide_eq_false_iff_not]
  omega
def near1 (w x y : Int) : Bool := decide (apartU x y ≤ IntKind.u64.wrap w)
def nearB (w c c' d d' e e' f f' g g' q q' : Int) : Bool := !decide (w < 0) && (near1 w c c' && (near1 w d d' && (near1 w e e' && (near1 w f f' && (near1 w g g' && near1 w q q')))))
/-! A nav's bytes, read. -/
def s32 (s : ByteArray) (i j : Nat) : Int := IntKind.i64.wrap (IntKind.i32.wrap ((numN (s.extract i j) : Nat) : Int))
def rd27 (s : ByteArray) (x : Int) : Int := if s.size = 27 then x else 0
def rdA (s : ByteArray) : Int := rd27 s (wI ((numN (s.extract 0 2) : Nat) : Int))
def rdB (s : ByteArray) : Int := rd27 s (wI (strAt s 2))
def rdC (s : ByteArray) (i j : Nat) : Int := rd27 s (s32 s i j)
def navE (s : ByteArray) : Int := if s.size < 27 then 5 else if s.size > 27 then 3 else 0

set_option maxRecDepth 20000 in
theorem runNNear (a b c d e f g q a' b' c' d' e' f' g' q' w : Int) : runG ΓNa L0 Try.prog Try.f20 [.v (.agg #[I a, I b, I c, I d, I e, I f, I g, I q]), .v (.agg #[I a', I b', I c', I d', I e', I f', I g', I q']), .v (I w)] M0 = bif decide (w < 0) then some (.v (Bo false), M0) else (bif decide (apartU c c' > IntKind.u64.wrap w) then some (.v (Bo false), M0) else (bif decide (apartU d d' > IntKind.u64.wrap w) then some (.v (Bo false), M0) else (bif decide (apartU e e' > IntKind.u64.wrap w) then some (.v (Bo false), M0) else (bif decide (apartU f f' > IntKind.u64.wrap w) then some (.v (Bo false), M0) else (bif decide (apartU g g' > IntKind.u64.wrap w) then some (.v (Bo false), M0) else (bif decide (apartU q q' > IntKind.u64.wrap w) then some (.v (Bo false), M0) else (some (.v (Bo true), M0)))))))) := by kernel_rfl
def gNNear (vs : List Value) : Option (Bool × Value) :=
  match vs with
  | [.agg ⟨[.int .i64 a, .int .i64 b, .int .i64 c, .int .i64 d, .int .i64 e, .int .i64 f, .int .i64 g, .int .i64 q]⟩, .agg ⟨[.int .i64 a', .int .i64 b', .int .i64 c', .int .i64 d', .int .i64 e', .int .i64 f', .int .i64 g', .int .i64 q']⟩, .int .i64 w] => some (true, Bo (nearB w c c' d d' e e' f f' g g' q q'))
  | _ => none
theorem gNNear_ok : ∀ vs r, gNNear vs = some (true, r) → ∀ m, CallOk Try.prog 20 (vs.map .v) m (.v r) m := by
  intro vs r h
  unfold gNNear at h
  split at h
  · rename_i a b c d e f g q a' b' c' d' e' f' g' q' w
    obtain ⟨h1, rfl⟩ := some_t h
    refine runV (vs := [.agg #[I a, I b, I c, I d, I e, I f, I g, I q], .agg #[I a', I b', I c', I d', I e', I f', I g', I q'], I w]) (Λ := L0) (m' := M0) OkNa Try.func20 rfl (fun z _ _ => l0Ok _ z) ?_
    exact (runNNear a b c d e f g q a' b' c' d' e' f' g' q' w).trans (by
      simp only [gt_le, bif_f, Bool.not_not, Bool.and_true]
      rfl)
  · cases h
noncomputable def ΓP1 : Orc := addVal 20 gNNear ΓNa
theorem OkP1 : ΓP1.Ok Try.prog := addVal_ok OkNa gNNear_ok
set_option maxRecDepth 20000 in
theorem runRNNear (a b c d e f g q a' b' c' d' e' f' g' q' w : Int) : runG ΓP1 L0 Try.prog Try.f21 [.v (.agg #[I a, I b, I c, I d, I e, I f, I g, I q]), .v (.agg #[I a', I b', I c', I d', I e', I f', I g', I q']), .v (I w)] M0 = same (bif decide (w < 0) then some (.v (Bo false), M0) else (bif !decide (apartU c c' ≤ IntKind.u64.wrap w) then some (.v (Bo false), M0) else (bif decide (w < 0) then some (.v (Bo false), M0) else (bif !decide (apartU d d' ≤ IntKind.u64.wrap w) then some (.v (Bo false), M0) else (bif decide (w < 0) then some (.v (Bo false), M0) else (bif !decide (apartU e e' ≤ IntKind.u64.wrap w) then some (.v (Bo false), M0) else (bif decide (w < 0) then some (.v (Bo false), M0) else (bif !decide (apartU f f' ≤ IntKind.u64.wrap w) then some (.v (Bo false), M0) else (bif decide (w < 0) then some (.v (Bo false), M0) else (bif !decide (apartU g g' ≤ IntKind.u64.wrap w) then some (.v (Bo false), M0) else (bif decide (w < 0) then some (.v (Bo false), M0) else (bif !decide (apartU q q' ≤ IntKind.u64.wrap w) then some (.v (Bo false), M0) else (some (.v (Bo true), M0)))))))))))))) (bif decide (w < 0) then some (.v (Bo false), M0) else (bif !decide (apartU c c' ≤ IntKind.u64.wrap w) then some (.v (Bo false), M0) else (bif decide (w < 0) then some (.v (Bo false), M0) else (bif !decide (apartU d d' ≤ IntKind.u64.wrap w) then some (.v (Bo false), M0) else (bif decide (w < 0) then some (.v (Bo false), M0) else (bif !decide (apartU e e' ≤ IntKind.u64.wrap w) then some (.v (Bo false), M0) else (bif decide (w < 0) then some (.v (Bo false), M0) else (bif !decide (apartU f f' ≤ IntKind.u64.wrap w) then some (.v (Bo false), M0) else (bif decide (w < 0) then some (.v (Bo false), M0) else (bif !decide (apartU g g' ≤ IntKind.u64.wrap w) then some (.v (Bo false), M0) else (bif decide (w < 0) then some (.v (Bo false), M0) else (bif !decide (apartU q q' ≤ IntKind.u64.wrap w) then some (.v (Bo false), M0) else (some (.v (Bo true), M0)))))))))))))) := by kernel_rfl
def gRNNear (vs : List Value) : Option (Bool × Value) :=
  match vs with
  | [.agg ⟨[.int .i64 a, .int .i64 b, .int .i64 c, .int .i64 d, .int .i64 e, .int .i64 f, .int .i64 g, .int .i64 q]⟩, .agg ⟨[.int .i64 a', .int .i64 b', .int .i64 c', .int .i64 d', .int .i64 e', .int .i64 f', .int .i64 g', .int .i64 q']⟩, .int .i64 w] => some (true, Bo (nearB w c c' d d' e e' f f' g g' q q'))
  | _ => none
theorem gRNNear_ok : ∀ vs r, gRNNear vs = some (true, r) → ∀ m, CallOk Try.prog 21 (vs.map .v) m (.v r) m := by
  intro vs r h
  unfold gRNNear at h
  split at h
  · rename_i a b c d e f g q a' b' c' d' e' f' g' q' w
    obtain ⟨h1, rfl⟩ := some_t h
    refine runV (vs := [.agg #[I a, I b, I c, I d, I e, I f, I g, I q], .agg #[I a', I b', I c', I d', I e', I f', I g', I q'], I w]) (Λ := L0) (m' := M0) OkP1 Try.func21 rfl (fun z _ _ => l0Ok _ z) ?_
    exact (runRNNear a b c d e f g q a' b' c' d' e' f' g' q' w).trans (by
      rw [same_self]
      simp only [bif_f, Bool.not_not, Bool.and_true]
      congr 4
      unfold nearB near1
      generalize decide (w < 0) = y
      cases y
      · rfl
      · rfl)
  · cases h
noncomputable def ΓP2 : Orc := addVal 21 gRNNear ΓP1
theorem OkP2 : ΓP2.Ok Try.prog := addVal_ok OkP1 gRNNear_ok
theorem szS_ext (s : ByteArray) (i j : Nat) (h : s.size = 27) : szS (s.extract i j) = true := szS_of (by rw [ByteArray.size_extract]; omega)
set_option maxRecDepth 20000 in
theorem runNRead (s : ByteArray) : runG ΓP2 L0 Try.prog Try.f14 [.v (S s)] M0 = bif decide ((s.size : Int) < 27) then some (.v (.tuple #[.agg #[I 0, I 0, I 0, I 0, I 0, I 0, I 0, I 0], I 5]), M0) else (bif decide ((s.size : Int) > 27) then some (.v (.tuple #[.agg #[I 0, I 0, I 0, I 0, I 0, I 0, I 0, I 0], I 3]), M0) else (bif decide ((0 : Int) ≤ 0) && (decide ((0 : Int) ≤ 2) && decide (2 ≤ (s.size : Int))) then (bif szS (s.extract (Int.toNat 0) (Int.toNat 2)) then (bif decide ((0 : Int) ≤ 2) && decide (2 < (s.size : Int)) then (bif decide ((0 : Int) ≤ 3) && (decide ((3 : Int) ≤ 7) && decide (7 ≤ (s.size : Int))) then (bif szS (s.extract (Int.toNat 3) (Int.toNat 7)) then (bif decide ((0 : Int) ≤ 7) && (decide ((7 : Int) ≤ 11) && decide (11 ≤ (s.size : Int))) then (bif szS (s.extract (Int.toNat 7) (Int.toNat 11)) then (bif decide ((0 : Int) ≤ 11) && (decide ((11 : Int) ≤ 15) && decide (15 ≤ (s.size : Int))) then (bif szS (s.extract (Int.toNat 11) (Int.toNat 15)) then (bif decide ((0 : Int) ≤ 15) && (decide ((15 : Int) ≤ 19) && decide (19 ≤ (s.size : Int))) then (bif szS (s.extract (Int.toNat 15) (Int.toNat 19)) then (bif decide ((0 : Int) ≤ 19) && (decide ((19 : Int) ≤ 23) && decide (23 ≤ (s.size : Int))) then (bif szS (s.extract (Int.toNat 19) (Int.toNat 23)) then (bif decide ((0 : Int) ≤ 23) && (decide ((23 : Int) ≤ 27) && decide (27 ≤ (s.size : Int))) then (bif szS (s.extract (Int.toNat 23) (Int.toNat 27)) then some (.v (.tuple #[.agg #[I (wI ((numN (s.extract (Int.toNat 0) (Int.toNat 2)) : Nat) : Int)), I (wI (strAt s 2)), I (s32 s (Int.toNat 3) (Int.toNat 7)), I (s32 s (Int.toNat 7) (Int.toNat 11)), I (s32 s (Int.toNat 11) (Int.toNat 15)), I (s32 s (Int.toNat 15) (Int.toNat 19)), I (s32 s (Int.toNat 19) (Int.toNat 23)), I (s32 s (Int.toNat 23) (Int.toNat 27))], I 0]), M0) else none) else none) else none) else none) else none) else none) else none) else none) else none) else none) else none) else none) else none) else none) else none)) := by kernel_rfl
def gNRead (vs : List Value) : Option (Bool × Value) :=
  match vs with
  | [.string s] => some (true, .tuple #[.agg #[I (rdA s), I (rdB s), I (rdC s 3 7), I (rdC s 7 11), I (rdC s 11 15), I (rdC s 15 19), I (rdC s 19 23), I (rdC s 23 27)], I (navE s)])
  | _ => none
theorem gNRead_ok : ∀ vs r, gNRead vs = some (true, r) → ∀ m, CallOk Try.prog 14 (vs.map .v) m (.v r) m := by
  intro vs r h
  unfold gNRead at h
  split at h
  · rename_i s
    obtain ⟨h1, rfl⟩ := some_t h
    refine runV (vs := [S s]) (Λ := L0) (m' := M0) OkP2 Try.func14 rfl (fun z _ _ => l0Ok _ z) ?_
    exact (runNRead s).trans (by
      unfold rdA rdB rdC rd27 navE
      by_cases c1 : s.size < 27
      · simp only [decide_eq_true (show (s.size : Int) < 27 by omega), if_neg (show ¬ s.size = 27 by omega), if_pos c1]
        rfl
      by_cases c2 : s.size > 27
      · simp only [decide_eq_false (show ¬ (s.size : Int) < 27 by omega), decide_eq_true (show (s.size : Int) > 27 by omega), if_neg (show ¬ s.size = 27 by omega), if_neg c1, if_pos c2]
        rfl
      have c3 : s.size = 27 := by omega
      simp only [szS_ext s _ _ c3, if_pos c3, if_neg c1, if_neg c2]
      rw [c3]
      rfl)
  · cases h
noncomputable def ΓP3 : Orc := addVal 14 gNRead ΓP2
theorem OkP3 : ΓP3.Ok Try.prog := addVal_ok OkP2 gNRead_ok
/-! The document's Read: its loop. -/
def zNav : List SA := [.v (I 0), .v (I 0), .v (I 0), .v (I 0), .v (I 0), .v (I 0), .v (I 0), .v (I 0)]
def MQ (Q : List (List Dat)) : Mem := ⟨[zNav], [true], [.live ⟨2, [.num .i64], Q, true, false⟩]⟩
def x4 (s : ByteArray) (i : Int) : Int := wI (wI (wI (wI (wI (strAt s i) * 16777216) + wI (wI (strAt s (wI (i + 1))) * 65536)) + wI (wI (strAt s (wI (i + 2))) * 256)) + wI (strAt s (wI (i + 3))))
def kRead : List Bool := maskOf 82 [0, 2, 4, 5]
def xRead : List Bool := maskOf 82 [0, 2, 4]
noncomputable def bodyRead : Code := loopAt (Try.f19.body.getD .skip) 0
theorem loopsRead : loopsOf (Try.f19.body.getD .skip) = [bodyRead] := by kernel_rfl
theorem loopsRead0 : loopsOf bodyRead = [] := by kernel_rfl
def ERead (e : Ex) (st : St) : Option (Ex × St) := some (e, cutC 0 0 xRead st)
def HRead (s : ByteArray) (Q : List (List Dat)) (i : Int) : St := mk kRead [.v (S s), .ptr 0 0, .row 0, .v (I i)] (MQ Q)
theorem stepRead (s : ByteArray) (Q : List (List Dat)) (k : Nat) (i : Int) : evLoop ΓP3 Try.prog L0 (cutC 0 0 kRead) bodyRead (k + 1) (HRead s Q i) ERead =
    bif decide (i < 27) then (bif decide (0 ≤ i) && decide (i < (s.size : Int)) then (bif decide (0 ≤ wI (i + 1)) && decide (wI (i + 1) < (s.size : Int)) then (bif decide (0 ≤ wI (i + 2)) && decide (wI (i + 2) < (s.size : Int)) then (bif decide (0 ≤ wI (i + 3)) && decide (wI (i + 3) < (s.size : Int)) then
      (bif decide (x4 s i ≥ 2147483648) then (bif room Q 8 then evLoop ΓP3 Try.prog L0 (cutC 0 0 kRead) bodyRead k (HRead s (Q ++ [[.n (wI (x4 s i - 4294967296))]]) (wI (i + 4))) ERead else none)
        else (bif room Q 8 then evLoop ΓP3 Try.prog L0 (cutC 0 0 kRead) bodyRead k (HRead s (Q ++ [[.n (x4 s i)]]) (wI (i + 4))) ERead else none)) else none) else none) else none) else none)
    else some (.exit 0, mk xRead [.v (S s), .ptr 0 0, .row 0] (MQ Q)) := by kernel_rfl
theorem s32_eq {s : ByteArray} {i : Nat} (h : i + 4 ≤ s.size) (hi : i < 1000) : x4 s (i : Int) = ((numN (s.extract i (i + 4)) : Nat) : Int) ∧ s32 s i (i + 4) = if x4 s (i : Int) ≥ 2147483648 then wI (x4 s (i : Int) - 4294967296) else x4 s (i : Int) := by
  have hn := num4 h
  have r0 := strAt_range s i
  have r1 := strAt_range s (i + 1)
  have r2 := strAt_range s (i + 2)
  have r3 := strAt_range s (i + 3)
  have e1 : wI ((i : Int) + 1) = ((i + 1 : Nat) : Int) := by rw [wI_id (by omega)]; omega
  have e2 : wI ((i : Int) + 2) = ((i + 2 : Nat) : Int) := by rw [wI_id (by omega)]; omega
  have e3 : wI ((i : Int) + 3) = ((i + 3 : Nat) : Int) := by rw [wI_id (by omega)]; omega
  have hx : x4 s (i : Int) = ((numN (s.extract i (i + 4)) : Nat) : Int) := by
    unfold x4
    rw [e1, e2, e3, hn]
    generalize strAt s (i : Int) = y0 at *
    generalize strAt s ((i + 1 : Nat) : Int) = y1 at *
    generalize strAt s ((i + 2 : Nat) : Int) = y2 at *
    generalize strAt s ((i + 3 : Nat) : Int) = y3 at *
    rw [wI_id (n := y0) (by omega), wI_id (n := y1) (by omega), wI_id (n := y2) (by omega), wI_id (n := y3) (by omega), wI_id (n := y0 * 16777216) (by omega), wI_id (n := y1 * 65536) (by omega), wI_id (n := y2 * 256) (by omega), wI_id (n := y0 * 16777216 + y1 * 65536) (by omega), wI_id (n := y0 * 16777216 + y1 * 65536 + y2 * 256) (by omega), wI_id (by omega)]
  refine ⟨hx, ?_⟩
  have hr : 0 ≤ x4 s (i : Int) ∧ x4 s (i : Int) < 4294967296 := by rw [hx, hn]; omega
  unfold s32
  rw [← hx]
  generalize x4 s (i : Int) = y at *
  rw [wrap_i32]
  show wI _ = _
  by_cases h2 : y ≥ 2147483648
  · rw [if_pos h2, if_pos (by omega)]
    congr 1
    omega
  · rw [if_neg h2, if_neg (by omega), wI_id (by omega)]
    omega
theorem nextRead {s : ByteArray} {Q : List (List Dat)} {i : Nat} (k : Nat) (h : i + 4 ≤ s.size) (h2 : i < 27) (hQ : Q.length < 100) : evLoop ΓP3 Try.prog L0 (cutC 0 0 kRead) bodyRead (k + 1) (HRead s Q (i : Int)) ERead =
    evLoop ΓP3 Try.prog L0 (cutC 0 0 kRead) bodyRead k (HRead s (Q ++ [[.n (s32 s i (i + 4))]]) ((i + 4 : Nat) : Int)) ERead := by
  have e1 : wI ((i : Int) + 1) = ((i + 1 : Nat) : Int) := by rw [wI_id (by omega)]; omega
  have e2 : wI ((i : Int) + 2) = ((i + 2 : Nat) : Int) := by rw [wI_id (by omega)]; omega
  have e3 : wI ((i : Int) + 3) = ((i + 3 : Nat) : Int) := by rw [wI_id (by omega)]; omega
  have e4 : wI ((i : Int) + 4) = ((i + 4 : Nat) : Int) := by rw [wI_id (by omega)]; omega
  have hroom : room Q 8 = true := decide_eq_true ⟨by omega, by omega⟩
  rw [stepRead, e1, e2, e3, e4, decide_eq_true (show (i : Int) < 27 by omega), decide_eq_true (show (0 : Int) ≤ (i : Int) by omega), decide_eq_true (show (i : Int) < (s.size : Int) by omega), decide_eq_true (show (0 : Int) ≤ ((i + 1 : Nat) : Int) by omega), decide_eq_true (show ((i + 1 : Nat) : Int) < (s.size : Int) by omega), decide_eq_true (show (0 : Int) ≤ ((i + 2 : Nat) : Int) by omega), decide_eq_true (show ((i + 2 : Nat) : Int) < (s.size : Int) by omega), decide_eq_true (show (0 : Int) ≤ ((i + 3 : Nat) : Int) by omega), decide_eq_true (show ((i + 3 : Nat) : Int) < (s.size : Int) by omega), hroom, (s32_eq h (by omega)).2]
  by_cases hx : x4 s (i : Int) ≥ 2147483648
  · rw [decide_eq_true hx, if_pos hx]; rfl
  · rw [decide_eq_false hx, if_neg hx]; rfl
def six (s : ByteArray) : List (List Dat) := [[.n (s32 s 3 7)], [.n (s32 s 7 11)], [.n (s32 s 11 15)], [.n (s32 s 15 19)], [.n (s32 s 19 23)], [.n (s32 s 23 27)]]
def GRead (vals : List SV) (m : Mem) : Option (Bool × Ex × St) :=
  match vals, m with
  | [.v (.string s), .ptr 0 0, .row 0, .v (.int .i64 i)], ⟨[[.v (.int .i64 (.ofNat 0)), .v (.int .i64 (.ofNat 0)), .v (.int .i64 (.ofNat 0)), .v (.int .i64 (.ofNat 0)), .v (.int .i64 (.ofNat 0)), .v (.int .i64 (.ofNat 0)), .v (.int .i64 (.ofNat 0)), .v (.int .i64 (.ofNat 0))]], [true], [.live ⟨2, [.num .i64], [], true, false⟩]⟩ => some (i == 3 && Nat.beq s.size 27, .exit 0, mk xRead [.v (S s), .ptr 0 0, .row 0] (MQ (six s)))
  | _, _ => none
noncomputable def ΛRead : LoopOrc := fun _ st => viaC 0 0 kRead GRead st
theorem loopOkRead (z : Base) (z1 : z.L.length = 0) (z2 : z.U.length = 0) : LoopOk ΛRead Try.prog z bodyRead := by
  refine loop_okC (Λ := L0) (kx := fun _ => xRead) OkP3 mixed z1 z2 (fun b hb => by rw [loopsRead0] at hb; cases hb) (G := GRead) (fun _ => rfl) ?_
  intro vals m e st' h
  unfold GRead at h
  split at h
  · rename_i s i
    obtain ⟨h1, rfl, rfl⟩ := some_t2 h
    simp only [Bool.and_eq_true, beq_iff_eq] at h1
    obtain ⟨rfl, h1⟩ := h1
    have hs : s.size = 27 := Nat.eq_of_beq_eq_true h1
    refine ⟨7, ?_⟩
    refine (nextRead (i := 3) 6 (by omega) (by omega) (by simp)).trans ?_
    refine (nextRead (i := 7) 5 (by omega) (by omega) (by simp)).trans ?_
    refine (nextRead (i := 11) 4 (by omega) (by omega) (by simp)).trans ?_
    refine (nextRead (i := 15) 3 (by omega) (by omega) (by simp)).trans ?_
    refine (nextRead (i := 19) 2 (by omega) (by omega) (by simp)).trans ?_
    refine (nextRead (i := 23) 1 (by omega) (by omega) (by simp)).trans ?_
    exact stepRead s (six s) 0 27
  · cases h
theorem runRNRead (s : ByteArray) : runG ΓP3 ΛRead Try.prog Try.f19 [.v (S s)] M0 = bif decide ((s.size : Int) < 27) then some (.v (.tuple #[.agg #[I 0, I 0, I 0, I 0, I 0, I 0, I 0, I 0], I 5]), M0) else (bif decide ((s.size : Int) > 27) then some (.v (.tuple #[.agg #[I 0, I 0, I 0, I 0, I 0, I 0, I 0, I 0], I 3]), M0) else
    (bif (3 : Int) == 3 && Nat.beq s.size 27 then (bif decide ((0 : Int) ≤ 0) && decide (0 < (s.size : Int)) then (bif decide ((0 : Int) ≤ 1) && decide (1 < (s.size : Int)) then (bif decide ((0 : Int) ≤ 2) && decide (2 < (s.size : Int)) then
      some (.v (.tuple #[.agg #[I (wI (wI (wI (strAt s 0) * 256) + wI (strAt s 1))), I (wI (strAt s 2)), I (s32 s 3 7), I (s32 s 7 11), I (s32 s 11 15), I (s32 s 15 19), I (s32 s 19 23), I (s32 s 23 27)], I 0]), M0) else none) else none) else none) else none)) := by kernel_rfl
def gRNRead (vs : List Value) : Option (Bool × Value) :=
  match vs with
  | [.string s] => some (true, .tuple #[.agg #[I (rdA s), I (rdB s), I (rdC s 3 7), I (rdC s 7 11), I (rdC s 11 15), I (rdC s 15 19), I (rdC s 19 23), I (rdC s 23 27)], I (navE s)])
  | _ => none
theorem gRNRead_ok : ∀ vs r, gRNRead vs = some (true, r) → ∀ m, CallOk Try.prog 19 (vs.map .v) m (.v r) m := by
  intro vs r h
  unfold gRNRead at h
  split at h
  · rename_i s
    obtain ⟨h1, rfl⟩ := some_t h
    refine runV (vs := [S s]) (Λ := ΛRead) (m' := M0) OkP3 Try.func19 rfl (fun z z1 z2 => oneLoop (c := Try.f19.body.getD .skip) loopsRead (loopOkRead z z1 z2)) ?_
    refine (runRNRead s).trans ?_
    unfold rdA rdB rdC rd27 navE
    by_cases c1 : s.size < 27
    · simp only [decide_eq_true (show (s.size : Int) < 27 by omega), if_neg (show ¬ s.size = 27 by omega), if_pos c1]
      rfl
    by_cases c2 : s.size > 27
    · simp only [decide_eq_false (show ¬ (s.size : Int) < 27 by omega), decide_eq_true (show (s.size : Int) > 27 by omega), if_neg (show ¬ s.size = 27 by omega), if_neg c1, if_pos c2]
      rfl
    have c3 : s.size = 27 := by omega
    have ha : wI (wI (wI (strAt s 0) * 256) + wI (strAt s 1)) = wI ((numN (s.extract 0 2) : Nat) : Int) := by
      have r0 := strAt_range s 0
      have r1 := strAt_range s 1
      have hn := num2 (s := s) (i := 0) (by omega)
      rw [show (0 + 2 : Nat) = 2 from rfl, show (0 + 1 : Nat) = 1 from rfl, show ((1 : Nat) : Int) = 1 from rfl, show ((0 : Nat) : Int) = 0 from rfl] at hn
      rw [show ((0 : Nat) : Int) = 0 from rfl] at r0
      rw [show ((1 : Nat) : Int) = 1 from rfl] at r1
      rw [hn, wI_id (n := strAt s 0) (by omega), wI_id (n := strAt s 1) (by omega), wI_id (n := strAt s 0 * 256) (by omega)]
    rw [ha]
    simp only [if_pos c3, if_neg c1, if_neg c2]
    rw [c3]
    rfl
  · cases h
noncomputable def ΓP4 : Orc := addVal 19 gRNRead ΓP3
theorem OkP4 : ΓP4.Ok Try.prog := addVal_ok OkP3 gRNRead_ok
noncomputable def ΓNb : Orc := ΓP4
theorem OkNb : ΓNb.Ok Try.prog := OkP4
end Go.Proofs.Yteapngnpenmfaaa

namespace Go.Proofs.Yteapngnpenmfaaa
open Go Go.Proofs Go.Sx
set_option linter.unusedVariables false
/-! Frames printed, frames behind noise (as in the laws of frame). -/
theorem u8_toNat {x : Int} (h0 : 0 ≤ x) (h1 : x ≤ 255) : ((UInt8.ofNat (IntKind.u8.wrap x).toNat).toNat : Int) = x := by
  obtain ⟨n, rfl⟩ : ∃ n : Nat, x = (n : Int) := ⟨x.toNat, by omega⟩
  rw [wrap8, Int.toNat_natCast, UInt8.toNat_ofNat']
  omega
theorem prt_list (k : Int) (p : ByteArray) : L (prt k p) = 165 :: 90 :: UInt8.ofNat (IntKind.u8.wrap k).toNat :: UInt8.ofNat (IntKind.u8.wrap (p.size : Int)).toNat :: (L p ++ L (sumT (bodyT k p))) := by
  unfold prt
  rw [L_app, L_app]
  have : L (bodyT k p) = UInt8.ofNat (IntKind.u8.wrap k).toNat :: UInt8.ofNat (IntKind.u8.wrap (p.size : Int)).toNat :: L p := by
    unfold bodyT
    rw [L_app, L_nums]
    rfl
  rw [this]
  rfl
/-- What is printed is read as it was, whatever stands behind it. -/
theorem rd_prt {k : Int} {p : ByteArray} (h : rightB k p = true) (t : ByteArray) : rdE (prt k p ++ t) = 0 ∧ rdK (prt k p ++ t) = k ∧ rdP (prt k p ++ t) = p ∧ rdN (prt k p ++ t) = ((prt k p).size : Int) := by
  obtain ⟨hp, hk0, hk1⟩ := right_size h
  have hsz := prt_size k p
  have hall : (prt k p ++ t).size = (prt k p).size + t.size := ByteArray.size_append
  have hl := prt_list k p
  have at0 : strAt (prt k p ++ t) 0 = 165 := by
    have := strAt_L (prt k p ++ t) 0
    rw [L_app, hl] at this
    exact this
  have at1 : strAt (prt k p ++ t) 1 = 90 := by
    have := strAt_L (prt k p ++ t) 1
    rw [L_app, hl] at this
    exact this
  have at2 : strAt (prt k p ++ t) 2 = k := by
    have := strAt_L (prt k p ++ t) 2
    rw [L_app, hl] at this
    exact this.trans (u8_toNat hk0 hk1)
  have at3 : strAt (prt k p ++ t) 3 = (p.size : Int) := by
    have := strAt_L (prt k p ++ t) 3
    rw [L_app, hl] at this
    exact this.trans (u8_toNat (by omega) (by omega))
  have hn : lenN (prt k p ++ t) = ((6 + p.size : Nat) : Int) := by
    unfold lenN
    rw [at3]
    omega
  have hbad : badB (prt k p ++ t) = false := by
    unfold badB
    rw [at0, at1, at3]
    simp only [Bool.or_eq_false_iff, Bool.and_eq_false_iff, decide_eq_false_iff_not]
    refine ⟨.inr rfl, .inr rfl, .inr (by omega)⟩
  have hsh : shortB (prt k p ++ t) = false := by
    unfold shortB
    rw [hn]
    simp only [Bool.or_eq_false_iff, decide_eq_false_iff_not]
    omega
  have hpo : pOf (prt k p ++ t) = p := by
    rw [← L_inj]
    have : L (prt k p ++ t) = 165 :: 90 :: UInt8.ofNat (IntKind.u8.wrap k).toNat :: UInt8.ofNat (IntKind.u8.wrap (p.size : Int)).toNat :: ((L p ++ L (sumT (bodyT k p))) ++ L t) := by
      rw [L_app, hl]
      rfl
    rw [pOf_list (d := p.size) this hn, List.append_assoc, List.take_append_of_le_length (by rw [L_len]; omega), List.take_of_length_le (by rw [L_len]; omega)]
  have hko : kOf (prt k p ++ t) = k := at2
  have hok : okB (prt k p ++ t) = true := by
    unfold okB
    rw [hko, hpo, hn, ext_app0 (by omega), show ((6 + p.size : Nat) : Int).toNat = (prt k p).size by omega, ext_all, beq_S]
  have hE : rdE (prt k p ++ t) = 0 := by
    unfold rdE
    rw [hbad, hsh, hok]
    rfl
  obtain ⟨_, _, _, g1, g2, g3, _⟩ := rd_ok hE
  exact ⟨hE, g1.trans hko, g2.trans hpo, by rw [g3, hn]; omega⟩
theorem printB_of {k : Int} {p : ByteArray} (h : rightB k p = true) : printB k p = prt k p := by unfold printB; rw [h]; rfl
theorem printB_size (k : Int) (p : ByteArray) : (printB k p).size ≤ 70 := by
  unfold printB
  cases h : rightB k p with
  | false => exact Nat.zero_le _
  | true =>
    have := right_size h
    have := prt_size k p
    show (prt k p).size ≤ 70
    omega
/-! Frames in a slice. -/
def kD (c : List Dat) : Int := (c.headD (.n 0)).toI
def pD (c : List Dat) : ByteArray := (c.tail.headD (.n 0)).toS
def rightD (c : List Dat) : Bool := rightB (kD c) (pD c)
def prD (c : List Dat) : ByteArray := printB (kD c) (pD c)
def frB (c : List Dat) : Bool :=
  match c with
  | [.n _, .s _] => true
  | _ => false
theorem frB_is {c : List Dat} (h : frB c = true) : c = [.n (kD c), .s (pD c)] := by
  unfold frB at h
  split at h
  · rfl
  · cases h
def catD : List (List Dat) → ByteArray
  | [] => ⟨#[]⟩
  | c :: D => prD c ++ catD D
theorem prD_size (c : List Dat) : (prD c).size ≤ 70 := printB_size _ _
theorem catD_size : ∀ D : List (List Dat), (catD D).size ≤ 70 * D.length
  | [] => Nat.zero_le _
  | c :: D => by
    have := catD_size D
    have := prD_size c
    rw [catD, ByteArray.size_append, List.length_cons]; omega
/-- Frames one behind the other are all told. -/
theorem scan_cat : ∀ (D : List (List Dat)), D.all rightD = true → D.all frB = true → sF (catD D) = D ∧ sR (catD D) = ⟨#[]⟩ ∧ sD (catD D) = 0
  | [], _, _ => scan5 rd_nil
  | c :: D, hr, hf => by
    simp only [List.all_cons, Bool.and_eq_true] at hr hf
    obtain ⟨h1, h2, h3⟩ := scan_cat D hr.2 hf.2
    obtain ⟨e1, e2, e3, e4⟩ := rd_prt hr.1 (catD D)
    rw [catD, show prD c = prt (kD c) (pD c) from printB_of hr.1]
    obtain ⟨f1, f2, f3⟩ := scan0 e1
    have hx : (prt (kD c) (pD c) ++ catD D).extract (rdN (prt (kD c) (pD c) ++ catD D)).toNat (prt (kD c) (pD c) ++ catD D).size = catD D := by
      rw [e4, Int.toNat_natCast, ext_app (Nat.le_refl _), show (prt (kD c) (pD c)).extract (prt (kD c) (pD c)).size (prt (kD c) (pD c)).size = ⟨#[]⟩ from by rw [← L_inj, L_ext, Nat.sub_self, List.take_zero], nil_app]
    rw [hx] at f1 f2 f3
    rw [f1, f2, f3, h1, h2, h3]
    refine ⟨?_, rfl, rfl⟩
    unfold fr
    rw [e2, e3, ← frB_is hf.1]
/-! Noise. -/
def noA5 (s : ByteArray) : Bool := (L s).all fun b => b != 165
theorem beq_165 (a : UInt8) : ((a.toNat : Int) == 165) = !(a != 165) := by
  have := byte_eq a 165 (by omega)
  rw [show (165 : Int) = ((165 : Nat) : Int) from rfl, show (165 : UInt8) = UInt8.ofNat 165 from rfl, ← this, bne, Bool.not_not]
theorem scan_noise (t : ByteArray) : ∀ (n : Nat) (s : ByteArray), s.size = n → noA5 s = true → sF (s ++ t) = sF t ∧ sR (s ++ t) = sR t ∧ sD (s ++ t) = s.size + sD t
  | 0, s, hn, h => by
    have : s = ⟨#[]⟩ := by rw [← L_inj]; exact List.eq_nil_of_length_eq_zero (by rw [L_len]; omega)
    subst this
    rw [nil_app]
    exact ⟨rfl, rfl, (Nat.zero_add _).symm⟩
  | n + 1, s, hn, h => by
    have hl := L_len s
    match hL : L s, hl with
    | [], hl => simp at hl; omega
    | a :: r, hl =>
      have h' := h
      unfold noA5 at h'
      rw [hL, List.all_cons, Bool.and_eq_true] at h'
      have a0 : strAt (s ++ t) 0 = (a.toNat : Int) := by
        have := strAt_L (s ++ t) 0
        rw [L_app, hL] at this
        exact this
      have hz : (s ++ t).size = s.size + t.size := ByteArray.size_append
      have hb : badB (s ++ t) = true := by
        unfold badB
        rw [a0, bne, beq_165, h'.1, decide_eq_true (by omega)]
        rfl
      have hE : rdE (s ++ t) = 3 := by unfold rdE; rw [hb]; rfl
      obtain ⟨f1, f2, f3⟩ := scan1 (s := s ++ t) (by omega) (by omega)
      have hx : L (s.extract 1 s.size) = r := by
        rw [L_ext, hL]
        show r.take _ = r
        rw [List.take_of_length_le (by simp at hl; omega)]
      have hs1 := ext_size (s := s) (n := 1) (by omega)
      obtain ⟨g1, g2, g3⟩ := scan_noise t n (s.extract 1 s.size) (by omega) (by unfold noA5; rw [hx]; exact h'.2)
      rw [ext_app (show 1 ≤ s.size by omega)] at f1 f2 f3
      rw [g1] at f1
      rw [g2] at f2
      rw [g3] at f3
      refine ⟨f1, f2, by omega⟩
theorem a5Loop {α : Type} (s : ByteArray) (hl : s.size < 4611686018427387904) (E : Nat → Int → Option α) (X F : Option α)
    (hE : ∀ k i, E (k + 1) i = bif decide (i < (s.size : Int)) then (bif decide (0 ≤ i) && decide (i < (s.size : Int)) then (bif strAt s i == 165 then X else E k (wI (i + 1))) else none) else F) :
    ∀ (D : List UInt8) (i : Nat), (L s).drop i = D → i + D.length = s.size → E (D.length + 1) (i : Int) = (bif D.all (fun b => b != 165) then F else X) := by
  intro D
  induction D with
  | nil =>
    intro i hd hi
    have : i = s.size := by simpa using hi
    rw [List.length_nil, hE, decide_eq_false (by omega)]
    rfl
  | cons c D ih =>
    intro i hd hi
    simp only [List.length_cons] at hi
    have hc : (L s)[i]? = some c := by
      have := congrArg List.head? hd
      rwa [List.head?_drop] at this
    have hd' : (L s).drop (i + 1) = D := by rw [← List.drop_drop, hd]; rfl
    have ha : strAt s (i : Int) = (c.toNat : Int) := by rw [strAt_L, hc]; rfl
    rw [List.length_cons, hE, ha, beq_165, decide_eq_true (show (i : Int) < (s.size : Int) by omega), decide_eq_true (show 0 ≤ (i : Int) by omega), wI_id (by omega), show (i : Int) + 1 = ((i + 1 : Nat) : Int) by omega, ih (i + 1) hd' (by omega), List.all_cons]
    cases c != 165 <;> rfl
end Go.Proofs.Yteapngnpenmfaaa

namespace Go.Proofs.Yteapngnpenmfaaa
open Go Go.Proofs Go.Sx
noncomputable def Γx6 : Orc := exec Try.prog ΓJa.call ΓJa.rd ΓJa.eqv (fun _ => false) 30 3
theorem Okx6 : Γx6.Ok Try.prog := exec_ok mixed names (ext := ΓJa.call) (rd := ΓJa.rd) (eqv := ΓJa.eqv) ⟨OkJa.call, OkJa.rd, OkJa.eqv⟩ 30 3
set_option maxRecDepth 100000 in
theorem runAwake6 : runG Γx6 (loopX Γx6 Try.prog 30 2) Try.prog Try.f16 [] M0 = some (.v (Bo true), M0) := by kernel_rfl
def gAwake6 (vs : List Value) : Option (Bool × Value) :=
  match vs with
  | [] => some (true, Bo true)
  | _ => none
theorem gAwake6_ok : ∀ vs r, gAwake6 vs = some (true, r) → ∀ m, CallOk Try.prog 16 (vs.map .v) m (.v r) m := by
  intro vs r h
  unfold gAwake6 at h
  split at h
  · obtain ⟨_, rfl⟩ := some_t h
    exact runV (vs := []) Okx6 Try.func16 rfl (fun z _ _ b hb => loopX_ok Okx6 mixed 30 2 b) runAwake6
  · cases h
noncomputable def ΓN : Orc := addVal 16 gAwake6 ΓNb
theorem OkN : ΓN.Ok Try.prog := addVal_ok OkNb gAwake6_ok
end Go.Proofs.Yteapngnpenmfaaa

