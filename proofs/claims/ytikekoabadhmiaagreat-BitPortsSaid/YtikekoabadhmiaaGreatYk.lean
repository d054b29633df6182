/-
  Sums, numbers as bytes, rules as bytes, and the document's; their law package's own.
-/
import Derived.Test.YtikekoabadhmiaaGreatYc
import Derived.Laws.Strings
import Derived.Test.YtikekoabadhmiaaGreatSx
namespace Go.Proofs.YtikekoabadhmiaaGreat
open Go Go.Proofs Go.Sx
/-! One step of a sum, and eight. -/
def n16 (n : Nat) : Nat := bif Nat.ble 32768 n then Nat.xor (2 * n % 65536) 4129 else 2 * n % 65536
def n32 (n : Nat) : Nat := bif Nat.beq (n % 2) 1 then Nat.xor (n / 2) 3988292384 else n / 2
def it (f : Nat → Nat) : Nat → Nat → Nat
  | 0, n => n
  | k + 1, n => it f k (f n)
def N16 (n : Nat) : Nat := it n16 8 n
def N32 (n : Nat) : Nat := it n32 8 n

theorem xor_lt {a b : Nat} (k : Nat) (ha : a < 2 ^ k) (hb : b < 2 ^ k) : Nat.xor a b < 2 ^ k := Nat.xor_lt_two_pow ha hb
theorem n16_lt (n : Nat) : n16 n < 65536 := by
  unfold n16
  cases Nat.ble 32768 n
  · exact Nat.mod_lt _ (by decide)
  · exact xor_lt 16 (Nat.mod_lt _ (by decide)) (by decide)
theorem n32_lt {n : Nat} (h : n < 4294967296) : n32 n < 4294967296 := by
  unfold n32
  cases Nat.beq (n % 2) 1
  · show n / 2 < _; omega
  · exact xor_lt 32 (by have : (2:Nat) ^ 32 = 4294967296 := by decide
                        omega) (by decide)
theorem it_lt {f : Nat → Nat} {m : Nat} (hf : ∀ n, n < m → f n < m) : ∀ (k n : Nat), n < m → it f k n < m
  | 0, _, h => h
  | k + 1, n, h => it_lt hf k (f n) (hf n h)
theorem N16_lt {n : Nat} (h : n < 65536) : N16 n < 65536 := it_lt (fun n _ => n16_lt n) 8 n h
theorem N32_lt {n : Nat} (h : n < 4294967296) : N32 n < 4294967296 := it_lt (fun _ => n32_lt) 8 n h

theorem wrap16 (n : Nat) : IntKind.u16.wrap (n : Int) = ((n % 65536 : Nat) : Int) := by
  rw [← wr_eq true]; simp only [wr]; omega
theorem wrap32 (n : Nat) : IntKind.u32.wrap (n : Int) = ((n % 4294967296 : Nat) : Int) := by
  rw [← wr_eq true]; simp only [wr]; omega
theorem xorB (w a b : Nat) (ha : a < 2 ^ w) (hb : b < 2 ^ w) : (((BitVec.ofInt w (a : Int) ^^^ BitVec.ofInt w (b : Int)).toNat : Nat) : Int) = ((Nat.xor a b : Nat) : Int) := by
  rw [BitVec.toNat_xor, BitVec.ofInt_natCast, BitVec.ofInt_natCast, BitVec.toNat_ofNat, BitVec.toNat_ofNat, Nat.mod_eq_of_lt ha, Nat.mod_eq_of_lt hb]
  rfl
theorem andB (w a b : Nat) (ha : a < 2 ^ w) (hb : b < 2 ^ w) : (((BitVec.ofInt w (a : Int) &&& BitVec.ofInt w (b : Int)).toNat : Nat) : Int) = ((Nat.land a b : Nat) : Int) := by
  rw [BitVec.toNat_and, BitVec.ofInt_natCast, BitVec.ofInt_natCast, BitVec.toNat_ofNat, BitVec.toNat_ofNat, Nat.mod_eq_of_lt ha, Nat.mod_eq_of_lt hb]
  rfl

/-- What eight rounds come to. -/
theorem eight {α : Type} (E : Nat → Int → Int → Option α) (F : Int → Option α) (c : Int → Bool) (A B : Int → Int) (f : Nat → Nat) (m : Nat) (hf : ∀ n, n < m → f n < m) (hc : ∀ n : Nat, n < m → (bif c (n : Int) then A (n : Int) else B (n : Int)) = ((f n : Nat) : Int))
    (hE : ∀ k x i, E (k + 1) x i = bif decide (i < (8 : Int)) then (bif c x then E k (A x) (wI (i + 1)) else E k (B x) (wI (i + 1))) else F x) :
    ∀ (j n : Nat), j ≤ 8 → n < m → E (j + 1) (n : Int) ((8 - j : Nat) : Int) = F ((it f j n : Nat) : Int) := by
  intro j
  induction j with
  | zero =>
    intro n _ _
    rw [hE]
    rfl
  | succ j ih =>
    intro n hj hn
    rw [hE, show decide (((8 - (j + 1) : Nat) : Int) < 8) = true from decide_eq_true (by omega), wI_id (by omega), show ((8 - (j + 1) : Nat) : Int) + 1 = ((8 - j : Nat) : Int) by omega]
    have hx := hc n hn
    have h2 : (bif c (n : Int) then E (j + 1) (A n) ((8 - j : Nat) : Int) else E (j + 1) (B n) ((8 - j : Nat) : Int)) = E (j + 1) (bif c (n : Int) then A (n : Int) else B (n : Int)) ((8 - j : Nat) : Int) := by
      cases c (n : Int) <;> rfl
    rw [cond_true, h2, hx, ih (f n) (by omega) (hf n hn)]
    rfl

def a16 (x : Int) : Int := IntKind.u16.wrap (((BitVec.ofInt 16 (IntKind.u16.wrap (x * 2 ^ min (Int.toNat 1) 16)) ^^^ BitVec.ofInt 16 4129).toNat : Nat) : Int)
def b16 (x : Int) : Int := IntKind.u16.wrap (x * 2 ^ min (Int.toNat 1) 16)
theorem step_n16 (n : Nat) (_ : n < 65536) : (bif decide ((n : Int) ≥ 32768) then a16 n else b16 n) = ((n16 n : Nat) : Int) := by
  have e : (n : Int) * 2 ^ min (Int.toNat 1) 16 = ((2 * n : Nat) : Int) := by
    rw [show min (Int.toNat 1) 16 = 1 from rfl]; omega
  unfold a16 b16 n16
  rw [e, wrap16 (2 * n), show (4129 : Int) = ((4129 : Nat) : Int) from rfl, xorB 16 _ _ (Nat.mod_lt _ (by decide)) (by decide), wrap16]
  by_cases h : 32768 ≤ n
  · rw [decide_eq_true (by omega), show Nat.ble 32768 n = true from by rw [Nat.ble_eq]; exact h]
    simp only [cond_true]
    rw [Nat.mod_eq_of_lt (xor_lt 16 (Nat.mod_lt _ (by decide)) (by decide))]
  · rw [decide_eq_false (by omega), show Nat.ble 32768 n = false from by rw [← Bool.not_eq_true, Nat.ble_eq]; exact h]
    rfl
def c32 (x : Int) : Bool := IntKind.u32.wrap (((BitVec.ofInt 32 x &&& BitVec.ofInt 32 1).toNat : Nat) : Int) == 1
def a32 (x : Int) : Int := IntKind.u32.wrap (((BitVec.ofInt 32 (Int.fdiv x (2 ^ min (Int.toNat 1) 32)) ^^^ BitVec.ofInt 32 3988292384).toNat : Nat) : Int)
def b32 (x : Int) : Int := Int.fdiv x (2 ^ min (Int.toNat 1) 32)
theorem two32 : (2 : Nat) ^ 32 = 4294967296 := by decide
theorem step_n32 (n : Nat) (h : n < 4294967296) : (bif c32 n then a32 n else b32 n) = ((n32 n : Nat) : Int) := by
  have e : Int.fdiv (n : Int) (2 ^ min (Int.toNat 1) 32) = ((n / 2 : Nat) : Int) := by
    rw [show min (Int.toNat 1) 32 = 1 from rfl, Int.fdiv_eq_ediv_of_nonneg _ (by decide)]; omega
  unfold c32 a32 b32 n32
  rw [e, show (3988292384 : Int) = ((3988292384 : Nat) : Int) from rfl, show (1 : Int) = ((1 : Nat) : Int) from rfl, andB 32 _ _ (by rw [two32]; exact h) (by decide), xorB 32 _ _ (by rw [two32]; omega) (by decide), wrap32, wrap32]
  have e2 : Nat.land n 1 = n % 2 := Nat.and_one_is_mod n
  rw [e2]
  rcases Nat.mod_two_eq_zero_or_one n with h0 | h0
  · rw [h0]; rfl
  · rw [h0, Nat.mod_eq_of_lt (xor_lt 32 (by rw [two32]; omega) (by decide))]; rfl
def d32 (x : Int) : Bool := Int.tmod x 2 == 1
def g32 (x : Int) : Int := IntKind.u32.wrap (((BitVec.ofInt 32 (IntKind.u32.wrap (Int.tdiv x 2)) ^^^ BitVec.ofInt 32 3988292384).toNat : Nat) : Int)
def h32 (x : Int) : Int := IntKind.u32.wrap (Int.tdiv x 2)
theorem step_r32 (n : Nat) (h : n < 4294967296) : (bif d32 n then g32 n else h32 n) = ((n32 n : Nat) : Int) := by
  have e : Int.tdiv (n : Int) 2 = ((n / 2 : Nat) : Int) := by
    rw [Int.tdiv_eq_ediv_of_nonneg (by omega)]; omega
  have e1 : Int.tmod (n : Int) 2 = ((n % 2 : Nat) : Int) := by
    rw [Int.tmod_eq_emod_of_nonneg (by omega)]; omega
  unfold d32 g32 h32 n32
  rw [e, e1, wrap32 (n / 2), Nat.mod_eq_of_lt (show n / 2 < 4294967296 by omega), show (3988292384 : Int) = ((3988292384 : Nat) : Int) from rfl, xorB 32 _ _ (by rw [two32]; omega) (by decide), wrap32]
  rcases Nat.mod_two_eq_zero_or_one n with h0 | h0
  · rw [h0]; rfl
  · rw [h0, Nat.mod_eq_of_lt (xor_lt 32 (by rw [two32]; omega) (by decide))]; rfl

/-! Sums of texts. -/
def p16 (x : Nat) (b : UInt8) : Nat := N16 (Nat.xor x (b.toNat * 256))
def p32 (x : Nat) (b : UInt8) : Nat := N32 (Nat.xor x b.toNat)
theorem byte_lt (b : UInt8) : b.toNat < 256 := b.toNat_lt
theorem p16_lt {x : Nat} (b : UInt8) (h : x < 65536) : p16 x b < 65536 :=
  N16_lt (xor_lt 16 h (by have := byte_lt b; show _ < 65536; omega))
theorem p32_lt {x : Nat} (b : UInt8) (h : x < 4294967296) : p32 x b < 4294967296 :=
  N32_lt (xor_lt 32 h (by have := byte_lt b; rw [two32]; omega))
def R16 (x : Int) (s : ByteArray) : Int := ((s.data.toList.foldl p16 x.toNat : Nat) : Int)
def F32 (s : ByteArray) : Nat := s.data.toList.foldl p32 4294967295
theorem fold_lt {α : Type} {f : Nat → α → Nat} {m : Nat} (hf : ∀ n b, n < m → f n b < m) : ∀ (l : List α) (n : Nat), n < m → l.foldl f n < m
  | [], _, h => h
  | b :: l, n, h => fold_lt hf l _ (hf n b h)

theorem strAt_some {s : ByteArray} {k : Nat} {b : UInt8} (h : s.data[k]? = some b) : strAt s (k : Int) = (b.toNat : Int) := by
  unfold strAt
  have : s[(k : Int).toNat]? = some b := by
    rw [Int.toNat_natCast]
    have hk : k < s.size := by
      have := (Array.getElem?_eq_some_iff.1 h).1
      exact this
    rw [getElem?_pos s k hk]
    have h2 := (Array.getElem?_eq_some_iff.1 h).2
    rw [← h2]
    rfl
  rw [this]

/-- A loop over a text's bytes. -/
theorem overS {α : Type} (s : ByteArray) (hs : s.size ≤ 9223372036854775807) (E : Nat → Int → Int → Option α) (F : Int → Option α) (g : Int → Int → Bool) (A : Int → Int → Int) (f : Nat → UInt8 → Nat) (m : Nat) (hf : ∀ n b, n < m → f n b < m)
    (hg : ∀ (n k : Nat) b, n < m → s.data[k]? = some b → g n k = true ∧ A n k = ((f n b : Nat) : Int))
    (hE : ∀ k x i, E (k + 1) x i = bif decide (i < (s.size : Int)) then (bif decide (0 ≤ i) && decide (i < (s.size : Int)) then (bif g x i then E k (A x i) (wI (i + 1)) else none) else none) else F x) :
    ∀ (j k n : Nat), k + j = s.size → n < m → E (j + 1) (n : Int) (k : Int) = F (((s.data.toList.drop k).foldl f n : Nat) : Int) := by
  intro j
  induction j with
  | zero =>
    intro k n hk _
    rw [hE, show decide ((k : Int) < (s.size : Int)) = false from decide_eq_false (by omega)]
    rw [List.drop_eq_nil_of_le (by simp; omega)]
    rfl
  | succ j ih =>
    intro k n hk hn
    have hlt : k < s.data.size := by show k < s.size; omega
    obtain ⟨b, hb⟩ : ∃ b, s.data[k]? = some b := ⟨s.data[k], by simp⟩
    obtain ⟨h1, h2⟩ := hg n k b hn hb
    rw [hE, show decide ((k : Int) < (s.size : Int)) = true from decide_eq_true (by omega), show decide ((0 : Int) ≤ (k : Int)) = true from decide_eq_true (by omega), wI_id (by omega), h1, h2]
    simp only [cond_true, Bool.and_self]
    rw [show (k : Int) + 1 = ((k + 1 : Nat) : Int) by omega, ih (k + 1) _ (by omega) (hf n b hn)]
    have e2 : s.data.toList.drop k = b :: s.data.toList.drop (k + 1) := by
      rw [List.drop_eq_getElem_cons (by simpa using hlt)]
      have := (Array.getElem?_eq_some_iff.1 hb).2
      simp [this]
    rw [e2, List.foldl_cons]

def q16 (s : ByteArray) (x i : Int) : Int := IntKind.u16.wrap (((BitVec.ofInt 16 x ^^^ BitVec.ofInt 16 (IntKind.u16.wrap (IntKind.u16.wrap (strAt s i) * 2 ^ min (Int.toNat 8) 16))).toNat : Nat) : Int)
def q32 (s : ByteArray) (x i : Int) : Int := IntKind.u32.wrap (((BitVec.ofInt 32 x ^^^ BitVec.ofInt 32 (IntKind.u32.wrap (strAt s i))).toNat : Nat) : Int)
theorem q16_nat {s : ByteArray} {n k : Nat} {b : UInt8} (hn : n < 65536) (hb : s.data[k]? = some b) : q16 s n k = ((Nat.xor n (b.toNat * 256) : Nat) : Int) := by
  have h := byte_lt b
  unfold q16
  rw [strAt_some hb, wrap16 b.toNat, Nat.mod_eq_of_lt (show b.toNat < 65536 by omega)]
  have e : ((b.toNat : Nat) : Int) * 2 ^ min (Int.toNat 8) 16 = ((b.toNat * 256 : Nat) : Int) := by
    rw [show min (Int.toNat 8) 16 = 8 from rfl]; omega
  rw [e, wrap16 (b.toNat * 256), Nat.mod_eq_of_lt (show b.toNat * 256 < 65536 by omega), xorB 16 _ _ hn (by show _ < 65536; omega), wrap16, Nat.mod_eq_of_lt (xor_lt 16 hn (by show _ < 65536; omega))]
theorem q32_nat {s : ByteArray} {n k : Nat} {b : UInt8} (hn : n < 4294967296) (hb : s.data[k]? = some b) : q32 s n k = ((Nat.xor n b.toNat : Nat) : Int) := by
  have h := byte_lt b
  unfold q32
  rw [strAt_some hb, wrap32 b.toNat, Nat.mod_eq_of_lt (show b.toNat < 4294967296 by omega)]
  rw [xorB 32 _ _ (by rw [two32]; exact hn) (by rw [two32]; omega), wrap32, Nat.mod_eq_of_lt (xor_lt 32 (by rw [two32]; exact hn) (by rw [two32]; omega))]


/-- From 0 to below m: said so that it stands still at once where the number isn't known. -/
def inN (m : Nat) (x : Int) : Bool :=
  match x with
  | .ofNat n => Nat.ble (n + 1) m
  | .negSucc _ => false
theorem inN_nat {m : Nat} {x : Int} (h : inN m x = true) : ∃ n : Nat, x = (n : Int) ∧ n < m := by
  cases x with
  | ofNat n => exact ⟨n, rfl, Nat.le_of_ble_eq_true h⟩
  | negSucc n => cases h
theorem inN_of {m n : Nat} (h : n < m) : inN m (n : Int) = true := Nat.ble_eq_true_of_le h
def in16 (x : Int) : Bool := inN 65536 x
def in32 (x : Int) : Bool := inN 4294967296 x
def S16 (x : Int) : Int := ((N16 x.toNat : Nat) : Int)
def S32 (x : Int) : Int := ((N32 x.toNat : Nat) : Int)
theorem in16_nat {x : Int} (h : in16 x = true) : ∃ n : Nat, x = (n : Int) ∧ n < 65536 := inN_nat h
theorem in32_nat {x : Int} (h : in32 x = true) : ∃ n : Nat, x = (n : Int) ∧ n < 4294967296 := inN_nat h
def R32 (x : Int) (s : ByteArray) : Int := ((s.data.toList.foldl p32 x.toNat : Nat) : Int)
def sum32 (s : ByteArray) : Int := ((Nat.xor (F32 s) 4294967295 : Nat) : Int)
def fin32 (s : ByteArray) : Int := IntKind.u32.wrap (((BitVec.ofInt 32 (R32 4294967295 s) ^^^ BitVec.ofInt 32 4294967295).toNat : Nat) : Int)
theorem F32_lt (s : ByteArray) : F32 s < 4294967296 := fold_lt (fun _ b => p32_lt b) _ _ (by decide)
theorem fin32_eq (s : ByteArray) : fin32 s = sum32 s := by
  have h := F32_lt s
  unfold fin32 sum32
  have e : R32 4294967295 s = ((F32 s : Nat) : Int) := rfl
  rw [e, show (4294967295 : Int) = ((4294967295 : Nat) : Int) from rfl, xorB 32 _ _ (by rw [two32]; exact h) (by decide), wrap32, Nat.mod_eq_of_lt (xor_lt 32 (by rw [two32]; exact h) (by decide))]
def szS (s : ByteArray) : Bool := Nat.ble s.size 9223372036854775807
theorem gs16 (s : ByteArray) (n k : Nat) (b : UInt8) (hn : n < 65536) (hb : s.data[k]? = some b) : in16 (q16 s n k) = true ∧ S16 (q16 s n k) = ((p16 n b : Nat) : Int) := by
  rw [q16_nat hn hb]
  exact ⟨inN_of (xor_lt 16 hn (by have := byte_lt b; show _ < 65536; omega)), rfl⟩
theorem gs32 (s : ByteArray) (n k : Nat) (b : UInt8) (hn : n < 4294967296) (hb : s.data[k]? = some b) : in32 (q32 s n k) = true ∧ S32 (q32 s n k) = ((p32 n b : Nat) : Int) := by
  rw [q32_nat hn hb]
  exact ⟨inN_of (xor_lt 32 (by rw [two32]; exact hn) (by have := byte_lt b; rw [two32]; omega)), rfl⟩

def kEight16 : List Bool := maskOf 15 [0, 4]
def xEight16 : List Bool := maskOf 15 [0]
noncomputable def bodyEight16 : Code := loopAt (Tryz.f64.body.getD .skip) 0
theorem loopsEight16 : loopsOf (Tryz.f64.body.getD .skip) = [bodyEight16] := by kernel_rfl
theorem loopsEight160 : loopsOf bodyEight16 = [] := by kernel_rfl
def EEight16 (e : Ex) (st : St) : Option (Ex × St) := some (e, cutC 0 0 xEight16 st)
theorem stepEight16 (k : Nat) (x i : Int) : evLoop ΓA13 Tryz.prog L0 (cutC 0 0 kEight16) bodyEight16 (k + 1) (mk kEight16 [.v (U16 x), .v (I i)] M0) EEight16 =
    bif decide (i < 8) then (bif decide (x ≥ 32768) then evLoop ΓA13 Tryz.prog L0 (cutC 0 0 kEight16) bodyEight16 k (mk kEight16 [.v (U16 (a16 x)), .v (I (wI (i + 1)))] M0) EEight16 else evLoop ΓA13 Tryz.prog L0 (cutC 0 0 kEight16) bodyEight16 k (mk kEight16 [.v (U16 (b16 x)), .v (I (wI (i + 1)))] M0) EEight16)
    else some (.exit 0, mk xEight16 [.v (U16 x)] M0) := by kernel_rfl
def GEight16 (vals : List SV) (m : Mem) : Option (Bool × Ex × St) :=
  match vals, m with
  | [.v (.int .u16 x), .v (.int .i64 i)], ⟨[], [], []⟩ => some (i == 0 && in16 x, .exit 0, mk xEight16 [.v (U16 (S16 x))] M0)
  | _, _ => none
noncomputable def ΛEight16 : LoopOrc := fun _ st => viaC 0 0 kEight16 GEight16 st
theorem loopOkEight16 (z : Base) (z1 : z.L.length = 0) (z2 : z.U.length = 0) : LoopOk ΛEight16 Tryz.prog z bodyEight16 := by
  refine loop_okC (Λ := L0) (kx := fun _ => xEight16) OkA13 mixed z1 z2 (fun b hb => by rw [loopsEight160] at hb; cases hb) (G := GEight16) (fun _ => rfl) ?_
  intro vals m e st' h
  unfold GEight16 at h
  split at h
  · rename_i x i
    obtain ⟨h1, rfl, rfl⟩ := some_t2 h
    simp only [Bool.and_eq_true, beq_iff_eq] at h1
    obtain ⟨rfl, h1⟩ := h1
    obtain ⟨n, rfl, hn⟩ := in16_nat h1
    exact ⟨9, eight (fun k x i => evLoop ΓA13 Tryz.prog L0 (cutC 0 0 kEight16) bodyEight16 k (mk kEight16 [.v (U16 x), .v (I i)] M0) EEight16) (fun x => some (.exit 0, mk xEight16 [.v (U16 x)] M0)) (fun x => decide (x ≥ 32768)) a16 b16 n16 65536 (fun n _ => n16_lt n) step_n16 stepEight16 8 n (Nat.le_refl 8) hn⟩
  · cases h
theorem runEight16 (x : Int) : runG ΓA13 ΛEight16 Tryz.prog Tryz.f64 [.v (U16 x)] M0 = bif (0 : Int) == 0 && in16 x then some (.v (U16 (S16 x)), M0) else none := by kernel_rfl
def gEight16 (vs : List Value) : Option (Bool × Value) :=
  match vs with
  | [.int .u16 x] => some (in16 x, U16 (S16 x))
  | _ => none
theorem gEight16_ok : ∀ vs r, gEight16 vs = some (true, r) → ∀ m, CallOk Tryz.prog 64 (vs.map .v) m (.v r) m := by
  intro vs r h
  unfold gEight16 at h
  split at h
  · rename_i x
    obtain ⟨h1, rfl⟩ := some_t h
    refine runV (vs := [U16 x]) (Λ := ΛEight16) (m' := M0) OkA13 Tryz.func64 rfl (fun z z1 z2 => oneLoop (c := Tryz.f64.body.getD .skip) loopsEight16 (loopOkEight16 z z1 z2)) ?_
    exact (runEight16 x).trans (by rw [h1]; rfl)
  · cases h
noncomputable def ΓK1 : Orc := addVal 64 gEight16 ΓA13
theorem OkK1 : ΓK1.Ok Tryz.prog := addVal_ok OkA13 gEight16_ok
noncomputable def ΓK2 : Orc := ΓK1
theorem OkK2 : ΓK2.Ok Tryz.prog := OkK1
def kMore16 : List Bool := maskOf 21 [0, 1, 7, 8]
def xMore16 : List Bool := maskOf 21 [0]
noncomputable def bodyMore16 : Code := loopAt (Tryz.f45.body.getD .skip) 0
theorem loopsMore16 : loopsOf (Tryz.f45.body.getD .skip) = [bodyMore16] := by kernel_rfl
theorem loopsMore160 : loopsOf bodyMore16 = [] := by kernel_rfl
def EMore16 (e : Ex) (st : St) : Option (Ex × St) := some (e, cutC 0 0 xMore16 st)
def HMore16 (s : ByteArray) (x i : Int) : St := mk kMore16 [.v (U16 x), .v (S s), .v (I (s.size : Int)), .v (I i)] M0
theorem stepMore16 (s : ByteArray) (k : Nat) (x i : Int) : evLoop ΓK2 Tryz.prog L0 (cutC 0 0 kMore16) bodyMore16 (k + 1) (HMore16 s x i) EMore16 =
    bif decide (i < (s.size : Int)) then (bif decide (0 ≤ i) && decide (i < (s.size : Int)) then (bif in16 (q16 s x i) then evLoop ΓK2 Tryz.prog L0 (cutC 0 0 kMore16) bodyMore16 k (HMore16 s (S16 (q16 s x i)) (wI (i + 1))) EMore16 else none) else none)
    else some (.exit 0, mk xMore16 [.v (U16 x)] M0) := by kernel_rfl
def GMore16 (vals : List SV) (m : Mem) : Option (Bool × Ex × St) :=
  match vals, m with
  | [.v (.int .u16 x), .v (.string s), .v (.int .i64 n), .v (.int .i64 i)], ⟨[], [], []⟩ => some (n == (s.size : Int) && (i == 0 && (in16 x && szS s)), .exit 0, mk xMore16 [.v (U16 (R16 x s))] M0)
  | _, _ => none
noncomputable def ΛMore16 : LoopOrc := fun _ st => viaC 0 0 kMore16 GMore16 st
theorem loopOkMore16 (z : Base) (z1 : z.L.length = 0) (z2 : z.U.length = 0) : LoopOk ΛMore16 Tryz.prog z bodyMore16 := by
  refine loop_okC (Λ := L0) (kx := fun _ => xMore16) OkK2 mixed z1 z2 (fun b hb => by rw [loopsMore160] at hb; cases hb) (G := GMore16) (fun _ => rfl) ?_
  intro vals m e st' h
  unfold GMore16 at h
  split at h
  · rename_i x s n i
    obtain ⟨h1, rfl, rfl⟩ := some_t2 h
    simp only [Bool.and_eq_true, beq_iff_eq] at h1
    obtain ⟨rfl, rfl, h1, h4⟩ := h1
    obtain ⟨n, rfl, hn⟩ := in16_nat h1
    exact ⟨s.size + 1, overS s (Nat.le_of_ble_eq_true h4) (fun k x i => evLoop ΓK2 Tryz.prog L0 (cutC 0 0 kMore16) bodyMore16 k (HMore16 s x i) EMore16) (fun x => some (.exit 0, mk xMore16 [.v (U16 x)] M0)) (fun x i => in16 (q16 s x i)) (fun x i => S16 (q16 s x i)) p16 65536 (fun n b => p16_lt b) (gs16 s) (stepMore16 s) s.size 0 n (by omega) hn⟩
  · cases h
theorem runMore16 (x : Int) (s : ByteArray) : runG ΓK2 ΛMore16 Tryz.prog Tryz.f45 [.v (U16 x), .v (S s)] M0 = bif (s.size : Int) == (s.size : Int) && ((0 : Int) == 0 && (in16 x && szS s)) then some (.v (U16 (R16 x s)), M0) else none := by kernel_rfl
def gMore16 (vs : List Value) : Option (Bool × Value) :=
  match vs with
  | [.int .u16 x, .string s] => some (in16 x && szS s, (U16 (R16 x s)))
  | _ => none
theorem gMore16_ok : ∀ vs r, gMore16 vs = some (true, r) → ∀ m, CallOk Tryz.prog 45 (vs.map .v) m (.v r) m := by
  intro vs r h
  unfold gMore16 at h
  split at h
  · rename_i x s
    obtain ⟨h1, rfl⟩ := some_t h
    refine runV (vs := [U16 x, S s]) (Λ := ΛMore16) (m' := M0) OkK2 Tryz.func45 rfl (fun z z1 z2 => oneLoop (c := Tryz.f45.body.getD .skip) loopsMore16 (loopOkMore16 z z1 z2)) ?_
    exact (runMore16 x s).trans (by rw [h1, beq_self_eq_true]; rfl)
  · cases h
noncomputable def ΓK3 : Orc := addVal 45 gMore16 ΓK2
theorem OkK3 : ΓK3.Ok Tryz.prog := addVal_ok OkK2 gMore16_ok
noncomputable def ΓK4 : Orc := ΓK3
theorem OkK4 : ΓK4.Ok Tryz.prog := OkK3
theorem runSum16 (s : ByteArray) : runG ΓK4 L0 Tryz.prog Tryz.f30 [.v (S s)] M0 = bif in16 65535 && szS s then some (.v (U16 (R16 65535 s)), M0) else none := by kernel_rfl
def gSum16 (vs : List Value) : Option (Bool × Value) :=
  match vs with
  | [.string s] => some (szS s, U16 (R16 65535 s))
  | _ => none
theorem gSum16_ok : ∀ vs r, gSum16 vs = some (true, r) → ∀ m, CallOk Tryz.prog 30 (vs.map .v) m (.v r) m := by
  intro vs r h
  unfold gSum16 at h
  split at h
  · rename_i s
    obtain ⟨h1, rfl⟩ := some_t h
    refine runV (vs := [S s]) (Λ := L0) (m' := M0) OkK4 Tryz.func30 rfl (fun z _ _ => noLoops (by kernel_rfl) z) ?_
    exact (runSum16 s).trans (by rw [h1]; rfl)
  · cases h
noncomputable def ΓK5 : Orc := addVal 30 gSum16 ΓK4
theorem OkK5 : ΓK5.Ok Tryz.prog := addVal_ok OkK4 gSum16_ok
def kEight32 : List Bool := maskOf 16 [0, 4]
def xEight32 : List Bool := maskOf 16 [0]
noncomputable def bodyEight32 : Code := loopAt (Tryz.f46.body.getD .skip) 0
theorem loopsEight32 : loopsOf (Tryz.f46.body.getD .skip) = [bodyEight32] := by kernel_rfl
theorem loopsEight320 : loopsOf bodyEight32 = [] := by kernel_rfl
def EEight32 (e : Ex) (st : St) : Option (Ex × St) := some (e, cutC 0 0 xEight32 st)
theorem stepEight32 (k : Nat) (x i : Int) : evLoop ΓK5 Tryz.prog L0 (cutC 0 0 kEight32) bodyEight32 (k + 1) (mk kEight32 [.v (U32 x), .v (I i)] M0) EEight32 =
    bif decide (i < 8) then (bif c32 x then evLoop ΓK5 Tryz.prog L0 (cutC 0 0 kEight32) bodyEight32 k (mk kEight32 [.v (U32 (a32 x)), .v (I (wI (i + 1)))] M0) EEight32 else evLoop ΓK5 Tryz.prog L0 (cutC 0 0 kEight32) bodyEight32 k (mk kEight32 [.v (U32 (b32 x)), .v (I (wI (i + 1)))] M0) EEight32)
    else some (.exit 0, mk xEight32 [.v (U32 x)] M0) := by kernel_rfl
def GEight32 (vals : List SV) (m : Mem) : Option (Bool × Ex × St) :=
  match vals, m with
  | [.v (.int .u32 x), .v (.int .i64 i)], ⟨[], [], []⟩ => some (i == 0 && in32 x, .exit 0, mk xEight32 [.v (U32 (S32 x))] M0)
  | _, _ => none
noncomputable def ΛEight32 : LoopOrc := fun _ st => viaC 0 0 kEight32 GEight32 st
theorem loopOkEight32 (z : Base) (z1 : z.L.length = 0) (z2 : z.U.length = 0) : LoopOk ΛEight32 Tryz.prog z bodyEight32 := by
  refine loop_okC (Λ := L0) (kx := fun _ => xEight32) OkK5 mixed z1 z2 (fun b hb => by rw [loopsEight320] at hb; cases hb) (G := GEight32) (fun _ => rfl) ?_
  intro vals m e st' h
  unfold GEight32 at h
  split at h
  · rename_i x i
    obtain ⟨h1, rfl, rfl⟩ := some_t2 h
    simp only [Bool.and_eq_true, beq_iff_eq] at h1
    obtain ⟨rfl, h1⟩ := h1
    obtain ⟨n, rfl, hn⟩ := in32_nat h1
    exact ⟨9, eight (fun k x i => evLoop ΓK5 Tryz.prog L0 (cutC 0 0 kEight32) bodyEight32 k (mk kEight32 [.v (U32 x), .v (I i)] M0) EEight32) (fun x => some (.exit 0, mk xEight32 [.v (U32 x)] M0)) (fun x => c32 x) a32 b32 n32 4294967296 (fun n => n32_lt) step_n32 stepEight32 8 n (Nat.le_refl 8) hn⟩
  · cases h
theorem runEight32 (x : Int) : runG ΓK5 ΛEight32 Tryz.prog Tryz.f46 [.v (U32 x)] M0 = bif (0 : Int) == 0 && in32 x then some (.v (U32 (S32 x)), M0) else none := by kernel_rfl
def gEight32 (vs : List Value) : Option (Bool × Value) :=
  match vs with
  | [.int .u32 x] => some (in32 x, U32 (S32 x))
  | _ => none
theorem gEight32_ok : ∀ vs r, gEight32 vs = some (true, r) → ∀ m, CallOk Tryz.prog 46 (vs.map .v) m (.v r) m := by
  intro vs r h
  unfold gEight32 at h
  split at h
  · rename_i x
    obtain ⟨h1, rfl⟩ := some_t h
    refine runV (vs := [U32 x]) (Λ := ΛEight32) (m' := M0) OkK5 Tryz.func46 rfl (fun z z1 z2 => oneLoop (c := Tryz.f46.body.getD .skip) loopsEight32 (loopOkEight32 z z1 z2)) ?_
    exact (runEight32 x).trans (by rw [h1]; rfl)
  · cases h
noncomputable def ΓK6 : Orc := addVal 46 gEight32 ΓK5
theorem OkK6 : ΓK6.Ok Tryz.prog := addVal_ok OkK5 gEight32_ok
def kStep32 : List Bool := maskOf 17 [0, 3]
def xStep32 : List Bool := maskOf 17 [0]
noncomputable def bodyStep32 : Code := loopAt (Tryz.f42.body.getD .skip) 0
theorem loopsStep32 : loopsOf (Tryz.f42.body.getD .skip) = [bodyStep32] := by kernel_rfl
theorem loopsStep320 : loopsOf bodyStep32 = [] := by kernel_rfl
def EStep32 (e : Ex) (st : St) : Option (Ex × St) := some (e, cutC 0 0 xStep32 st)
theorem stepStep32 (k : Nat) (x i : Int) : evLoop ΓK6 Tryz.prog L0 (cutC 0 0 kStep32) bodyStep32 (k + 1) (mk kStep32 [.v (U32 x), .v (I i)] M0) EStep32 =
    bif decide (i < 8) then (bif d32 x then evLoop ΓK6 Tryz.prog L0 (cutC 0 0 kStep32) bodyStep32 k (mk kStep32 [.v (U32 (g32 x)), .v (I (wI (i + 1)))] M0) EStep32 else evLoop ΓK6 Tryz.prog L0 (cutC 0 0 kStep32) bodyStep32 k (mk kStep32 [.v (U32 (h32 x)), .v (I (wI (i + 1)))] M0) EStep32)
    else some (.exit 0, mk xStep32 [.v (U32 x)] M0) := by kernel_rfl
def GStep32 (vals : List SV) (m : Mem) : Option (Bool × Ex × St) :=
  match vals, m with
  | [.v (.int .u32 x), .v (.int .i64 i)], ⟨[], [], []⟩ => some (i == 0 && in32 x, .exit 0, mk xStep32 [.v (U32 (S32 x))] M0)
  | _, _ => none
noncomputable def ΛStep32 : LoopOrc := fun _ st => viaC 0 0 kStep32 GStep32 st
theorem loopOkStep32 (z : Base) (z1 : z.L.length = 0) (z2 : z.U.length = 0) : LoopOk ΛStep32 Tryz.prog z bodyStep32 := by
  refine loop_okC (Λ := L0) (kx := fun _ => xStep32) OkK6 mixed z1 z2 (fun b hb => by rw [loopsStep320] at hb; cases hb) (G := GStep32) (fun _ => rfl) ?_
  intro vals m e st' h
  unfold GStep32 at h
  split at h
  · rename_i x i
    obtain ⟨h1, rfl, rfl⟩ := some_t2 h
    simp only [Bool.and_eq_true, beq_iff_eq] at h1
    obtain ⟨rfl, h1⟩ := h1
    obtain ⟨n, rfl, hn⟩ := in32_nat h1
    exact ⟨9, eight (fun k x i => evLoop ΓK6 Tryz.prog L0 (cutC 0 0 kStep32) bodyStep32 k (mk kStep32 [.v (U32 x), .v (I i)] M0) EStep32) (fun x => some (.exit 0, mk xStep32 [.v (U32 x)] M0)) (fun x => d32 x) g32 h32 n32 4294967296 (fun n => n32_lt) step_r32 stepStep32 8 n (Nat.le_refl 8) hn⟩
  · cases h
theorem runStep32 (x : Int) : runG ΓK6 ΛStep32 Tryz.prog Tryz.f42 [.v (U32 x)] M0 = bif (0 : Int) == 0 && in32 x then some (.v (U32 (S32 x)), M0) else none := by kernel_rfl
def gStep32 (vs : List Value) : Option (Bool × Value) :=
  match vs with
  | [.int .u32 x] => some (in32 x, U32 (S32 x))
  | _ => none
theorem gStep32_ok : ∀ vs r, gStep32 vs = some (true, r) → ∀ m, CallOk Tryz.prog 42 (vs.map .v) m (.v r) m := by
  intro vs r h
  unfold gStep32 at h
  split at h
  · rename_i x
    obtain ⟨h1, rfl⟩ := some_t h
    refine runV (vs := [U32 x]) (Λ := ΛStep32) (m' := M0) OkK6 Tryz.func42 rfl (fun z z1 z2 => oneLoop (c := Tryz.f42.body.getD .skip) loopsStep32 (loopOkStep32 z z1 z2)) ?_
    exact (runStep32 x).trans (by rw [h1]; rfl)
  · cases h
noncomputable def ΓK7 : Orc := addVal 42 gStep32 ΓK6
theorem OkK7 : ΓK7.Ok Tryz.prog := addVal_ok OkK6 gStep32_ok
def kSum32 : List Bool := maskOf 20 [0, 3, 6, 7]
def xSum32 : List Bool := maskOf 20 [3]
noncomputable def bodySum32 : Code := loopAt (Tryz.f31.body.getD .skip) 0
theorem loopsSum32 : loopsOf (Tryz.f31.body.getD .skip) = [bodySum32] := by kernel_rfl
theorem loopsSum320 : loopsOf bodySum32 = [] := by kernel_rfl
def ESum32 (e : Ex) (st : St) : Option (Ex × St) := some (e, cutC 0 0 xSum32 st)
def HSum32 (s : ByteArray) (x i : Int) : St := mk kSum32 [.v (S s), .v (U32 x), .v (I (s.size : Int)), .v (I i)] M0
theorem stepSum32 (s : ByteArray) (k : Nat) (x i : Int) : evLoop ΓK7 Tryz.prog L0 (cutC 0 0 kSum32) bodySum32 (k + 1) (HSum32 s x i) ESum32 =
    bif decide (i < (s.size : Int)) then (bif decide (0 ≤ i) && decide (i < (s.size : Int)) then (bif in32 (q32 s x i) then evLoop ΓK7 Tryz.prog L0 (cutC 0 0 kSum32) bodySum32 k (HSum32 s (S32 (q32 s x i)) (wI (i + 1))) ESum32 else none) else none)
    else some (.exit 0, mk xSum32 [.v (U32 x)] M0) := by kernel_rfl
def GSum32 (vals : List SV) (m : Mem) : Option (Bool × Ex × St) :=
  match vals, m with
  | [.v (.string s), .v (.int .u32 x), .v (.int .i64 n), .v (.int .i64 i)], ⟨[], [], []⟩ => some (n == (s.size : Int) && (i == 0 && (in32 x && szS s)), .exit 0, mk xSum32 [.v (U32 (R32 x s))] M0)
  | _, _ => none
noncomputable def ΛSum32 : LoopOrc := fun _ st => viaC 0 0 kSum32 GSum32 st
theorem loopOkSum32 (z : Base) (z1 : z.L.length = 0) (z2 : z.U.length = 0) : LoopOk ΛSum32 Tryz.prog z bodySum32 := by
  refine loop_okC (Λ := L0) (kx := fun _ => xSum32) OkK7 mixed z1 z2 (fun b hb => by rw [loopsSum320] at hb; cases hb) (G := GSum32) (fun _ => rfl) ?_
  intro vals m e st' h
  unfold GSum32 at h
  split at h
  · rename_i s x n i
    obtain ⟨h1, rfl, rfl⟩ := some_t2 h
    simp only [Bool.and_eq_true, beq_iff_eq] at h1
    obtain ⟨rfl, rfl, h1, h4⟩ := h1
    obtain ⟨n, rfl, hn⟩ := in32_nat h1
    exact ⟨s.size + 1, overS s (Nat.le_of_ble_eq_true h4) (fun k x i => evLoop ΓK7 Tryz.prog L0 (cutC 0 0 kSum32) bodySum32 k (HSum32 s x i) ESum32) (fun x => some (.exit 0, mk xSum32 [.v (U32 x)] M0)) (fun x i => in32 (q32 s x i)) (fun x i => S32 (q32 s x i)) p32 4294967296 (fun n b => p32_lt b) (gs32 s) (stepSum32 s) s.size 0 n (by omega) hn⟩
  · cases h
theorem runSum32 (s : ByteArray) : runG ΓK7 ΛSum32 Tryz.prog Tryz.f31 [.v (S s)] M0 = bif (s.size : Int) == (s.size : Int) && ((0 : Int) == 0 && (in32 4294967295 && szS s)) then some (.v (U32 (fin32 s)), M0) else none := by kernel_rfl
def gSum32 (vs : List Value) : Option (Bool × Value) :=
  match vs with
  | [.string s] => some (szS s, (U32 (sum32 s)))
  | _ => none
theorem gSum32_ok : ∀ vs r, gSum32 vs = some (true, r) → ∀ m, CallOk Tryz.prog 31 (vs.map .v) m (.v r) m := by
  intro vs r h
  unfold gSum32 at h
  split at h
  · rename_i s
    obtain ⟨h1, rfl⟩ := some_t h
    refine runV (vs := [S s]) (Λ := ΛSum32) (m' := M0) OkK7 Tryz.func31 rfl (fun z z1 z2 => oneLoop (c := Tryz.f31.body.getD .skip) loopsSum32 (loopOkSum32 z z1 z2)) ?_
    exact (runSum32 s).trans (by rw [h1, beq_self_eq_true, fin32_eq]; rfl)
  · cases h
noncomputable def ΓK8 : Orc := addVal 31 gSum32 ΓK7
theorem OkK8 : ΓK8.Ok Tryz.prog := addVal_ok OkK7 gSum32_ok
def kRSum32 : List Bool := maskOf 20 [0, 3, 4]
def xRSum32 : List Bool := maskOf 20 [3]
noncomputable def bodyRSum32 : Code := loopAt (Tryz.f24.body.getD .skip) 0
theorem loopsRSum32 : loopsOf (Tryz.f24.body.getD .skip) = [bodyRSum32] := by kernel_rfl
theorem loopsRSum320 : loopsOf bodyRSum32 = [] := by kernel_rfl
def ERSum32 (e : Ex) (st : St) : Option (Ex × St) := some (e, cutC 0 0 xRSum32 st)
def HRSum32 (s : ByteArray) (x i : Int) : St := mk kRSum32 [.v (S s), .v (U32 x), .v (I i)] M0
theorem stepRSum32 (s : ByteArray) (k : Nat) (x i : Int) : evLoop ΓK8 Tryz.prog L0 (cutC 0 0 kRSum32) bodyRSum32 (k + 1) (HRSum32 s x i) ERSum32 =
    bif decide (i < (s.size : Int)) then (bif decide (0 ≤ i) && decide (i < (s.size : Int)) then (bif in32 (q32 s x i) then evLoop ΓK8 Tryz.prog L0 (cutC 0 0 kRSum32) bodyRSum32 k (HRSum32 s (S32 (q32 s x i)) (wI (i + 1))) ERSum32 else none) else none)
    else some (.exit 0, mk xRSum32 [.v (U32 x)] M0) := by kernel_rfl
def GRSum32 (vals : List SV) (m : Mem) : Option (Bool × Ex × St) :=
  match vals, m with
  | [.v (.string s), .v (.int .u32 x), .v (.int .i64 i)], ⟨[], [], []⟩ => some (i == 0 && (in32 x && szS s), .exit 0, mk xRSum32 [.v (U32 (R32 x s))] M0)
  | _, _ => none
noncomputable def ΛRSum32 : LoopOrc := fun _ st => viaC 0 0 kRSum32 GRSum32 st
theorem loopOkRSum32 (z : Base) (z1 : z.L.length = 0) (z2 : z.U.length = 0) : LoopOk ΛRSum32 Tryz.prog z bodyRSum32 := by
  refine loop_okC (Λ := L0) (kx := fun _ => xRSum32) OkK8 mixed z1 z2 (fun b hb => by rw [loopsRSum320] at hb; cases hb) (G := GRSum32) (fun _ => rfl) ?_
  intro vals m e st' h
  unfold GRSum32 at h
  split at h
  · rename_i s x i
    obtain ⟨h1, rfl, rfl⟩ := some_t2 h
    simp only [Bool.and_eq_true, beq_iff_eq] at h1
    obtain ⟨rfl, h1, h4⟩ := h1
    obtain ⟨n, rfl, hn⟩ := in32_nat h1
    exact ⟨s.size + 1, overS s (Nat.le_of_ble_eq_true h4) (fun k x i => evLoop ΓK8 Tryz.prog L0 (cutC 0 0 kRSum32) bodyRSum32 k (HRSum32 s x i) ERSum32) (fun x => some (.exit 0, mk xRSum32 [.v (U32 x)] M0)) (fun x i => in32 (q32 s x i)) (fun x i => S32 (q32 s x i)) p32 4294967296 (fun n b => p32_lt b) (gs32 s) (stepRSum32 s) s.size 0 n (by omega) hn⟩
  · cases h
theorem runRSum32 (s : ByteArray) : runG ΓK8 ΛRSum32 Tryz.prog Tryz.f24 [.v (S s)] M0 = bif (0 : Int) == 0 && (in32 4294967295 && szS s) then some (.v (U32 (fin32 s)), M0) else none := by kernel_rfl
def gRSum32 (vs : List Value) : Option (Bool × Value) :=
  match vs with
  | [.string s] => some (szS s, (U32 (sum32 s)))
  | _ => none
theorem gRSum32_ok : ∀ vs r, gRSum32 vs = some (true, r) → ∀ m, CallOk Tryz.prog 24 (vs.map .v) m (.v r) m := by
  intro vs r h
  unfold gRSum32 at h
  split at h
  · rename_i s
    obtain ⟨h1, rfl⟩ := some_t h
    refine runV (vs := [S s]) (Λ := ΛRSum32) (m' := M0) OkK8 Tryz.func24 rfl (fun z z1 z2 => oneLoop (c := Tryz.f24.body.getD .skip) loopsRSum32 (loopOkRSum32 z z1 z2)) ?_
    exact (runRSum32 s).trans (by rw [h1, fin32_eq]; rfl)
  · cases h
noncomputable def ΓK9 : Orc := addVal 24 gRSum32 ΓK8
theorem OkK9 : ΓK9.Ok Tryz.prog := addVal_ok OkK8 gRSum32_ok
noncomputable def ΓK : Orc := ΓK9
theorem OkK : ΓK.Ok Tryz.prog := OkK9
end Go.Proofs.YtikekoabadhmiaaGreat

namespace Go.Proofs.YtikekoabadhmiaaGreat
open Go Go.Proofs Go.Sx
/-! Texts as lists of bytes. -/
abbrev L (s : ByteArray) : List UInt8 := s.data.toList
theorem L_inj {a b : ByteArray} : L a = L b ↔ a = b := by
  constructor
  · intro h
    exact ByteArray.ext (Array.toList_inj.1 h)
  · rintro rfl; rfl
theorem L_len (s : ByteArray) : (L s).length = s.size := by simp [L]
theorem L_app (a b : ByteArray) : L (a ++ b) = L a ++ L b := by simp [L, ByteArray.data_append]
theorem L_ext (s : ByteArray) (a b : Nat) : L (s.extract a b) = ((L s).drop a).take (b - a) := by
  simp [L, ByteArray.data_extract, List.extract_eq_take_drop]
theorem L_nums (xs : List Int) : L (strOfNums xs) = xs.map fun n => UInt8.ofNat n.toNat := rfl
theorem beq_S (a b : ByteArray) : (a == b) = true ↔ a = b := by
  show ((a.data == b.data) = true) ↔ a = b
  rw [beq_iff_eq]
  exact ByteArray.ext_iff.symm
theorem beq_L (a b : ByteArray) : (a == b) = (L a == L b) := by
  rw [Bool.eq_iff_iff, beq_S]
  simp only [beq_iff_eq, L_inj]
/-- As the model asks it of two texts. -/
theorem beq_T (a b : ByteArray) : (a.toList == b.toList) = (L a == L b) := by rw [ByteArray.toList_eq, ByteArray.toList_eq]
theorem beq_TS (a b : ByteArray) : (a.toList == b.toList) = (a == b) := by rw [beq_T, beq_L]
theorem strAt_L (s : ByteArray) (k : Nat) : strAt s (k : Int) = (((L s)[k]?.map fun b => (b.toNat : Int)).getD 0) := by
  cases h : (L s)[k]? with
  | some b =>
    have h' : s.data[k]? = some b := by simpa [L] using h
    rw [strAt_some h']
    rfl
  | none =>
    unfold strAt
    rw [Int.toNat_natCast]
    have hk : s.size ≤ k := by
      rw [← L_len]
      simpa using h
    have : s[k]? = none := by rw [getElem?_neg]; omega
    rw [this]
    rfl
theorem ext_all (s : ByteArray) : s.extract 0 s.size = s := by
  rw [← L_inj, L_ext, List.drop_zero, List.take_of_length_le (by rw [L_len]; omega)]
theorem ext_app0 {s t : ByteArray} {a b : Nat} (h : b ≤ s.size) : (s ++ t).extract a b = s.extract a b := by
  rw [← L_inj, L_ext, L_ext, L_app]
  rcases Nat.lt_or_ge a b with h1 | h1
  · rw [List.drop_append_of_le_length (by rw [L_len]; omega), List.take_append_of_le_length (by simp only [List.length_drop, L_len]; omega)]
  · rw [show b - a = 0 by omega]
    simp
theorem app_assoc (a b c : ByteArray) : (a ++ b) ++ c = a ++ (b ++ c) := by
  rw [← L_inj]
  simp only [L_app, List.append_assoc]
theorem wrap8 (n : Nat) : IntKind.u8.wrap (n : Int) = ((n % 256 : Nat) : Int) := by
  rw [← wr_eq true]; simp only [wr]; omega

/-! Frames. -/
end Go.Proofs.YtikekoabadhmiaaGreat

namespace Go.Proofs.YtikekoabadhmiaaGreat
open Go Go.Proofs Go.Sx
set_option linter.unusedVariables false
/-! Numbers as bytes, the highest one first. -/
def U64 (x : Int) : Value := .int .u64 x
def p8 (n : Nat) (b : UInt8) : Nat := n * 256 % 18446744073709551616 + b.toNat
theorem p8_lt (n : Nat) (b : UInt8) (_ : n < 18446744073709551616) : p8 n b < 18446744073709551616 := by
  have := byte_lt b
  unfold p8
  omega
def numN (s : ByteArray) : Nat := s.data.toList.foldl p8 0
theorem wrap64 (n : Nat) : IntKind.u64.wrap (n : Int) = ((n % 18446744073709551616 : Nat) : Int) := by
  rw [← wr_eq true]; simp only [wr]; omega
theorem two64 : (2 : Nat) ^ 64 = 18446744073709551616 := by decide
theorem orB (w a b : Nat) (ha : a < 2 ^ w) (hb : b < 2 ^ w) : (((BitVec.ofInt w (a : Int) ||| BitVec.ofInt w (b : Int)).toNat : Nat) : Int) = ((Nat.lor a b : Nat) : Int) := by
  rw [BitVec.toNat_or, BitVec.ofInt_natCast, BitVec.ofInt_natCast, BitVec.toNat_ofNat, BitVec.toNat_ofNat, Nat.mod_eq_of_lt ha, Nat.mod_eq_of_lt hb]
  rfl
/-- A number shifted by a byte, and a byte. -/
def a64 (s : ByteArray) (x i : Int) : Int := IntKind.u64.wrap (((BitVec.ofInt 64 (IntKind.u64.wrap (x * 2 ^ min (Int.toNat 8) 64)) ||| BitVec.ofInt 64 (IntKind.u64.wrap (strAt s i))).toNat : Nat) : Int)
theorem a64_nat {s : ByteArray} {n k : Nat} {b : UInt8} (hb : s.data[k]? = some b) : a64 s n k = ((p8 n b : Nat) : Int) := by
  have h := byte_lt b
  unfold a64 p8
  have e : (n : Int) * 2 ^ min (Int.toNat 8) 64 = ((n * 256 : Nat) : Int) := by
    rw [show min (Int.toNat 8) 64 = 8 from rfl]; omega
  rw [e, wrap64 (n * 256), strAt_some hb, wrap64 b.toNat, Nat.mod_eq_of_lt (show b.toNat < 18446744073709551616 by omega), orB 64 _ _ (by rw [two64]; exact Nat.mod_lt _ (by decide)) (by rw [two64]; omega)]
  have e2 : Nat.lor (n * 256 % 18446744073709551616) b.toNat = n * 256 % 18446744073709551616 + b.toNat := by
    have e3 : n * 256 % 18446744073709551616 = 2 ^ 8 * (n % 72057594037927936) := by
      rw [show (2 : Nat) ^ 8 = 256 from rfl]; omega
    rw [e3]
    exact (Nat.two_pow_add_eq_or_of_lt (show b.toNat < 2 ^ 8 by rw [show (2 : Nat) ^ 8 = 256 from rfl]; exact h) _).symm
  rw [e2, wrap64, Nat.mod_eq_of_lt (by omega)]
/-- The lowest bytes of a number. -/
def be (k : Nat) (x : Int) : ByteArray := strOfNums ((List.range k).reverse.map fun i => x / 256 ^ i % 256)
def kNumber : List Bool := maskOf 19 [0, 3, 6, 7]
def xNumber : List Bool := maskOf 19 [3]
noncomputable def bodyNumber : Code := loopAt (Tryz.f59.body.getD .skip) 0
theorem loopsNumber : loopsOf (Tryz.f59.body.getD .skip) = [bodyNumber] := by kernel_rfl
theorem loopsNumber0 : loopsOf bodyNumber = [] := by kernel_rfl
def ENumber (e : Ex) (st : St) : Option (Ex × St) := some (e, cutC 0 0 xNumber st)
def HNumber (s : ByteArray) (x i : Int) : St := mk kNumber [.v (S s), .v (U64 x), .v (I (s.size : Int)), .v (I i)] M0
theorem stepNumber (s : ByteArray) (k : Nat) (x i : Int) : evLoop ΓK Tryz.prog L0 (cutC 0 0 kNumber) bodyNumber (k + 1) (HNumber s x i) ENumber =
    bif decide (i < (s.size : Int)) then (bif decide (0 ≤ i) && decide (i < (s.size : Int)) then evLoop ΓK Tryz.prog L0 (cutC 0 0 kNumber) bodyNumber k (HNumber s (a64 s x i) (wI (i + 1))) ENumber else none)
    else some (.exit 0, mk xNumber [.v (U64 x)] M0) := by kernel_rfl
def GNumber (vals : List SV) (m : Mem) : Option (Bool × Ex × St) :=
  match vals, m with
  | [.v (.string s), .v (.int .u64 x), .v (.int .i64 n), .v (.int .i64 i)], ⟨[], [], []⟩ => some (n == (s.size : Int) && (i == 0 && (x == 0 && szS s)), .exit 0, mk xNumber [.v (U64 ((numN s : Nat) : Int))] M0)
  | _, _ => none
noncomputable def ΛNumber : LoopOrc := fun _ st => viaC 0 0 kNumber GNumber st
theorem loopOkNumber (z : Base) (z1 : z.L.length = 0) (z2 : z.U.length = 0) : LoopOk ΛNumber Tryz.prog z bodyNumber := by
  refine loop_okC (Λ := L0) (kx := fun _ => xNumber) OkK mixed z1 z2 (fun b hb => by rw [loopsNumber0] at hb; cases hb) (G := GNumber) (fun _ => rfl) ?_
  intro vals m e st' h
  unfold GNumber at h
  split at h
  · rename_i s x n i
    obtain ⟨h1, rfl, rfl⟩ := some_t2 h
    simp only [Bool.and_eq_true, beq_iff_eq] at h1
    obtain ⟨rfl, rfl, rfl, h4⟩ := h1
    exact ⟨s.size + 1, overS s (Nat.le_of_ble_eq_true h4) (fun k x i => evLoop ΓK Tryz.prog L0 (cutC 0 0 kNumber) bodyNumber k (HNumber s x i) ENumber) (fun x => some (.exit 0, mk xNumber [.v (U64 x)] M0)) (fun _ _ => true) (a64 s) p8 18446744073709551616 p8_lt (fun n k b _ hb => ⟨rfl, a64_nat hb⟩) (stepNumber s) s.size 0 0 (by omega) (by omega)⟩
  · cases h
theorem runNumber (s : ByteArray) : runG ΓK ΛNumber Tryz.prog Tryz.f59 [.v (S s)] M0 = bif (s.size : Int) == (s.size : Int) && ((0 : Int) == 0 && ((0 : Int) == 0 && szS s)) then some (.v (U64 ((numN s : Nat) : Int)), M0) else none := by kernel_rfl
def gNumber (vs : List Value) : Option (Bool × Value) :=
  match vs with
  | [.string s] => some (szS s, U64 ((numN s : Nat) : Int))
  | _ => none
theorem gNumber_ok : ∀ vs r, gNumber vs = some (true, r) → ∀ m, CallOk Tryz.prog 59 (vs.map .v) m (.v r) m := by
  intro vs r h
  unfold gNumber at h
  split at h
  · rename_i s
    obtain ⟨h1, rfl⟩ := some_t h
    refine runV (vs := [S s]) (Λ := ΛNumber) (m' := M0) OkK Tryz.func59 rfl (fun z z1 z2 => oneLoop (c := Tryz.f59.body.getD .skip) loopsNumber (loopOkNumber z z1 z2)) ?_
    exact (runNumber s).trans (by rw [h1, beq_self_eq_true]; rfl)
  · cases h
noncomputable def ΓO1 : Orc := addVal 59 gNumber ΓK
theorem OkO1 : ΓO1.Ok Tryz.prog := addVal_ok OkK gNumber_ok
noncomputable def ΓO : Orc := ΓO1
theorem OkO : ΓO.Ok Tryz.prog := OkO1
end Go.Proofs.YtikekoabadhmiaaGreat

namespace Go.Proofs.YtikekoabadhmiaaGreat
open Go Go.Proofs Go.Sx
theorem wrap_i32 (n : Int) : IntKind.i32.wrap n = if n % 4294967296 ≥ 2147483648 then n % 4294967296 - 4294967296 else n % 4294967296 := by
  have e32 : (2 : Int) ^ 32 = 4294967296 := by decide
  have e31 : (2 : Int) ^ 31 = 2147483648 := by decide
  simp only [IntKind.wrap, IntKind.signed, IntKind.bits, Bool.true_and, Nat.reduceSub, e32, e31]
  split <;> simp_all <;> omega
theorem nums_app (a b : List Int) : strOfNums (a ++ b) = strOfNums a ++ strOfNums b := by
  rw [← L_inj, L_app, L_nums, L_nums, L_nums, List.map_append]
theorem be_size (k : Nat) (x : Int) : (be k x).size = k := by
  unfold be
  rw [strOfNums_size]
  simp
/-- Four bytes of a text, and the number that they are. -/
theorem four_of {s : ByteArray} {i : Nat} (h : i + 4 ≤ s.size) : ∃ b0 b1 b2 b3 : UInt8, L (s.extract i (i + 4)) = [b0, b1, b2, b3] ∧ strAt s (i : Int) = (b0.toNat : Int) ∧ strAt s ((i + 1 : Nat) : Int) = (b1.toNat : Int) ∧ strAt s ((i + 2 : Nat) : Int) = (b2.toNat : Int) ∧ strAt s ((i + 3 : Nat) : Int) = (b3.toNat : Int) := by
  have hl := L_len s
  have hd : ∃ b0 b1 b2 b3 r, (L s).drop i = b0 :: b1 :: b2 :: b3 :: r := by
    have : 4 ≤ ((L s).drop i).length := by rw [List.length_drop]; omega
    match hq : (L s).drop i, this with
    | b0 :: b1 :: b2 :: b3 :: r, _ => exact ⟨b0, b1, b2, b3, r, rfl⟩
  obtain ⟨b0, b1, b2, b3, r, hd⟩ := hd
  have g : ∀ j, (L s)[i + j]? = ((L s).drop i)[j]? := fun j => by rw [List.getElem?_drop]
  refine ⟨b0, b1, b2, b3, ?_, ?_, ?_, ?_, ?_⟩
  · rw [L_ext, hd, show i + 4 - i = 4 by omega]; rfl
  · have := g 0
    rw [hd] at this
    rw [strAt_L, show i = i + 0 from rfl, this]; rfl
  · have := g 1
    rw [hd] at this
    rw [strAt_L, this]; rfl
  · have := g 2
    rw [hd] at this
    rw [strAt_L, this]; rfl
  · have := g 3
    rw [hd] at this
    rw [strAt_L, this]; rfl
theorem numN_four {s : ByteArray} {b0 b1 b2 b3 : UInt8} (h : L s = [b0, b1, b2, b3]) : ((numN s : Nat) : Int) = (b0.toNat : Int) * 16777216 + (b1.toNat : Int) * 65536 + (b2.toNat : Int) * 256 + (b3.toNat : Int) := by
  have h0 := byte_lt b0
  have h1 := byte_lt b1
  have h2 := byte_lt b2
  have h3 := byte_lt b3
  unfold numN
  rw [show s.data.toList = [b0, b1, b2, b3] from h]
  simp only [List.foldl_cons, List.foldl_nil, p8]
  omega
theorem num4 {s : ByteArray} {i : Nat} (h : i + 4 ≤ s.size) : ((numN (s.extract i (i + 4)) : Nat) : Int) = strAt s (i : Int) * 16777216 + strAt s ((i + 1 : Nat) : Int) * 65536 + strAt s ((i + 2 : Nat) : Int) * 256 + strAt s ((i + 3 : Nat) : Int) := by
  obtain ⟨b0, b1, b2, b3, hb, e0, e1, e2, e3⟩ := four_of h
  rw [numN_four hb, e0, e1, e2, e3]
theorem L_be4 (x : Int) : L (be 4 x) = [UInt8.ofNat (x / 256 ^ 3 % 256).toNat, UInt8.ofNat (x / 256 ^ 2 % 256).toNat, UInt8.ofNat (x / 256 ^ 1 % 256).toNat, UInt8.ofNat (x / 256 ^ 0 % 256).toNat] := rfl
theorem L_be1 (x : Int) : L (be 1 x) = [UInt8.ofNat (x / 256 ^ 0 % 256).toNat] := rfl
theorem toNat_ofI {x : Int} (h0 : 0 ≤ x) (h : x < 256) : (((UInt8.ofNat x.toNat).toNat : Nat) : Int) = x := by
  rw [UInt8.toNat_ofNat', Nat.mod_eq_of_lt (by omega)]
  omega
theorem num_be4 (x : Int) : ((numN (be 4 x) : Nat) : Int) = x % 4294967296 := by
  rw [numN_four (L_be4 x), toNat_ofI (by omega) (by omega), toNat_ofI (by omega) (by omega), toNat_ofI (by omega) (by omega), toNat_ofI (by omega) (by omega)]
  omega
end Go.Proofs.YtikekoabadhmiaaGreat

namespace Go.Proofs.YtikekoabadhmiaaGreat
open Go Go.Proofs Go.Sx
set_option linter.unusedVariables false
/-! norm -/
/-! cast -/
theorem be4_i (n : Int) : be 4 n = strOfNums [n / 16777216 % 256, n / 65536 % 256, n / 256 % 256, n % 256] := by
  show strOfNums [n / 256 ^ 3 % 256, n / 256 ^ 2 % 256, n / 256 ^ 1 % 256, n / 256 ^ 0 % 256] = _
  rw [show (256 : Int) ^ 3 = 16777216 by decide, show (256 : Int) ^ 2 = 65536 by decide, show (256 : Int) ^ 1 = 256 by decide, show (256 : Int) ^ 0 = 1 by decide, Int.ediv_one]
theorem wrap8_i (n : Int) : IntKind.u8.wrap n = n % 256 := by rw [← wr_eq true]; rfl
theorem wI4 {a b c d : Int} (ha : 0 ≤ a ∧ a < 256) (hb : 0 ≤ b ∧ b < 256) (hc : 0 ≤ c ∧ c < 256) (hd : 0 ≤ d ∧ d < 256) : wI (wI (wI (wI (wI a * 16777216) + wI (wI b * 65536)) + wI (wI c * 256)) + wI d) = a * 16777216 + b * 65536 + c * 256 + d := by
  rw [wI_id (n := a) (by omega), wI_id (n := b) (by omega), wI_id (n := c) (by omega), wI_id (n := d) (by omega), wI_id (n := a * 16777216) (by omega), wI_id (n := b * 65536) (by omega), wI_id (n := c * 256) (by omega), wI_id (n := a * 16777216 + b * 65536) (by omega), wI_id (n := a * 16777216 + b * 65536 + c * 256) (by omega), wI_id (by omega)]
theorem byteI (b : UInt8) : 0 ≤ (b.toNat : Int) ∧ (b.toNat : Int) < 256 := by
  have := byte_lt b
  omega
/-- What a number of 32 bits is with a sign. -/
def sgn (n : Int) : Int := bif decide (n ≥ 2147483648) then n - 4294967296 else n
def num4s (s : ByteArray) : Int := ((numN (s.extract 0 4) : Nat) : Int)
theorem num4s_r (s : ByteArray) (h : Nat.ble 4 s.size = true) : 0 ≤ num4s s ∧ num4s s < 4294967296 := by
  have hs : 0 + 4 ≤ s.size := Nat.le_of_ble_eq_true h
  obtain ⟨b0, b1, b2, b3, _, e0, e1, e2, e3⟩ := four_of (s := s) (i := 0) hs
  have hn := num4 (s := s) (i := 0) hs
  rw [e0, e1, e2, e3] at hn
  have := byteI b0; have := byteI b1; have := byteI b2; have := byteI b3
  show 0 ≤ ((numN (s.extract 0 (0 + 4)) : Nat) : Int) ∧ ((numN (s.extract 0 (0 + 4)) : Nat) : Int) < 4294967296
  omega

set_option maxRecDepth 20000 in
theorem runRNumber (s : ByteArray) : runG ΓO L0 Tryz.prog Tryz.f22 [.v (S s)] M0 = (bif true && decide ((0 : Int) < (s.size : Int)) then (bif true && decide ((1 : Int) < (s.size : Int)) then (bif true && decide ((2 : Int) < (s.size : Int)) then (bif true && decide ((3 : Int) < (s.size : Int)) then some (.v (I (wI (wI (wI (wI (wI (strAt s (0 : Int)) * (16777216 : Int)) + wI (wI (strAt s (1 : Int)) * (65536 : Int))) + wI (wI (strAt s (2 : Int)) * (256 : Int))) + wI (strAt s (3 : Int))))), M0) else none) else none) else none) else none) := by kernel_rfl
def gRNumber (vs : List Value) : Option (Bool × Value) :=
  match vs with
  | [.string s] => some (Nat.ble 4 s.size, I (num4s s))
  | _ => none
theorem gRNumber_ok : ∀ vs r, gRNumber vs = some (true, r) → ∀ m, CallOk Tryz.prog 22 (vs.map .v) m (.v r) m := by
  intro vs r h
  unfold gRNumber at h
  split at h
  · rename_i s
    obtain ⟨h1, rfl⟩ := some_t h
    refine runV (vs := [S s]) (Λ := L0) (m' := M0) OkO Tryz.func22 rfl (fun z _ _ => l0Ok' _ z) ?_
    exact (runRNumber s).trans (by
      have hs : 0 + 4 ≤ s.size := Nat.le_of_ble_eq_true h1
      obtain ⟨b0, b1, b2, b3, _, e0, e1, e2, e3⟩ := four_of (s := s) (i := 0) hs
      have hn := num4 (s := s) (i := 0) hs
      rw [e0, e1, e2, e3] at hn
      have f0 : strAt s (0 : Int) = (b0.toNat : Int) := e0
      have f1 : strAt s (1 : Int) = (b1.toNat : Int) := e1
      have f2 : strAt s (2 : Int) = (b2.toNat : Int) := e2
      have f3 : strAt s (3 : Int) = (b3.toNat : Int) := e3
      unfold num4s
      rw [f0, f1, f2, f3, wI4 (byteI b0) (byteI b1) (byteI b2) (byteI b3), ← hn, decide_eq_true (show (0 : Int) < (s.size : Int) by omega), decide_eq_true (show (1 : Int) < (s.size : Int) by omega), decide_eq_true (show (2 : Int) < (s.size : Int) by omega), decide_eq_true (show (3 : Int) < (s.size : Int) by omega)]
      rfl)
  · cases h
noncomputable def ΓF1 : Orc := addVal 22 gRNumber ΓO
theorem OkF1 : ΓF1.Ok Tryz.prog := addVal_ok OkO gRNumber_ok
set_option maxRecDepth 20000 in
theorem runRSigned (s : ByteArray) : runG ΓF1 L0 Tryz.prog Tryz.f23 [.v (S s)] M0 = 
    (bif Nat.ble (4) s.size then (bif decide (num4s s ≥ (2147483648 : Int)) then some (.v (I (wI (num4s s - (4294967296 : Int)))), M0) else some (.v (I (num4s s)), M0)) else none) := by kernel_rfl
def gRSigned (vs : List Value) : Option (Bool × Value) :=
  match vs with
  | [.string s] => some (Nat.ble 4 s.size, I (sgn (num4s s)))
  | _ => none
theorem gRSigned_ok : ∀ vs r, gRSigned vs = some (true, r) → ∀ m, CallOk Tryz.prog 23 (vs.map .v) m (.v r) m := by
  intro vs r h
  unfold gRSigned at h
  split at h
  · rename_i s
    obtain ⟨h1, rfl⟩ := some_t h
    refine runV (vs := [S s]) (Λ := L0) (m' := M0) OkF1 Tryz.func23 rfl (fun z _ _ => l0Ok' _ z) ?_
    exact (runRSigned s).trans (by
      have hr := num4s_r s h1
      rw [h1]
      unfold sgn
      rw [wI_id (n := num4s s - 4294967296) (by omega)]
      cases decide (num4s s ≥ 2147483648) <;> rfl)
  · cases h
noncomputable def ΓF2 : Orc := addVal 23 gRSigned ΓF1
theorem OkF2 : ΓF2.Ok Tryz.prog := addVal_ok OkF1 gRSigned_ok
set_option maxRecDepth 20000 in
theorem runFour (n : Int) : runG ΓF2 L0 Tryz.prog Tryz.f28 [.v (I n)] M0 = some (.v (S (strOfNums (numsOf [[Dat.n (IntKind.u8.wrap (n.fdiv (16777216 : Int)))], [Dat.n (IntKind.u8.wrap (n.fdiv (65536 : Int)))], [Dat.n (IntKind.u8.wrap (n.fdiv (256 : Int)))], [Dat.n (IntKind.u8.wrap n)]]))), M0) := by kernel_rfl
def gFour (vs : List Value) : Option (Bool × Value) :=
  match vs with
  | [.int .i64 n] => some (true, S (be 4 n))
  | _ => none
theorem gFour_ok : ∀ vs r, gFour vs = some (true, r) → ∀ m, CallOk Tryz.prog 28 (vs.map .v) m (.v r) m := by
  intro vs r h
  unfold gFour at h
  split at h
  · rename_i n
    obtain ⟨h1, rfl⟩ := some_t h
    refine runV (vs := [I n]) (Λ := L0) (m' := M0) OkF2 Tryz.func28 rfl (fun z _ _ => l0Ok' _ z) ?_
    exact (runFour n).trans (by
      rw [wrap8_i, wrap8_i, wrap8_i, wrap8_i, Int.fdiv_eq_ediv_of_nonneg _ (show (0 : Int) ≤ 16777216 by decide), Int.fdiv_eq_ediv_of_nonneg _ (show (0 : Int) ≤ 65536 by decide), Int.fdiv_eq_ediv_of_nonneg _ (show (0 : Int) ≤ 256 by decide), be4_i]
      rfl)
  · cases h
noncomputable def ΓF3 : Orc := addVal 28 gFour ΓF2
theorem OkF3 : ΓF3.Ok Tryz.prog := addVal_ok OkF2 gFour_ok
noncomputable def ΓF4 : Orc := ΓF3
theorem OkF4 : ΓF4.Ok Tryz.prog := OkF3
noncomputable def ΓF5 : Orc := ΓF4
theorem OkF5 : ΓF5.Ok Tryz.prog := OkF4
noncomputable def ΓRf1 : Orc := ΓF5
theorem OkRf1 : ΓRf1.Ok Tryz.prog := OkF5
end Go.Proofs.YtikekoabadhmiaaGreat

namespace Go.Proofs.YtikekoabadhmiaaGreat
open Go Go.Proofs Go.Sx
set_option linter.unusedVariables false
/-! norm -/
/-! cast -/
/-! rep [CK.sl 51 [CK0.num IntKind.i64, CK0.num IntKind.i64], .num .i64, .num .i64, .num .i64, .num .i64] => kPh -/
/-! rep (dropT (0 : Nat) (L.getD k.toNat [])) => (L.getD k.toNat []) -/
/-! rep (dropT (0 : Nat) (L2.getD k.toNat [])) => (L2.getD k.toNat []) -/
/-! rep (dropT (0 : Nat) (L.getD i.toNat [])) => (L.getD i.toNat []) -/
/-! rep (dropT (0 : Nat) (M.getD k.toNat [])) => (M.getD k.toNat []) -/
/-! repp (List.brecOn.go (motive := fun x => Nat → List Dat → List (List Dat)) M List.set._f).1 k.toNat ==> M.set k.toNat -/
/-! rep (((L.getD i.toNat []).headD (Dat.n (0 : Int))).toL) => (phA L i) -/
/-! rep ((L.getD i.toNat []).headD (Dat.n (0 : Int))).toL => (phA L i) -/
/-! rep (((L.getD i.toNat []).tail.headD (Dat.n (0 : Int))).toI) => (phG L i) -/
/-! rep ((L.getD i.toNat []).tail.headD (Dat.n (0 : Int))).toI => (phG L i) -/
/-! rep (((L.getD i.toNat []).tail.tail.headD (Dat.n (0 : Int))).toI) => (phV L i) -/
/-! rep ((L.getD i.toNat []).tail.tail.headD (Dat.n (0 : Int))).toI => (phV L i) -/
/-! rep (((L.getD i.toNat []).tail.tail.tail.headD (Dat.n (0 : Int))).toI) => (phM L i) -/
/-! rep ((L.getD i.toNat []).tail.tail.tail.headD (Dat.n (0 : Int))).toI => (phM L i) -/
/-! rep (((L.getD i.toNat []).tail.tail.tail.tail.headD (Dat.n (0 : Int))).toI) => (phU L i) -/
/-! rep ((L.getD i.toNat []).tail.tail.tail.tail.headD (Dat.n (0 : Int))).toI => (phU L i) -/
/-! rep (((L2.getD i.toNat []).headD (Dat.n (0 : Int))).toL) => (phA L2 i) -/
/-! rep ((L2.getD i.toNat []).headD (Dat.n (0 : Int))).toL => (phA L2 i) -/
/-! rep (((L2.getD i.toNat []).tail.headD (Dat.n (0 : Int))).toI) => (phG L2 i) -/
/-! rep ((L2.getD i.toNat []).tail.headD (Dat.n (0 : Int))).toI => (phG L2 i) -/
/-! rep (((L2.getD i.toNat []).tail.tail.headD (Dat.n (0 : Int))).toI) => (phV L2 i) -/
/-! rep ((L2.getD i.toNat []).tail.tail.headD (Dat.n (0 : Int))).toI => (phV L2 i) -/
/-! rep (((L2.getD i.toNat []).tail.tail.tail.headD (Dat.n (0 : Int))).toI) => (phM L2 i) -/
/-! rep ((L2.getD i.toNat []).tail.tail.tail.headD (Dat.n (0 : Int))).toI => (phM L2 i) -/
/-! rep (((L2.getD i.toNat []).tail.tail.tail.tail.headD (Dat.n (0 : Int))).toI) => (phU L2 i) -/
/-! rep ((L2.getD i.toNat []).tail.tail.tail.tail.headD (Dat.n (0 : Int))).toI => (phU L2 i) -/
/-! rep (((M.getD i.toNat []).headD (Dat.n (0 : Int))).toL) => (phA M i) -/
/-! rep ((M.getD i.toNat []).headD (Dat.n (0 : Int))).toL => (phA M i) -/
/-! rep (((M.getD i.toNat []).tail.headD (Dat.n (0 : Int))).toI) => (phG M i) -/
/-! rep ((M.getD i.toNat []).tail.headD (Dat.n (0 : Int))).toI => (phG M i) -/
/-! rep (((M.getD i.toNat []).tail.tail.headD (Dat.n (0 : Int))).toI) => (phV M i) -/
/-! rep ((M.getD i.toNat []).tail.tail.headD (Dat.n (0 : Int))).toI => (phV M i) -/
/-! rep (((M.getD i.toNat []).tail.tail.tail.headD (Dat.n (0 : Int))).toI) => (phM M i) -/
/-! rep ((M.getD i.toNat []).tail.tail.tail.headD (Dat.n (0 : Int))).toI => (phM M i) -/
/-! rep (((M.getD i.toNat []).tail.tail.tail.tail.headD (Dat.n (0 : Int))).toI) => (phU M i) -/
/-! rep ((M.getD i.toNat []).tail.tail.tail.tail.headD (Dat.n (0 : Int))).toI => (phU M i) -/
/-! rep (((L.getD k.toNat []).headD (Dat.n (0 : Int))).toL) => (phA L k) -/
/-! rep ((L.getD k.toNat []).headD (Dat.n (0 : Int))).toL => (phA L k) -/
/-! rep (((L.getD k.toNat []).tail.headD (Dat.n (0 : Int))).toI) => (phG L k) -/
/-! rep ((L.getD k.toNat []).tail.headD (Dat.n (0 : Int))).toI => (phG L k) -/
/-! rep (((L.getD k.toNat []).tail.tail.headD (Dat.n (0 : Int))).toI) => (phV L k) -/
/-! rep ((L.getD k.toNat []).tail.tail.headD (Dat.n (0 : Int))).toI => (phV L k) -/
/-! rep (((L.getD k.toNat []).tail.tail.tail.headD (Dat.n (0 : Int))).toI) => (phM L k) -/
/-! rep ((L.getD k.toNat []).tail.tail.tail.headD (Dat.n (0 : Int))).toI => (phM L k) -/
/-! rep (((L.getD k.toNat []).tail.tail.tail.tail.headD (Dat.n (0 : Int))).toI) => (phU L k) -/
/-! rep ((L.getD k.toNat []).tail.tail.tail.tail.headD (Dat.n (0 : Int))).toI => (phU L k) -/
/-! rep (((L2.getD k.toNat []).headD (Dat.n (0 : Int))).toL) => (phA L2 k) -/
/-! rep ((L2.getD k.toNat []).headD (Dat.n (0 : Int))).toL => (phA L2 k) -/
/-! rep (((L2.getD k.toNat []).tail.headD (Dat.n (0 : Int))).toI) => (phG L2 k) -/
/-! rep ((L2.getD k.toNat []).tail.headD (Dat.n (0 : Int))).toI => (phG L2 k) -/
/-! rep (((L2.getD k.toNat []).tail.tail.headD (Dat.n (0 : Int))).toI) => (phV L2 k) -/
/-! rep ((L2.getD k.toNat []).tail.tail.headD (Dat.n (0 : Int))).toI => (phV L2 k) -/
/-! rep (((L2.getD k.toNat []).tail.tail.tail.headD (Dat.n (0 : Int))).toI) => (phM L2 k) -/
/-! rep ((L2.getD k.toNat []).tail.tail.tail.headD (Dat.n (0 : Int))).toI => (phM L2 k) -/
/-! rep (((L2.getD k.toNat []).tail.tail.tail.tail.headD (Dat.n (0 : Int))).toI) => (phU L2 k) -/
/-! rep ((L2.getD k.toNat []).tail.tail.tail.tail.headD (Dat.n (0 : Int))).toI => (phU L2 k) -/
/-! rep (((M.getD k.toNat []).headD (Dat.n (0 : Int))).toL) => (phA M k) -/
/-! rep ((M.getD k.toNat []).headD (Dat.n (0 : Int))).toL => (phA M k) -/
/-! rep (((M.getD k.toNat []).tail.headD (Dat.n (0 : Int))).toI) => (phG M k) -/
/-! rep ((M.getD k.toNat []).tail.headD (Dat.n (0 : Int))).toI => (phG M k) -/
/-! rep (((M.getD k.toNat []).tail.tail.headD (Dat.n (0 : Int))).toI) => (phV M k) -/
/-! rep ((M.getD k.toNat []).tail.tail.headD (Dat.n (0 : Int))).toI => (phV M k) -/
/-! rep (((M.getD k.toNat []).tail.tail.tail.headD (Dat.n (0 : Int))).toI) => (phM M k) -/
/-! rep ((M.getD k.toNat []).tail.tail.tail.headD (Dat.n (0 : Int))).toI => (phM M k) -/
/-! rep (((M.getD k.toNat []).tail.tail.tail.tail.headD (Dat.n (0 : Int))).toI) => (phU M k) -/
/-! rep ((M.getD k.toNat []).tail.tail.tail.tail.headD (Dat.n (0 : Int))).toI => (phU M k) -/
/-! rep (((A.getD i.toNat []).headD (Dat.n (0 : Int))).toI) => (pX A i) -/
/-! rep (((A.getD i.toNat []).tail.headD (Dat.n (0 : Int))).toI) => (pY A i) -/
/-! rep ((A.getD i.toNat []).headD (Dat.n (0 : Int))).toI => (pX A i) -/
/-! rep ((A.getD i.toNat []).tail.headD (Dat.n (0 : Int))).toI => (pY A i) -/
noncomputable def Γrf : Orc := { ΓRf1 with av := true }
theorem Okrf : Γrf.Ok Tryz.prog := ⟨OkRf1.call, OkRf1.rd, OkRf1.eqv⟩

/-- A corner's bytes behind what there is. -/
def ptT (A : List (List Dat)) (i : Int) (s : ByteArray) : ByteArray := s ++ (be 4 (pX A i) ++ be 4 (pY A i))
theorem ba_size (a b : ByteArray) : (a ++ b).size = a.size + b.size := ByteArray.size_append
theorem ptT_size (A : List (List Dat)) (i : Int) (s : ByteArray) : (ptT A i s).size = s.size + 8 := by
  unfold ptT
  rw [ba_size, ba_size, be_size, be_size]
theorem ptsT_size (A : List (List Dat)) : ∀ (m : Nat) (i : Int) (s : ByteArray), (foF (ptT A) m i s).size = s.size + 8 * m
  | 0, _, s => by show s.size = _; omega
  | m + 1, i, s => by
    show (foF (ptT A) m (i + 1) (ptT A i s)).size = _
    rw [ptsT_size A m, ptT_size]
    omega
def ptsT (A : List (List Dat)) (s : ByteArray) : ByteArray := foF (ptT A) A.length 0 s
/-- A phase's bytes behind what there is. -/
def phB (L : List (List Dat)) (k : Int) : ByteArray := be 1 ((phA L k).length : Int) ++ be 1 (phG L k) ++ (be 4 (phV L k) ++ be 4 (phM L k) ++ be 4 (phU L k))
theorem phB_size (L : List (List Dat)) (k : Int) : (phB L k).size = 14 := by
  unfold phB
  rw [ba_size, ba_size, ba_size, ba_size, be_size, be_size, be_size, be_size, be_size]
def phT (L : List (List Dat)) (k : Int) (s : ByteArray) : ByteArray := ptsT (phA L k) (s ++ phB L k)
theorem phT_size (L : List (List Dat)) (k : Int) (s : ByteArray) : (phT L k s).size = s.size + 14 + 8 * (phA L k).length := by
  unfold phT ptsT
  rw [ptsT_size, ba_size, phB_size]
def phsT (L : List (List Dat)) (s : ByteArray) : ByteArray := foF (phT L) L.length 0 s
theorem phT_inv {L : List (List Dat)} (hp : phOk L = true) (k : Int) (t : ByteArray) (hk : 0 ≤ k ∧ k < (L.length : Int)) (ht : (t.size : Int) ≤ 1000000 + 8000014 * k) : ((phT L k t).size : Int) ≤ 1000000 + 8000014 * (k + 1) := by
  have := Nat.le_of_ble_eq_true (phOk_get hp hk.1 hk.2).2
  rw [phT_size]
  omega
def hdT (L : List (List Dat)) (r1 : Int) (r2 : Int) (r3 : Int) (r4 : Int) (r5 : Int) (r6 : Int) (r7 : Int) (r8 : Int) : ByteArray := { data := #[65, 70, 84, 85] : ByteArray } ++ (be (1 : Nat) (L.length : Int) ++ be (1 : Nat) r1 ++ be (1 : Nat) r2 ++ be (1 : Nat) r3 ++ be (1 : Nat) r6 ++ be (1 : Nat) r8) ++ (be (4 : Nat) r4 ++ be (4 : Nat) r5 ++ be (4 : Nat) r7)
theorem hdT_size (L : List (List Dat)) (r1 : Int) (r2 : Int) (r3 : Int) (r4 : Int) (r5 : Int) (r6 : Int) (r7 : Int) (r8 : Int) : (hdT L r1 r2 r3 r4 r5 r6 r7 r8).size = 22 := by
  unfold hdT
  simp only [ba_size, be_size]
  rfl
def bodR (L : List (List Dat)) (r1 : Int) (r2 : Int) (r3 : Int) (r4 : Int) (r5 : Int) (r6 : Int) (r7 : Int) (r8 : Int) : ByteArray := phsT L (hdT L r1 r2 r3 r4 r5 r6 r7 r8)
def filR (L : List (List Dat)) (r1 : Int) (r2 : Int) (r3 : Int) (r4 : Int) (r5 : Int) (r6 : Int) (r7 : Int) (r8 : Int) : ByteArray := bodR L r1 r2 r3 r4 r5 r6 r7 r8 ++ be 4 (wI (sum32 (bodR L r1 r2 r3 r4 r5 r6 r7 r8)))
theorem bodR_size {L : List (List Dat)} (hp : phOk L = true) (hl : L.length ≤ 1000) (r1 : Int) (r2 : Int) (r3 : Int) (r4 : Int) (r5 : Int) (r6 : Int) (r7 : Int) (r8 : Int) : (bodR L r1 r2 r3 r4 r5 r6 r7 r8).size ≤ 9000000000 := by
  have h := foF_inv (f := phT L) (N := (L.length : Int)) (I := fun k t => (t.size : Int) ≤ 1000000 + 8000014 * k) (fun k t hk ht => phT_inv hp k t hk ht) L.length 0 (hdT L r1 r2 r3 r4 r5 r6 r7 r8) (by omega) (by omega) (by rw [hdT_size]; omega)
  have h2 : ((bodR L r1 r2 r3 r4 r5 r6 r7 r8).size : Int) ≤ 1000000 + 8000014 * (0 + (L.length : Int)) := h
  omega
def prtS (L : List (List Dat)) (r1 : Int) (r2 : Int) (r3 : Int) (r4 : Int) (r5 : Int) (r6 : Int) (r7 : Int) (r8 : Int) : ByteArray := bif wrB L r1 r2 r3 r4 r5 r6 r7 r8 == 0 then filR L r1 r2 r3 r4 r5 r6 r7 r8 else ⟨#[]⟩
noncomputable def Γrg : Orc := Γrf
theorem Okrg : Γrg.Ok Tryz.prog := Okrf
noncomputable def ΓRf2 : Orc := Γrg
theorem OkRf2 : ΓRf2.Ok Tryz.prog := Okrg
end Go.Proofs.YtikekoabadhmiaaGreat

namespace Go.Proofs.YtikekoabadhmiaaGreat
open Go Go.Proofs Go.Sx
set_option linter.unusedVariables false
/-! norm -/
/-! cast -/
/-! rep [CK.sl 51 [CK0.num IntKind.i64, CK0.num IntKind.i64], .num .i64, .num .i64, .num .i64, .num .i64] => kPh -/
/-! rep (dropT (0 : Nat) (L.getD k.toNat [])) => (L.getD k.toNat []) -/
/-! rep (dropT (0 : Nat) (L2.getD k.toNat [])) => (L2.getD k.toNat []) -/
/-! rep (dropT (0 : Nat) (L.getD i.toNat [])) => (L.getD i.toNat []) -/
/-! rep (dropT (0 : Nat) (M.getD k.toNat [])) => (M.getD k.toNat []) -/
/-! repp (List.brecOn.go (motive := fun x => Nat → List Dat → List (List Dat)) M List.set._f).1 k.toNat ==> M.set k.toNat -/
/-! rep (((L.getD i.toNat []).headD (Dat.n (0 : Int))).toL) => (phA L i) -/
/-! rep ((L.getD i.toNat []).headD (Dat.n (0 : Int))).toL => (phA L i) -/
/-! rep (((L.getD i.toNat []).tail.headD (Dat.n (0 : Int))).toI) => (phG L i) -/
/-! rep ((L.getD i.toNat []).tail.headD (Dat.n (0 : Int))).toI => (phG L i) -/
/-! rep (((L.getD i.toNat []).tail.tail.headD (Dat.n (0 : Int))).toI) => (phV L i) -/
/-! rep ((L.getD i.toNat []).tail.tail.headD (Dat.n (0 : Int))).toI => (phV L i) -/
/-! rep (((L.getD i.toNat []).tail.tail.tail.headD (Dat.n (0 : Int))).toI) => (phM L i) -/
/-! rep ((L.getD i.toNat []).tail.tail.tail.headD (Dat.n (0 : Int))).toI => (phM L i) -/
/-! rep (((L.getD i.toNat []).tail.tail.tail.tail.headD (Dat.n (0 : Int))).toI) => (phU L i) -/
/-! rep ((L.getD i.toNat []).tail.tail.tail.tail.headD (Dat.n (0 : Int))).toI => (phU L i) -/
/-! rep (((L2.getD i.toNat []).headD (Dat.n (0 : Int))).toL) => (phA L2 i) -/
/-! rep ((L2.getD i.toNat []).headD (Dat.n (0 : Int))).toL => (phA L2 i) -/
/-! rep (((L2.getD i.toNat []).tail.headD (Dat.n (0 : Int))).toI) => (phG L2 i) -/
/-! rep ((L2.getD i.toNat []).tail.headD (Dat.n (0 : Int))).toI => (phG L2 i) -/
/-! rep (((L2.getD i.toNat []).tail.tail.headD (Dat.n (0 : Int))).toI) => (phV L2 i) -/
/-! rep ((L2.getD i.toNat []).tail.tail.headD (Dat.n (0 : Int))).toI => (phV L2 i) -/
/-! rep (((L2.getD i.toNat []).tail.tail.tail.headD (Dat.n (0 : Int))).toI) => (phM L2 i) -/
/-! rep ((L2.getD i.toNat []).tail.tail.tail.headD (Dat.n (0 : Int))).toI => (phM L2 i) -/
/-! rep (((L2.getD i.toNat []).tail.tail.tail.tail.headD (Dat.n (0 : Int))).toI) => (phU L2 i) -/
/-! rep ((L2.getD i.toNat []).tail.tail.tail.tail.headD (Dat.n (0 : Int))).toI => (phU L2 i) -/
/-! rep (((M.getD i.toNat []).headD (Dat.n (0 : Int))).toL) => (phA M i) -/
/-! rep ((M.getD i.toNat []).headD (Dat.n (0 : Int))).toL => (phA M i) -/
/-! rep (((M.getD i.toNat []).tail.headD (Dat.n (0 : Int))).toI) => (phG M i) -/
/-! rep ((M.getD i.toNat []).tail.headD (Dat.n (0 : Int))).toI => (phG M i) -/
/-! rep (((M.getD i.toNat []).tail.tail.headD (Dat.n (0 : Int))).toI) => (phV M i) -/
/-! rep ((M.getD i.toNat []).tail.tail.headD (Dat.n (0 : Int))).toI => (phV M i) -/
/-! rep (((M.getD i.toNat []).tail.tail.tail.headD (Dat.n (0 : Int))).toI) => (phM M i) -/
/-! rep ((M.getD i.toNat []).tail.tail.tail.headD (Dat.n (0 : Int))).toI => (phM M i) -/
/-! rep (((M.getD i.toNat []).tail.tail.tail.tail.headD (Dat.n (0 : Int))).toI) => (phU M i) -/
/-! rep ((M.getD i.toNat []).tail.tail.tail.tail.headD (Dat.n (0 : Int))).toI => (phU M i) -/
/-! rep (((L.getD k.toNat []).headD (Dat.n (0 : Int))).toL) => (phA L k) -/
/-! rep ((L.getD k.toNat []).headD (Dat.n (0 : Int))).toL => (phA L k) -/
/-! rep (((L.getD k.toNat []).tail.headD (Dat.n (0 : Int))).toI) => (phG L k) -/
/-! rep ((L.getD k.toNat []).tail.headD (Dat.n (0 : Int))).toI => (phG L k) -/
/-! rep (((L.getD k.toNat []).tail.tail.headD (Dat.n (0 : Int))).toI) => (phV L k) -/
/-! rep ((L.getD k.toNat []).tail.tail.headD (Dat.n (0 : Int))).toI => (phV L k) -/
/-! rep (((L.getD k.toNat []).tail.tail.tail.headD (Dat.n (0 : Int))).toI) => (phM L k) -/
/-! rep ((L.getD k.toNat []).tail.tail.tail.headD (Dat.n (0 : Int))).toI => (phM L k) -/
/-! rep (((L.getD k.toNat []).tail.tail.tail.tail.headD (Dat.n (0 : Int))).toI) => (phU L k) -/
/-! rep ((L.getD k.toNat []).tail.tail.tail.tail.headD (Dat.n (0 : Int))).toI => (phU L k) -/
/-! rep (((L2.getD k.toNat []).headD (Dat.n (0 : Int))).toL) => (phA L2 k) -/
/-! rep ((L2.getD k.toNat []).headD (Dat.n (0 : Int))).toL => (phA L2 k) -/
/-! rep (((L2.getD k.toNat []).tail.headD (Dat.n (0 : Int))).toI) => (phG L2 k) -/
/-! rep ((L2.getD k.toNat []).tail.headD (Dat.n (0 : Int))).toI => (phG L2 k) -/
/-! rep (((L2.getD k.toNat []).tail.tail.headD (Dat.n (0 : Int))).toI) => (phV L2 k) -/
/-! rep ((L2.getD k.toNat []).tail.tail.headD (Dat.n (0 : Int))).toI => (phV L2 k) -/
/-! rep (((L2.getD k.toNat []).tail.tail.tail.headD (Dat.n (0 : Int))).toI) => (phM L2 k) -/
/-! rep ((L2.getD k.toNat []).tail.tail.tail.headD (Dat.n (0 : Int))).toI => (phM L2 k) -/
/-! rep (((L2.getD k.toNat []).tail.tail.tail.tail.headD (Dat.n (0 : Int))).toI) => (phU L2 k) -/
/-! rep ((L2.getD k.toNat []).tail.tail.tail.tail.headD (Dat.n (0 : Int))).toI => (phU L2 k) -/
/-! rep (((M.getD k.toNat []).headD (Dat.n (0 : Int))).toL) => (phA M k) -/
/-! rep ((M.getD k.toNat []).headD (Dat.n (0 : Int))).toL => (phA M k) -/
/-! rep (((M.getD k.toNat []).tail.headD (Dat.n (0 : Int))).toI) => (phG M k) -/
/-! rep ((M.getD k.toNat []).tail.headD (Dat.n (0 : Int))).toI => (phG M k) -/
/-! rep (((M.getD k.toNat []).tail.tail.headD (Dat.n (0 : Int))).toI) => (phV M k) -/
/-! rep ((M.getD k.toNat []).tail.tail.headD (Dat.n (0 : Int))).toI => (phV M k) -/
/-! rep (((M.getD k.toNat []).tail.tail.tail.headD (Dat.n (0 : Int))).toI) => (phM M k) -/
/-! rep ((M.getD k.toNat []).tail.tail.tail.headD (Dat.n (0 : Int))).toI => (phM M k) -/
/-! rep (((M.getD k.toNat []).tail.tail.tail.tail.headD (Dat.n (0 : Int))).toI) => (phU M k) -/
/-! rep ((M.getD k.toNat []).tail.tail.tail.tail.headD (Dat.n (0 : Int))).toI => (phU M k) -/
/-! rep (((A.getD i.toNat []).headD (Dat.n (0 : Int))).toI) => (pX A i) -/
/-! rep (((A.getD i.toNat []).tail.headD (Dat.n (0 : Int))).toI) => (pY A i) -/
/-! rep ((A.getD i.toNat []).headD (Dat.n (0 : Int))).toI => (pX A i) -/
/-! rep ((A.getD i.toNat []).tail.headD (Dat.n (0 : Int))).toI => (pY A i) -/

noncomputable def bdDo : Code := loopAt (Tryz.f17.body.getD .skip) 0
noncomputable def bdDi : Code := loopAt bdDo 0
def kDi : List Bool := maskOf 106 [1,3,4,5,6]
def xDi (e : Ex) : List Bool := match e with
  | .exit _ => maskOf 106 [1,3,4]
  | .ret => maskOf 106 []
  | .normal => maskOf 106 [1,3,4,5,6]
def KDi (e : Ex) (st : St) : Option (Ex × St) := some (e, cutC 0 1 (xDi e) st)
set_option maxRecDepth 20000 in
theorem stepDi (r1 : Int) (r2 : Int) (r3 : Int) (r4 : Int) (r5 : Int) (r6 : Int) (r7 : Int) (r8 : Int) (g : Int) (v : Int) (m : Int) (u : Int) (s : ByteArray) (k : Int) (i : Int) (L : List (List Dat)) (own : Bool) (mark : Bool) (A : List (List Dat)) (own2 : Bool) (mark2 : Bool) (n : Nat) : evLoop ΓRf2 Tryz.prog L0 (cutC 0 1 kDi) bdDi (n + 1) (mk kDi [.ptr 0 0, .v (S s), .v (I k), .ptr 1 0, .v (I i)] ⟨[[.row 0, .v (I r1), .v (I r2), .v (I r3), .v (I r4), .v (I r5), .v (I r6), .v (I r7), .v (I r8)], [.row 1, .v (I g), .v (I v), .v (I m), .v (I u)]], [true, true], [rH L own mark, rP A own2 mark2]⟩) KDi =
    (bif decide (i < (A.length : Int)) then (bif decide ((0 : Int) ≤ i) && decide (i < (A.length : Int)) then (bif decide ((0 : Int) ≤ i) && decide (i < (A.length : Int)) then (bif (s.size + (be (4 : Nat) (pX A i) ++ be (4 : Nat) (pY A i)).size).ble (9223372036854775807) then evLoop ΓRf2 Tryz.prog L0 (cutC 0 1 kDi) bdDi n (mk kDi [.ptr 0 0, .v (S (s ++ (be (4 : Nat) (pX A i) ++ be (4 : Nat) (pY A i)))), .v (I k), .ptr 1 0, .v (I (wI (i + (1 : Int))))] ⟨[[.row 0, .v (I r1), .v (I r2), .v (I r3), .v (I r4), .v (I r5), .v (I r6), .v (I r7), .v (I r8)], [.row 1, .v (I g), .v (I v), .v (I m), .v (I u)]], [true, true], [.live ⟨49, kPh, L, own, mark⟩, .live ⟨51, [.num .i64, .num .i64], A, own2, mark2⟩]⟩) KDi else none) else none) else none) else some ((.exit 2), mk (xDi (.exit 2)) [.ptr 0 0, .v (S s), .v (I k)] ⟨[[.row 0, .v (I r1), .v (I r2), .v (I r3), .v (I r4), .v (I r5), .v (I r6), .v (I r7), .v (I r8)]], [true], [.live ⟨49, kPh, L, own, mark⟩]⟩)) := by kernel_rfl
noncomputable def EDi (n : Nat) (r1 : Int) (r2 : Int) (r3 : Int) (r4 : Int) (r5 : Int) (r6 : Int) (r7 : Int) (r8 : Int) (g : Int) (v : Int) (m : Int) (u : Int) (s : ByteArray) (k : Int) (i : Int) (L : List (List Dat)) (own : Bool) (mark : Bool) (A : List (List Dat)) (own2 : Bool) (mark2 : Bool) : Option (Ex × St) :=
  evLoop ΓRf2 Tryz.prog L0 (cutC 0 1 kDi) bdDi n (mk kDi [.ptr 0 0, .v (S s), .v (I k), .ptr 1 0, .v (I i)] ⟨[[.row 0, .v (I r1), .v (I r2), .v (I r3), .v (I r4), .v (I r5), .v (I r6), .v (I r7), .v (I r8)], [.row 1, .v (I g), .v (I v), .v (I m), .v (I u)]], [true, true], [rH L own mark, rP A own2 mark2]⟩) KDi
def lfDi (r1 : Int) (r2 : Int) (r3 : Int) (r4 : Int) (r5 : Int) (r6 : Int) (r7 : Int) (r8 : Int) (s : ByteArray) (k : Int) (L : List (List Dat)) (own mark : Bool) (A : List (List Dat)) : LT := .leaf (.exit 2) (mk (xDi (.exit 2)) [.ptr 0 0, .v (S (ptsT A s)), .v (I k)] ⟨[[.row 0, .v (I r1), .v (I r2), .v (I r3), .v (I r4), .v (I r5), .v (I r6), .v (I r7), .v (I r8)]], [true], [rH L own mark]⟩)
theorem loopDi (r1 : Int) (r2 : Int) (r3 : Int) (r4 : Int) (r5 : Int) (r6 : Int) (r7 : Int) (r8 : Int) (g v m u : Int) (s : ByteArray) (k : Int) (L : List (List Dat)) (own mark : Bool) (A : List (List Dat)) (own2 mark2 : Bool) (hl : A.length ≤ 1000000) (hs : s.size ≤ 1000000000000) : EDi (A.length + 1) r1 r2 r3 r4 r5 r6 r7 r8 g v m u s k 0 L own mark A own2 mark2 = some (lfDi r1 r2 r3 r4 r5 r6 r7 r8 s k L own mark A).pick := by
  have h := foldAll (ptT A) (fun i t => (t.size : Int) ≤ 1000000000000 + 8 * i) (A.length : Int) (fun n i t => EDi n r1 r2 r3 r4 r5 r6 r7 r8 g v m u t k i L own mark A own2 mark2) (fun t => some (.exit 2, mk (xDi (.exit 2)) [.ptr 0 0, .v (S t), .v (I k)] ⟨[[.row 0, .v (I r1), .v (I r2), .v (I r3), .v (I r4), .v (I r5), .v (I r6), .v (I r7), .v (I r8)]], [true], [rH L own mark]⟩)) (fun n i t hi _ => ?_) (fun i t hi ht => ?_) (fun n i t hi ht => ?_) A.length 0 s (by omega) (by omega) (by omega)
  · exact h
  · refine (stepDi r1 r2 r3 r4 r5 r6 r7 r8 g v m u t k i L own mark A own2 mark2 n).trans ?_
    rw [decide_eq_false hi]
    rfl
  · rw [ptT_size]
    omega
  · refine (stepDi r1 r2 r3 r4 r5 r6 r7 r8 g v m u t k i L own mark A own2 mark2 n).trans ?_
    rw [decide_eq_true hi.2, decide_eq_true hi.1, wI_id (n := i + 1) (by omega), Nat.ble_eq_true_of_le (show t.size + (be (4 : Nat) (pX A i) ++ be (4 : Nat) (pY A i)).size ≤ 9223372036854775807 by rw [ba_size, be_size, be_size]; omega)]
    rfl
def GDi (vals : List SV) (m : Mem) : Option (Bool × LT) :=
  match vals, m with
  | [.ptr 0 0, .v (.string s), .v (.int .i64 k), .ptr 1 0, .v (.int .i64 i)], ⟨[[.row 0, .v (.int .i64 r1), .v (.int .i64 r2), .v (.int .i64 r3), .v (.int .i64 r4), .v (.int .i64 r5), .v (.int .i64 r6), .v (.int .i64 r7), .v (.int .i64 r8)], [.row 1, .v (.int .i64 g), .v (.int .i64 v), .v (.int .i64 m), .v (.int .i64 u)]], [true, true], [.live ⟨49, [.sl 51 [.num .i64, .num .i64], .num .i64, .num .i64, .num .i64, .num .i64], L, own, mark⟩, .live ⟨51, [.num .i64, .num .i64], A, own2, mark2⟩]⟩ => some (i == 0 && (Nat.ble A.length 1000000 && Nat.ble s.size 1000000000000), lfDi r1 r2 r3 r4 r5 r6 r7 r8 s k L own mark A)
  | _, _ => none
noncomputable def ΛDi : LoopOrc := fun _ st => viaT 0 1 kDi GDi st
theorem loopOkDi (z : Base) (z1 : z.L.length = 0) (z2 : z.U.length = 1) : LoopOk ΛDi Tryz.prog z bdDi := by
  refine loop_okT (Λ := L0) (kx := xDi) OkRf2 mixed z1 z2 (fun b hb st t h => by cases h) (G := GDi) (fun _ => rfl) ?_
  intro vals m t h
  unfold GDi at h
  split at h
  · rename_i s k i r1 r2 r3 r4 r5 r6 r7 r8 g v m u L own mark A own2 mark2
    obtain ⟨h1, rfl⟩ := some_t h
    simp only [Bool.and_eq_true, beq_iff_eq] at h1
    obtain ⟨rfl, hl, hs⟩ := h1
    exact ⟨_, loopDi r1 r2 r3 r4 r5 r6 r7 r8 g v m u s k L own mark A own2 mark2 (Nat.le_of_ble_eq_true hl) (Nat.le_of_ble_eq_true hs)⟩
  · cases h
theorem loopsDo : loopsOf bdDo = [bdDi] := by kernel_rfl
def kDo : List Bool := maskOf 106 [1,3,4]
def xDo (e : Ex) : List Bool := match e with
  | .exit _ => maskOf 106 [3]
  | .ret => maskOf 106 []
  | .normal => maskOf 106 [1,3,4]
def KDo (e : Ex) (st : St) : Option (Ex × St) := some (e, cutC 0 1 (xDo e) st)
set_option maxRecDepth 20000 in
theorem stepDo (r1 : Int) (r2 : Int) (r3 : Int) (r4 : Int) (r5 : Int) (r6 : Int) (r7 : Int) (r8 : Int) (s : ByteArray) (k : Int) (L : List (List Dat)) (own : Bool) (mark : Bool) (n : Nat) : evLoop ΓRf2 Tryz.prog ΛDi (cutC 0 1 kDo) bdDo (n + 1) (mk kDo [.ptr 0 0, .v (S s), .v (I k)] ⟨[[.row 0, .v (I r1), .v (I r2), .v (I r3), .v (I r4), .v (I r5), .v (I r6), .v (I r7), .v (I r8)]], [true], [rH L own mark]⟩) KDo =
    (bif decide (k < (L.length : Int)) then (bif decide ((0 : Int) ≤ k) && decide (k < (L.length : Int)) then (same ((bif (s.size + (strOfNums (numsOf [[Dat.n (IntKind.u8.wrap ((phA L k).length : Int))], [Dat.n (IntKind.u8.wrap (phG L k))]]) ++ be (4 : Nat) (phV L k) ++ be (4 : Nat) (phM L k) ++ be (4 : Nat) (phU L k)).size).ble (9223372036854775807) then (bif true && ((phA L k).length.ble (1000000) && (s ++ (strOfNums (numsOf [[Dat.n (IntKind.u8.wrap ((phA L k).length : Int))], [Dat.n (IntKind.u8.wrap (phG L k))]]) ++ be (4 : Nat) (phV L k) ++ be (4 : Nat) (phM L k) ++ be (4 : Nat) (phU L k))).size.ble (1000000000000)) then evLoop ΓRf2 Tryz.prog ΛDi (cutC 0 1 kDo) bdDo n (mk kDo [.ptr 0 0, .v (S (ptsT (phA L k) (s ++ (strOfNums (numsOf [[Dat.n (IntKind.u8.wrap ((phA L k).length : Int))], [Dat.n (IntKind.u8.wrap (phG L k))]]) ++ be (4 : Nat) (phV L k) ++ be (4 : Nat) (phM L k) ++ be (4 : Nat) (phU L k))))), .v (I (wI (k + (1 : Int))))] ⟨[[.row 0, .v (I r1), .v (I r2), .v (I r3), .v (I r4), .v (I r5), .v (I r6), .v (I r7), .v (I r8)]], [true], [.live ⟨49, kPh, L, own, mark⟩]⟩) KDo else none) else none)) ((same ((bif (s.size + (strOfNums (numsOf [[Dat.n (IntKind.u8.wrap ((phA L k).length : Int))], [Dat.n (IntKind.u8.wrap (phG L k))]]) ++ be (4 : Nat) (phV L k) ++ be (4 : Nat) (phM L k) ++ be (4 : Nat) (phU L k)).size).ble (9223372036854775807) then (bif true && ((phA L k).length.ble (1000000) && (s ++ (strOfNums (numsOf [[Dat.n (IntKind.u8.wrap ((phA L k).length : Int))], [Dat.n (IntKind.u8.wrap (phG L k))]]) ++ be (4 : Nat) (phV L k) ++ be (4 : Nat) (phM L k) ++ be (4 : Nat) (phU L k))).size.ble (1000000000000)) then evLoop ΓRf2 Tryz.prog ΛDi (cutC 0 1 kDo) bdDo n (mk kDo [.ptr 0 0, .v (S (ptsT (phA L k) (s ++ (strOfNums (numsOf [[Dat.n (IntKind.u8.wrap ((phA L k).length : Int))], [Dat.n (IntKind.u8.wrap (phG L k))]]) ++ be (4 : Nat) (phV L k) ++ be (4 : Nat) (phM L k) ++ be (4 : Nat) (phU L k))))), .v (I (wI (k + (1 : Int))))] ⟨[[.row 0, .v (I r1), .v (I r2), .v (I r3), .v (I r4), .v (I r5), .v (I r6), .v (I r7), .v (I r8)]], [true], [.live ⟨49, kPh, L, own, mark⟩]⟩) KDo else none) else none)) ((same ((bif (s.size + (strOfNums (numsOf [[Dat.n (IntKind.u8.wrap ((phA L k).length : Int))], [Dat.n (IntKind.u8.wrap (phG L k))]]) ++ be (4 : Nat) (phV L k) ++ be (4 : Nat) (phM L k) ++ be (4 : Nat) (phU L k)).size).ble (9223372036854775807) then (bif true && ((phA L k).length.ble (1000000) && (s ++ (strOfNums (numsOf [[Dat.n (IntKind.u8.wrap ((phA L k).length : Int))], [Dat.n (IntKind.u8.wrap (phG L k))]]) ++ be (4 : Nat) (phV L k) ++ be (4 : Nat) (phM L k) ++ be (4 : Nat) (phU L k))).size.ble (1000000000000)) then evLoop ΓRf2 Tryz.prog ΛDi (cutC 0 1 kDo) bdDo n (mk kDo [.ptr 0 0, .v (S (ptsT (phA L k) (s ++ (strOfNums (numsOf [[Dat.n (IntKind.u8.wrap ((phA L k).length : Int))], [Dat.n (IntKind.u8.wrap (phG L k))]]) ++ be (4 : Nat) (phV L k) ++ be (4 : Nat) (phM L k) ++ be (4 : Nat) (phU L k))))), .v (I (wI (k + (1 : Int))))] ⟨[[.row 0, .v (I r1), .v (I r2), .v (I r3), .v (I r4), .v (I r5), .v (I r6), .v (I r7), .v (I r8)]], [true], [.live ⟨49, kPh, L, own, mark⟩]⟩) KDo else none) else none)) ((bif (s.size + (strOfNums (numsOf [[Dat.n (IntKind.u8.wrap ((phA L k).length : Int))], [Dat.n (IntKind.u8.wrap (phG L k))]]) ++ be (4 : Nat) (phV L k) ++ be (4 : Nat) (phM L k) ++ be (4 : Nat) (phU L k)).size).ble (9223372036854775807) then (bif true && ((phA L k).length.ble (1000000) && (s ++ (strOfNums (numsOf [[Dat.n (IntKind.u8.wrap ((phA L k).length : Int))], [Dat.n (IntKind.u8.wrap (phG L k))]]) ++ be (4 : Nat) (phV L k) ++ be (4 : Nat) (phM L k) ++ be (4 : Nat) (phU L k))).size.ble (1000000000000)) then evLoop ΓRf2 Tryz.prog ΛDi (cutC 0 1 kDo) bdDo n (mk kDo [.ptr 0 0, .v (S (ptsT (phA L k) (s ++ (strOfNums (numsOf [[Dat.n (IntKind.u8.wrap ((phA L k).length : Int))], [Dat.n (IntKind.u8.wrap (phG L k))]]) ++ be (4 : Nat) (phV L k) ++ be (4 : Nat) (phM L k) ++ be (4 : Nat) (phU L k))))), .v (I (wI (k + (1 : Int))))] ⟨[[.row 0, .v (I r1), .v (I r2), .v (I r3), .v (I r4), .v (I r5), .v (I r6), .v (I r7), .v (I r8)]], [true], [.live ⟨49, kPh, L, own, mark⟩]⟩) KDo else none) else none))))))) else none) else some ((.exit 0), mk (xDo (.exit 0)) [.v (S s)] ⟨[], [], [.live ⟨49, kPh, L, own, mark⟩]⟩)) := by kernel_rfl
theorem stepDoS (r1 : Int) (r2 : Int) (r3 : Int) (r4 : Int) (r5 : Int) (r6 : Int) (r7 : Int) (r8 : Int) (s : ByteArray) (k : Int) (L : List (List Dat)) (own : Bool) (mark : Bool) (n : Nat) : evLoop ΓRf2 Tryz.prog ΛDi (cutC 0 1 kDo) bdDo (n + 1) (mk kDo [.ptr 0 0, .v (S s), .v (I k)] ⟨[[.row 0, .v (I r1), .v (I r2), .v (I r3), .v (I r4), .v (I r5), .v (I r6), .v (I r7), .v (I r8)]], [true], [rH L own mark]⟩) KDo =
    (bif decide (k < (L.length : Int)) then (bif decide ((0 : Int) ≤ k) && decide (k < (L.length : Int)) then (bif (s.size + (strOfNums (numsOf [[Dat.n (IntKind.u8.wrap ((phA L k).length : Int))], [Dat.n (IntKind.u8.wrap (phG L k))]]) ++ be (4 : Nat) (phV L k) ++ be (4 : Nat) (phM L k) ++ be (4 : Nat) (phU L k)).size).ble (9223372036854775807) then (bif true && ((phA L k).length.ble (1000000) && (s ++ (strOfNums (numsOf [[Dat.n (IntKind.u8.wrap ((phA L k).length : Int))], [Dat.n (IntKind.u8.wrap (phG L k))]]) ++ be (4 : Nat) (phV L k) ++ be (4 : Nat) (phM L k) ++ be (4 : Nat) (phU L k))).size.ble (1000000000000)) then evLoop ΓRf2 Tryz.prog ΛDi (cutC 0 1 kDo) bdDo n (mk kDo [.ptr 0 0, .v (S (ptsT (phA L k) (s ++ (strOfNums (numsOf [[Dat.n (IntKind.u8.wrap ((phA L k).length : Int))], [Dat.n (IntKind.u8.wrap (phG L k))]]) ++ be (4 : Nat) (phV L k) ++ be (4 : Nat) (phM L k) ++ be (4 : Nat) (phU L k))))), .v (I (wI (k + (1 : Int))))] ⟨[[.row 0, .v (I r1), .v (I r2), .v (I r3), .v (I r4), .v (I r5), .v (I r6), .v (I r7), .v (I r8)]], [true], [.live ⟨49, kPh, L, own, mark⟩]⟩) KDo else none) else none) else none) else some ((.exit 0), mk (xDo (.exit 0)) [.v (S s)] ⟨[], [], [.live ⟨49, kPh, L, own, mark⟩]⟩)) := (stepDo _ _ _ _ _ _ _ _ _ _ _ _ _ _).trans (by simp only [same_self])
noncomputable def EDo (n : Nat) (r1 : Int) (r2 : Int) (r3 : Int) (r4 : Int) (r5 : Int) (r6 : Int) (r7 : Int) (r8 : Int) (s : ByteArray) (k : Int) (L : List (List Dat)) (own : Bool) (mark : Bool) : Option (Ex × St) :=
  evLoop ΓRf2 Tryz.prog ΛDi (cutC 0 1 kDo) bdDo n (mk kDo [.ptr 0 0, .v (S s), .v (I k)] ⟨[[.row 0, .v (I r1), .v (I r2), .v (I r3), .v (I r4), .v (I r5), .v (I r6), .v (I r7), .v (I r8)]], [true], [rH L own mark]⟩) KDo
theorem be1_i (n : Int) : be 1 n = strOfNums [n % 256] := by
  show strOfNums [n / 256 ^ 0 % 256] = _
  rw [show (256 : Int) ^ 0 = 1 by decide, Int.ediv_one]
theorem two1 (a b : Int) : strOfNums (numsOf [[Dat.n (IntKind.u8.wrap a)], [Dat.n (IntKind.u8.wrap b)]]) = be 1 a ++ be 1 b := by
  rw [wrap8_i, wrap8_i, be1_i, be1_i, ← nums_app]
  rfl
theorem six1 (a b c d e f : Int) : strOfNums (numsOf [[Dat.n (IntKind.u8.wrap a)], [Dat.n (IntKind.u8.wrap b)], [Dat.n (IntKind.u8.wrap c)], [Dat.n (IntKind.u8.wrap d)], [Dat.n (IntKind.u8.wrap e)], [Dat.n (IntKind.u8.wrap f)]]) = be 1 a ++ be 1 b ++ be 1 c ++ be 1 d ++ be 1 e ++ be 1 f := by
  simp only [wrap8_i, be1_i, ← nums_app]
  rfl
theorem phB2 (L : List (List Dat)) (k : Int) : strOfNums (numsOf [[Dat.n (IntKind.u8.wrap ((phA L k).length : Int))], [Dat.n (IntKind.u8.wrap (phG L k))]]) ++ be (4 : Nat) (phV L k) ++ be (4 : Nat) (phM L k) ++ be (4 : Nat) (phU L k) = phB L k := by
  unfold phB
  rw [two1]
  simp only [app_assoc]
def lfDo (s : ByteArray) (L : List (List Dat)) (own mark : Bool) : LT := .leaf (.exit 0) (mk (xDo (.exit 0)) [.v (S (phsT L s))] ⟨[], [], [rH L own mark]⟩)
theorem loopDo (r1 : Int) (r2 : Int) (r3 : Int) (r4 : Int) (r5 : Int) (r6 : Int) (r7 : Int) (r8 : Int) (s : ByteArray) (L : List (List Dat)) (own mark : Bool) (hp : phOk L = true) (hl : L.length ≤ 1000) (hs : s.size ≤ 1000000) : EDo (L.length + 1) r1 r2 r3 r4 r5 r6 r7 r8 s 0 L own mark = some (lfDo s L own mark).pick := by
  have h := foldAll (phT L) (fun k t => (t.size : Int) ≤ 1000000 + 8000014 * k) (L.length : Int) (fun n k t => EDo n r1 r2 r3 r4 r5 r6 r7 r8 t k L own mark) (fun t => some (.exit 0, mk (xDo (.exit 0)) [.v (S t)] ⟨[], [], [rH L own mark]⟩)) (fun n k t hk _ => ?_) (fun k t hk ht => phT_inv hp k t hk ht) (fun n k t hk ht => ?_) L.length 0 s (by omega) (by omega) (by omega)
  · exact h
  · refine (stepDoS r1 r2 r3 r4 r5 r6 r7 r8 t k L own mark n).trans ?_
    rw [decide_eq_false hk]
    rfl
  · have ha := (phOk_get hp hk.1 hk.2).2
    refine (stepDoS r1 r2 r3 r4 r5 r6 r7 r8 t k L own mark n).trans ?_
    simp only [phB2]
    rw [decide_eq_true hk.2, decide_eq_true hk.1, ha, wI_id (n := k + 1) (by omega), Nat.ble_eq_true_of_le (show t.size + (phB L k).size ≤ 9223372036854775807 by rw [phB_size]; omega), Nat.ble_eq_true_of_le (show (t ++ phB L k).size ≤ 1000000000000 by rw [ba_size, phB_size]; omega)]
    rfl
def GDo (vals : List SV) (m : Mem) : Option (Bool × LT) :=
  match vals, m with
  | [.ptr 0 0, .v (.string s), .v (.int .i64 k)], ⟨[[.row 0, .v (.int .i64 r1), .v (.int .i64 r2), .v (.int .i64 r3), .v (.int .i64 r4), .v (.int .i64 r5), .v (.int .i64 r6), .v (.int .i64 r7), .v (.int .i64 r8)]], [true], [.live ⟨49, [.sl 51 [.num .i64, .num .i64], .num .i64, .num .i64, .num .i64, .num .i64], L, own, mark⟩]⟩ => some (k == 0 && (phOk L && (Nat.ble L.length 1000 && Nat.ble s.size 1000000)), lfDo s L own mark)
  | _, _ => none
noncomputable def ΛDo : LoopOrc := fun _ st => viaT 0 1 kDo GDo st
theorem loopOkDo (z : Base) (z1 : z.L.length = 0) (z2 : z.U.length = 1) : LoopOk ΛDo Tryz.prog z bdDo := by
  refine loop_okT (Λ := ΛDi) (kx := xDo) OkRf2 mixed z1 z2 (oneLoop loopsDo (loopOkDi z z1 z2)) (G := GDo) (fun _ => rfl) ?_
  intro vals m t h
  unfold GDo at h
  split at h
  · rename_i s k r1 r2 r3 r4 r5 r6 r7 r8 L own mark
    obtain ⟨h1, rfl⟩ := some_t h
    simp only [Bool.and_eq_true, beq_iff_eq] at h1
    obtain ⟨rfl, hp, hl, hs⟩ := h1
    exact ⟨_, loopDo r1 r2 r3 r4 r5 r6 r7 r8 s L own mark hp (Nat.le_of_ble_eq_true hl) (Nat.le_of_ble_eq_true hs)⟩
  · cases h
theorem loopsDp : loopsOf (Tryz.f17.body.getD .skip) = [bdDo] := by kernel_rfl
theorem hdT2 (L : List (List Dat)) (r1 : Int) (r2 : Int) (r3 : Int) (r4 : Int) (r5 : Int) (r6 : Int) (r7 : Int) (r8 : Int) : ({ data := #[65, 70, 84, 85] : ByteArray } ++ strOfNums (numsOf [[Dat.n (IntKind.u8.wrap (L.length : Int))], [Dat.n (IntKind.u8.wrap r1)], [Dat.n (IntKind.u8.wrap r2)], [Dat.n (IntKind.u8.wrap r3)], [Dat.n (IntKind.u8.wrap r6)], [Dat.n (IntKind.u8.wrap r8)]]) ++ be (4 : Nat) r4 ++ be (4 : Nat) r5 ++ be (4 : Nat) r7) = hdT L r1 r2 r3 r4 r5 r6 r7 r8 := by
  unfold hdT
  rw [six1]
  simp only [app_assoc]
set_option maxRecDepth 20000 in
theorem runDpt (r1 : Int) (r2 : Int) (r3 : Int) (r4 : Int) (r5 : Int) (r6 : Int) (r7 : Int) (r8 : Int) (L : List (List Dat)) (own : Bool) (mark : Bool) : runG ΓRf2 ΛDo Tryz.prog Tryz.f17 [.ag [.row 0, .v (I r1), .v (I r2), .v (I r3), .v (I r4), .v (I r5), .v (I r6), .v (I r7), .v (I r8)]] ⟨[], [], [rH L own mark]⟩ = 
    (same ((bif true && (phOk L && (L.length.ble (1000) && ({ data := #[65, 70, 84, 85] : ByteArray } ++ strOfNums (numsOf [[Dat.n (IntKind.u8.wrap (L.length : Int))], [Dat.n (IntKind.u8.wrap r1)], [Dat.n (IntKind.u8.wrap r2)], [Dat.n (IntKind.u8.wrap r3)], [Dat.n (IntKind.u8.wrap r6)], [Dat.n (IntKind.u8.wrap r8)]]) ++ be (4 : Nat) r4 ++ be (4 : Nat) r5 ++ be (4 : Nat) r7).size.ble (1000000))) then (bif szS (phsT L ({ data := #[65, 70, 84, 85] : ByteArray } ++ strOfNums (numsOf [[Dat.n (IntKind.u8.wrap (L.length : Int))], [Dat.n (IntKind.u8.wrap r1)], [Dat.n (IntKind.u8.wrap r2)], [Dat.n (IntKind.u8.wrap r3)], [Dat.n (IntKind.u8.wrap r6)], [Dat.n (IntKind.u8.wrap r8)]]) ++ be (4 : Nat) r4 ++ be (4 : Nat) r5 ++ be (4 : Nat) r7)) then (bif ((phsT L ({ data := #[65, 70, 84, 85] : ByteArray } ++ strOfNums (numsOf [[Dat.n (IntKind.u8.wrap (L.length : Int))], [Dat.n (IntKind.u8.wrap r1)], [Dat.n (IntKind.u8.wrap r2)], [Dat.n (IntKind.u8.wrap r3)], [Dat.n (IntKind.u8.wrap r6)], [Dat.n (IntKind.u8.wrap r8)]]) ++ be (4 : Nat) r4 ++ be (4 : Nat) r5 ++ be (4 : Nat) r7)).size + (be (4 : Nat) (wI (sum32 (phsT L ({ data := #[65, 70, 84, 85] : ByteArray } ++ strOfNums (numsOf [[Dat.n (IntKind.u8.wrap (L.length : Int))], [Dat.n (IntKind.u8.wrap r1)], [Dat.n (IntKind.u8.wrap r2)], [Dat.n (IntKind.u8.wrap r3)], [Dat.n (IntKind.u8.wrap r6)], [Dat.n (IntKind.u8.wrap r8)]]) ++ be (4 : Nat) r4 ++ be (4 : Nat) r5 ++ be (4 : Nat) r7))))).size).ble (9223372036854775807) then some (.v (S (phsT L ({ data := #[65, 70, 84, 85] : ByteArray } ++ strOfNums (numsOf [[Dat.n (IntKind.u8.wrap (L.length : Int))], [Dat.n (IntKind.u8.wrap r1)], [Dat.n (IntKind.u8.wrap r2)], [Dat.n (IntKind.u8.wrap r3)], [Dat.n (IntKind.u8.wrap r6)], [Dat.n (IntKind.u8.wrap r8)]]) ++ be (4 : Nat) r4 ++ be (4 : Nat) r5 ++ be (4 : Nat) r7) ++ be (4 : Nat) (wI (sum32 (phsT L ({ data := #[65, 70, 84, 85] : ByteArray } ++ strOfNums (numsOf [[Dat.n (IntKind.u8.wrap (L.length : Int))], [Dat.n (IntKind.u8.wrap r1)], [Dat.n (IntKind.u8.wrap r2)], [Dat.n (IntKind.u8.wrap r3)], [Dat.n (IntKind.u8.wrap r6)], [Dat.n (IntKind.u8.wrap r8)]]) ++ be (4 : Nat) r4 ++ be (4 : Nat) r5 ++ be (4 : Nat) r7)))))), ⟨[], [], [.live ⟨49, kPh, L, own, mark⟩]⟩) else none) else none) else none)) ((same ((bif true && (phOk L && (L.length.ble (1000) && ({ data := #[65, 70, 84, 85] : ByteArray } ++ strOfNums (numsOf [[Dat.n (IntKind.u8.wrap (L.length : Int))], [Dat.n (IntKind.u8.wrap r1)], [Dat.n (IntKind.u8.wrap r2)], [Dat.n (IntKind.u8.wrap r3)], [Dat.n (IntKind.u8.wrap r6)], [Dat.n (IntKind.u8.wrap r8)]]) ++ be (4 : Nat) r4 ++ be (4 : Nat) r5 ++ be (4 : Nat) r7).size.ble (1000000))) then (bif szS (phsT L ({ data := #[65, 70, 84, 85] : ByteArray } ++ strOfNums (numsOf [[Dat.n (IntKind.u8.wrap (L.length : Int))], [Dat.n (IntKind.u8.wrap r1)], [Dat.n (IntKind.u8.wrap r2)], [Dat.n (IntKind.u8.wrap r3)], [Dat.n (IntKind.u8.wrap r6)], [Dat.n (IntKind.u8.wrap r8)]]) ++ be (4 : Nat) r4 ++ be (4 : Nat) r5 ++ be (4 : Nat) r7)) then (bif ((phsT L ({ data := #[65, 70, 84, 85] : ByteArray } ++ strOfNums (numsOf [[Dat.n (IntKind.u8.wrap (L.length : Int))], [Dat.n (IntKind.u8.wrap r1)], [Dat.n (IntKind.u8.wrap r2)], [Dat.n (IntKind.u8.wrap r3)], [Dat.n (IntKind.u8.wrap r6)], [Dat.n (IntKind.u8.wrap r8)]]) ++ be (4 : Nat) r4 ++ be (4 : Nat) r5 ++ be (4 : Nat) r7)).size + (be (4 : Nat) (wI (sum32 (phsT L ({ data := #[65, 70, 84, 85] : ByteArray } ++ strOfNums (numsOf [[Dat.n (IntKind.u8.wrap (L.length : Int))], [Dat.n (IntKind.u8.wrap r1)], [Dat.n (IntKind.u8.wrap r2)], [Dat.n (IntKind.u8.wrap r3)], [Dat.n (IntKind.u8.wrap r6)], [Dat.n (IntKind.u8.wrap r8)]]) ++ be (4 : Nat) r4 ++ be (4 : Nat) r5 ++ be (4 : Nat) r7))))).size).ble (9223372036854775807) then some (.v (S (phsT L ({ data := #[65, 70, 84, 85] : ByteArray } ++ strOfNums (numsOf [[Dat.n (IntKind.u8.wrap (L.length : Int))], [Dat.n (IntKind.u8.wrap r1)], [Dat.n (IntKind.u8.wrap r2)], [Dat.n (IntKind.u8.wrap r3)], [Dat.n (IntKind.u8.wrap r6)], [Dat.n (IntKind.u8.wrap r8)]]) ++ be (4 : Nat) r4 ++ be (4 : Nat) r5 ++ be (4 : Nat) r7) ++ be (4 : Nat) (wI (sum32 (phsT L ({ data := #[65, 70, 84, 85] : ByteArray } ++ strOfNums (numsOf [[Dat.n (IntKind.u8.wrap (L.length : Int))], [Dat.n (IntKind.u8.wrap r1)], [Dat.n (IntKind.u8.wrap r2)], [Dat.n (IntKind.u8.wrap r3)], [Dat.n (IntKind.u8.wrap r6)], [Dat.n (IntKind.u8.wrap r8)]]) ++ be (4 : Nat) r4 ++ be (4 : Nat) r5 ++ be (4 : Nat) r7)))))), ⟨[], [], [.live ⟨49, kPh, L, own, mark⟩]⟩) else none) else none) else none)) ((same ((bif true && (phOk L && (L.length.ble (1000) && ({ data := #[65, 70, 84, 85] : ByteArray } ++ strOfNums (numsOf [[Dat.n (IntKind.u8.wrap (L.length : Int))], [Dat.n (IntKind.u8.wrap r1)], [Dat.n (IntKind.u8.wrap r2)], [Dat.n (IntKind.u8.wrap r3)], [Dat.n (IntKind.u8.wrap r6)], [Dat.n (IntKind.u8.wrap r8)]]) ++ be (4 : Nat) r4 ++ be (4 : Nat) r5 ++ be (4 : Nat) r7).size.ble (1000000))) then (bif szS (phsT L ({ data := #[65, 70, 84, 85] : ByteArray } ++ strOfNums (numsOf [[Dat.n (IntKind.u8.wrap (L.length : Int))], [Dat.n (IntKind.u8.wrap r1)], [Dat.n (IntKind.u8.wrap r2)], [Dat.n (IntKind.u8.wrap r3)], [Dat.n (IntKind.u8.wrap r6)], [Dat.n (IntKind.u8.wrap r8)]]) ++ be (4 : Nat) r4 ++ be (4 : Nat) r5 ++ be (4 : Nat) r7)) then (bif ((phsT L ({ data := #[65, 70, 84, 85] : ByteArray } ++ strOfNums (numsOf [[Dat.n (IntKind.u8.wrap (L.length : Int))], [Dat.n (IntKind.u8.wrap r1)], [Dat.n (IntKind.u8.wrap r2)], [Dat.n (IntKind.u8.wrap r3)], [Dat.n (IntKind.u8.wrap r6)], [Dat.n (IntKind.u8.wrap r8)]]) ++ be (4 : Nat) r4 ++ be (4 : Nat) r5 ++ be (4 : Nat) r7)).size + (be (4 : Nat) (wI (sum32 (phsT L ({ data := #[65, 70, 84, 85] : ByteArray } ++ strOfNums (numsOf [[Dat.n (IntKind.u8.wrap (L.length : Int))], [Dat.n (IntKind.u8.wrap r1)], [Dat.n (IntKind.u8.wrap r2)], [Dat.n (IntKind.u8.wrap r3)], [Dat.n (IntKind.u8.wrap r6)], [Dat.n (IntKind.u8.wrap r8)]]) ++ be (4 : Nat) r4 ++ be (4 : Nat) r5 ++ be (4 : Nat) r7))))).size).ble (9223372036854775807) then some (.v (S (phsT L ({ data := #[65, 70, 84, 85] : ByteArray } ++ strOfNums (numsOf [[Dat.n (IntKind.u8.wrap (L.length : Int))], [Dat.n (IntKind.u8.wrap r1)], [Dat.n (IntKind.u8.wrap r2)], [Dat.n (IntKind.u8.wrap r3)], [Dat.n (IntKind.u8.wrap r6)], [Dat.n (IntKind.u8.wrap r8)]]) ++ be (4 : Nat) r4 ++ be (4 : Nat) r5 ++ be (4 : Nat) r7) ++ be (4 : Nat) (wI (sum32 (phsT L ({ data := #[65, 70, 84, 85] : ByteArray } ++ strOfNums (numsOf [[Dat.n (IntKind.u8.wrap (L.length : Int))], [Dat.n (IntKind.u8.wrap r1)], [Dat.n (IntKind.u8.wrap r2)], [Dat.n (IntKind.u8.wrap r3)], [Dat.n (IntKind.u8.wrap r6)], [Dat.n (IntKind.u8.wrap r8)]]) ++ be (4 : Nat) r4 ++ be (4 : Nat) r5 ++ be (4 : Nat) r7)))))), ⟨[], [], [.live ⟨49, kPh, L, own, mark⟩]⟩) else none) else none) else none)) ((bif true && (phOk L && (L.length.ble (1000) && ({ data := #[65, 70, 84, 85] : ByteArray } ++ strOfNums (numsOf [[Dat.n (IntKind.u8.wrap (L.length : Int))], [Dat.n (IntKind.u8.wrap r1)], [Dat.n (IntKind.u8.wrap r2)], [Dat.n (IntKind.u8.wrap r3)], [Dat.n (IntKind.u8.wrap r6)], [Dat.n (IntKind.u8.wrap r8)]]) ++ be (4 : Nat) r4 ++ be (4 : Nat) r5 ++ be (4 : Nat) r7).size.ble (1000000))) then (bif szS (phsT L ({ data := #[65, 70, 84, 85] : ByteArray } ++ strOfNums (numsOf [[Dat.n (IntKind.u8.wrap (L.length : Int))], [Dat.n (IntKind.u8.wrap r1)], [Dat.n (IntKind.u8.wrap r2)], [Dat.n (IntKind.u8.wrap r3)], [Dat.n (IntKind.u8.wrap r6)], [Dat.n (IntKind.u8.wrap r8)]]) ++ be (4 : Nat) r4 ++ be (4 : Nat) r5 ++ be (4 : Nat) r7)) then (bif ((phsT L ({ data := #[65, 70, 84, 85] : ByteArray } ++ strOfNums (numsOf [[Dat.n (IntKind.u8.wrap (L.length : Int))], [Dat.n (IntKind.u8.wrap r1)], [Dat.n (IntKind.u8.wrap r2)], [Dat.n (IntKind.u8.wrap r3)], [Dat.n (IntKind.u8.wrap r6)], [Dat.n (IntKind.u8.wrap r8)]]) ++ be (4 : Nat) r4 ++ be (4 : Nat) r5 ++ be (4 : Nat) r7)).size + (be (4 : Nat) (wI (sum32 (phsT L ({ data := #[65, 70, 84, 85] : ByteArray } ++ strOfNums (numsOf [[Dat.n (IntKind.u8.wrap (L.length : Int))], [Dat.n (IntKind.u8.wrap r1)], [Dat.n (IntKind.u8.wrap r2)], [Dat.n (IntKind.u8.wrap r3)], [Dat.n (IntKind.u8.wrap r6)], [Dat.n (IntKind.u8.wrap r8)]]) ++ be (4 : Nat) r4 ++ be (4 : Nat) r5 ++ be (4 : Nat) r7))))).size).ble (9223372036854775807) then some (.v (S (phsT L ({ data := #[65, 70, 84, 85] : ByteArray } ++ strOfNums (numsOf [[Dat.n (IntKind.u8.wrap (L.length : Int))], [Dat.n (IntKind.u8.wrap r1)], [Dat.n (IntKind.u8.wrap r2)], [Dat.n (IntKind.u8.wrap r3)], [Dat.n (IntKind.u8.wrap r6)], [Dat.n (IntKind.u8.wrap r8)]]) ++ be (4 : Nat) r4 ++ be (4 : Nat) r5 ++ be (4 : Nat) r7) ++ be (4 : Nat) (wI (sum32 (phsT L ({ data := #[65, 70, 84, 85] : ByteArray } ++ strOfNums (numsOf [[Dat.n (IntKind.u8.wrap (L.length : Int))], [Dat.n (IntKind.u8.wrap r1)], [Dat.n (IntKind.u8.wrap r2)], [Dat.n (IntKind.u8.wrap r3)], [Dat.n (IntKind.u8.wrap r6)], [Dat.n (IntKind.u8.wrap r8)]]) ++ be (4 : Nat) r4 ++ be (4 : Nat) r5 ++ be (4 : Nat) r7)))))), ⟨[], [], [.live ⟨49, kPh, L, own, mark⟩]⟩) else none) else none) else none))))))) := by kernel_rfl
def gDpt (xs : List SV) (m : Mem) : Option (Bool × Value) :=
  match xs, m with
  | [.ag [.row 0, .v (.int .i64 r1), .v (.int .i64 r2), .v (.int .i64 r3), .v (.int .i64 r4), .v (.int .i64 r5), .v (.int .i64 r6), .v (.int .i64 r7), .v (.int .i64 r8)]], ⟨[], [], [.live ⟨49, [.sl 51 [.num .i64, .num .i64], .num .i64, .num .i64, .num .i64, .num .i64], L, own, mark⟩]⟩ => some (phOk L && Nat.ble L.length 1000, S (filR L r1 r2 r3 r4 r5 r6 r7 r8))
  | _, _ => none
theorem gDpt_ok : ∀ xs m r, gDpt xs m = some (true, r) → CallOk Tryz.prog 17 xs m (.v r) m := by
  intro xs m r h
  unfold gDpt at h
  split at h
  · rename_i r1 r2 r3 r4 r5 r6 r7 r8 L own mark
    obtain ⟨h1, rfl⟩ := some_t h
    refine runOk (Λ := ΛDo) OkRf2 Tryz.func17 rfl (fun z z1 z2 => oneLoop loopsDp (loopOkDo z z1 z2)) ?_
    refine (runDpt r1 r2 r3 r4 r5 r6 r7 r8 L own mark).trans ?_
    rw [Bool.and_eq_true] at h1
    obtain ⟨hp, hl⟩ := h1
    have hb := bodR_size hp (Nat.le_of_ble_eq_true hl) r1 r2 r3 r4 r5 r6 r7 r8
    simp only [same_self, hdT2]
    show (bif true && (phOk L && (L.length.ble (1000) && (hdT L r1 r2 r3 r4 r5 r6 r7 r8).size.ble (1000000))) then (bif szS (bodR L r1 r2 r3 r4 r5 r6 r7 r8) then (bif ((bodR L r1 r2 r3 r4 r5 r6 r7 r8).size + (be (4 : Nat) (wI (sum32 (bodR L r1 r2 r3 r4 r5 r6 r7 r8)))).size).ble (9223372036854775807) then some (SV.v (S (filR L r1 r2 r3 r4 r5 r6 r7 r8)), (⟨[], [], [rH L own mark]⟩ : Mem)) else none) else none) else none) = _
    rw [hp, hl, hdT_size, show szS (bodR L r1 r2 r3 r4 r5 r6 r7 r8) = true from Nat.ble_eq_true_of_le (by omega), Nat.ble_eq_true_of_le (show (bodR L r1 r2 r3 r4 r5 r6 r7 r8).size + (be (4 : Nat) (wI (sum32 (bodR L r1 r2 r3 r4 r5 r6 r7 r8)))).size ≤ 9223372036854775807 by rw [be_size]; omega)]
    rfl
  · cases h
noncomputable def Γdg : Orc := addRd 17 gDpt ΓRf2
theorem Okdg : Γdg.Ok Tryz.prog := addRd_ok OkRf2 gDpt_ok
noncomputable def ΓRf3 : Orc := Γdg
theorem OkRf3 : ΓRf3.Ok Tryz.prog := Okdg
end Go.Proofs.YtikekoabadhmiaaGreat

namespace Go.Proofs.YtikekoabadhmiaaGreat
open Go Go.Proofs Go.Sx
set_option linter.unusedVariables false
/-! norm -/
/-! cast -/
/-! rep [CK.sl 51 [CK0.num IntKind.i64, CK0.num IntKind.i64], .num .i64, .num .i64, .num .i64, .num .i64] => kPh -/
/-! rep (dropT (0 : Nat) (L.getD k.toNat [])) => (L.getD k.toNat []) -/
/-! rep (dropT (0 : Nat) (L2.getD k.toNat [])) => (L2.getD k.toNat []) -/
/-! rep (dropT (0 : Nat) (L.getD i.toNat [])) => (L.getD i.toNat []) -/
/-! rep (dropT (0 : Nat) (M.getD k.toNat [])) => (M.getD k.toNat []) -/
/-! repp (List.brecOn.go (motive := fun x => Nat → List Dat → List (List Dat)) M List.set._f).1 k.toNat ==> M.set k.toNat -/
/-! rep (((L.getD i.toNat []).headD (Dat.n (0 : Int))).toL) => (phA L i) -/
/-! rep ((L.getD i.toNat []).headD (Dat.n (0 : Int))).toL => (phA L i) -/
/-! rep (((L.getD i.toNat []).tail.headD (Dat.n (0 : Int))).toI) => (phG L i) -/
/-! rep ((L.getD i.toNat []).tail.headD (Dat.n (0 : Int))).toI => (phG L i) -/
/-! rep (((L.getD i.toNat []).tail.tail.headD (Dat.n (0 : Int))).toI) => (phV L i) -/
/-! rep ((L.getD i.toNat []).tail.tail.headD (Dat.n (0 : Int))).toI => (phV L i) -/
/-! rep (((L.getD i.toNat []).tail.tail.tail.headD (Dat.n (0 : Int))).toI) => (phM L i) -/
/-! rep ((L.getD i.toNat []).tail.tail.tail.headD (Dat.n (0 : Int))).toI => (phM L i) -/
/-! rep (((L.getD i.toNat []).tail.tail.tail.tail.headD (Dat.n (0 : Int))).toI) => (phU L i) -/
/-! rep ((L.getD i.toNat []).tail.tail.tail.tail.headD (Dat.n (0 : Int))).toI => (phU L i) -/
/-! rep (((L2.getD i.toNat []).headD (Dat.n (0 : Int))).toL) => (phA L2 i) -/
/-! rep ((L2.getD i.toNat []).headD (Dat.n (0 : Int))).toL => (phA L2 i) -/
/-! rep (((L2.getD i.toNat []).tail.headD (Dat.n (0 : Int))).toI) => (phG L2 i) -/
/-! rep ((L2.getD i.toNat []).tail.headD (Dat.n (0 : Int))).toI => (phG L2 i) -/
/-! rep (((L2.getD i.toNat []).tail.tail.headD (Dat.n (0 : Int))).toI) => (phV L2 i) -/
/-! rep ((L2.getD i.toNat []).tail.tail.headD (Dat.n (0 : Int))).toI => (phV L2 i) -/
/-! rep (((L2.getD i.toNat []).tail.tail.tail.headD (Dat.n (0 : Int))).toI) => (phM L2 i) -/
/-! rep ((L2.getD i.toNat []).tail.tail.tail.headD (Dat.n (0 : Int))).toI => (phM L2 i) -/
/-! rep (((L2.getD i.toNat []).tail.tail.tail.tail.headD (Dat.n (0 : Int))).toI) => (phU L2 i) -/
/-! rep ((L2.getD i.toNat []).tail.tail.tail.tail.headD (Dat.n (0 : Int))).toI => (phU L2 i) -/
/-! rep (((M.getD i.toNat []).headD (Dat.n (0 : Int))).toL) => (phA M i) -/
/-! rep ((M.getD i.toNat []).headD (Dat.n (0 : Int))).toL => (phA M i) -/
/-! rep (((M.getD i.toNat []).tail.headD (Dat.n (0 : Int))).toI) => (phG M i) -/
/-! rep ((M.getD i.toNat []).tail.headD (Dat.n (0 : Int))).toI => (phG M i) -/
/-! rep (((M.getD i.toNat []).tail.tail.headD (Dat.n (0 : Int))).toI) => (phV M i) -/
/-! rep ((M.getD i.toNat []).tail.tail.headD (Dat.n (0 : Int))).toI => (phV M i) -/
/-! rep (((M.getD i.toNat []).tail.tail.tail.headD (Dat.n (0 : Int))).toI) => (phM M i) -/
/-! rep ((M.getD i.toNat []).tail.tail.tail.headD (Dat.n (0 : Int))).toI => (phM M i) -/
/-! rep (((M.getD i.toNat []).tail.tail.tail.tail.headD (Dat.n (0 : Int))).toI) => (phU M i) -/
/-! rep ((M.getD i.toNat []).tail.tail.tail.tail.headD (Dat.n (0 : Int))).toI => (phU M i) -/
/-! rep (((L.getD k.toNat []).headD (Dat.n (0 : Int))).toL) => (phA L k) -/
/-! rep ((L.getD k.toNat []).headD (Dat.n (0 : Int))).toL => (phA L k) -/
/-! rep (((L.getD k.toNat []).tail.headD (Dat.n (0 : Int))).toI) => (phG L k) -/
/-! rep ((L.getD k.toNat []).tail.headD (Dat.n (0 : Int))).toI => (phG L k) -/
/-! rep (((L.getD k.toNat []).tail.tail.headD (Dat.n (0 : Int))).toI) => (phV L k) -/
/-! rep ((L.getD k.toNat []).tail.tail.headD (Dat.n (0 : Int))).toI => (phV L k) -/
/-! rep (((L.getD k.toNat []).tail.tail.tail.headD (Dat.n (0 : Int))).toI) => (phM L k) -/
/-! rep ((L.getD k.toNat []).tail.tail.tail.headD (Dat.n (0 : Int))).toI => (phM L k) -/
/-! rep (((L.getD k.toNat []).tail.tail.tail.tail.headD (Dat.n (0 : Int))).toI) => (phU L k) -/
/-! rep ((L.getD k.toNat []).tail.tail.tail.tail.headD (Dat.n (0 : Int))).toI => (phU L k) -/
/-! rep (((L2.getD k.toNat []).headD (Dat.n (0 : Int))).toL) => (phA L2 k) -/
/-! rep ((L2.getD k.toNat []).headD (Dat.n (0 : Int))).toL => (phA L2 k) -/
/-! rep (((L2.getD k.toNat []).tail.headD (Dat.n (0 : Int))).toI) => (phG L2 k) -/
/-! rep ((L2.getD k.toNat []).tail.headD (Dat.n (0 : Int))).toI => (phG L2 k) -/
/-! rep (((L2.getD k.toNat []).tail.tail.headD (Dat.n (0 : Int))).toI) => (phV L2 k) -/
/-! rep ((L2.getD k.toNat []).tail.tail.headD (Dat.n (0 : Int))).toI => (phV L2 k) -/
/-! rep (((L2.getD k.toNat []).tail.tail.tail.headD (Dat.n (0 : Int))).toI) => (phM L2 k) -/
/-! rep ((L2.getD k.toNat []).tail.tail.tail.headD (Dat.n (0 : Int))).toI => (phM L2 k) -/
/-! rep (((L2.getD k.toNat []).tail.tail.tail.tail.headD (Dat.n (0 : Int))).toI) => (phU L2 k) -/
/-! rep ((L2.getD k.toNat []).tail.tail.tail.tail.headD (Dat.n (0 : Int))).toI => (phU L2 k) -/
/-! rep (((M.getD k.toNat []).headD (Dat.n (0 : Int))).toL) => (phA M k) -/
/-! rep ((M.getD k.toNat []).headD (Dat.n (0 : Int))).toL => (phA M k) -/
/-! rep (((M.getD k.toNat []).tail.headD (Dat.n (0 : Int))).toI) => (phG M k) -/
/-! rep ((M.getD k.toNat []).tail.headD (Dat.n (0 : Int))).toI => (phG M k) -/
/-! rep (((M.getD k.toNat []).tail.tail.headD (Dat.n (0 : Int))).toI) => (phV M k) -/
/-! rep ((M.getD k.toNat []).tail.tail.headD (Dat.n (0 : Int))).toI => (phV M k) -/
/-! rep (((M.getD k.toNat []).tail.tail.tail.headD (Dat.n (0 : Int))).toI) => (phM M k) -/
/-! rep ((M.getD k.toNat []).tail.tail.tail.headD (Dat.n (0 : Int))).toI => (phM M k) -/
/-! rep (((M.getD k.toNat []).tail.tail.tail.tail.headD (Dat.n (0 : Int))).toI) => (phU M k) -/
/-! rep ((M.getD k.toNat []).tail.tail.tail.tail.headD (Dat.n (0 : Int))).toI => (phU M k) -/
/-! rep (((A.getD i.toNat []).headD (Dat.n (0 : Int))).toI) => (pX A i) -/
/-! rep (((A.getD i.toNat []).tail.headD (Dat.n (0 : Int))).toI) => (pY A i) -/
/-! rep ((A.getD i.toNat []).headD (Dat.n (0 : Int))).toI => (pX A i) -/
/-! rep ((A.getD i.toNat []).tail.headD (Dat.n (0 : Int))).toI => (pY A i) -/

def gSiz (xs : List SV) (m : Mem) : Option (Bool × Value) :=
  match xs, m with
  | [.ag [.row 0, .v (.int .i64 r1), .v (.int .i64 r2), .v (.int .i64 r3), .v (.int .i64 r4), .v (.int .i64 r5), .v (.int .i64 r6), .v (.int .i64 r7), .v (.int .i64 r8)]], ⟨[], [], [.live ⟨49, [.sl 51 [.num .i64, .num .i64], .num .i64, .num .i64, .num .i64, .num .i64], L, own, mark⟩]⟩ => some (phOk L && Nat.ble L.length 1000, I ((prtS L r1 r2 r3 r4 r5 r6 r7 r8).size : Int))
  | _, _ => none
noncomputable def Γsz : Orc := ΓRf3
theorem Oksz : Γsz.Ok Tryz.prog := OkRf3
/-- What stands behind the first k bytes; a byte, a number ahead. -/
def dt (k : Nat) (t : ByteArray) : ByteArray := t.extract k t.size
def sm (t : ByteArray) : Int := wI ((numN (t.extract 0 1) : Nat) : Int)
def wd (t : ByteArray) : Int := wI (IntKind.i32.wrap ((numN (t.extract 0 4) : Nat) : Int))
theorem num4_lt {s : ByteArray} {i : Nat} (h : i + 4 ≤ s.size) : numN (s.extract i (i + 4)) < 4294967296 := by
  obtain ⟨b0, b1, b2, b3, _, e0, e1, e2, e3⟩ := four_of (s := s) (i := i) h
  have hn := num4 (s := s) (i := i) h
  rw [e0, e1, e2, e3] at hn
  have := byteI b0; have := byteI b1; have := byteI b2; have := byteI b3
  omega
/-- The sum that a text tells. -/
def sumN (s : ByteArray) : Nat := bif decide ((s.size : Int) < 4) then 0 else numN (s.extract (s.size - 4) s.size)
set_option maxRecDepth 20000 in
theorem runSumR (s : ByteArray) : runG Γsz L0 Tryz.prog Tryz.f39 [.v (S s)] M0 = 
    (bif decide ((s.size : Int) < (4 : Int)) then some (.v (.int .u32 0), M0) else (bif decide ((0 : Int) ≤ wI ((s.size : Int) - (4 : Int))) && (decide (wI ((s.size : Int) - (4 : Int)) ≤ (s.size : Int)) && decide ((s.size : Int) ≤ (s.size : Int))) then (bif szS (s.extract (wI ((s.size : Int) - (4 : Int))).toNat ((s.size : Int)).toNat) then some (.v (.int .u32 (IntKind.u32.wrap ((numN (s.extract (wI ((s.size : Int) - (4 : Int))).toNat ((s.size : Int)).toNat)) : Int))), M0) else none) else none)) := by kernel_rfl
def gSumR (vs : List Value) : Option (Bool × Value) :=
  match vs with
  | [.string s] => some (szS s, U32 ((sumN s : Nat) : Int))
  | _ => none
theorem gSumR_ok : ∀ vs r, gSumR vs = some (true, r) → ∀ m, CallOk Tryz.prog 39 (vs.map .v) m (.v r) m := by
  intro vs r h
  unfold gSumR at h
  split at h
  · rename_i s
    obtain ⟨h1, rfl⟩ := some_t h
    have hs : s.size ≤ 9223372036854775807 := Nat.le_of_ble_eq_true h1
    refine runV (vs := [S s]) (Λ := L0) (m' := M0) Oksz Tryz.func39 rfl (fun z _ _ => l0Ok' _ z) ?_
    refine (runSumR s).trans ?_
    unfold sumN
    by_cases h4 : (s.size : Int) < 4
    · rw [decide_eq_true h4]
      rfl
    · have h5 : s.size - 4 + 4 = s.size := by omega
      have hl := num4_lt (s := s) (i := s.size - 4) (by omega)
      rw [h5] at hl
      rw [decide_eq_false h4, wI_id (n := (s.size : Int) - 4) (by omega), decide_eq_true (show (0 : Int) ≤ (s.size : Int) - 4 by omega), decide_eq_true (show (s.size : Int) - 4 ≤ (s.size : Int) by omega), decide_eq_true (show (s.size : Int) ≤ (s.size : Int) by omega), show ((s.size : Int) - 4).toNat = s.size - 4 by omega, show (s.size : Int).toNat = s.size by omega, show szS (s.extract (s.size - 4) s.size) = true from Nat.ble_eq_true_of_le (by rw [ByteArray.size_extract]; omega), wrap32, Nat.mod_eq_of_lt hl]
      rfl
  · cases h
noncomputable def Γsr : Orc := addVal 39 gSumR Γsz
theorem Oksr : Γsr.Ok Tryz.prog := addVal_ok Oksz gSumR_ok
set_option maxRecDepth 20000 in
theorem runTak (n : Int) (s : ByteArray) : runG Γsr L0 Tryz.prog Tryz.f74 [.ptr 0 0, .v (I n)] ⟨[[.v (S s)]], [true], []⟩ = 
    (bif true && (decide ((0 : Int) ≤ n) && decide (n ≤ (s.size : Int))) then (bif szS (s.extract (0 : Nat) n.toNat) then (bif decide ((0 : Int) ≤ n) && (decide (n ≤ (s.size : Int)) && decide ((s.size : Int) ≤ (s.size : Int))) then some (.v (.int .u64 (((numN (s.extract (0 : Nat) n.toNat)) : Int))), ⟨[[.v (S (s.extract n.toNat ((s.size : Int)).toNat))]], [true], []⟩) else none) else none) else none) := by kernel_rfl
def gTak (xs : List SV) (m : Mem) : Option (Bool × SV × Mem) :=
  match xs, m with
  | [.ptr 0 0, .v (.int .i64 n)], ⟨[[.v (.string s)]], [true], []⟩ => some (szS s && (decide (0 ≤ n) && decide (n ≤ (s.size : Int))), .v (U64 ((numN (s.extract 0 n.toNat) : Nat) : Int)), ⟨[[.v (S (dt n.toNat s))]], [true], []⟩)
  | _, _ => none
theorem gTak_ok : ∀ xs m r m', gTak xs m = some (true, r, m') → CallOk Tryz.prog 74 xs m r m' := by
  intro xs m r m' h
  unfold gTak at h
  split at h
  · rename_i n s
    obtain ⟨h1, rfl, rfl⟩ := some_t2 h
    refine runOk (Λ := L0) Oksr Tryz.func74 rfl (fun z _ _ => l0Ok' _ z) ?_
    refine (runTak n s).trans ?_
    simp only [Bool.and_eq_true] at h1
    obtain ⟨hs, h2, h3⟩ := h1
    have hs' : s.size ≤ 9223372036854775807 := Nat.le_of_ble_eq_true hs
    rw [h2, h3, decide_eq_true (show (s.size : Int) ≤ (s.size : Int) by omega), show (s.size : Int).toNat = s.size by omega, show szS (s.extract 0 n.toNat) = true from Nat.ble_eq_true_of_le (by rw [ByteArray.size_extract]; omega)]
    rfl
  · cases h
noncomputable def ΓTak : Orc := addCl 74 gTak Γsr
theorem OkTak : ΓTak.Ok Tryz.prog := addCl_ok Oksr gTak_ok
set_option maxRecDepth 20000 in
theorem runSma (s : ByteArray) : runG ΓTak L0 Tryz.prog Tryz.f60 [.ptr 0 0] ⟨[[.v (S s)]], [true], []⟩ = 
    (bif szS s && (true && decide ((1 : Int) ≤ (s.size : Int))) then some (.v (I (wI ((numN (s.extract (0 : Nat) (1 : Nat))) : Int))), ⟨[[.v (S (dt (1 : Nat) s))]], [true], []⟩) else none) := by kernel_rfl
def gSma (xs : List SV) (m : Mem) : Option (Bool × SV × Mem) :=
  match xs, m with
  | [.ptr 0 0], ⟨[[.v (.string s)]], [true], []⟩ => some (szS s && decide ((1 : Int) ≤ (s.size : Int)), .v (I (sm s)), ⟨[[.v (S (dt 1 s))]], [true], []⟩)
  | _, _ => none
theorem gSma_ok : ∀ xs m r m', gSma xs m = some (true, r, m') → CallOk Tryz.prog 60 xs m r m' := by
  intro xs m r m' h
  unfold gSma at h
  split at h
  · rename_i s
    obtain ⟨h1, rfl, rfl⟩ := some_t2 h
    refine runOk (Λ := L0) OkTak Tryz.func60 rfl (fun z _ _ => l0Ok' _ z) ?_
    refine (runSma s).trans ?_
    simp only [Bool.and_eq_true] at h1
    rw [h1.1, h1.2]
    rfl
  · cases h
noncomputable def ΓSma : Orc := addCl 60 gSma ΓTak
theorem OkSma : ΓSma.Ok Tryz.prog := addCl_ok OkTak gSma_ok
set_option maxRecDepth 20000 in
theorem runWrd (s : ByteArray) : runG ΓSma L0 Tryz.prog Tryz.f61 [.ptr 0 0] ⟨[[.v (S s)]], [true], []⟩ = 
    (bif szS s && (true && decide ((4 : Int) ≤ (s.size : Int))) then some (.v (I (wI (IntKind.i32.wrap ((numN (s.extract (0 : Nat) (4 : Nat))) : Int)))), ⟨[[.v (S (dt (4 : Nat) s))]], [true], []⟩) else none) := by kernel_rfl
def gWrd (xs : List SV) (m : Mem) : Option (Bool × SV × Mem) :=
  match xs, m with
  | [.ptr 0 0], ⟨[[.v (.string s)]], [true], []⟩ => some (szS s && decide ((4 : Int) ≤ (s.size : Int)), .v (I (wd s)), ⟨[[.v (S (dt 4 s))]], [true], []⟩)
  | _, _ => none
theorem gWrd_ok : ∀ xs m r m', gWrd xs m = some (true, r, m') → CallOk Tryz.prog 61 xs m r m' := by
  intro xs m r m' h
  unfold gWrd at h
  split at h
  · rename_i s
    obtain ⟨h1, rfl, rfl⟩ := some_t2 h
    refine runOk (Λ := L0) OkSma Tryz.func61 rfl (fun z _ _ => l0Ok' _ z) ?_
    refine (runWrd s).trans ?_
    simp only [Bool.and_eq_true] at h1
    rw [h1.1, h1.2]
    rfl
  · cases h
noncomputable def ΓWrd : Orc := addCl 61 gWrd ΓSma
theorem OkWrd : ΓWrd.Ok Tryz.prog := addCl_ok OkSma gWrd_ok
noncomputable def ΓRf4 : Orc := ΓWrd
theorem OkRf4 : ΓRf4.Ok Tryz.prog := OkWrd
end Go.Proofs.YtikekoabadhmiaaGreat

namespace Go.Proofs.YtikekoabadhmiaaGreat
open Go Go.Proofs Go.Sx
set_option linter.unusedVariables false
/-! norm -/
/-! cast -/
/-! rep [CK.sl 51 [CK0.num IntKind.i64, CK0.num IntKind.i64], .num .i64, .num .i64, .num .i64, .num .i64] => kPh -/
/-! rep (dropT (0 : Nat) (L.getD k.toNat [])) => (L.getD k.toNat []) -/
/-! rep (dropT (0 : Nat) (L2.getD k.toNat [])) => (L2.getD k.toNat []) -/
/-! rep (dropT (0 : Nat) (L.getD i.toNat [])) => (L.getD i.toNat []) -/
/-! rep (dropT (0 : Nat) (M.getD k.toNat [])) => (M.getD k.toNat []) -/
/-! repp (List.brecOn.go (motive := fun x => Nat → List Dat → List (List Dat)) M List.set._f).1 k.toNat ==> M.set k.toNat -/
/-! rep (((L.getD i.toNat []).headD (Dat.n (0 : Int))).toL) => (phA L i) -/
/-! rep ((L.getD i.toNat []).headD (Dat.n (0 : Int))).toL => (phA L i) -/
/-! rep (((L.getD i.toNat []).tail.headD (Dat.n (0 : Int))).toI) => (phG L i) -/
/-! rep ((L.getD i.toNat []).tail.headD (Dat.n (0 : Int))).toI => (phG L i) -/
/-! rep (((L.getD i.toNat []).tail.tail.headD (Dat.n (0 : Int))).toI) => (phV L i) -/
/-! rep ((L.getD i.toNat []).tail.tail.headD (Dat.n (0 : Int))).toI => (phV L i) -/
/-! rep (((L.getD i.toNat []).tail.tail.tail.headD (Dat.n (0 : Int))).toI) => (phM L i) -/
/-! rep ((L.getD i.toNat []).tail.tail.tail.headD (Dat.n (0 : Int))).toI => (phM L i) -/
/-! rep (((L.getD i.toNat []).tail.tail.tail.tail.headD (Dat.n (0 : Int))).toI) => (phU L i) -/
/-! rep ((L.getD i.toNat []).tail.tail.tail.tail.headD (Dat.n (0 : Int))).toI => (phU L i) -/
/-! rep (((L2.getD i.toNat []).headD (Dat.n (0 : Int))).toL) => (phA L2 i) -/
/-! rep ((L2.getD i.toNat []).headD (Dat.n (0 : Int))).toL => (phA L2 i) -/
/-! rep (((L2.getD i.toNat []).tail.headD (Dat.n (0 : Int))).toI) => (phG L2 i) -/
/-! rep ((L2.getD i.toNat []).tail.headD (Dat.n (0 : Int))).toI => (phG L2 i) -/
/-! rep (((L2.getD i.toNat []).tail.tail.headD (Dat.n (0 : Int))).toI) => (phV L2 i) -/
/-! rep ((L2.getD i.toNat []).tail.tail.headD (Dat.n (0 : Int))).toI => (phV L2 i) -/
/-! rep (((L2.getD i.toNat []).tail.tail.tail.headD (Dat.n (0 : Int))).toI) => (phM L2 i) -/
/-! rep ((L2.getD i.toNat []).tail.tail.tail.headD (Dat.n (0 : Int))).toI => (phM L2 i) -/
/-! rep (((L2.getD i.toNat []).tail.tail.tail.tail.headD (Dat.n (0 : Int))).toI) => (phU L2 i) -/
/-! rep ((L2.getD i.toNat []).tail.tail.tail.tail.headD (Dat.n (0 : Int))).toI => (phU L2 i) -/
/-! rep (((M.getD i.toNat []).headD (Dat.n (0 : Int))).toL) => (phA M i) -/
/-! rep ((M.getD i.toNat []).headD (Dat.n (0 : Int))).toL => (phA M i) -/
/-! rep (((M.getD i.toNat []).tail.headD (Dat.n (0 : Int))).toI) => (phG M i) -/
/-! rep ((M.getD i.toNat []).tail.headD (Dat.n (0 : Int))).toI => (phG M i) -/
/-! rep (((M.getD i.toNat []).tail.tail.headD (Dat.n (0 : Int))).toI) => (phV M i) -/
/-! rep ((M.getD i.toNat []).tail.tail.headD (Dat.n (0 : Int))).toI => (phV M i) -/
/-! rep (((M.getD i.toNat []).tail.tail.tail.headD (Dat.n (0 : Int))).toI) => (phM M i) -/
/-! rep ((M.getD i.toNat []).tail.tail.tail.headD (Dat.n (0 : Int))).toI => (phM M i) -/
/-! rep (((M.getD i.toNat []).tail.tail.tail.tail.headD (Dat.n (0 : Int))).toI) => (phU M i) -/
/-! rep ((M.getD i.toNat []).tail.tail.tail.tail.headD (Dat.n (0 : Int))).toI => (phU M i) -/
/-! rep (((L.getD k.toNat []).headD (Dat.n (0 : Int))).toL) => (phA L k) -/
/-! rep ((L.getD k.toNat []).headD (Dat.n (0 : Int))).toL => (phA L k) -/
/-! rep (((L.getD k.toNat []).tail.headD (Dat.n (0 : Int))).toI) => (phG L k) -/
/-! rep ((L.getD k.toNat []).tail.headD (Dat.n (0 : Int))).toI => (phG L k) -/
/-! rep (((L.getD k.toNat []).tail.tail.headD (Dat.n (0 : Int))).toI) => (phV L k) -/
/-! rep ((L.getD k.toNat []).tail.tail.headD (Dat.n (0 : Int))).toI => (phV L k) -/
/-! rep (((L.getD k.toNat []).tail.tail.tail.headD (Dat.n (0 : Int))).toI) => (phM L k) -/
/-! rep ((L.getD k.toNat []).tail.tail.tail.headD (Dat.n (0 : Int))).toI => (phM L k) -/
/-! rep (((L.getD k.toNat []).tail.tail.tail.tail.headD (Dat.n (0 : Int))).toI) => (phU L k) -/
/-! rep ((L.getD k.toNat []).tail.tail.tail.tail.headD (Dat.n (0 : Int))).toI => (phU L k) -/
/-! rep (((L2.getD k.toNat []).headD (Dat.n (0 : Int))).toL) => (phA L2 k) -/
/-! rep ((L2.getD k.toNat []).headD (Dat.n (0 : Int))).toL => (phA L2 k) -/
/-! rep (((L2.getD k.toNat []).tail.headD (Dat.n (0 : Int))).toI) => (phG L2 k) -/
/-! rep ((L2.getD k.toNat []).tail.headD (Dat.n (0 : Int))).toI => (phG L2 k) -/
/-! rep (((L2.getD k.toNat []).tail.tail.headD (Dat.n (0 : Int))).toI) => (phV L2 k) -/
/-! rep ((L2.getD k.toNat []).tail.tail.headD (Dat.n (0 : Int))).toI => (phV L2 k) -/
/-! rep (((L2.getD k.toNat []).tail.tail.tail.headD (Dat.n (0 : Int))).toI) => (phM L2 k) -/
/-! rep ((L2.getD k.toNat []).tail.tail.tail.headD (Dat.n (0 : Int))).toI => (phM L2 k) -/
/-! rep (((L2.getD k.toNat []).tail.tail.tail.tail.headD (Dat.n (0 : Int))).toI) => (phU L2 k) -/
/-! rep ((L2.getD k.toNat []).tail.tail.tail.tail.headD (Dat.n (0 : Int))).toI => (phU L2 k) -/
/-! rep (((M.getD k.toNat []).headD (Dat.n (0 : Int))).toL) => (phA M k) -/
/-! rep ((M.getD k.toNat []).headD (Dat.n (0 : Int))).toL => (phA M k) -/
/-! rep (((M.getD k.toNat []).tail.headD (Dat.n (0 : Int))).toI) => (phG M k) -/
/-! rep ((M.getD k.toNat []).tail.headD (Dat.n (0 : Int))).toI => (phG M k) -/
/-! rep (((M.getD k.toNat []).tail.tail.headD (Dat.n (0 : Int))).toI) => (phV M k) -/
/-! rep ((M.getD k.toNat []).tail.tail.headD (Dat.n (0 : Int))).toI => (phV M k) -/
/-! rep (((M.getD k.toNat []).tail.tail.tail.headD (Dat.n (0 : Int))).toI) => (phM M k) -/
/-! rep ((M.getD k.toNat []).tail.tail.tail.headD (Dat.n (0 : Int))).toI => (phM M k) -/
/-! rep (((M.getD k.toNat []).tail.tail.tail.tail.headD (Dat.n (0 : Int))).toI) => (phU M k) -/
/-! rep ((M.getD k.toNat []).tail.tail.tail.tail.headD (Dat.n (0 : Int))).toI => (phU M k) -/

def smP (A : List (List Dat)) (g v m u : Int) (B : List (List Dat)) (g2 v2 m2 u2 : Int) : Bool := sameB A B && (g == g2 && (v == v2 && (m == m2 && u == u2)))
set_option maxRecDepth 20000 in
theorem runSsp (g : Int) (v : Int) (m : Int) (u : Int) (g2 : Int) (v2 : Int) (m2 : Int) (u2 : Int) (L : List (List Dat)) (own : Bool) (mark : Bool) (L2 : List (List Dat)) (own2 : Bool) (mark2 : Bool) : runG ΓRf4 L0 Tryz.prog Tryz.f25 [.ag [.row 0, .v (I g), .v (I v), .v (I m), .v (I u)], .ag [.row 1, .v (I g2), .v (I v2), .v (I m2), .v (I u2)]] ⟨[], [], [rP L own mark, rP L2 own2 mark2]⟩ = 
    (bif L.length.ble (1000000) then (bif sameB L L2 then (bif g == g2 then (bif v == v2 then (bif m == m2 then some (.v (Bo (u == u2)), ⟨[], [], [.live ⟨51, [.num .i64, .num .i64], L, own, mark⟩, .live ⟨51, [.num .i64, .num .i64], L2, own2, mark2⟩]⟩) else some (.v (Bo false), ⟨[], [], [.live ⟨51, [.num .i64, .num .i64], L, own, mark⟩, .live ⟨51, [.num .i64, .num .i64], L2, own2, mark2⟩]⟩)) else some (.v (Bo false), ⟨[], [], [.live ⟨51, [.num .i64, .num .i64], L, own, mark⟩, .live ⟨51, [.num .i64, .num .i64], L2, own2, mark2⟩]⟩)) else some (.v (Bo false), ⟨[], [], [.live ⟨51, [.num .i64, .num .i64], L, own, mark⟩, .live ⟨51, [.num .i64, .num .i64], L2, own2, mark2⟩]⟩)) else some (.v (Bo false), ⟨[], [], [.live ⟨51, [.num .i64, .num .i64], L, own, mark⟩, .live ⟨51, [.num .i64, .num .i64], L2, own2, mark2⟩]⟩)) else none) := by kernel_rfl
def gSsp (xs : List SV) (m : Mem) : Option (Bool × Value) :=
  match xs, m with
  | [.ag [.row 0, .v (.int .i64 g), .v (.int .i64 v), .v (.int .i64 m), .v (.int .i64 u)], .ag [.row 1, .v (.int .i64 g2), .v (.int .i64 v2), .v (.int .i64 m2), .v (.int .i64 u2)]], ⟨[], [], [.live ⟨51, [.num .i64, .num .i64], L, own, mark⟩, .live ⟨51, [.num .i64, .num .i64], L2, own2, mark2⟩]⟩ => some (Nat.ble L.length 1000000, Bo (smP L g v m u L2 g2 v2 m2 u2))
  | _, _ => none
theorem gSsp_ok : ∀ xs m r, gSsp xs m = some (true, r) → CallOk Tryz.prog 25 xs m (.v r) m := by
  intro xs m r h
  unfold gSsp at h
  split at h
  · rename_i g v m u g2 v2 m2 u2 L own mark L2 own2 mark2
    obtain ⟨h1, rfl⟩ := some_t h
    refine runOk (Λ := L0) OkRf4 Tryz.func25 rfl (fun z _ _ => l0Ok' _ z) ?_
    refine (runSsp g v m u g2 v2 m2 u2 L own mark L2 own2 mark2).trans ?_
    rw [h1]
    unfold smP
    cases sameB L L2 <;> cases g == g2 <;> cases v == v2 <;> cases m == m2 <;> cases u == u2 <;> rfl
  · cases h
noncomputable def Γw1 : Orc := addRd 25 gSsp ΓRf4
theorem Okw1 : Γw1.Ok Tryz.prog := addRd_ok OkRf4 gSsp_ok
noncomputable def bdSr : Code := loopAt (Tryz.f11.body.getD .skip) 0
def kSr : List Bool := maskOf 88 [2,3,5]
def xSr (e : Ex) : List Bool := match e with
  | .exit _ => maskOf 88 []
  | .ret => maskOf 88 [4]
  | .normal => maskOf 88 [2,3,5]
def KSr (e : Ex) (st : St) : Option (Ex × St) := some (e, cutC 0 2 (xSr e) st)
set_option maxRecDepth 20000 in
theorem stepSr (r1 : Int) (r2 : Int) (r3 : Int) (r4 : Int) (r5 : Int) (r6 : Int) (r7 : Int) (r8 : Int) (q1 : Int) (q2 : Int) (q3 : Int) (q4 : Int) (q5 : Int) (q6 : Int) (q7 : Int) (q8 : Int) (k : Int) (L : List (List Dat)) (own : Bool) (mark : Bool) (L2 : List (List Dat)) (own2 : Bool) (mark2 : Bool) (n : Nat) : evLoop Γw1 Tryz.prog L0 (cutC 0 2 kSr) bdSr (n + 1) (mk kSr [.ptr 0 0, .ptr 1 0, .v (I k)] ⟨[[.row 0, .v (I r1), .v (I r2), .v (I r3), .v (I r4), .v (I r5), .v (I r6), .v (I r7), .v (I r8)], [.row 1, .v (I q1), .v (I q2), .v (I q3), .v (I q4), .v (I q5), .v (I q6), .v (I q7), .v (I q8)]], [true, true], [rH L own mark, rH L2 own2 mark2]⟩) KSr =
    (bif decide (k < (L.length : Int)) then (same ((bif decide ((0 : Int) ≤ k) && decide (k < (L.length : Int)) then (same ((bif decide ((0 : Int) ≤ k) && decide (k < (L2.length : Int)) then (bif (phA L k).length.ble (1000000) then (bif !smP (phA L k) (phG L k) (phV L k) (phM L k) (phU L k) (phA L2 k) (phG L2 k) (phV L2 k) (phM L2 k) (phU L2 k) then some (.ret, mk (xSr .ret) [.v (Bo false)] ⟨[], [], [.live ⟨49, kPh, L, own, mark⟩, .live ⟨49, kPh, L2, own2, mark2⟩]⟩) else evLoop Γw1 Tryz.prog L0 (cutC 0 2 kSr) bdSr n (mk kSr [.ptr 0 0, .ptr 1 0, .v (I (wI (k + (1 : Int))))] ⟨[[.row 0, .v (I r1), .v (I r2), .v (I r3), .v (I r4), .v (I r5), .v (I r6), .v (I r7), .v (I r8)], [.row 1, .v (I q1), .v (I q2), .v (I q3), .v (I q4), .v (I q5), .v (I q6), .v (I q7), .v (I q8)]], [true, true], [.live ⟨49, kPh, L, own, mark⟩, .live ⟨49, kPh, L2, own2, mark2⟩]⟩) KSr) else none) else none)) ((bif decide ((0 : Int) ≤ k) && decide (k < (L2.length : Int)) then (same ((bif (phA L k).length.ble (1000000) then (bif !smP (phA L k) (phG L k) (phV L k) (phM L k) (phU L k) (phA L2 k) (phG L2 k) (phV L2 k) (phM L2 k) (phU L2 k) then some (.ret, mk (xSr .ret) [.v (Bo false)] ⟨[], [], [.live ⟨49, kPh, L, own, mark⟩, .live ⟨49, kPh, L2, own2, mark2⟩]⟩) else evLoop Γw1 Tryz.prog L0 (cutC 0 2 kSr) bdSr n (mk kSr [.ptr 0 0, .ptr 1 0, .v (I (wI (k + (1 : Int))))] ⟨[[.row 0, .v (I r1), .v (I r2), .v (I r3), .v (I r4), .v (I r5), .v (I r6), .v (I r7), .v (I r8)], [.row 1, .v (I q1), .v (I q2), .v (I q3), .v (I q4), .v (I q5), .v (I q6), .v (I q7), .v (I q8)]], [true, true], [.live ⟨49, kPh, L, own, mark⟩, .live ⟨49, kPh, L2, own2, mark2⟩]⟩) KSr) else none)) ((bif (phA L k).length.ble (1000000) then (bif !smP (phA L k) (phG L k) (phV L k) (phM L k) (phU L k) (phA L2 k) (phG L2 k) (phV L2 k) (phM L2 k) (phU L2 k) then some (.ret, mk (xSr .ret) [.v (Bo false)] ⟨[], [], [.live ⟨49, kPh, L, own, mark⟩, .live ⟨49, kPh, L2, own2, mark2⟩]⟩) else evLoop Γw1 Tryz.prog L0 (cutC 0 2 kSr) bdSr n (mk kSr [.ptr 0 0, .ptr 1 0, .v (I (wI (k + (1 : Int))))] ⟨[[.row 0, .v (I r1), .v (I r2), .v (I r3), .v (I r4), .v (I r5), .v (I r6), .v (I r7), .v (I r8)], [.row 1, .v (I q1), .v (I q2), .v (I q3), .v (I q4), .v (I q5), .v (I q6), .v (I q7), .v (I q8)]], [true, true], [.live ⟨49, kPh, L, own, mark⟩, .live ⟨49, kPh, L2, own2, mark2⟩]⟩) KSr) else none))) else none))) else none)) ((bif decide ((0 : Int) ≤ k) && decide (k < (L2.length : Int)) then (same ((bif decide ((0 : Int) ≤ k) && decide (k < (L.length : Int)) then (same ((bif (phA L k).length.ble (1000000) then (bif !smP (phA L k) (phG L k) (phV L k) (phM L k) (phU L k) (phA L2 k) (phG L2 k) (phV L2 k) (phM L2 k) (phU L2 k) then some (.ret, mk (xSr .ret) [.v (Bo false)] ⟨[], [], [.live ⟨49, kPh, L, own, mark⟩, .live ⟨49, kPh, L2, own2, mark2⟩]⟩) else evLoop Γw1 Tryz.prog L0 (cutC 0 2 kSr) bdSr n (mk kSr [.ptr 0 0, .ptr 1 0, .v (I (wI (k + (1 : Int))))] ⟨[[.row 0, .v (I r1), .v (I r2), .v (I r3), .v (I r4), .v (I r5), .v (I r6), .v (I r7), .v (I r8)], [.row 1, .v (I q1), .v (I q2), .v (I q3), .v (I q4), .v (I q5), .v (I q6), .v (I q7), .v (I q8)]], [true, true], [.live ⟨49, kPh, L, own, mark⟩, .live ⟨49, kPh, L2, own2, mark2⟩]⟩) KSr) else none)) ((bif (phA L k).length.ble (1000000) then (bif !smP (phA L k) (phG L k) (phV L k) (phM L k) (phU L k) (phA L2 k) (phG L2 k) (phV L2 k) (phM L2 k) (phU L2 k) then some (.ret, mk (xSr .ret) [.v (Bo false)] ⟨[], [], [.live ⟨49, kPh, L, own, mark⟩, .live ⟨49, kPh, L2, own2, mark2⟩]⟩) else evLoop Γw1 Tryz.prog L0 (cutC 0 2 kSr) bdSr n (mk kSr [.ptr 0 0, .ptr 1 0, .v (I (wI (k + (1 : Int))))] ⟨[[.row 0, .v (I r1), .v (I r2), .v (I r3), .v (I r4), .v (I r5), .v (I r6), .v (I r7), .v (I r8)], [.row 1, .v (I q1), .v (I q2), .v (I q3), .v (I q4), .v (I q5), .v (I q6), .v (I q7), .v (I q8)]], [true, true], [.live ⟨49, kPh, L, own, mark⟩, .live ⟨49, kPh, L2, own2, mark2⟩]⟩) KSr) else none))) else none)) ((bif decide ((0 : Int) ≤ k) && decide (k < (L.length : Int)) then (bif (phA L k).length.ble (1000000) then (bif !smP (phA L k) (phG L k) (phV L k) (phM L k) (phU L k) (phA L2 k) (phG L2 k) (phV L2 k) (phM L2 k) (phU L2 k) then some (.ret, mk (xSr .ret) [.v (Bo false)] ⟨[], [], [.live ⟨49, kPh, L, own, mark⟩, .live ⟨49, kPh, L2, own2, mark2⟩]⟩) else evLoop Γw1 Tryz.prog L0 (cutC 0 2 kSr) bdSr n (mk kSr [.ptr 0 0, .ptr 1 0, .v (I (wI (k + (1 : Int))))] ⟨[[.row 0, .v (I r1), .v (I r2), .v (I r3), .v (I r4), .v (I r5), .v (I r6), .v (I r7), .v (I r8)], [.row 1, .v (I q1), .v (I q2), .v (I q3), .v (I q4), .v (I q5), .v (I q6), .v (I q7), .v (I q8)]], [true, true], [.live ⟨49, kPh, L, own, mark⟩, .live ⟨49, kPh, L2, own2, mark2⟩]⟩) KSr) else none) else none))) else none))) else some ((.exit 0), mk (xSr (.exit 0)) [] ⟨[], [], [.live ⟨49, kPh, L, own, mark⟩, .live ⟨49, kPh, L2, own2, mark2⟩]⟩)) := by kernel_rfl
noncomputable def ESr (n : Nat) (r1 : Int) (r2 : Int) (r3 : Int) (r4 : Int) (r5 : Int) (r6 : Int) (r7 : Int) (r8 : Int) (q1 : Int) (q2 : Int) (q3 : Int) (q4 : Int) (q5 : Int) (q6 : Int) (q7 : Int) (q8 : Int) (k : Int) (L : List (List Dat)) (own : Bool) (mark : Bool) (L2 : List (List Dat)) (own2 : Bool) (mark2 : Bool) : Option (Ex × St) :=
  evLoop Γw1 Tryz.prog L0 (cutC 0 2 kSr) bdSr n (mk kSr [.ptr 0 0, .ptr 1 0, .v (I k)] ⟨[[.row 0, .v (I r1), .v (I r2), .v (I r3), .v (I r4), .v (I r5), .v (I r6), .v (I r7), .v (I r8)], [.row 1, .v (I q1), .v (I q2), .v (I q3), .v (I q4), .v (I q5), .v (I q6), .v (I q7), .v (I q8)]], [true, true], [rH L own mark, rH L2 own2 mark2]⟩) KSr
def neH (L L2 : List (List Dat)) (k : Int) : Bool := !smP (phA L k) (phG L k) (phV L k) (phM L k) (phU L k) (phA L2 k) (phG L2 k) (phV L2 k) (phM L2 k) (phU L2 k)
def lfSr (L : List (List Dat)) (own mark : Bool) (L2 : List (List Dat)) (own2 mark2 : Bool) : LT := .br (anyN (neH L L2) L.length 0) (.leaf .ret (mk (xSr .ret) [.v (Bo false)] ⟨[], [], [rH L own mark, rH L2 own2 mark2]⟩)) (.leaf (.exit 0) (mk (xSr (.exit 0)) [] ⟨[], [], [rH L own mark, rH L2 own2 mark2]⟩))
theorem loopSr (r1 r2 r3 r4 r5 r6 r7 r8 q1 q2 q3 q4 q5 q6 q7 q8 : Int) (L : List (List Dat)) (own mark : Bool) (L2 : List (List Dat)) (own2 mark2 : Bool) (hl : phOk L = true) (h2 : phOk L2 = true) (he : L.length = L2.length) : ESr (L.length + 1) r1 r2 r3 r4 r5 r6 r7 r8 q1 q2 q3 q4 q5 q6 q7 q8 0 L own mark L2 own2 mark2 = some (lfSr L own mark L2 own2 mark2).pick := by
  have hll := phOk_len hl
  have h := findLoop (neH L L2) (L.length : Int) (fun n k => ESr n r1 r2 r3 r4 r5 r6 r7 r8 q1 q2 q3 q4 q5 q6 q7 q8 k L own mark L2 own2 mark2) (some (.exit 0, mk (xSr (.exit 0)) [] ⟨[], [], [rH L own mark, rH L2 own2 mark2]⟩)) (some (.ret, mk (xSr .ret) [.v (Bo false)] ⟨[], [], [rH L own mark, rH L2 own2 mark2]⟩)) (fun n k hk => ?_) (fun n k hk => ?_) L.length 0 (by omega) (by omega)
  · refine h.trans ?_
    unfold lfSr
    cases anyN (neH L L2) L.length 0 <;> rfl
  · refine (stepSr r1 r2 r3 r4 r5 r6 r7 r8 q1 q2 q3 q4 q5 q6 q7 q8 k L own mark L2 own2 mark2 n).trans ?_
    rw [decide_eq_false hk]
    rfl
  · refine (stepSr r1 r2 r3 r4 r5 r6 r7 r8 q1 q2 q3 q4 q5 q6 q7 q8 k L own mark L2 own2 mark2 n).trans ?_
    rw [decide_eq_true hk.2, decide_eq_true hk.1, decide_eq_true (show k < (L2.length : Int) by omega), (phOk_get hl hk.1 hk.2).2, wI_id (n := k + 1) (by omega)]
    simp only [Bool.and_self, cond_true, same_self]
    show (bif neH L L2 k then _ else _) = _
    cases neH L L2 k <;> rfl
def GSr (vals : List SV) (m : Mem) : Option (Bool × LT) :=
  match vals, m with
  | [.ptr 0 0, .ptr 1 0, .v (.int .i64 k)], ⟨[[.row 0, .v (.int .i64 r1), .v (.int .i64 r2), .v (.int .i64 r3), .v (.int .i64 r4), .v (.int .i64 r5), .v (.int .i64 r6), .v (.int .i64 r7), .v (.int .i64 r8)], [.row 1, .v (.int .i64 q1), .v (.int .i64 q2), .v (.int .i64 q3), .v (.int .i64 q4), .v (.int .i64 q5), .v (.int .i64 q6), .v (.int .i64 q7), .v (.int .i64 q8)]], [true, true], [.live ⟨49, [.sl 51 [.num .i64, .num .i64], .num .i64, .num .i64, .num .i64, .num .i64], L, own, mark⟩, .live ⟨49, [.sl 51 [.num .i64, .num .i64], .num .i64, .num .i64, .num .i64, .num .i64], L2, own2, mark2⟩]⟩ => some (k == 0 && (phOk L && (phOk L2 && Nat.beq L.length L2.length)), lfSr L own mark L2 own2 mark2)
  | _, _ => none
noncomputable def ΛSr : LoopOrc := fun _ st => viaT 0 2 kSr GSr st
theorem loopOkSr (z : Base) (z1 : z.L.length = 0) (z2 : z.U.length = 2) : LoopOk ΛSr Tryz.prog z bdSr := by
  refine loop_okT (Λ := L0) (kx := xSr) Okw1 mixed z1 z2 (fun b hb st t h => by cases h) (G := GSr) (fun _ => rfl) ?_
  intro vals m t h
  unfold GSr at h
  split at h
  · rename_i k r1 r2 r3 r4 r5 r6 r7 r8 q1 q2 q3 q4 q5 q6 q7 q8 L own mark L2 own2 mark2
    obtain ⟨h1, rfl⟩ := some_t h
    simp only [Bool.and_eq_true, beq_iff_eq] at h1
    obtain ⟨rfl, hl, h2, he⟩ := h1
    exact ⟨_, loopSr r1 r2 r3 r4 r5 r6 r7 r8 q1 q2 q3 q4 q5 q6 q7 q8 L own mark L2 own2 mark2 hl h2 (Nat.eq_of_beq_eq_true he)⟩
  · cases h
theorem loopsSr : loopsOf (Tryz.f11.body.getD .skip) = [bdSr] := by kernel_rfl
def samR (L : List (List Dat)) (r1 r2 r3 r4 r5 r6 r7 r8 : Int) (L2 : List (List Dat)) (q1 q2 q3 q4 q5 q6 q7 q8 : Int) : Bool := (L.length : Int) == (L2.length : Int) && (r1 == q1 && (r2 == q2 && (r3 == q3 && (r4 == q4 && (r5 == q5 && (r6 == q6 && (r7 == q7 && (r8 == q8))))))) && !anyN (neH L L2) L.length 0)
set_option maxRecDepth 20000 in
theorem runSmr (r1 : Int) (r2 : Int) (r3 : Int) (r4 : Int) (r5 : Int) (r6 : Int) (r7 : Int) (r8 : Int) (q1 : Int) (q2 : Int) (q3 : Int) (q4 : Int) (q5 : Int) (q6 : Int) (q7 : Int) (q8 : Int) (L : List (List Dat)) (own : Bool) (mark : Bool) (L2 : List (List Dat)) (own2 : Bool) (mark2 : Bool) : runG Γw1 ΛSr Tryz.prog Tryz.f11 [.ag [.row 0, .v (I r1), .v (I r2), .v (I r3), .v (I r4), .v (I r5), .v (I r6), .v (I r7), .v (I r8)], .ag [.row 1, .v (I q1), .v (I q2), .v (I q3), .v (I q4), .v (I q5), .v (I q6), .v (I q7), .v (I q8)]] ⟨[], [], [rH L own mark, rH L2 own2 mark2]⟩ = 
    (bif (L.length : Int) != (L2.length : Int) then some (.v (Bo false), ⟨[], [], [.live ⟨49, kPh, L, own, mark⟩, .live ⟨49, kPh, L2, own2, mark2⟩]⟩) else (bif r1 != q1 then some (.v (Bo false), ⟨[], [], [.live ⟨49, kPh, L, own, mark⟩, .live ⟨49, kPh, L2, own2, mark2⟩]⟩) else (bif r2 != q2 then some (.v (Bo false), ⟨[], [], [.live ⟨49, kPh, L, own, mark⟩, .live ⟨49, kPh, L2, own2, mark2⟩]⟩) else (bif r3 != q3 then some (.v (Bo false), ⟨[], [], [.live ⟨49, kPh, L, own, mark⟩, .live ⟨49, kPh, L2, own2, mark2⟩]⟩) else (bif r4 != q4 then some (.v (Bo false), ⟨[], [], [.live ⟨49, kPh, L, own, mark⟩, .live ⟨49, kPh, L2, own2, mark2⟩]⟩) else (bif r5 != q5 then some (.v (Bo false), ⟨[], [], [.live ⟨49, kPh, L, own, mark⟩, .live ⟨49, kPh, L2, own2, mark2⟩]⟩) else (bif r6 != q6 then some (.v (Bo false), ⟨[], [], [.live ⟨49, kPh, L, own, mark⟩, .live ⟨49, kPh, L2, own2, mark2⟩]⟩) else (bif r7 != q7 then some (.v (Bo false), ⟨[], [], [.live ⟨49, kPh, L, own, mark⟩, .live ⟨49, kPh, L2, own2, mark2⟩]⟩) else (bif r8 != q8 then some (.v (Bo false), ⟨[], [], [.live ⟨49, kPh, L, own, mark⟩, .live ⟨49, kPh, L2, own2, mark2⟩]⟩) else (bif true && (phOk L && (phOk L2 && L.length.beq L2.length)) then (bif anyN (neH L L2) L.length (0 : Int) then some (.v (Bo false), ⟨[], [], [.live ⟨49, kPh, L, own, mark⟩, .live ⟨49, kPh, L2, own2, mark2⟩]⟩) else some (.v (Bo true), ⟨[], [], [.live ⟨49, kPh, L, own, mark⟩, .live ⟨49, kPh, L2, own2, mark2⟩]⟩)) else none)))))))))) := by kernel_rfl
def gSmr (xs : List SV) (m : Mem) : Option (Bool × Value) :=
  match xs, m with
  | [.ag [.row 0, .v (.int .i64 r1), .v (.int .i64 r2), .v (.int .i64 r3), .v (.int .i64 r4), .v (.int .i64 r5), .v (.int .i64 r6), .v (.int .i64 r7), .v (.int .i64 r8)], .ag [.row 1, .v (.int .i64 q1), .v (.int .i64 q2), .v (.int .i64 q3), .v (.int .i64 q4), .v (.int .i64 q5), .v (.int .i64 q6), .v (.int .i64 q7), .v (.int .i64 q8)]], ⟨[], [], [.live ⟨49, [.sl 51 [.num .i64, .num .i64], .num .i64, .num .i64, .num .i64, .num .i64], L, own, mark⟩, .live ⟨49, [.sl 51 [.num .i64, .num .i64], .num .i64, .num .i64, .num .i64, .num .i64], L2, own2, mark2⟩]⟩ => some (phOk L && phOk L2, Bo (samR L r1 r2 r3 r4 r5 r6 r7 r8 L2 q1 q2 q3 q4 q5 q6 q7 q8))
  | _, _ => none
theorem gSmr_ok : ∀ xs m r, gSmr xs m = some (true, r) → CallOk Tryz.prog 11 xs m (.v r) m := by
  intro xs m r h
  unfold gSmr at h
  split at h
  · rename_i r1 r2 r3 r4 r5 r6 r7 r8 q1 q2 q3 q4 q5 q6 q7 q8 L own mark L2 own2 mark2
    obtain ⟨h1, rfl⟩ := some_t h
    refine runOk (Λ := ΛSr) Okw1 Tryz.func11 rfl (fun z z1 z2 => oneLoop loopsSr (loopOkSr z z1 z2)) ?_
    refine (runSmr r1 r2 r3 r4 r5 r6 r7 r8 q1 q2 q3 q4 q5 q6 q7 q8 L own mark L2 own2 mark2).trans ?_
    rw [Bool.and_eq_true] at h1
    rw [h1.1, h1.2]
    unfold samR
    by_cases he : (L.length : Int) = (L2.length : Int)
    · have e2 : Nat.beq L.length L2.length = true := by
        have : L.length = L2.length := by omega
        rw [this]
        exact Nat.beq_refl _
      rw [e2, beq_iff_eq.2 he, show ((L.length : Int) != (L2.length : Int)) = false from bne_eq_false_iff_eq.2 he]
      simp only [bne]
      (cases r1 == q1 <;> first | rfl | (cases r2 == q2 <;> first | rfl | (cases r3 == q3 <;> first | rfl | (cases r4 == q4 <;> first | rfl | (cases r5 == q5 <;> first | rfl | (cases r6 == q6 <;> first | rfl | (cases r7 == q7 <;> first | rfl | (cases r8 == q8 <;> first | rfl | (cases anyN (neH L L2) L.length 0 <;> first | rfl | rfl)))))))))
    · rw [show ((L.length : Int) == (L2.length : Int)) = false from beq_eq_false_iff_ne.2 he, show ((L.length : Int) != (L2.length : Int)) = true from bne_iff_ne.2 he]
      rfl
  · cases h
noncomputable def Γw2 : Orc := addRd 11 gSmr Γw1
theorem Okw2 : Γw2.Ok Tryz.prog := addRd_ok Okw1 gSmr_ok
noncomputable def ΓRf5 : Orc := Γw2
theorem OkRf5 : ΓRf5.Ok Tryz.prog := Okw2
end Go.Proofs.YtikekoabadhmiaaGreat

namespace Go.Proofs.YtikekoabadhmiaaGreat
open Go Go.Proofs Go.Sx
noncomputable def ΓA14 : Orc := ΓRf5
theorem OkA14 : ΓA14.Ok Tryz.prog := OkRf5
end Go.Proofs.YtikekoabadhmiaaGreat

