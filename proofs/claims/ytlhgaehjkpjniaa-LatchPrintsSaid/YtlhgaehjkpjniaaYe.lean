/-
  What is known of this program: sums, bytes of numbers, contracts of latch, the law package's own.
-/
import Derived.Test.YtlhgaehjkpjniaaYd
import Derived.Laws.Strings
namespace Go.Proofs.Ytlhgaehjkpjniaa
open Go Go.Proofs Go.Sx
/-! One step of a sum, and eight. -/
def n16 (n : Nat) : Nat := bif Nat.ble 32768 n then Nat.xor (2 * n % 65536) 4129 else 2 * n % 65536
def n32 (n : Nat) : Nat := bif Nat.beq (n % 2) 1 then Nat.xor (n / 2) 3988292384 else n / 2
def it (f : Nat → Nat) : Nat → Nat → Nat
  | 0, n => n
  | k + 1, n => it f k (f n)
def N16 (n : Nat) : Nat := it n16 8 n
def N32 (n : Nat) : Nat := it n32 8 n

theorem xor_lt {a b : Nat} (k : Nat) (ha : a < 2 ^ k) (hb : b < 2 ^ k) : Nat.xor a b < 2 ^ k := Nat.xor_lt_two_pow ha hb
theorem n16_lt (n : Nat) : n16 n < 65536 := by
  unfold n16
  cases Nat.ble 32768 n
  · exact Nat.mod_lt _ (by decide)
  · exact xor_lt 16 (Nat.mod_lt _ (by decide)) (by decide)
theorem n32_lt {n : Nat} (h : n < 4294967296) : n32 n < 4294967296 := by
  unfold n32
  cases Nat.beq (n % 2) 1
  · show n / 2 < _; omega
  · exact xor_lt 32 (by have : (2:Nat) ^ 32 = 4294967296 := by decide
                        omega) (by decide)
theorem it_lt {f : Nat → Nat} {m : Nat} (hf : ∀ n, n < m → f n < m) : ∀ (k n : Nat), n < m → it f k n < m
  | 0, _, h => h
  | k + 1, n, h => it_lt hf k (f n) (hf n h)
theorem N16_lt {n : Nat} (h : n < 65536) : N16 n < 65536 := it_lt (fun n _ => n16_lt n) 8 n h
theorem N32_lt {n : Nat} (h : n < 4294967296) : N32 n < 4294967296 := it_lt (fun _ => n32_lt) 8 n h

theorem wrap16 (n : Nat) : IntKind.u16.wrap (n : Int) = ((n % 65536 : Nat) : Int) := by
  rw [← wr_eq true]; simp only [wr]; omega
theorem wrap32 (n : Nat) : IntKind.u32.wrap (n : Int) = ((n % 4294967296 : Nat) : Int) := by
  rw [← wr_eq true]; simp only [wr]; omega
theorem xorB (w a b : Nat) (ha : a < 2 ^ w) (hb : b < 2 ^ w) : (((BitVec.ofInt w (a : Int) ^^^ BitVec.ofInt w (b : Int)).toNat : Nat) : Int) = ((Nat.xor a b : Nat) : Int) := by
  rw [BitVec.toNat_xor, BitVec.ofInt_natCast, BitVec.ofInt_natCast, BitVec.toNat_ofNat, BitVec.toNat_ofNat, Nat.mod_eq_of_lt ha, Nat.mod_eq_of_lt hb]
  rfl
theorem andB (w a b : Nat) (ha : a < 2 ^ w) (hb : b < 2 ^ w) : (((BitVec.ofInt w (a : Int) &&& BitVec.ofInt w (b : Int)).toNat : Nat) : Int) = ((Nat.land a b : Nat) : Int) := by
  rw [BitVec.toNat_and, BitVec.ofInt_natCast, BitVec.ofInt_natCast, BitVec.toNat_ofNat, BitVec.toNat_ofNat, Nat.mod_eq_of_lt ha, Nat.mod_eq_of_lt hb]
  rfl

/-- What eight rounds come to. -/
theorem eight {α : Type} (E : Nat → Int → Int → Option α) (F : Int → Option α) (c : Int → Bool) (A B : Int → Int) (f : Nat → Nat) (m : Nat) (hf : ∀ n, n < m → f n < m) (hc : ∀ n : Nat, n < m → (bif c (n : Int) then A (n : Int) else B (n : Int)) = ((f n : Nat) : Int))
    (hE : ∀ k x i, E (k + 1) x i = bif decide (i < (8 : Int)) then (bif c x then E k (A x) (wI (i + 1)) else E k (B x) (wI (i + 1))) else F x) :
    ∀ (j n : Nat), j ≤ 8 → n < m → E (j + 1) (n : Int) ((8 - j : Nat) : Int) = F ((it f j n : Nat) : Int) := by
  intro j
  induction j with
  | zero =>
    intro n _ _
    rw [hE]
    rfl
  | succ j ih =>
    intro n hj hn
    rw [hE, show decide (((8 - (j + 1) : Nat) : Int) < 8) = true from decide_eq_true (by omega), wI_id (by omega), show ((8 - (j + 1) : Nat) : Int) + 1 = ((8 - j : Nat) : Int) by omega]
    have hx := hc n hn
    have h2 : (bif c (n : Int) then E (j + 1) (A n) ((8 - j : Nat) : Int) else E (j + 1) (B n) ((8 - j : Nat) : Int)) = E (j + 1) (bif c (n : Int) then A (n : Int) else B (n : Int)) ((8 - j : Nat) : Int) := by
      cases c (n : Int) <;> rfl
    rw [cond_true, h2, hx, ih (f n) (by omega) (hf n hn)]
    rfl

def a16 (x : Int) : Int := IntKind.u16.wrap (((BitVec.ofInt 16 (IntKind.u16.wrap (x * 2 ^ min (Int.toNat 1) 16)) ^^^ BitVec.ofInt 16 4129).toNat : Nat) : Int)
def b16 (x : Int) : Int := IntKind.u16.wrap (x * 2 ^ min (Int.toNat 1) 16)
theorem step_n16 (n : Nat) (_ : n < 65536) : (bif decide ((n : Int) ≥ 32768) then a16 n else b16 n) = ((n16 n : Nat) : Int) := by
  have e : (n : Int) * 2 ^ min (Int.toNat 1) 16 = ((2 * n : Nat) : Int) := by
    rw [show min (Int.toNat 1) 16 = 1 from rfl]; omega
  unfold a16 b16 n16
  rw [e, wrap16 (2 * n), show (4129 : Int) = ((4129 : Nat) : Int) from rfl, xorB 16 _ _ (Nat.mod_lt _ (by decide)) (by decide), wrap16]
  by_cases h : 32768 ≤ n
  · rw [decide_eq_true (by omega), show Nat.ble 32768 n = true from by rw [Nat.ble_eq]; exact h]
    simp only [cond_true]
    rw [Nat.mod_eq_of_lt (xor_lt 16 (Nat.mod_lt _ (by decide)) (by decide))]
  · rw [decide_eq_false (by omega), show Nat.ble 32768 n = false from by rw [← Bool.not_eq_true, Nat.ble_eq]; exact h]
    rfl
def c32 (x : Int) : Bool := IntKind.u32.wrap (((BitVec.ofInt 32 x &&& BitVec.ofInt 32 1).toNat : Nat) : Int) == 1
def a32 (x : Int) : Int := IntKind.u32.wrap (((BitVec.ofInt 32 (Int.fdiv x (2 ^ min (Int.toNat 1) 32)) ^^^ BitVec.ofInt 32 3988292384).toNat : Nat) : Int)
def b32 (x : Int) : Int := Int.fdiv x (2 ^ min (Int.toNat 1) 32)
theorem two32 : (2 : Nat) ^ 32 = 4294967296 := by decide
theorem step_n32 (n : Nat) (h : n < 4294967296) : (bif c32 n then a32 n else b32 n) = ((n32 n : Nat) : Int) := by
  have e : Int.fdiv (n : Int) (2 ^ min (Int.toNat 1) 32) = ((n / 2 : Nat) : Int) := by
    rw [show min (Int.toNat 1) 32 = 1 from rfl, Int.fdiv_eq_ediv_of_nonneg _ (by decide)]; omega
  unfold c32 a32 b32 n32
  rw [e, show (3988292384 : Int) = ((3988292384 : Nat) : Int) from rfl, show (1 : Int) = ((1 : Nat) : Int) from rfl, andB 32 _ _ (by rw [two32]; exact h) (by decide), xorB 32 _ _ (by rw [two32]; omega) (by decide), wrap32, wrap32]
  have e2 : Nat.land n 1 = n % 2 := Nat.and_one_is_mod n
  rw [e2]
  rcases Nat.mod_two_eq_zero_or_one n with h0 | h0
  · rw [h0]; rfl
  · rw [h0, Nat.mod_eq_of_lt (xor_lt 32 (by rw [two32]; omega) (by decide))]; rfl
def d32 (x : Int) : Bool := Int.tmod x 2 == 1
def g32 (x : Int) : Int := IntKind.u32.wrap (((BitVec.ofInt 32 (IntKind.u32.wrap (Int.tdiv x 2)) ^^^ BitVec.ofInt 32 3988292384).toNat : Nat) : Int)
def h32 (x : Int) : Int := IntKind.u32.wrap (Int.tdiv x 2)
theorem step_r32 (n : Nat) (h : n < 4294967296) : (bif d32 n then g32 n else h32 n) = ((n32 n : Nat) : Int) := by
  have e : Int.tdiv (n : Int) 2 = ((n / 2 : Nat) : Int) := by
    rw [Int.tdiv_eq_ediv_of_nonneg (by omega)]; omega
  have e1 : Int.tmod (n : Int) 2 = ((n % 2 : Nat) : Int) := by
    rw [Int.tmod_eq_emod_of_nonneg (by omega)]; omega
  unfold d32 g32 h32 n32
  rw [e, e1, wrap32 (n / 2), Nat.mod_eq_of_lt (show n / 2 < 4294967296 by omega), show (3988292384 : Int) = ((3988292384 : Nat) : Int) from rfl, xorB 32 _ _ (by rw [two32]; omega) (by decide), wrap32]
  rcases Nat.mod_two_eq_zero_or_one n with h0 | h0
  · rw [h0]; rfl
  · rw [h0, Nat.mod_eq_of_lt (xor_lt 32 (by rw [two32]; omega) (by decide))]; rfl

/-! Sums of texts. -/
def p16 (x : Nat) (b : UInt8) : Nat := N16 (Nat.xor x (b.toNat * 256))
def p32 (x : Nat) (b : UInt8) : Nat := N32 (Nat.xor x b.toNat)
theorem byte_lt (b : UInt8) : b.toNat < 256 := b.toNat_lt
theorem p16_lt {x : Nat} (b : UInt8) (h : x < 65536) : p16 x b < 65536 :=
  N16_lt (xor_lt 16 h (by have := byte_lt b; show _ < 65536; omega))
theorem p32_lt {x : Nat} (b : UInt8) (h : x < 4294967296) : p32 x b < 4294967296 :=
  N32_lt (xor_lt 32 h (by have := byte_lt b; rw [two32]; omega))
def R16 (x : Int) (s : ByteArray) : Int := ((s.data.toList.foldl p16 x.toNat : Nat) : Int)
def F32 (s : ByteArray) : Nat := s.data.toList.foldl p32 4294967295
theorem fold_lt {α : Type} {f : Nat → α → Nat} {m : Nat} (hf : ∀ n b, n < m → f n b < m) : ∀ (l : List α) (n : Nat), n < m → l.foldl f n < m
  | [], _, h => h
  | b :: l, n, h => fold_lt hf l _ (hf n b h)

theorem strAt_some {s : ByteArray} {k : Nat} {b : UInt8} (h : s.data[k]? = some b) : strAt s (k : Int) = (b.toNat : Int) := by
  unfold strAt
  have : s[(k : Int).toNat]? = some b := by
    rw [Int.toNat_natCast]
    have hk : k < s.size := by
      have := (Array.getElem?_eq_some_iff.1 h).1
      exact this
    rw [getElem?_pos s k hk]
    have h2 := (Array.getElem?_eq_some_iff.1 h).2
    rw [← h2]
    rfl
  rw [this]

/-- A loop over a text's bytes. -/
theorem overS {α : Type} (s : ByteArray) (hs : s.size ≤ 9223372036854775807) (E : Nat → Int → Int → Option α) (F : Int → Option α) (g : Int → Int → Bool) (A : Int → Int → Int) (f : Nat → UInt8 → Nat) (m : Nat) (hf : ∀ n b, n < m → f n b < m)
    (hg : ∀ (n k : Nat) b, n < m → s.data[k]? = some b → g n k = true ∧ A n k = ((f n b : Nat) : Int))
    (hE : ∀ k x i, E (k + 1) x i = bif decide (i < (s.size : Int)) then (bif decide (0 ≤ i) && decide (i < (s.size : Int)) then (bif g x i then E k (A x i) (wI (i + 1)) else none) else none) else F x) :
    ∀ (j k n : Nat), k + j = s.size → n < m → E (j + 1) (n : Int) (k : Int) = F (((s.data.toList.drop k).foldl f n : Nat) : Int) := by
  intro j
  induction j with
  | zero =>
    intro k n hk _
    rw [hE, show decide ((k : Int) < (s.size : Int)) = false from decide_eq_false (by omega)]
    rw [List.drop_eq_nil_of_le (by simp; omega)]
    rfl
  | succ j ih =>
    intro k n hk hn
    have hlt : k < s.data.size := by show k < s.size; omega
    obtain ⟨b, hb⟩ : ∃ b, s.data[k]? = some b := ⟨s.data[k], by simp⟩
    obtain ⟨h1, h2⟩ := hg n k b hn hb
    rw [hE, show decide ((k : Int) < (s.size : Int)) = true from decide_eq_true (by omega), show decide ((0 : Int) ≤ (k : Int)) = true from decide_eq_true (by omega), wI_id (by omega), h1, h2]
    simp only [cond_true, Bool.and_self]
    rw [show (k : Int) + 1 = ((k + 1 : Nat) : Int) by omega, ih (k + 1) _ (by omega) (hf n b hn)]
    have e2 : s.data.toList.drop k = b :: s.data.toList.drop (k + 1) := by
      rw [List.drop_eq_getElem_cons (by simpa using hlt)]
      have := (Array.getElem?_eq_some_iff.1 hb).2
      simp [this]
    rw [e2, List.foldl_cons]

def q16 (s : ByteArray) (x i : Int) : Int := IntKind.u16.wrap (((BitVec.ofInt 16 x ^^^ BitVec.ofInt 16 (IntKind.u16.wrap (IntKind.u16.wrap (strAt s i) * 2 ^ min (Int.toNat 8) 16))).toNat : Nat) : Int)
def q32 (s : ByteArray) (x i : Int) : Int := IntKind.u32.wrap (((BitVec.ofInt 32 x ^^^ BitVec.ofInt 32 (IntKind.u32.wrap (strAt s i))).toNat : Nat) : Int)
theorem q16_nat {s : ByteArray} {n k : Nat} {b : UInt8} (hn : n < 65536) (hb : s.data[k]? = some b) : q16 s n k = ((Nat.xor n (b.toNat * 256) : Nat) : Int) := by
  have h := byte_lt b
  unfold q16
  rw [strAt_some hb, wrap16 b.toNat, Nat.mod_eq_of_lt (show b.toNat < 65536 by omega)]
  have e : ((b.toNat : Nat) : Int) * 2 ^ min (Int.toNat 8) 16 = ((b.toNat * 256 : Nat) : Int) := by
    rw [show min (Int.toNat 8) 16 = 8 from rfl]; omega
  rw [e, wrap16 (b.toNat * 256), Nat.mod_eq_of_lt (show b.toNat * 256 < 65536 by omega), xorB 16 _ _ hn (by show _ < 65536; omega), wrap16, Nat.mod_eq_of_lt (xor_lt 16 hn (by show _ < 65536; omega))]
theorem q32_nat {s : ByteArray} {n k : Nat} {b : UInt8} (hn : n < 4294967296) (hb : s.data[k]? = some b) : q32 s n k = ((Nat.xor n b.toNat : Nat) : Int) := by
  have h := byte_lt b
  unfold q32
  rw [strAt_some hb, wrap32 b.toNat, Nat.mod_eq_of_lt (show b.toNat < 4294967296 by omega)]
  rw [xorB 32 _ _ (by rw [two32]; exact hn) (by rw [two32]; omega), wrap32, Nat.mod_eq_of_lt (xor_lt 32 (by rw [two32]; exact hn) (by rw [two32]; omega))]


/-- From 0 to below m: said so that it stands still at once where the number isn't known. -/
def inN (m : Nat) (x : Int) : Bool :=
  match x with
  | .ofNat n => Nat.ble (n + 1) m
  | .negSucc _ => false
theorem inN_nat {m : Nat} {x : Int} (h : inN m x = true) : ∃ n : Nat, x = (n : Int) ∧ n < m := by
  cases x with
  | ofNat n => exact ⟨n, rfl, Nat.le_of_ble_eq_true h⟩
  | negSucc n => cases h
theorem inN_of {m n : Nat} (h : n < m) : inN m (n : Int) = true := Nat.ble_eq_true_of_le h
def in16 (x : Int) : Bool := inN 65536 x
def in32 (x : Int) : Bool := inN 4294967296 x
def S16 (x : Int) : Int := ((N16 x.toNat : Nat) : Int)
def S32 (x : Int) : Int := ((N32 x.toNat : Nat) : Int)
theorem in16_nat {x : Int} (h : in16 x = true) : ∃ n : Nat, x = (n : Int) ∧ n < 65536 := inN_nat h
theorem in32_nat {x : Int} (h : in32 x = true) : ∃ n : Nat, x = (n : Int) ∧ n < 4294967296 := inN_nat h
def R32 (x : Int) (s : ByteArray) : Int := ((s.data.toList.foldl p32 x.toNat : Nat) : Int)
def sum32 (s : ByteArray) : Int := ((Nat.xor (F32 s) 4294967295 : Nat) : Int)
def fin32 (s : ByteArray) : Int := IntKind.u32.wrap (((BitVec.ofInt 32 (R32 4294967295 s) ^^^ BitVec.ofInt 32 4294967295).toNat : Nat) : Int)
theorem F32_lt (s : ByteArray) : F32 s < 4294967296 := fold_lt (fun _ b => p32_lt b) _ _ (by decide)
theorem fin32_eq (s : ByteArray) : fin32 s = sum32 s := by
  have h := F32_lt s
  unfold fin32 sum32
  have e : R32 4294967295 s = ((F32 s : Nat) : Int) := rfl
  rw [e, show (4294967295 : Int) = ((4294967295 : Nat) : Int) from rfl, xorB 32 _ _ (by rw [two32]; exact h) (by decide), wrap32, Nat.mod_eq_of_lt (xor_lt 32 (by rw [two32]; exact h) (by decide))]
def szS (s : ByteArray) : Bool := Nat.ble s.size 9223372036854775807
theorem gs16 (s : ByteArray) (n k : Nat) (b : UInt8) (hn : n < 65536) (hb : s.data[k]? = some b) : in16 (q16 s n k) = true ∧ S16 (q16 s n k) = ((p16 n b : Nat) : Int) := by
  rw [q16_nat hn hb]
  exact ⟨inN_of (xor_lt 16 hn (by have := byte_lt b; show _ < 65536; omega)), rfl⟩
theorem gs32 (s : ByteArray) (n k : Nat) (b : UInt8) (hn : n < 4294967296) (hb : s.data[k]? = some b) : in32 (q32 s n k) = true ∧ S32 (q32 s n k) = ((p32 n b : Nat) : Int) := by
  rw [q32_nat hn hb]
  exact ⟨inN_of (xor_lt 32 (by rw [two32]; exact hn) (by have := byte_lt b; rw [two32]; omega)), rfl⟩

noncomputable def ΓK1 : Orc := ΓFm
theorem OkK1 : ΓK1.Ok Try.prog := OkFm
noncomputable def ΓK2 : Orc := ΓK1
theorem OkK2 : ΓK2.Ok Try.prog := OkK1
noncomputable def ΓK3 : Orc := ΓK2
theorem OkK3 : ΓK3.Ok Try.prog := OkK2
noncomputable def ΓK4 : Orc := ΓK3
theorem OkK4 : ΓK4.Ok Try.prog := OkK3
noncomputable def ΓK5 : Orc := ΓK4
theorem OkK5 : ΓK5.Ok Try.prog := OkK4
def kEight32 : List Bool := maskOf 16 [0, 4]
def xEight32 : List Bool := maskOf 16 [0]
noncomputable def bodyEight32 : Code := loopAt (Try.f79.body.getD .skip) 0
theorem loopsEight32 : loopsOf (Try.f79.body.getD .skip) = [bodyEight32] := by kernel_rfl
theorem loopsEight320 : loopsOf bodyEight32 = [] := by kernel_rfl
def EEight32 (e : Ex) (st : St) : Option (Ex × St) := some (e, cutC 0 0 xEight32 st)
theorem stepEight32 (k : Nat) (x i : Int) : evLoop ΓK5 Try.prog L0 (cutC 0 0 kEight32) bodyEight32 (k + 1) (mk kEight32 [.v (U32 x), .v (I i)] M0) EEight32 =
    bif decide (i < 8) then (bif c32 x then evLoop ΓK5 Try.prog L0 (cutC 0 0 kEight32) bodyEight32 k (mk kEight32 [.v (U32 (a32 x)), .v (I (wI (i + 1)))] M0) EEight32 else evLoop ΓK5 Try.prog L0 (cutC 0 0 kEight32) bodyEight32 k (mk kEight32 [.v (U32 (b32 x)), .v (I (wI (i + 1)))] M0) EEight32)
    else some (.exit 0, mk xEight32 [.v (U32 x)] M0) := by kernel_rfl
def GEight32 (vals : List SV) (m : Mem) : Option (Bool × Ex × St) :=
  match vals, m with
  | [.v (.int .u32 x), .v (.int .i64 i)], ⟨[], [], []⟩ => some (i == 0 && in32 x, .exit 0, mk xEight32 [.v (U32 (S32 x))] M0)
  | _, _ => none
noncomputable def ΛEight32 : LoopOrc := fun _ st => viaC 0 0 kEight32 GEight32 st
theorem loopOkEight32 (z : Base) (z1 : z.L.length = 0) (z2 : z.U.length = 0) : LoopOk ΛEight32 Try.prog z bodyEight32 := by
  refine loop_okC (Λ := L0) (kx := fun _ => xEight32) OkK5 mixed z1 z2 (fun b hb => by rw [loopsEight320] at hb; cases hb) (G := GEight32) (fun _ => rfl) ?_
  intro vals m e st' h
  unfold GEight32 at h
  split at h
  · rename_i x i
    obtain ⟨h1, rfl, rfl⟩ := some_t2 h
    simp only [Bool.and_eq_true, beq_iff_eq] at h1
    obtain ⟨rfl, h1⟩ := h1
    obtain ⟨n, rfl, hn⟩ := in32_nat h1
    exact ⟨9, eight (fun k x i => evLoop ΓK5 Try.prog L0 (cutC 0 0 kEight32) bodyEight32 k (mk kEight32 [.v (U32 x), .v (I i)] M0) EEight32) (fun x => some (.exit 0, mk xEight32 [.v (U32 x)] M0)) (fun x => c32 x) a32 b32 n32 4294967296 (fun n => n32_lt) step_n32 stepEight32 8 n (Nat.le_refl 8) hn⟩
  · cases h
theorem runEight32 (x : Int) : runG ΓK5 ΛEight32 Try.prog Try.f79 [.v (U32 x)] M0 = bif (0 : Int) == 0 && in32 x then some (.v (U32 (S32 x)), M0) else none := by kernel_rfl
def gEight32 (vs : List Value) : Option (Bool × Value) :=
  match vs with
  | [.int .u32 x] => some (in32 x, U32 (S32 x))
  | _ => none
theorem gEight32_ok : ∀ vs r, gEight32 vs = some (true, r) → ∀ m, CallOk Try.prog 79 (vs.map .v) m (.v r) m := by
  intro vs r h
  unfold gEight32 at h
  split at h
  · rename_i x
    obtain ⟨h1, rfl⟩ := some_t h
    refine runV (vs := [U32 x]) (Λ := ΛEight32) (m' := M0) OkK5 Try.func79 rfl (fun z z1 z2 => oneLoop (c := Try.f79.body.getD .skip) loopsEight32 (loopOkEight32 z z1 z2)) ?_
    exact (runEight32 x).trans (by rw [h1]; rfl)
  · cases h
noncomputable def ΓK6 : Orc := addVal 79 gEight32 ΓK5
theorem OkK6 : ΓK6.Ok Try.prog := addVal_ok OkK5 gEight32_ok
def kStep32 : List Bool := maskOf 17 [0, 3]
def xStep32 : List Bool := maskOf 17 [0]
noncomputable def bodyStep32 : Code := loopAt (Try.f81.body.getD .skip) 0
theorem loopsStep32 : loopsOf (Try.f81.body.getD .skip) = [bodyStep32] := by kernel_rfl
theorem loopsStep320 : loopsOf bodyStep32 = [] := by kernel_rfl
def EStep32 (e : Ex) (st : St) : Option (Ex × St) := some (e, cutC 0 0 xStep32 st)
theorem stepStep32 (k : Nat) (x i : Int) : evLoop ΓK6 Try.prog L0 (cutC 0 0 kStep32) bodyStep32 (k + 1) (mk kStep32 [.v (U32 x), .v (I i)] M0) EStep32 =
    bif decide (i < 8) then (bif d32 x then evLoop ΓK6 Try.prog L0 (cutC 0 0 kStep32) bodyStep32 k (mk kStep32 [.v (U32 (g32 x)), .v (I (wI (i + 1)))] M0) EStep32 else evLoop ΓK6 Try.prog L0 (cutC 0 0 kStep32) bodyStep32 k (mk kStep32 [.v (U32 (h32 x)), .v (I (wI (i + 1)))] M0) EStep32)
    else some (.exit 0, mk xStep32 [.v (U32 x)] M0) := by kernel_rfl
def GStep32 (vals : List SV) (m : Mem) : Option (Bool × Ex × St) :=
  match vals, m with
  | [.v (.int .u32 x), .v (.int .i64 i)], ⟨[], [], []⟩ => some (i == 0 && in32 x, .exit 0, mk xStep32 [.v (U32 (S32 x))] M0)
  | _, _ => none
noncomputable def ΛStep32 : LoopOrc := fun _ st => viaC 0 0 kStep32 GStep32 st
theorem loopOkStep32 (z : Base) (z1 : z.L.length = 0) (z2 : z.U.length = 0) : LoopOk ΛStep32 Try.prog z bodyStep32 := by
  refine loop_okC (Λ := L0) (kx := fun _ => xStep32) OkK6 mixed z1 z2 (fun b hb => by rw [loopsStep320] at hb; cases hb) (G := GStep32) (fun _ => rfl) ?_
  intro vals m e st' h
  unfold GStep32 at h
  split at h
  · rename_i x i
    obtain ⟨h1, rfl, rfl⟩ := some_t2 h
    simp only [Bool.and_eq_true, beq_iff_eq] at h1
    obtain ⟨rfl, h1⟩ := h1
    obtain ⟨n, rfl, hn⟩ := in32_nat h1
    exact ⟨9, eight (fun k x i => evLoop ΓK6 Try.prog L0 (cutC 0 0 kStep32) bodyStep32 k (mk kStep32 [.v (U32 x), .v (I i)] M0) EStep32) (fun x => some (.exit 0, mk xStep32 [.v (U32 x)] M0)) (fun x => d32 x) g32 h32 n32 4294967296 (fun n => n32_lt) step_r32 stepStep32 8 n (Nat.le_refl 8) hn⟩
  · cases h
theorem runStep32 (x : Int) : runG ΓK6 ΛStep32 Try.prog Try.f81 [.v (U32 x)] M0 = bif (0 : Int) == 0 && in32 x then some (.v (U32 (S32 x)), M0) else none := by kernel_rfl
def gStep32 (vs : List Value) : Option (Bool × Value) :=
  match vs with
  | [.int .u32 x] => some (in32 x, U32 (S32 x))
  | _ => none
theorem gStep32_ok : ∀ vs r, gStep32 vs = some (true, r) → ∀ m, CallOk Try.prog 81 (vs.map .v) m (.v r) m := by
  intro vs r h
  unfold gStep32 at h
  split at h
  · rename_i x
    obtain ⟨h1, rfl⟩ := some_t h
    refine runV (vs := [U32 x]) (Λ := ΛStep32) (m' := M0) OkK6 Try.func81 rfl (fun z z1 z2 => oneLoop (c := Try.f81.body.getD .skip) loopsStep32 (loopOkStep32 z z1 z2)) ?_
    exact (runStep32 x).trans (by rw [h1]; rfl)
  · cases h
noncomputable def ΓK7 : Orc := addVal 81 gStep32 ΓK6
theorem OkK7 : ΓK7.Ok Try.prog := addVal_ok OkK6 gStep32_ok
def kSum32 : List Bool := maskOf 20 [0, 3, 6, 7]
def xSum32 : List Bool := maskOf 20 [3]
noncomputable def bodySum32 : Code := loopAt (Try.f57.body.getD .skip) 0
theorem loopsSum32 : loopsOf (Try.f57.body.getD .skip) = [bodySum32] := by kernel_rfl
theorem loopsSum320 : loopsOf bodySum32 = [] := by kernel_rfl
def ESum32 (e : Ex) (st : St) : Option (Ex × St) := some (e, cutC 0 0 xSum32 st)
def HSum32 (s : ByteArray) (x i : Int) : St := mk kSum32 [.v (S s), .v (U32 x), .v (I (s.size : Int)), .v (I i)] M0
theorem stepSum32 (s : ByteArray) (k : Nat) (x i : Int) : evLoop ΓK7 Try.prog L0 (cutC 0 0 kSum32) bodySum32 (k + 1) (HSum32 s x i) ESum32 =
    bif decide (i < (s.size : Int)) then (bif decide (0 ≤ i) && decide (i < (s.size : Int)) then (bif in32 (q32 s x i) then evLoop ΓK7 Try.prog L0 (cutC 0 0 kSum32) bodySum32 k (HSum32 s (S32 (q32 s x i)) (wI (i + 1))) ESum32 else none) else none)
    else some (.exit 0, mk xSum32 [.v (U32 x)] M0) := by kernel_rfl
def GSum32 (vals : List SV) (m : Mem) : Option (Bool × Ex × St) :=
  match vals, m with
  | [.v (.string s), .v (.int .u32 x), .v (.int .i64 n), .v (.int .i64 i)], ⟨[], [], []⟩ => some (n == (s.size : Int) && (i == 0 && (in32 x && szS s)), .exit 0, mk xSum32 [.v (U32 (R32 x s))] M0)
  | _, _ => none
noncomputable def ΛSum32 : LoopOrc := fun _ st => viaC 0 0 kSum32 GSum32 st
theorem loopOkSum32 (z : Base) (z1 : z.L.length = 0) (z2 : z.U.length = 0) : LoopOk ΛSum32 Try.prog z bodySum32 := by
  refine loop_okC (Λ := L0) (kx := fun _ => xSum32) OkK7 mixed z1 z2 (fun b hb => by rw [loopsSum320] at hb; cases hb) (G := GSum32) (fun _ => rfl) ?_
  intro vals m e st' h
  unfold GSum32 at h
  split at h
  · rename_i s x n i
    obtain ⟨h1, rfl, rfl⟩ := some_t2 h
    simp only [Bool.and_eq_true, beq_iff_eq] at h1
    obtain ⟨rfl, rfl, h1, h4⟩ := h1
    obtain ⟨n, rfl, hn⟩ := in32_nat h1
    exact ⟨s.size + 1, overS s (Nat.le_of_ble_eq_true h4) (fun k x i => evLoop ΓK7 Try.prog L0 (cutC 0 0 kSum32) bodySum32 k (HSum32 s x i) ESum32) (fun x => some (.exit 0, mk xSum32 [.v (U32 x)] M0)) (fun x i => in32 (q32 s x i)) (fun x i => S32 (q32 s x i)) p32 4294967296 (fun n b => p32_lt b) (gs32 s) (stepSum32 s) s.size 0 n (by omega) hn⟩
  · cases h
theorem runSum32 (s : ByteArray) : runG ΓK7 ΛSum32 Try.prog Try.f57 [.v (S s)] M0 = bif (s.size : Int) == (s.size : Int) && ((0 : Int) == 0 && (in32 4294967295 && szS s)) then some (.v (U32 (fin32 s)), M0) else none := by kernel_rfl
def gSum32 (vs : List Value) : Option (Bool × Value) :=
  match vs with
  | [.string s] => some (szS s, (U32 (sum32 s)))
  | _ => none
theorem gSum32_ok : ∀ vs r, gSum32 vs = some (true, r) → ∀ m, CallOk Try.prog 57 (vs.map .v) m (.v r) m := by
  intro vs r h
  unfold gSum32 at h
  split at h
  · rename_i s
    obtain ⟨h1, rfl⟩ := some_t h
    refine runV (vs := [S s]) (Λ := ΛSum32) (m' := M0) OkK7 Try.func57 rfl (fun z z1 z2 => oneLoop (c := Try.f57.body.getD .skip) loopsSum32 (loopOkSum32 z z1 z2)) ?_
    exact (runSum32 s).trans (by rw [h1, beq_self_eq_true, fin32_eq]; rfl)
  · cases h
noncomputable def ΓK8 : Orc := addVal 57 gSum32 ΓK7
theorem OkK8 : ΓK8.Ok Try.prog := addVal_ok OkK7 gSum32_ok
def kRSum32 : List Bool := maskOf 20 [0, 3, 4]
def xRSum32 : List Bool := maskOf 20 [3]
noncomputable def bodyRSum32 : Code := loopAt (Try.f61.body.getD .skip) 0
theorem loopsRSum32 : loopsOf (Try.f61.body.getD .skip) = [bodyRSum32] := by kernel_rfl
theorem loopsRSum320 : loopsOf bodyRSum32 = [] := by kernel_rfl
def ERSum32 (e : Ex) (st : St) : Option (Ex × St) := some (e, cutC 0 0 xRSum32 st)
def HRSum32 (s : ByteArray) (x i : Int) : St := mk kRSum32 [.v (S s), .v (U32 x), .v (I i)] M0
theorem stepRSum32 (s : ByteArray) (k : Nat) (x i : Int) : evLoop ΓK8 Try.prog L0 (cutC 0 0 kRSum32) bodyRSum32 (k + 1) (HRSum32 s x i) ERSum32 =
    bif decide (i < (s.size : Int)) then (bif decide (0 ≤ i) && decide (i < (s.size : Int)) then (bif in32 (q32 s x i) then evLoop ΓK8 Try.prog L0 (cutC 0 0 kRSum32) bodyRSum32 k (HRSum32 s (S32 (q32 s x i)) (wI (i + 1))) ERSum32 else none) else none)
    else some (.exit 0, mk xRSum32 [.v (U32 x)] M0) := by kernel_rfl
def GRSum32 (vals : List SV) (m : Mem) : Option (Bool × Ex × St) :=
  match vals, m with
  | [.v (.string s), .v (.int .u32 x), .v (.int .i64 i)], ⟨[], [], []⟩ => some (i == 0 && (in32 x && szS s), .exit 0, mk xRSum32 [.v (U32 (R32 x s))] M0)
  | _, _ => none
noncomputable def ΛRSum32 : LoopOrc := fun _ st => viaC 0 0 kRSum32 GRSum32 st
theorem loopOkRSum32 (z : Base) (z1 : z.L.length = 0) (z2 : z.U.length = 0) : LoopOk ΛRSum32 Try.prog z bodyRSum32 := by
  refine loop_okC (Λ := L0) (kx := fun _ => xRSum32) OkK8 mixed z1 z2 (fun b hb => by rw [loopsRSum320] at hb; cases hb) (G := GRSum32) (fun _ => rfl) ?_
  intro vals m e st' h
  unfold GRSum32 at h
  split at h
  · rename_i s x i
    obtain ⟨h1, rfl, rfl⟩ := some_t2 h
    simp only [Bool.and_eq_true, beq_iff_eq] at h1
    obtain ⟨rfl, h1, h4⟩ := h1
    obtain ⟨n, rfl, hn⟩ := in32_nat h1
    exact ⟨s.size + 1, overS s (Nat.le_of_ble_eq_true h4) (fun k x i => evLoop ΓK8 Try.prog L0 (cutC 0 0 kRSum32) bodyRSum32 k (HRSum32 s x i) ERSum32) (fun x => some (.exit 0, mk xRSum32 [.v (U32 x)] M0)) (fun x i => in32 (q32 s x i)) (fun x i => S32 (q32 s x i)) p32 4294967296 (fun n b => p32_lt b) (gs32 s) (stepRSum32 s) s.size 0 n (by omega) hn⟩
  · cases h
theorem runRSum32 (s : ByteArray) : runG ΓK8 ΛRSum32 Try.prog Try.f61 [.v (S s)] M0 = bif (0 : Int) == 0 && (in32 4294967295 && szS s) then some (.v (U32 (fin32 s)), M0) else none := by kernel_rfl
def gRSum32 (vs : List Value) : Option (Bool × Value) :=
  match vs with
  | [.string s] => some (szS s, (U32 (sum32 s)))
  | _ => none
theorem gRSum32_ok : ∀ vs r, gRSum32 vs = some (true, r) → ∀ m, CallOk Try.prog 61 (vs.map .v) m (.v r) m := by
  intro vs r h
  unfold gRSum32 at h
  split at h
  · rename_i s
    obtain ⟨h1, rfl⟩ := some_t h
    refine runV (vs := [S s]) (Λ := ΛRSum32) (m' := M0) OkK8 Try.func61 rfl (fun z z1 z2 => oneLoop (c := Try.f61.body.getD .skip) loopsRSum32 (loopOkRSum32 z z1 z2)) ?_
    exact (runRSum32 s).trans (by rw [h1, fin32_eq]; rfl)
  · cases h
noncomputable def ΓK9 : Orc := addVal 61 gRSum32 ΓK8
theorem OkK9 : ΓK9.Ok Try.prog := addVal_ok OkK8 gRSum32_ok
noncomputable def ΓK : Orc := ΓK9
theorem OkK : ΓK.Ok Try.prog := OkK9
end Go.Proofs.Ytlhgaehjkpjniaa

namespace Go.Proofs.Ytlhgaehjkpjniaa
open Go Go.Proofs Go.Sx
/-! Texts as lists of bytes. -/
abbrev L (s : ByteArray) : List UInt8 := s.data.toList
theorem L_inj {a b : ByteArray} : L a = L b ↔ a = b := by
  constructor
  · intro h
    exact ByteArray.ext (Array.toList_inj.1 h)
  · rintro rfl; rfl
theorem L_len (s : ByteArray) : (L s).length = s.size := by simp [L]
theorem L_app (a b : ByteArray) : L (a ++ b) = L a ++ L b := by simp [L, ByteArray.data_append]
theorem L_ext (s : ByteArray) (a b : Nat) : L (s.extract a b) = ((L s).drop a).take (b - a) := by
  simp [L, ByteArray.data_extract, List.extract_eq_take_drop]
theorem L_nums (xs : List Int) : L (strOfNums xs) = xs.map fun n => UInt8.ofNat n.toNat := rfl
theorem beq_S (a b : ByteArray) : (a == b) = true ↔ a = b := by
  show ((a.data == b.data) = true) ↔ a = b
  rw [beq_iff_eq]
  exact ByteArray.ext_iff.symm
theorem beq_L (a b : ByteArray) : (a == b) = (L a == L b) := by
  rw [Bool.eq_iff_iff, beq_S]
  simp only [beq_iff_eq, L_inj]
/-- As the model asks it of two texts. -/
theorem beq_T (a b : ByteArray) : (a.toList == b.toList) = (L a == L b) := by rw [ByteArray.toList_eq, ByteArray.toList_eq]
theorem beq_TS (a b : ByteArray) : (a.toList == b.toList) = (a == b) := by rw [beq_T, beq_L]
theorem strAt_L (s : ByteArray) (k : Nat) : strAt s (k : Int) = (((L s)[k]?.map fun b => (b.toNat : Int)).getD 0) := by
  cases h : (L s)[k]? with
  | some b =>
    have h' : s.data[k]? = some b := by simpa [L] using h
    rw [strAt_some h']
    rfl
  | none =>
    unfold strAt
    rw [Int.toNat_natCast]
    have hk : s.size ≤ k := by
      rw [← L_len]
      simpa using h
    have : s[k]? = none := by rw [getElem?_neg]; omega
    rw [this]
    rfl
theorem ext_all (s : ByteArray) : s.extract 0 s.size = s := by
  rw [← L_inj, L_ext, List.drop_zero, List.take_of_length_le (by rw [L_len]; omega)]
theorem ext_app {s t : ByteArray} {n : Nat} (h : n ≤ s.size) : (s ++ t).extract n (s ++ t).size = s.extract n s.size ++ t := by
  rw [← L_inj, L_ext, L_app, L_app, L_ext, List.drop_append_of_le_length (by rw [L_len]; exact h), ByteArray.size_append, List.take_of_length_le (by simp only [List.length_append, List.length_drop, L_len]; omega), List.take_of_length_le (by simp only [List.length_drop, L_len]; omega)]
theorem ext_app0 {s t : ByteArray} {a b : Nat} (h : b ≤ s.size) : (s ++ t).extract a b = s.extract a b := by
  rw [← L_inj, L_ext, L_ext, L_app]
  rcases Nat.lt_or_ge a b with h1 | h1
  · rw [List.drop_append_of_le_length (by rw [L_len]; omega), List.take_append_of_le_length (by simp only [List.length_drop, L_len]; omega)]
  · rw [show b - a = 0 by omega]
    simp
theorem app_assoc (a b c : ByteArray) : (a ++ b) ++ c = a ++ (b ++ c) := by
  rw [← L_inj]
  simp only [L_app, List.append_assoc]
theorem app_nil (a : ByteArray) : a ++ (⟨#[]⟩ : ByteArray) = a := by rw [← L_inj, L_app]; simp [L]
theorem nil_app (a : ByteArray) : (⟨#[]⟩ : ByteArray) ++ a = a := by rw [← L_inj, L_app]; simp [L]
theorem wrap8 (n : Nat) : IntKind.u8.wrap (n : Int) = ((n % 256 : Nat) : Int) := by
  rw [← wr_eq true]; simp only [wr]; omega

/-! Frames. -/
def two16 (x : Int) : ByteArray := strOfNums [IntKind.u8.wrap (x.fdiv (2 ^ min (Int.toNat 8) IntKind.u16.bits)), IntKind.u8.wrap x]
def sumT (s : ByteArray) : ByteArray := two16 (R16 65535 s)
def bodyT (k : Int) (p : ByteArray) : ByteArray := strOfNums [IntKind.u8.wrap k, IntKind.u8.wrap (p.size : Int)] ++ p
def mark : ByteArray := ⟨#[165, 90]⟩
def prt (k : Int) (p : ByteArray) : ByteArray := (mark ++ bodyT k p) ++ sumT (bodyT k p)
def rightB (k : Int) (p : ByteArray) : Bool := decide (k ≥ 0) && (decide (k ≤ 255) && decide ((p.size : Int) ≤ 64))
def printB (k : Int) (p : ByteArray) : ByteArray := bif rightB k p then prt k p else ⟨#[]⟩
theorem two16_size (x : Int) : (two16 x).size = 2 := by simp [two16, strOfNums_size]
theorem bodyT_size (k : Int) (p : ByteArray) : (bodyT k p).size = p.size + 2 := by
  unfold bodyT
  rw [ByteArray.size_append, strOfNums_size]
  simp only [List.length_cons, List.length_nil]
  omega
theorem prt_size (k : Int) (p : ByteArray) : (prt k p).size = p.size + 6 := by
  unfold prt sumT
  rw [ByteArray.size_append, ByteArray.size_append, bodyT_size, two16_size]
  show 2 + _ + 2 = _
  omega

/-- What the bytes begin with may become no frame. -/
def badB (s : ByteArray) : Bool := (decide ((s.size : Int) > 0) && strAt s 0 != 165) || ((decide ((s.size : Int) > 1) && strAt s 1 != 90) || (decide ((s.size : Int) > 3) && decide (strAt s 3 > 64)))
def lenN (s : ByteArray) : Int := 6 + strAt s 3
def shortB (s : ByteArray) : Bool := decide ((s.size : Int) < 4) || decide ((s.size : Int) < lenN s)
def kOf (s : ByteArray) : Int := strAt s 2
def pOf (s : ByteArray) : ByteArray := s.extract 4 (lenN s - 2).toNat
def okB (s : ByteArray) : Bool := prt (kOf s) (pOf s) == s.extract 0 (lenN s).toNat
def rdE (s : ByteArray) : Int := bif badB s then 3 else bif shortB s then 5 else bif okB s then 0 else 4
def rdK (s : ByteArray) : Int := bif rdE s == 0 then kOf s else 0
def rdP (s : ByteArray) : ByteArray := bif rdE s == 0 then pOf s else ⟨#[]⟩
def rdN (s : ByteArray) : Int := bif rdE s == 0 then lenN s else 0

theorem strAt_range (s : ByteArray) (k : Nat) : 0 ≤ strAt s (k : Int) ∧ strAt s (k : Int) < 256 := by
  rw [strAt_L]
  cases (L s)[k]? with
  | none => simp
  | some b => have := byte_lt b; simp; omega
theorem strAt_app {s t : ByteArray} {k : Nat} (h : k < s.size) : strAt (s ++ t) (k : Int) = strAt s (k : Int) := by
  rw [strAt_L, strAt_L, L_app, List.getElem?_append_left (by rw [L_len]; exact h)]
theorem lenN_range (s : ByteArray) : 6 ≤ lenN s ∧ lenN s < 262 := by
  have := strAt_range s 3
  unfold lenN
  rw [show (3 : Int) = ((3 : Nat) : Int) from rfl]
  omega
theorem rdE_cases (s : ByteArray) : (rdE s = 3 ∧ badB s = true) ∨ (rdE s = 5 ∧ badB s = false ∧ shortB s = true) ∨ (rdE s = 0 ∧ badB s = false ∧ shortB s = false ∧ okB s = true) ∨ (rdE s = 4 ∧ badB s = false ∧ shortB s = false ∧ okB s = false) := by
  unfold rdE
  cases badB s <;> cases shortB s <;> cases okB s <;> simp
/-- What stands there alone decides. -/
theorem bad_app {s t : ByteArray} (h : badB s = true) : badB (s ++ t) = true := by
  unfold badB at *
  simp only [Bool.or_eq_true, Bool.and_eq_true, decide_eq_true_eq, bne_iff_ne, ne_eq] at *
  have hs : (s ++ t).size = s.size + t.size := ByteArray.size_append
  rcases h with ⟨h1, h2⟩ | ⟨h1, h2⟩ | ⟨h1, h2⟩
  · refine .inl ⟨by omega, ?_⟩
    rw [show (0 : Int) = ((0 : Nat) : Int) from rfl, strAt_app (by omega)]
    exact h2
  · refine .inr (.inl ⟨by omega, ?_⟩)
    rw [show (1 : Int) = ((1 : Nat) : Int) from rfl, strAt_app (by omega)]
    exact h2
  · refine .inr (.inr ⟨by omega, ?_⟩)
    rw [show (3 : Int) = ((3 : Nat) : Int) from rfl, strAt_app (by omega)]
    exact h2
theorem not_short {s : ByteArray} (h : shortB s = false) : 4 ≤ s.size ∧ (lenN s).toNat ≤ s.size ∧ 6 ≤ (lenN s).toNat := by
  unfold shortB at h
  simp only [Bool.or_eq_false_iff, decide_eq_false_iff_not] at h
  have := lenN_range s
  omega
theorem lenN_app {s t : ByteArray} (h : 4 ≤ s.size) : lenN (s ++ t) = lenN s := by
  unfold lenN
  rw [show (3 : Int) = ((3 : Nat) : Int) from rfl, strAt_app (by omega)]
theorem good_app {s t : ByteArray} (h : badB s = false) (h2 : shortB s = false) : badB (s ++ t) = false ∧ shortB (s ++ t) = false ∧ okB (s ++ t) = okB s ∧ kOf (s ++ t) = kOf s ∧ pOf (s ++ t) = pOf s ∧ lenN (s ++ t) = lenN s := by
  obtain ⟨h4, h5, h6⟩ := not_short h2
  have hs : (s ++ t).size = s.size + t.size := ByteArray.size_append
  have e1 : lenN (s ++ t) = lenN s := lenN_app h4
  have e2 : kOf (s ++ t) = kOf s := by
    unfold kOf
    rw [show (2 : Int) = ((2 : Nat) : Int) from rfl, strAt_app (by omega)]
  have e3 : pOf (s ++ t) = pOf s := by
    unfold pOf
    rw [e1, ext_app0 (by omega)]
  refine ⟨?_, ?_, ?_, e2, e3, e1⟩
  · unfold badB at *
    have a0 : strAt (s ++ t) 0 = strAt s 0 := strAt_app (k := 0) (by omega)
    have a1 : strAt (s ++ t) 1 = strAt s 1 := strAt_app (k := 1) (by omega)
    have a3 : strAt (s ++ t) 3 = strAt s 3 := strAt_app (k := 3) (by omega)
    rw [a0, a1, a3]
    simp only [Bool.or_eq_false_iff, Bool.and_eq_false_iff, decide_eq_false_iff_not, bne_eq_false_iff_eq] at *
    omega
  · unfold shortB
    rw [e1]
    simp only [Bool.or_eq_false_iff, decide_eq_false_iff_not]
    omega
  · unfold okB
    rw [e1, e2, e3, ext_app0 (by omega)]
theorem rd_app {s t : ByteArray} (h : rdE s ≠ 5) : rdE (s ++ t) = rdE s ∧ rdK (s ++ t) = rdK s ∧ rdP (s ++ t) = rdP s ∧ rdN (s ++ t) = rdN s := by
  have key : rdE (s ++ t) = rdE s := by
    rcases rdE_cases s with ⟨h1, h2⟩ | ⟨h1, h2, h3⟩ | ⟨h1, h2, h3, h4⟩ | ⟨h1, h2, h3, h4⟩
    · rw [h1]; unfold rdE; rw [bad_app h2]; rfl
    · exact absurd h1 h
    · obtain ⟨g1, g2, g3, _⟩ := good_app (t := t) h2 h3
      rw [h1]; unfold rdE; rw [g1, g2, g3, h4]; rfl
    · obtain ⟨g1, g2, g3, _⟩ := good_app (t := t) h2 h3
      rw [h1]; unfold rdE; rw [g1, g2, g3, h4]; rfl
  refine ⟨key, ?_⟩
  unfold rdK rdP rdN
  rw [key]
  rcases rdE_cases s with ⟨h1, h2⟩ | ⟨h1, h2, h3⟩ | ⟨h1, h2, h3, h4⟩ | ⟨h1, h2, h3, h4⟩
  · rw [h1]; exact ⟨rfl, rfl, rfl⟩
  · exact absurd h1 h
  · obtain ⟨g1, g2, g3, g4, g5, g6⟩ := good_app (t := t) h2 h3
    rw [h1, g4, g5, g6]
    exact ⟨rfl, rfl, rfl⟩
  · rw [h1]; exact ⟨rfl, rfl, rfl⟩
theorem rd_ok {s : ByteArray} (h : rdE s = 0) : (rdN s).toNat ≤ s.size ∧ 6 ≤ (rdN s).toNat ∧ rdN s = ((rdN s).toNat : Int) ∧ rdK s = kOf s ∧ rdP s = pOf s ∧ rdN s = lenN s ∧ (rdP s).size + 6 = (rdN s).toNat ∧ (rdP s).size ≤ 64 ∧ 0 ≤ rdK s ∧ rdK s ≤ 255 ∧ badB s = false ∧ shortB s = false ∧ okB s = true := by
  rcases rdE_cases s with ⟨h1, h2⟩ | ⟨h1, h2, h3⟩ | ⟨h1, h2, h3, h4⟩ | ⟨h1, h2, h3, h4⟩
  · omega
  · omega
  · obtain ⟨g1, g2, g3⟩ := not_short h3
    have e1 : rdN s = lenN s := by unfold rdN; rw [h]; rfl
    have e2 : rdK s = kOf s := by unfold rdK; rw [h]; rfl
    have e3 : rdP s = pOf s := by unfold rdP; rw [h]; rfl
    have hl := lenN_range s
    have hb := h2
    unfold badB at hb
    simp only [Bool.or_eq_false_iff, Bool.and_eq_false_iff, decide_eq_false_iff_not] at hb
    have h64 : strAt s 3 ≤ 64 := by omega
    have hp : (rdP s).size + 6 = (lenN s).toNat := by
      rw [e3]
      unfold pOf
      rw [ByteArray.size_extract]
      omega
    have hk := strAt_range s 2
    refine ⟨by rw [e1]; exact g2, by rw [e1]; exact g3, by rw [e1]; omega, e2, e3, e1, by rw [e1]; exact hp, ?_, ?_, ?_, h2, h3, h4⟩
    · unfold lenN at hp
      omega
    · rw [e2]; exact hk.1
    · rw [e2]; unfold kOf; have := hk.2; rw [show (2 : Int) = ((2 : Nat) : Int) from rfl]; omega
  · omega
theorem rd_short {s : ByteArray} (h : rdE s = 5) : s.size < 70 := by
  rcases rdE_cases s with ⟨h1, h2⟩ | ⟨h1, h2, h3⟩ | ⟨h1, h2, h3, h4⟩ | ⟨h1, h2, h3, h4⟩
  · omega
  · unfold shortB at h3
    unfold badB at h2
    simp only [Bool.or_eq_true, decide_eq_true_eq, Bool.or_eq_false_iff, Bool.and_eq_false_iff, decide_eq_false_iff_not] at h2 h3
    unfold lenN at h3
    omega
  · omega
  · omega
theorem rd_nil : rdE ⟨#[]⟩ = 5 := by rfl
theorem rd_some {s : ByteArray} (h : rdE s ≠ 5) : 0 < s.size := by
  apply Classical.byContradiction
  intro hn
  have : s = ⟨#[]⟩ := by
    rw [← L_inj]
    have : (L s).length = 0 := by rw [L_len]; omega
    exact List.eq_nil_of_length_eq_zero this
  rw [this] at h
  exact h rd_nil
end Go.Proofs.Ytlhgaehjkpjniaa

namespace Go.Proofs.Ytlhgaehjkpjniaa
open Go Go.Proofs Go.Sx
set_option linter.unusedVariables false
/-! Numbers as bytes, the highest one first. -/
def U64 (x : Int) : Value := .int .u64 x
theorem l0Ok (c : Code) (z : Base) : ∀ b ∈ loopsOf c, LoopOk L0 Try.prog z b := fun b _ st e st' h => by cases h
def p8 (n : Nat) (b : UInt8) : Nat := n * 256 % 18446744073709551616 + b.toNat
theorem p8_lt (n : Nat) (b : UInt8) (_ : n < 18446744073709551616) : p8 n b < 18446744073709551616 := by
  have := byte_lt b
  unfold p8
  omega
def numN (s : ByteArray) : Nat := s.data.toList.foldl p8 0
theorem wrap64 (n : Nat) : IntKind.u64.wrap (n : Int) = ((n % 18446744073709551616 : Nat) : Int) := by
  rw [← wr_eq true]; simp only [wr]; omega
theorem two64 : (2 : Nat) ^ 64 = 18446744073709551616 := by decide
theorem orB (w a b : Nat) (ha : a < 2 ^ w) (hb : b < 2 ^ w) : (((BitVec.ofInt w (a : Int) ||| BitVec.ofInt w (b : Int)).toNat : Nat) : Int) = ((Nat.lor a b : Nat) : Int) := by
  rw [BitVec.toNat_or, BitVec.ofInt_natCast, BitVec.ofInt_natCast, BitVec.toNat_ofNat, BitVec.toNat_ofNat, Nat.mod_eq_of_lt ha, Nat.mod_eq_of_lt hb]
  rfl
/-- A number shifted by a byte, and a byte. -/
def a64 (s : ByteArray) (x i : Int) : Int := IntKind.u64.wrap (((BitVec.ofInt 64 (IntKind.u64.wrap (x * 2 ^ min (Int.toNat 8) 64)) ||| BitVec.ofInt 64 (IntKind.u64.wrap (strAt s i))).toNat : Nat) : Int)
theorem a64_nat {s : ByteArray} {n k : Nat} {b : UInt8} (hb : s.data[k]? = some b) : a64 s n k = ((p8 n b : Nat) : Int) := by
  have h := byte_lt b
  unfold a64 p8
  have e : (n : Int) * 2 ^ min (Int.toNat 8) 64 = ((n * 256 : Nat) : Int) := by
    rw [show min (Int.toNat 8) 64 = 8 from rfl]; omega
  rw [e, wrap64 (n * 256), strAt_some hb, wrap64 b.toNat, Nat.mod_eq_of_lt (show b.toNat < 18446744073709551616 by omega), orB 64 _ _ (by rw [two64]; exact Nat.mod_lt _ (by decide)) (by rw [two64]; omega)]
  have e2 : Nat.lor (n * 256 % 18446744073709551616) b.toNat = n * 256 % 18446744073709551616 + b.toNat := by
    have e3 : n * 256 % 18446744073709551616 = 2 ^ 8 * (n % 72057594037927936) := by
      rw [show (2 : Nat) ^ 8 = 256 from rfl]; omega
    rw [e3]
    exact (Nat.two_pow_add_eq_or_of_lt (show b.toNat < 2 ^ 8 by rw [show (2 : Nat) ^ 8 = 256 from rfl]; exact h) _).symm
  rw [e2, wrap64, Nat.mod_eq_of_lt (by omega)]
/-- The lowest bytes of a number. -/
def be (k : Nat) (x : Int) : ByteArray := strOfNums ((List.range k).reverse.map fun i => x / 256 ^ i % 256)
def kNumber : List Bool := maskOf 19 [0, 3, 6, 7]
def xNumber : List Bool := maskOf 19 [3]
noncomputable def bodyNumber : Code := loopAt (Try.f80.body.getD .skip) 0
theorem loopsNumber : loopsOf (Try.f80.body.getD .skip) = [bodyNumber] := by kernel_rfl
theorem loopsNumber0 : loopsOf bodyNumber = [] := by kernel_rfl
def ENumber (e : Ex) (st : St) : Option (Ex × St) := some (e, cutC 0 0 xNumber st)
def HNumber (s : ByteArray) (x i : Int) : St := mk kNumber [.v (S s), .v (U64 x), .v (I (s.size : Int)), .v (I i)] M0
theorem stepNumber (s : ByteArray) (k : Nat) (x i : Int) : evLoop ΓK Try.prog L0 (cutC 0 0 kNumber) bodyNumber (k + 1) (HNumber s x i) ENumber =
    bif decide (i < (s.size : Int)) then (bif decide (0 ≤ i) && decide (i < (s.size : Int)) then evLoop ΓK Try.prog L0 (cutC 0 0 kNumber) bodyNumber k (HNumber s (a64 s x i) (wI (i + 1))) ENumber else none)
    else some (.exit 0, mk xNumber [.v (U64 x)] M0) := by kernel_rfl
def GNumber (vals : List SV) (m : Mem) : Option (Bool × Ex × St) :=
  match vals, m with
  | [.v (.string s), .v (.int .u64 x), .v (.int .i64 n), .v (.int .i64 i)], ⟨[], [], []⟩ => some (n == (s.size : Int) && (i == 0 && (x == 0 && szS s)), .exit 0, mk xNumber [.v (U64 ((numN s : Nat) : Int))] M0)
  | _, _ => none
noncomputable def ΛNumber : LoopOrc := fun _ st => viaC 0 0 kNumber GNumber st
theorem loopOkNumber (z : Base) (z1 : z.L.length = 0) (z2 : z.U.length = 0) : LoopOk ΛNumber Try.prog z bodyNumber := by
  refine loop_okC (Λ := L0) (kx := fun _ => xNumber) OkK mixed z1 z2 (fun b hb => by rw [loopsNumber0] at hb; cases hb) (G := GNumber) (fun _ => rfl) ?_
  intro vals m e st' h
  unfold GNumber at h
  split at h
  · rename_i s x n i
    obtain ⟨h1, rfl, rfl⟩ := some_t2 h
    simp only [Bool.and_eq_true, beq_iff_eq] at h1
    obtain ⟨rfl, rfl, rfl, h4⟩ := h1
    exact ⟨s.size + 1, overS s (Nat.le_of_ble_eq_true h4) (fun k x i => evLoop ΓK Try.prog L0 (cutC 0 0 kNumber) bodyNumber k (HNumber s x i) ENumber) (fun x => some (.exit 0, mk xNumber [.v (U64 x)] M0)) (fun _ _ => true) (a64 s) p8 18446744073709551616 p8_lt (fun n k b _ hb => ⟨rfl, a64_nat hb⟩) (stepNumber s) s.size 0 0 (by omega) (by omega)⟩
  · cases h
theorem runNumber (s : ByteArray) : runG ΓK ΛNumber Try.prog Try.f80 [.v (S s)] M0 = bif (s.size : Int) == (s.size : Int) && ((0 : Int) == 0 && ((0 : Int) == 0 && szS s)) then some (.v (U64 ((numN s : Nat) : Int)), M0) else none := by kernel_rfl
def gNumber (vs : List Value) : Option (Bool × Value) :=
  match vs with
  | [.string s] => some (szS s, U64 ((numN s : Nat) : Int))
  | _ => none
theorem gNumber_ok : ∀ vs r, gNumber vs = some (true, r) → ∀ m, CallOk Try.prog 80 (vs.map .v) m (.v r) m := by
  intro vs r h
  unfold gNumber at h
  split at h
  · rename_i s
    obtain ⟨h1, rfl⟩ := some_t h
    refine runV (vs := [S s]) (Λ := ΛNumber) (m' := M0) OkK Try.func80 rfl (fun z z1 z2 => oneLoop (c := Try.f80.body.getD .skip) loopsNumber (loopOkNumber z z1 z2)) ?_
    exact (runNumber s).trans (by rw [h1, beq_self_eq_true]; rfl)
  · cases h
noncomputable def ΓO1 : Orc := addVal 80 gNumber ΓK
theorem OkO1 : ΓO1.Ok Try.prog := addVal_ok OkK gNumber_ok
theorem runBytes1 (x : Int) : runG ΓO1 L0 Try.prog Try.f78 [.v (U64 x), .v (I 1)] M0 = some (.v (S (strOfNums [IntKind.u8.wrap (x.fdiv (2 ^ min (Int.toNat 0) 64))])), M0) := by kernel_rfl
theorem runBytes2 (x : Int) : runG ΓO1 L0 Try.prog Try.f78 [.v (U64 x), .v (I 2)] M0 = some (.v (S (strOfNums [IntKind.u8.wrap (x.fdiv (2 ^ min (Int.toNat 8) 64)), IntKind.u8.wrap (x.fdiv (2 ^ min (Int.toNat 0) 64))])), M0) := by kernel_rfl
theorem runBytes4 (x : Int) : runG ΓO1 L0 Try.prog Try.f78 [.v (U64 x), .v (I 4)] M0 = some (.v (S (strOfNums [IntKind.u8.wrap (x.fdiv (2 ^ min (Int.toNat 24) 64)), IntKind.u8.wrap (x.fdiv (2 ^ min (Int.toNat 16) 64)), IntKind.u8.wrap (x.fdiv (2 ^ min (Int.toNat 8) 64)), IntKind.u8.wrap (x.fdiv (2 ^ min (Int.toNat 0) 64))])), M0) := by kernel_rfl
theorem byteAt (x : Int) (j k : Nat) (h : (2 : Int) ^ min (Int.toNat (8 * k : Nat)) 64 = 256 ^ k) (hj : j = 8 * k) : IntKind.u8.wrap (x.fdiv (2 ^ min (Int.toNat (j : Nat)) 64)) = x / 256 ^ k % 256 := by
  subst hj
  rw [h, Int.fdiv_eq_ediv_of_nonneg _ (Int.le_of_lt (Int.pow_pos (by decide))), ← wr_eq true]
  rfl
theorem be1 (x : Int) : strOfNums [IntKind.u8.wrap (x.fdiv (2 ^ min (Int.toNat 0) 64))] = be 1 x := by
  have e0 := byteAt x 0 0 (by decide) rfl
  rw [show ((0 : Nat) : Int) = 0 from rfl] at e0
  rw [e0]; rfl
theorem be2 (x : Int) : strOfNums [IntKind.u8.wrap (x.fdiv (2 ^ min (Int.toNat 8) 64)), IntKind.u8.wrap (x.fdiv (2 ^ min (Int.toNat 0) 64))] = be 2 x := by
  have e0 := byteAt x 0 0 (by decide) rfl
  have e1 := byteAt x 8 1 (by decide) rfl
  rw [show ((0 : Nat) : Int) = 0 from rfl] at e0
  rw [show ((8 : Nat) : Int) = 8 from rfl] at e1
  rw [e0, e1]; rfl
theorem be4 (x : Int) : strOfNums [IntKind.u8.wrap (x.fdiv (2 ^ min (Int.toNat 24) 64)), IntKind.u8.wrap (x.fdiv (2 ^ min (Int.toNat 16) 64)), IntKind.u8.wrap (x.fdiv (2 ^ min (Int.toNat 8) 64)), IntKind.u8.wrap (x.fdiv (2 ^ min (Int.toNat 0) 64))] = be 4 x := by
  have e0 := byteAt x 0 0 (by decide) rfl
  have e1 := byteAt x 8 1 (by decide) rfl
  have e2 := byteAt x 16 2 (by decide) rfl
  have e3 := byteAt x 24 3 (by decide) rfl
  rw [show ((0 : Nat) : Int) = 0 from rfl] at e0
  rw [show ((8 : Nat) : Int) = 8 from rfl] at e1
  rw [show ((16 : Nat) : Int) = 16 from rfl] at e2
  rw [show ((24 : Nat) : Int) = 24 from rfl] at e3
  rw [e0, e1, e2, e3]; rfl
def gBytes (vs : List Value) : Option (Bool × Value) :=
  match vs with
  | [.int .u64 x, .int .i64 (.ofNat k)] => some (Nat.beq k 1 || (Nat.beq k 2 || Nat.beq k 4), S (be k x))
  | _ => none
theorem gBytes_ok : ∀ vs r, gBytes vs = some (true, r) → ∀ m, CallOk Try.prog 78 (vs.map .v) m (.v r) m := by
  intro vs r h
  unfold gBytes at h
  split at h
  · rename_i x k
    obtain ⟨h1, rfl⟩ := some_t h
    have hk : k = 1 ∨ k = 2 ∨ k = 4 := by
      simp only [Bool.or_eq_true] at h1
      rcases h1 with h1 | h1 | h1
      · exact .inl (Nat.eq_of_beq_eq_true h1)
      · exact .inr (.inl (Nat.eq_of_beq_eq_true h1))
      · exact .inr (.inr (Nat.eq_of_beq_eq_true h1))
    rcases hk with rfl | rfl | rfl
    · exact runV (vs := [U64 x, I 1]) (Λ := L0) (m' := M0) OkO1 Try.func78 rfl (fun z _ _ => l0Ok _ z) ((runBytes1 x).trans (by rw [be1]))
    · exact runV (vs := [U64 x, I 2]) (Λ := L0) (m' := M0) OkO1 Try.func78 rfl (fun z _ _ => l0Ok _ z) ((runBytes2 x).trans (by rw [be2]))
    · exact runV (vs := [U64 x, I 4]) (Λ := L0) (m' := M0) OkO1 Try.func78 rfl (fun z _ _ => l0Ok _ z) ((runBytes4 x).trans (by rw [be4]))
  · cases h
noncomputable def ΓO : Orc := addVal 78 gBytes ΓO1
theorem OkO : ΓO.Ok Try.prog := addVal_ok OkO1 gBytes_ok
end Go.Proofs.Ytlhgaehjkpjniaa

namespace Go.Proofs.Ytlhgaehjkpjniaa
open Go Go.Proofs Go.Sx
theorem wrap_i32 (n : Int) : IntKind.i32.wrap n = if n % 4294967296 ≥ 2147483648 then n % 4294967296 - 4294967296 else n % 4294967296 := by
  have e32 : (2 : Int) ^ 32 = 4294967296 := by decide
  have e31 : (2 : Int) ^ 31 = 2147483648 := by decide
  simp only [IntKind.wrap, IntKind.signed, IntKind.bits, Bool.true_and, Nat.reduceSub, e32, e31]
  split <;> simp_all <;> omega
theorem nums_app (a b : List Int) : strOfNums (a ++ b) = strOfNums a ++ strOfNums b := by
  rw [← L_inj, L_app, L_nums, L_nums, L_nums, List.map_append]
theorem be_size (k : Nat) (x : Int) : (be k x).size = k := by
  unfold be
  rw [strOfNums_size]
  simp
theorem be_u64_1 (x : Int) : be 1 (IntKind.u64.wrap x) = be 1 x := by
  have e : ∀ j : Int, IntKind.u64.wrap j = j % 18446744073709551616 := fun j => by rw [← wr_eq true]; rfl
  show strOfNums [_] = strOfNums [_]
  rw [e]
  congr 2
  show x % 18446744073709551616 / 256 ^ 0 % 256 = x / 256 ^ 0 % 256
  omega
theorem be_u64_2 (x : Int) : be 2 (IntKind.u64.wrap x) = be 2 x := by
  have e : ∀ j : Int, IntKind.u64.wrap j = j % 18446744073709551616 := fun j => by rw [← wr_eq true]; rfl
  have h0 : x % 18446744073709551616 / 256 ^ 0 % 256 = x / 256 ^ 0 % 256 := by omega
  have h1 : x % 18446744073709551616 / 256 ^ 1 % 256 = x / 256 ^ 1 % 256 := by omega
  show strOfNums [_ / 256 ^ 1 % 256, _ / 256 ^ 0 % 256] = strOfNums [_ / 256 ^ 1 % 256, _ / 256 ^ 0 % 256]
  rw [e, h0, h1]
theorem be_u64_4 (x : Int) : be 4 (IntKind.u64.wrap x) = be 4 x := by
  have e : ∀ j : Int, IntKind.u64.wrap j = j % 18446744073709551616 := fun j => by rw [← wr_eq true]; rfl
  have h0 : x % 18446744073709551616 / 256 ^ 0 % 256 = x / 256 ^ 0 % 256 := by omega
  have h1 : x % 18446744073709551616 / 256 ^ 1 % 256 = x / 256 ^ 1 % 256 := by omega
  have h2 : x % 18446744073709551616 / 256 ^ 2 % 256 = x / 256 ^ 2 % 256 := by omega
  have h3 : x % 18446744073709551616 / 256 ^ 3 % 256 = x / 256 ^ 3 % 256 := by omega
  show strOfNums [_ / 256 ^ 3 % 256, _ / 256 ^ 2 % 256, _ / 256 ^ 1 % 256, _ / 256 ^ 0 % 256] = strOfNums [_ / 256 ^ 3 % 256, _ / 256 ^ 2 % 256, _ / 256 ^ 1 % 256, _ / 256 ^ 0 % 256]
  rw [e, h0, h1, h2, h3]
/-- Four bytes of a text, and the number that they are. -/
theorem four_of {s : ByteArray} {i : Nat} (h : i + 4 ≤ s.size) : ∃ b0 b1 b2 b3 : UInt8, L (s.extract i (i + 4)) = [b0, b1, b2, b3] ∧ strAt s (i : Int) = (b0.toNat : Int) ∧ strAt s ((i + 1 : Nat) : Int) = (b1.toNat : Int) ∧ strAt s ((i + 2 : Nat) : Int) = (b2.toNat : Int) ∧ strAt s ((i + 3 : Nat) : Int) = (b3.toNat : Int) := by
  have hl := L_len s
  have hd : ∃ b0 b1 b2 b3 r, (L s).drop i = b0 :: b1 :: b2 :: b3 :: r := by
    have : 4 ≤ ((L s).drop i).length := by rw [List.length_drop]; omega
    match hq : (L s).drop i, this with
    | b0 :: b1 :: b2 :: b3 :: r, _ => exact ⟨b0, b1, b2, b3, r, rfl⟩
  obtain ⟨b0, b1, b2, b3, r, hd⟩ := hd
  have g : ∀ j, (L s)[i + j]? = ((L s).drop i)[j]? := fun j => by rw [List.getElem?_drop]
  refine ⟨b0, b1, b2, b3, ?_, ?_, ?_, ?_, ?_⟩
  · rw [L_ext, hd, show i + 4 - i = 4 by omega]; rfl
  · have := g 0
    rw [hd] at this
    rw [strAt_L, show i = i + 0 from rfl, this]; rfl
  · have := g 1
    rw [hd] at this
    rw [strAt_L, this]; rfl
  · have := g 2
    rw [hd] at this
    rw [strAt_L, this]; rfl
  · have := g 3
    rw [hd] at this
    rw [strAt_L, this]; rfl
theorem numN_four {s : ByteArray} {b0 b1 b2 b3 : UInt8} (h : L s = [b0, b1, b2, b3]) : ((numN s : Nat) : Int) = (b0.toNat : Int) * 16777216 + (b1.toNat : Int) * 65536 + (b2.toNat : Int) * 256 + (b3.toNat : Int) := by
  have h0 := byte_lt b0
  have h1 := byte_lt b1
  have h2 := byte_lt b2
  have h3 := byte_lt b3
  unfold numN
  rw [show s.data.toList = [b0, b1, b2, b3] from h]
  simp only [List.foldl_cons, List.foldl_nil, p8]
  omega
theorem num4 {s : ByteArray} {i : Nat} (h : i + 4 ≤ s.size) : ((numN (s.extract i (i + 4)) : Nat) : Int) = strAt s (i : Int) * 16777216 + strAt s ((i + 1 : Nat) : Int) * 65536 + strAt s ((i + 2 : Nat) : Int) * 256 + strAt s ((i + 3 : Nat) : Int) := by
  obtain ⟨b0, b1, b2, b3, hb, e0, e1, e2, e3⟩ := four_of h
  rw [numN_four hb, e0, e1, e2, e3]
theorem two_of {s : ByteArray} {i : Nat} (h : i + 2 ≤ s.size) : ∃ b0 b1 : UInt8, L (s.extract i (i + 2)) = [b0, b1] ∧ strAt s (i : Int) = (b0.toNat : Int) ∧ strAt s ((i + 1 : Nat) : Int) = (b1.toNat : Int) := by
  have hl := L_len s
  have hd : ∃ b0 b1 r, (L s).drop i = b0 :: b1 :: r := by
    have : 2 ≤ ((L s).drop i).length := by rw [List.length_drop]; omega
    match hq : (L s).drop i, this with
    | b0 :: b1 :: r, _ => exact ⟨b0, b1, r, rfl⟩
  obtain ⟨b0, b1, r, hd⟩ := hd
  have g : ∀ j, (L s)[i + j]? = ((L s).drop i)[j]? := fun j => by rw [List.getElem?_drop]
  refine ⟨b0, b1, ?_, ?_, ?_⟩
  · rw [L_ext, hd, show i + 2 - i = 2 by omega]; rfl
  · have := g 0
    rw [hd] at this
    rw [strAt_L, show i = i + 0 from rfl, this]; rfl
  · have := g 1
    rw [hd] at this
    rw [strAt_L, this]; rfl
theorem numN_two {s : ByteArray} {b0 b1 : UInt8} (h : L s = [b0, b1]) : ((numN s : Nat) : Int) = (b0.toNat : Int) * 256 + (b1.toNat : Int) := by
  have h0 := byte_lt b0
  have h1 := byte_lt b1
  unfold numN
  rw [show s.data.toList = [b0, b1] from h]
  simp only [List.foldl_cons, List.foldl_nil, p8]
  omega
theorem num2 {s : ByteArray} {i : Nat} (h : i + 2 ≤ s.size) : ((numN (s.extract i (i + 2)) : Nat) : Int) = strAt s (i : Int) * 256 + strAt s ((i + 1 : Nat) : Int) := by
  obtain ⟨b0, b1, hb, e0, e1⟩ := two_of h
  rw [numN_two hb, e0, e1]
theorem byte_of (b : UInt8) (x : Int) (h : x = (b.toNat : Int)) : UInt8.ofNat x.toNat = b := by
  subst h
  rw [Int.toNat_natCast]
  exact UInt8.ofNat_toNat
theorem L_be4 (x : Int) : L (be 4 x) = [UInt8.ofNat (x / 256 ^ 3 % 256).toNat, UInt8.ofNat (x / 256 ^ 2 % 256).toNat, UInt8.ofNat (x / 256 ^ 1 % 256).toNat, UInt8.ofNat (x / 256 ^ 0 % 256).toNat] := rfl
theorem L_be2 (x : Int) : L (be 2 x) = [UInt8.ofNat (x / 256 ^ 1 % 256).toNat, UInt8.ofNat (x / 256 ^ 0 % 256).toNat] := rfl
theorem L_be1 (x : Int) : L (be 1 x) = [UInt8.ofNat (x / 256 ^ 0 % 256).toNat] := rfl
theorem toNat_ofI {x : Int} (h0 : 0 ≤ x) (h : x < 256) : (((UInt8.ofNat x.toNat).toNat : Nat) : Int) = x := by
  rw [UInt8.toNat_ofNat', Nat.mod_eq_of_lt (by omega)]
  omega
theorem num_be4 (x : Int) : ((numN (be 4 x) : Nat) : Int) = x % 4294967296 := by
  rw [numN_four (L_be4 x), toNat_ofI (by omega) (by omega), toNat_ofI (by omega) (by omega), toNat_ofI (by omega) (by omega), toNat_ofI (by omega) (by omega)]
  omega
theorem num_be2 (x : Int) : ((numN (be 2 x) : Nat) : Int) = x % 65536 := by
  rw [numN_two (L_be2 x), toNat_ofI (by omega) (by omega), toNat_ofI (by omega) (by omega)]
  omega
/-- Bytes are those of the number that they are, and of each one that is alike modulo 2^32. -/
theorem be_num4 {s : ByteArray} (h : s.size = 4) (x : Int) (hx : x % 4294967296 = ((numN s : Nat) : Int)) : be 4 x = s := by
  have he := four_of (s := s) (i := 0) (by omega)
  obtain ⟨b0, b1, b2, b3, hb, _⟩ := he
  rw [show (0 + 4 : Nat) = s.size by omega, ext_all] at hb
  have hn := numN_four hb
  have h0 := byte_lt b0
  have h1 := byte_lt b1
  have h2 := byte_lt b2
  have h3 := byte_lt b3
  rw [← L_inj, hb, L_be4, byte_of b0 _ (by omega), byte_of b1 _ (by omega), byte_of b2 _ (by omega), byte_of b3 _ (by omega)]
theorem be_num2 {s : ByteArray} (h : s.size = 2) (x : Int) (hx : x % 65536 = ((numN s : Nat) : Int)) : be 2 x = s := by
  have he := two_of (s := s) (i := 0) (by omega)
  obtain ⟨b0, b1, hb, _⟩ := he
  rw [show (0 + 2 : Nat) = s.size by omega, ext_all] at hb
  have hn := numN_two hb
  have h0 := byte_lt b0
  have h1 := byte_lt b1
  rw [← L_inj, hb, L_be2, byte_of b0 _ (by omega), byte_of b1 _ (by omega)]
end Go.Proofs.Ytlhgaehjkpjniaa

namespace Go.Proofs.Ytlhgaehjkpjniaa
open Go Go.Proofs Go.Sx
set_option linter.unusedVariables false
def withB (n l m : Int) : Bool := bif decide (n ≥ l) then decide (n ≤ m) else false
theorem be4_i (n : Int) : be 4 n = strOfNums [n / 16777216 % 256, n / 65536 % 256, n / 256 % 256, n % 256] := by
  show strOfNums [n / 256 ^ 3 % 256, n / 256 ^ 2 % 256, n / 256 ^ 1 % 256, n / 256 ^ 0 % 256] = _
  rw [show (256 : Int) ^ 3 = 16777216 by decide, show (256 : Int) ^ 2 = 65536 by decide, show (256 : Int) ^ 1 = 256 by decide, show (256 : Int) ^ 0 = 1 by decide, Int.ediv_one]
theorem wrap8_i (n : Int) : IntKind.u8.wrap n = n % 256 := by rw [← wr_eq true]; rfl
theorem wI4 {a b c d : Int} (ha : 0 ≤ a ∧ a < 256) (hb : 0 ≤ b ∧ b < 256) (hc : 0 ≤ c ∧ c < 256) (hd : 0 ≤ d ∧ d < 256) : wI (wI (wI (wI (wI a * 16777216) + wI (wI b * 65536)) + wI (wI c * 256)) + wI d) = a * 16777216 + b * 65536 + c * 256 + d := by
  rw [wI_id (n := a) (by omega), wI_id (n := b) (by omega), wI_id (n := c) (by omega), wI_id (n := d) (by omega), wI_id (n := a * 16777216) (by omega), wI_id (n := b * 65536) (by omega), wI_id (n := c * 256) (by omega), wI_id (n := a * 16777216 + b * 65536) (by omega), wI_id (n := a * 16777216 + b * 65536 + c * 256) (by omega), wI_id (by omega)]
theorem byteI (b : UInt8) : 0 ≤ (b.toNat : Int) ∧ (b.toNat : Int) < 256 := by
  have := byte_lt b
  omega

set_option maxRecDepth 20000 in
theorem runUpTo (n m : Int) : runG ΓO L0 Try.prog Try.f62 [.v (I n), .v (I m)] M0 = (bif decide (n ≥ (0 : Int)) then some (.v (Bo (decide (n ≤ m))), M0) else some (.v (Bo false), M0)) := by kernel_rfl
def gUpTo (vs : List Value) : Option (Bool × Value) :=
  match vs with
  | [.int .i64 n, .int .i64 m] => some (true, Bo (withB n 0 m))
  | _ => none
theorem gUpTo_ok : ∀ vs r, gUpTo vs = some (true, r) → ∀ m, CallOk Try.prog 62 (vs.map .v) m (.v r) m := by
  intro vs r h
  unfold gUpTo at h
  split at h
  · rename_i n m
    obtain ⟨h1, rfl⟩ := some_t h
    refine runV (vs := [I n, I m]) (Λ := L0) (m' := M0) OkO Try.func62 rfl (fun z _ _ => l0Ok' _ z) ?_
    exact (runUpTo n m).trans (by
      unfold withB
      cases decide (n ≥ 0) <;> rfl)
  · cases h
noncomputable def ΓA1 : Orc := addVal 62 gUpTo ΓO
theorem OkA1 : ΓA1.Ok Try.prog := addVal_ok OkO gUpTo_ok
set_option maxRecDepth 20000 in
theorem runWithin (n l m : Int) : runG ΓA1 L0 Try.prog Try.f63 [.v (I n), .v (I l), .v (I m)] M0 = (bif decide (n ≥ l) then some (.v (Bo (decide (n ≤ m))), M0) else some (.v (Bo false), M0)) := by kernel_rfl
def gWithin (vs : List Value) : Option (Bool × Value) :=
  match vs with
  | [.int .i64 n, .int .i64 l, .int .i64 m] => some (true, Bo (withB n l m))
  | _ => none
theorem gWithin_ok : ∀ vs r, gWithin vs = some (true, r) → ∀ m, CallOk Try.prog 63 (vs.map .v) m (.v r) m := by
  intro vs r h
  unfold gWithin at h
  split at h
  · rename_i n l m
    obtain ⟨h1, rfl⟩ := some_t h
    refine runV (vs := [I n, I l, I m]) (Λ := L0) (m' := M0) OkA1 Try.func63 rfl (fun z _ _ => l0Ok' _ z) ?_
    exact (runWithin n l m).trans (by
      unfold withB
      cases decide (n ≥ l) <;> rfl)
  · cases h
noncomputable def ΓA2 : Orc := addVal 63 gWithin ΓA1
theorem OkA2 : ΓA2.Ok Try.prog := addVal_ok OkA1 gWithin_ok
set_option maxRecDepth 20000 in
theorem runWord (n : Int) : runG ΓA2 L0 Try.prog Try.f55 [.v (I n)] M0 = some (.v (S (be (4 : Nat) (IntKind.u64.wrap n))), M0) := by kernel_rfl
def gWord (vs : List Value) : Option (Bool × Value) :=
  match vs with
  | [.int .i64 n] => some (true, S (be 4 n))
  | _ => none
theorem gWord_ok : ∀ vs r, gWord vs = some (true, r) → ∀ m, CallOk Try.prog 55 (vs.map .v) m (.v r) m := by
  intro vs r h
  unfold gWord at h
  split at h
  · rename_i n
    obtain ⟨h1, rfl⟩ := some_t h
    refine runV (vs := [I n]) (Λ := L0) (m' := M0) OkA2 Try.func55 rfl (fun z _ _ => l0Ok' _ z) ?_
    exact (runWord n).trans (by rw [be_u64_4])
  · cases h
noncomputable def ΓA3 : Orc := addVal 55 gWord ΓA2
theorem OkA3 : ΓA3.Ok Try.prog := addVal_ok OkA2 gWord_ok
set_option maxRecDepth 20000 in
theorem runOneByte (n : Int) : runG ΓA3 L0 Try.prog Try.f56 [.v (I n)] M0 = some (.v (S (be (1 : Nat) (IntKind.u64.wrap n))), M0) := by kernel_rfl
def gOneByte (vs : List Value) : Option (Bool × Value) :=
  match vs with
  | [.int .i64 n] => some (true, S (be 1 n))
  | _ => none
theorem gOneByte_ok : ∀ vs r, gOneByte vs = some (true, r) → ∀ m, CallOk Try.prog 56 (vs.map .v) m (.v r) m := by
  intro vs r h
  unfold gOneByte at h
  split at h
  · rename_i n
    obtain ⟨h1, rfl⟩ := some_t h
    refine runV (vs := [I n]) (Λ := L0) (m' := M0) OkA3 Try.func56 rfl (fun z _ _ => l0Ok' _ z) ?_
    exact (runOneByte n).trans (by rw [be_u64_1])
  · cases h
noncomputable def ΓA4 : Orc := addVal 56 gOneByte ΓA3
theorem OkA4 : ΓA4.Ok Try.prog := addVal_ok OkA3 gOneByte_ok
set_option maxRecDepth 20000 in
theorem runLNumber (s : ByteArray) : runG ΓA4 L0 Try.prog Try.f58 [.v (S s)] M0 = bif szS s then some (.v (I (wI ((numN s : Nat) : Int))), M0) else none := by kernel_rfl
def gLNumber (vs : List Value) : Option (Bool × Value) :=
  match vs with
  | [.string s] => some (szS s, I (wI ((numN s : Nat) : Int)))
  | _ => none
theorem gLNumber_ok : ∀ vs r, gLNumber vs = some (true, r) → ∀ m, CallOk Try.prog 58 (vs.map .v) m (.v r) m := by
  intro vs r h
  unfold gLNumber at h
  split at h
  · rename_i s
    obtain ⟨h1, rfl⟩ := some_t h
    refine runV (vs := [S s]) (Λ := L0) (m' := M0) OkA4 Try.func58 rfl (fun z _ _ => l0Ok' _ z) ?_
    exact (runLNumber s).trans (by rw [h1]; rfl)
  · cases h
noncomputable def ΓA5 : Orc := addVal 58 gLNumber ΓA4
theorem OkA5 : ΓA5.Ok Try.prog := addVal_ok OkA4 gLNumber_ok
set_option maxRecDepth 20000 in
theorem runRNumber (s : ByteArray) : runG ΓA5 L0 Try.prog Try.f59 [.v (S s)] M0 = (bif true && decide ((0 : Int) < (s.size : Int)) then (bif true && decide ((1 : Int) < (s.size : Int)) then (bif true && decide ((2 : Int) < (s.size : Int)) then (bif true && decide ((3 : Int) < (s.size : Int)) then some (.v (I (wI (wI (wI (wI (wI (strAt s (0 : Int)) * (16777216 : Int)) + wI (wI (strAt s (1 : Int)) * (65536 : Int))) + wI (wI (strAt s (2 : Int)) * (256 : Int))) + wI (strAt s (3 : Int))))), M0) else none) else none) else none) else none) := by kernel_rfl
def gRNumber (vs : List Value) : Option (Bool × Value) :=
  match vs with
  | [.string s] => some (Nat.ble 4 s.size, I ((numN (s.extract 0 4) : Nat) : Int))
  | _ => none
theorem gRNumber_ok : ∀ vs r, gRNumber vs = some (true, r) → ∀ m, CallOk Try.prog 59 (vs.map .v) m (.v r) m := by
  intro vs r h
  unfold gRNumber at h
  split at h
  · rename_i s
    obtain ⟨h1, rfl⟩ := some_t h
    refine runV (vs := [S s]) (Λ := L0) (m' := M0) OkA5 Try.func59 rfl (fun z _ _ => l0Ok' _ z) ?_
    exact (runRNumber s).trans (by
      have hs : 0 + 4 ≤ s.size := Nat.le_of_ble_eq_true h1
      obtain ⟨b0, b1, b2, b3, _, e0, e1, e2, e3⟩ := four_of (s := s) (i := 0) hs
      have hn := num4 (s := s) (i := 0) hs
      rw [e0, e1, e2, e3] at hn
      have f0 : strAt s (0 : Int) = (b0.toNat : Int) := e0
      have f1 : strAt s (1 : Int) = (b1.toNat : Int) := e1
      have f2 : strAt s (2 : Int) = (b2.toNat : Int) := e2
      have f3 : strAt s (3 : Int) = (b3.toNat : Int) := e3
      rw [f0, f1, f2, f3, wI4 (byteI b0) (byteI b1) (byteI b2) (byteI b3), ← hn, decide_eq_true (show (0 : Int) < (s.size : Int) by omega), decide_eq_true (show (1 : Int) < (s.size : Int) by omega), decide_eq_true (show (2 : Int) < (s.size : Int) by omega), decide_eq_true (show (3 : Int) < (s.size : Int) by omega)]
      rfl)
  · cases h
noncomputable def ΓA6 : Orc := addVal 59 gRNumber ΓA5
theorem OkA6 : ΓA6.Ok Try.prog := addVal_ok OkA5 gRNumber_ok
set_option maxRecDepth 20000 in
theorem runFour (n : Int) : runG ΓA6 L0 Try.prog Try.f60 [.v (I n)] M0 = some (.v (S (strOfNums (numsOf [[Dat.n (IntKind.u8.wrap (n.fdiv (16777216 : Int)))], [Dat.n (IntKind.u8.wrap (n.fdiv (65536 : Int)))], [Dat.n (IntKind.u8.wrap (n.fdiv (256 : Int)))], [Dat.n (IntKind.u8.wrap n)]]))), M0) := by kernel_rfl
def gFour (vs : List Value) : Option (Bool × Value) :=
  match vs with
  | [.int .i64 n] => some (true, S (be 4 n))
  | _ => none
theorem gFour_ok : ∀ vs r, gFour vs = some (true, r) → ∀ m, CallOk Try.prog 60 (vs.map .v) m (.v r) m := by
  intro vs r h
  unfold gFour at h
  split at h
  · rename_i n
    obtain ⟨h1, rfl⟩ := some_t h
    refine runV (vs := [I n]) (Λ := L0) (m' := M0) OkA6 Try.func60 rfl (fun z _ _ => l0Ok' _ z) ?_
    exact (runFour n).trans (by
      rw [wrap8_i, wrap8_i, wrap8_i, wrap8_i, Int.fdiv_eq_ediv_of_nonneg _ (show (0 : Int) ≤ 16777216 by decide), Int.fdiv_eq_ediv_of_nonneg _ (show (0 : Int) ≤ 65536 by decide), Int.fdiv_eq_ediv_of_nonneg _ (show (0 : Int) ≤ 256 by decide), be4_i]
      rfl)
  · cases h
noncomputable def ΓA7 : Orc := addVal 60 gFour ΓA6
theorem OkA7 : ΓA7.Ok Try.prog := addVal_ok OkA6 gFour_ok
set_option maxRecDepth 20000 in
theorem runBehind (n : Int) : runG ΓA7 L0 Try.prog Try.f64 [.v (I n)] M0 = some (.v (I ((wI (n + 1)).tmod 2)), M0) := by kernel_rfl
def gBehind (vs : List Value) : Option (Bool × Value) :=
  match vs with
  | [.int .i64 n] => some (true, I ((wI (n + 1)).tmod 2))
  | _ => none
theorem gBehind_ok : ∀ vs r, gBehind vs = some (true, r) → ∀ m, CallOk Try.prog 64 (vs.map .v) m (.v r) m := by
  intro vs r h
  unfold gBehind at h
  split at h
  · rename_i n
    obtain ⟨h1, rfl⟩ := some_t h
    refine runV (vs := [I n]) (Λ := L0) (m' := M0) OkA7 Try.func64 rfl (fun z _ _ => l0Ok' _ z) ?_
    exact (runBehind n).trans (rfl)
  · cases h
noncomputable def ΓA8 : Orc := addVal 64 gBehind ΓA7
theorem OkA8 : ΓA8.Ok Try.prog := addVal_ok OkA7 gBehind_ok
noncomputable def ΓLa : Orc := ΓA8
theorem OkLa : ΓLa.Ok Try.prog := OkA8
end Go.Proofs.Ytlhgaehjkpjniaa

namespace Go.Proofs.Ytlhgaehjkpjniaa
open Go Go.Proofs Go.Sx
set_option linter.unusedVariables false
/-! norm -/
/-! cast -/
def rightL (q c p s f v d i n : Int) : Bool := bif withB v 0 255 then (bif withB d 0 255 then (bif withB i 0 255 then (bif withB p 0 3 then (bif withB s 0 2 then (bif withB f 0 1 then (bif withB q 1 2147483648 then (bif withB c 0 1000000 then withB n 0 1000000 else false) else false) else false) else false) else false) else false) else false) else false
def MR (q c p s f v d i n : Int) : Mem := ⟨[[.v (I q), .v (I c), .v (I p), .v (I s), .v (I f), .v (I v), .v (I d), .v (I i), .v (I n)]], [true], []⟩
noncomputable def bdRt : Code := loopAt (Try.f33.body.getD .skip) 0
def kRt : List Bool := maskOf 53 [1, 11, 12]
def xRt (e : Ex) : List Bool := match e with
  | .exit _ => maskOf 53 [1]
  | _ => maskOf 53 [2]
def KRt (e : Ex) (st : St) : Option (Ex × St) := some (e, cutC 0 0 (xRt e) st)
def HRt (q c p s f v d i n : Int) : St := mk kRt [.ptr 0 0, .v (.agg #[I v, I d, I i]), .v (I 0)] (MR q c p s f v d i n)
def RRt : St := mk (maskOf 53 [2]) [.v (Bo false)] M0
def ERt (q c p s f v d i n : Int) : St := mk (maskOf 53 [1]) [.ptr 0 0] (MR q c p s f v d i n)
def all3 (v d i : Int) : Bool := bif withB v 0 255 then (bif withB d 0 255 then withB i 0 255 else false) else false
theorem loopsRt : loopsOf (Try.f33.body.getD .skip) = [bdRt] := by kernel_rfl
theorem loopsRt0 : loopsOf bdRt = [] := by kernel_rfl
theorem stepRt (q c p s f v d i n : Int) : evLoop ΓLa Try.prog L0 (cutC 0 0 kRt) bdRt 4 (HRt q c p s f v d i n) KRt = bif !withB v 0 255 then some (.ret, RRt) else (bif !withB d 0 255 then some (.ret, RRt) else (bif !withB i 0 255 then some (.ret, RRt) else some (.exit 0, ERt q c p s f v d i n))) := by kernel_rfl
def GRt (bad : Bool) (vals : List SV) (m : Mem) : Option (Bool × Ex × St) :=
  match vals, m with
  | [.ptr 0 0, .v (.agg ⟨[.int .i64 v', .int .i64 d', .int .i64 i']⟩), .v (.int .i64 0)], ⟨[[.v (.int .i64 q), .v (.int .i64 c), .v (.int .i64 p), .v (.int .i64 s), .v (.int .i64 f), .v (.int .i64 v), .v (.int .i64 d), .v (.int .i64 i), .v (.int .i64 n)]], [true], []⟩ => bif bad then some (v' == v && (d' == d && (i' == i && !all3 v d i)), .ret, RRt) else some (v' == v && (d' == d && (i' == i && all3 v d i)), .exit 0, ERt q c p s f v d i n)
  | _, _ => none
noncomputable def ΛRt (bad : Bool) : LoopOrc := fun _ st => viaC 0 0 kRt (GRt bad) st
theorem loopOkRt (bad : Bool) (z : Base) (z1 : z.L.length = 0) (z2 : z.U.length = 0) : LoopOk (ΛRt bad) Try.prog z bdRt := by
  refine loop_okC (Λ := L0) (kx := xRt) OkLa mixed z1 z2 (fun b hb => by rw [loopsRt0] at hb; cases hb) (G := GRt bad) (fun _ => rfl) ?_
  intro vals m e st' h
  unfold GRt at h
  split at h
  · rename_i v' d' i' q c p s f v d i n
    cases bad
    · simp only [cond_false] at h
      obtain ⟨h1, rfl, rfl⟩ := some_t2 h
      simp only [Bool.and_eq_true, beq_iff_eq] at h1
      obtain ⟨rfl, rfl, rfl, h1⟩ := h1
      refine ⟨4, (stepRt q c p s f v' d' i' n).trans ?_⟩
      unfold all3 at h1
      revert h1
      cases withB v' 0 255 <;> cases withB d' 0 255 <;> cases withB i' 0 255 <;> intro h1 <;> first | rfl | cases h1
    · simp only [cond_true] at h
      obtain ⟨h1, rfl, rfl⟩ := some_t2 h
      simp only [Bool.and_eq_true, beq_iff_eq] at h1
      obtain ⟨rfl, rfl, rfl, h1⟩ := h1
      refine ⟨4, (stepRt q c p s f v' d' i' n).trans ?_⟩
      unfold all3 at h1
      revert h1
      cases withB v' 0 255 <;> cases withB d' 0 255 <;> cases withB i' 0 255 <;> intro h1 <;> first | rfl | cases h1
  · cases h
theorem runRt1 (q c p s f v d i n : Int) : runG ΓLa (ΛRt true) Try.prog Try.f33 [.v (.agg #[I q, I c, I p, I s, I f, I v, I d, I i, I n])] M0 = 
    (bif v == v && (d == d && (i == i && !all3 v d i)) then some (.v (Bo false), M0) else none) := by kernel_rfl
theorem runRt2 (q c p s f v d i n : Int) : runG ΓLa (ΛRt false) Try.prog Try.f33 [.v (.agg #[I q, I c, I p, I s, I f, I v, I d, I i, I n])] M0 = 
    (bif v == v && (d == d && (i == i && all3 v d i)) then (bif !withB p (0 : Int) (3 : Int) then some (.v (Bo false), M0) else (bif !withB s (0 : Int) (2 : Int) then some (.v (Bo false), M0) else (bif !withB f (0 : Int) (1 : Int) then some (.v (Bo false), M0) else (bif decide (q > (0 : Int)) then (bif withB q (0 : Int) (2147483648 : Int) then (bif withB c (0 : Int) (1000000 : Int) then some (.v (Bo (withB n (0 : Int) (1000000 : Int))), M0) else some (.v (Bo false), M0)) else some (.v (Bo false), M0)) else some (.v (Bo false), M0))))) else none) := by kernel_rfl
def gRight (vs : List Value) : Option (Bool × Value) :=
  match vs with
  | [.agg ⟨[.int .i64 q, .int .i64 c, .int .i64 p, .int .i64 s, .int .i64 f, .int .i64 v, .int .i64 d, .int .i64 i, .int .i64 n]⟩] => some (true, Bo (rightL q c p s f v d i n))
  | _ => none
theorem with1 (q : Int) : withB q 1 2147483648 = (bif decide (q > 0) then withB q 0 2147483648 else false) := by
  unfold withB
  by_cases h : q > 0
  · rw [decide_eq_true h, decide_eq_true (show q ≥ 1 by omega), decide_eq_true (show q ≥ 0 by omega)]; rfl
  · rw [decide_eq_false h, decide_eq_false (show ¬ q ≥ 1 by omega)]; rfl
theorem gRight_ok : ∀ vs r, gRight vs = some (true, r) → ∀ m, CallOk Try.prog 33 (vs.map .v) m (.v r) m := by
  intro vs r h
  unfold gRight at h
  split at h
  · rename_i q c p s f v d i n
    obtain ⟨h1, rfl⟩ := some_t h
    cases ha : all3 v d i
    · refine runV (vs := [.agg #[I q, I c, I p, I s, I f, I v, I d, I i, I n]]) (Λ := ΛRt true) (m' := M0) OkLa Try.func33 rfl (fun z z1 z2 => oneLoop (c := Try.f33.body.getD .skip) loopsRt (loopOkRt true z z1 z2)) ?_
      refine (runRt1 q c p s f v d i n).trans ?_
      rw [beq_self_eq_true, beq_self_eq_true, beq_self_eq_true, ha]
      have e : rightL q c p s f v d i n = false := by
        unfold all3 at ha
        unfold rightL
        revert ha
        cases withB v 0 255 <;> cases withB d 0 255 <;> cases withB i 0 255 <;> intro ha <;> first | rfl | cases ha
      rw [e]
      rfl
    · refine runV (vs := [.agg #[I q, I c, I p, I s, I f, I v, I d, I i, I n]]) (Λ := ΛRt false) (m' := M0) OkLa Try.func33 rfl (fun z z1 z2 => oneLoop (c := Try.f33.body.getD .skip) loopsRt (loopOkRt false z z1 z2)) ?_
      refine (runRt2 q c p s f v d i n).trans ?_
      rw [beq_self_eq_true, beq_self_eq_true, beq_self_eq_true, ha]
      have e : rightL q c p s f v d i n = (bif withB p 0 3 then (bif withB s 0 2 then (bif withB f 0 1 then (bif withB q 1 2147483648 then (bif withB c 0 1000000 then withB n 0 1000000 else false) else false) else false) else false) else false) := by
        unfold all3 at ha
        unfold rightL
        revert ha
        cases withB v 0 255 <;> cases withB d 0 255 <;> cases withB i 0 255 <;> intro ha <;> first | rfl | cases ha
      rw [e, with1]
      cases withB p 0 3
      · rfl
      cases withB s 0 2
      · rfl
      cases withB f 0 1
      · rfl
      cases decide (q > 0)
      · rfl
      cases withB q 0 2147483648
      · rfl
      cases withB c 0 1000000
      · rfl
      rfl
  · cases h
noncomputable def ΓLb : Orc := addVal 33 gRight ΓLa
theorem OkLb : ΓLb.Ok Try.prog := addVal_ok OkLa gRight_ok
theorem runRR (q c p s f v d i n : Int) : runG ΓLb L0 Try.prog Try.f34 [.v (.agg #[I q, I c, I p, I s, I f, I v, I d, I i, I n])] M0 = 
    (bif withB q (1 : Int) (2147483648 : Int) then (bif withB c (0 : Int) (1000000 : Int) then (bif withB n (0 : Int) (1000000 : Int) then (bif withB p (0 : Int) (3 : Int) then (bif withB s (0 : Int) (2 : Int) then (bif withB f (0 : Int) (1 : Int) then (bif withB v (0 : Int) (255 : Int) then (bif withB d (0 : Int) (255 : Int) then some (.v (Bo (withB i (0 : Int) (255 : Int))), M0) else some (.v (Bo false), M0)) else some (.v (Bo false), M0)) else some (.v (Bo false), M0)) else some (.v (Bo false), M0)) else some (.v (Bo false), M0)) else some (.v (Bo false), M0)) else some (.v (Bo false), M0)) else some (.v (Bo false), M0)) := by kernel_rfl
theorem and9 : ∀ q c n p s f v d i : Bool, (bif q then (bif c then (bif n then (bif p then (bif s then (bif f then (bif v then (bif d then i else false) else false) else false) else false) else false) else false) else false) else false) = (bif v then (bif d then (bif i then (bif p then (bif s then (bif f then (bif q then (bif c then n else false) else false) else false) else false) else false) else false) else false) else false) := by decide
theorem gRRight_ok : ∀ vs r, gRight vs = some (true, r) → ∀ m, CallOk Try.prog 34 (vs.map .v) m (.v r) m := by
  intro vs r h
  unfold gRight at h
  split at h
  · rename_i q c p s f v d i n
    obtain ⟨h1, rfl⟩ := some_t h
    refine runV (vs := [.agg #[I q, I c, I p, I s, I f, I v, I d, I i, I n]]) (Λ := L0) (m' := M0) OkLb Try.func34 rfl (fun z z1 z2 => l0Ok' _ z) ?_
    refine (runRR q c p s f v d i n).trans ?_
    unfold rightL
    rw [← and9]
    cases withB q 1 2147483648
    · rfl
    cases withB c 0 1000000
    · rfl
    cases withB n 0 1000000
    · rfl
    cases withB p 0 3
    · rfl
    cases withB s 0 2
    · rfl
    cases withB f 0 1
    · rfl
    cases withB v 0 255
    · rfl
    cases withB d 0 255
    · rfl
    rfl
  · cases h
noncomputable def ΓLc : Orc := addVal 34 gRight ΓLb
theorem OkLc : ΓLc.Ok Try.prog := addVal_ok OkLb gRRight_ok
def gLike (vs : List Value) : Option (Bool × Value) :=
  match vs with
  | [.agg ⟨[.int .i64 q, .int .i64 c, .int .i64 p, .int .i64 s, .int .i64 f, .int .i64 v, .int .i64 d, .int .i64 i, .int .i64 n]⟩] => some (true, .agg #[I q, I c, I p, I s, I f, I v, I d, I i, I n])
  | _ => none
theorem runLike (q c p s f v d i n : Int) : runG ΓLc L0 Try.prog Try.f32 [.v (.agg #[I q, I c, I p, I s, I f, I v, I d, I i, I n])] M0 = 
    some (.v (.agg #[(I q), (I c), (I p), (I s), (I f), (I v), (I d), (I i), (I n)]), M0) := by kernel_rfl
theorem gLike_ok : ∀ vs r, gLike vs = some (true, r) → ∀ m, CallOk Try.prog 32 (vs.map .v) m (.v r) m := by
  intro vs r h
  unfold gLike at h
  split at h
  · rename_i q c p s f v d i n
    obtain ⟨h1, rfl⟩ := some_t h
    exact runV (vs := [.agg #[I q, I c, I p, I s, I f, I v, I d, I i, I n]]) (Λ := L0) (m' := M0) OkLc Try.func32 rfl (fun z z1 z2 => l0Ok' _ z) (runLike q c p s f v d i n)
  · cases h
noncomputable def ΓLd : Orc := addVal 32 gLike ΓLc
theorem OkLd : ΓLd.Ok Try.prog := addVal_ok OkLc gLike_ok
end Go.Proofs.Ytlhgaehjkpjniaa

namespace Go.Proofs.Ytlhgaehjkpjniaa
open Go Go.Proofs Go.Sx
set_option linter.unusedVariables false
/-! norm -/
/-! cast -/
def bodyS (q c p s f v d i n : Int) : ByteArray := be 4 q ++ be 4 c ++ be 1 (wI (wI (p + wI (4 * f)) + wI (16 * s))) ++ (be 1 v ++ be 1 d ++ be 1 i) ++ be 4 n
def recS (q c p s f v d i n : Int) : ByteArray := bif !rightL q c p s f v d i n then ⟨#[]⟩ else bodyS q c p s f v d i n ++ be 4 (wI (sum32 (bodyS q c p s f v d i n))) ++ be 4 q
theorem runLPrint (q c p s f v d i n : Int) : runG ΓLd L0 Try.prog Try.f28 [.v (.agg #[I q, I c, I p, I s, I f, I v, I d, I i, I n])] M0 = 
    (bif !rightL q c p s f v d i n then some (.v (S { data := #[] : ByteArray }), M0) else some (.v (S (be (4 : Nat) q ++ be (4 : Nat) c ++ be (1 : Nat) (wI (wI (p + wI ((4 : Int) * f)) + wI ((16 : Int) * s))) ++ (be (1 : Nat) v ++ be (1 : Nat) d ++ be (1 : Nat) i) ++ be (4 : Nat) n ++ be (4 : Nat) (wI (sum32 (be (4 : Nat) q ++ be (4 : Nat) c ++ be (1 : Nat) (wI (wI (p + wI ((4 : Int) * f)) + wI ((16 : Int) * s))) ++ (be (1 : Nat) v ++ be (1 : Nat) d ++ be (1 : Nat) i) ++ be (4 : Nat) n))) ++ be (4 : Nat) q)), M0)) := by kernel_rfl
def gPrint (vs : List Value) : Option (Bool × Value) :=
  match vs with
  | [.agg ⟨[.int .i64 q, .int .i64 c, .int .i64 p, .int .i64 s, .int .i64 f, .int .i64 v, .int .i64 d, .int .i64 i, .int .i64 n]⟩] => some (true, S (recS q c p s f v d i n))
  | _ => none
theorem gLPrint_ok : ∀ vs r, gPrint vs = some (true, r) → ∀ m, CallOk Try.prog 28 (vs.map .v) m (.v r) m := by
  intro vs r h
  unfold gPrint at h
  split at h
  · rename_i q c p s f v d i n
    obtain ⟨h1, rfl⟩ := some_t h
    refine runV (vs := [.agg #[I q, I c, I p, I s, I f, I v, I d, I i, I n]]) (Λ := L0) (m' := M0) OkLd Try.func28 rfl (fun z z1 z2 => l0Ok' _ z) ?_
    refine (runLPrint q c p s f v d i n).trans ?_
    unfold recS
    cases rightL q c p s f v d i n <;> rfl
  · cases h
noncomputable def ΓLe : Orc := addVal 28 gPrint ΓLd
theorem OkLe : ΓLe.Ok Try.prog := addVal_ok OkLd gLPrint_ok
theorem four1 (x v d i : Int) : strOfNums [IntKind.u8.wrap x, IntKind.u8.wrap v, IntKind.u8.wrap d, IntKind.u8.wrap i] = be 1 x ++ (be 1 v ++ be 1 d ++ be 1 i) := by
  have e : ∀ y : Int, be 1 y = strOfNums [IntKind.u8.wrap y] := fun y => by
    show strOfNums [y / 256 ^ 0 % 256] = _
    rw [show (256 : Int) ^ 0 = 1 by decide, Int.ediv_one, wrap8_i]
  rw [e, e, e, e, ← nums_app, ← nums_app, ← nums_app]
  rfl
theorem runRPrint (q c p s f v d i n : Int) : runG ΓLe L0 Try.prog Try.f31 [.v (.agg #[I q, I c, I p, I s, I f, I v, I d, I i, I n])] M0 = 
    (bif !rightL q c p s f v d i n then some (.v (S { data := #[] : ByteArray }), M0) else some (.v (S (be (4 : Nat) q ++ be (4 : Nat) c ++ strOfNums [IntKind.u8.wrap (wI (wI (p + wI ((4 : Int) * f)) + wI ((16 : Int) * s))), IntKind.u8.wrap v, IntKind.u8.wrap d, IntKind.u8.wrap i] ++ be (4 : Nat) n ++ be (4 : Nat) (wI (sum32 (be (4 : Nat) q ++ be (4 : Nat) c ++ strOfNums [IntKind.u8.wrap (wI (wI (p + wI ((4 : Int) * f)) + wI ((16 : Int) * s))), IntKind.u8.wrap v, IntKind.u8.wrap d, IntKind.u8.wrap i] ++ be (4 : Nat) n))) ++ be (4 : Nat) q)), M0)) := by kernel_rfl
theorem gRPrint_ok : ∀ vs r, gPrint vs = some (true, r) → ∀ m, CallOk Try.prog 31 (vs.map .v) m (.v r) m := by
  intro vs r h
  unfold gPrint at h
  split at h
  · rename_i q c p s f v d i n
    obtain ⟨h1, rfl⟩ := some_t h
    refine runV (vs := [.agg #[I q, I c, I p, I s, I f, I v, I d, I i, I n]]) (Λ := L0) (m' := M0) OkLe Try.func31 rfl (fun z z1 z2 => l0Ok' _ z) ?_
    refine (runRPrint q c p s f v d i n).trans ?_
    rw [four1, ← ByteArray.append_assoc]
    unfold recS
    cases rightL q c p s f v d i n <;> rfl
  · cases h
noncomputable def ΓLf : Orc := addVal 31 gPrint ΓLe
theorem OkLf : ΓLf.Ok Try.prog := addVal_ok OkLe gRPrint_ok
theorem runLRead (s : ByteArray) : runG ΓLf L0 Try.prog Try.f29 [.v (S s)] M0 = 
    (bif ((s.size : Int) : Int) != (24 : Int) then some (.v (.tuple #[(.agg #[(I 0), (I 0), (I 0), (I 0), (I 0), (I 0), (I 0), (I 0), (I 0)]), (Bo false)]), M0) else (bif true && (true && decide ((4 : Int) ≤ ((s.size : Int) : Int))) then (bif szS (s.extract (0 : Nat) (4 : Nat)) then (bif true && (true && decide ((8 : Int) ≤ ((s.size : Int) : Int))) then (bif szS (s.extract (4 : Nat) (8 : Nat)) then (bif true && (true && decide ((16 : Int) ≤ ((s.size : Int) : Int))) then (bif szS (s.extract (12 : Nat) (16 : Nat)) then (bif true && decide ((8 : Int) < ((s.size : Int) : Int)) then (bif true && decide ((8 : Int) < ((s.size : Int) : Int)) then (bif true && decide ((8 : Int) < ((s.size : Int) : Int)) then (bif true && decide ((9 : Int) < ((s.size : Int) : Int)) then (bif true && decide ((10 : Int) < ((s.size : Int) : Int)) then (bif true && decide ((11 : Int) < ((s.size : Int) : Int)) then (bif !(recS (wI (((numN (s.extract (0 : Nat) (4 : Nat))) : Int) : Int)) (wI (((numN (s.extract (4 : Nat) (8 : Nat))) : Int) : Int)) (wI ((strAt s (8 : Int)).tmod (4 : Int))) (wI (IntKind.u8.wrap ((strAt s (8 : Int)).tdiv (16 : Int)))) (wI (IntKind.u8.wrap (((strAt s (8 : Int)).tmod (16 : Int)).tdiv (4 : Int)))) (wI (strAt s (9 : Int))) (wI (strAt s (10 : Int))) (wI (strAt s (11 : Int))) (wI (((numN (s.extract (12 : Nat) (16 : Nat))) : Int) : Int))).toList == s.toList then some (.v (.tuple #[(.agg #[(I 0), (I 0), (I 0), (I 0), (I 0), (I 0), (I 0), (I 0), (I 0)]), (Bo false)]), M0) else some (.v (.tuple #[(.agg #[(I (wI (((numN (s.extract (0 : Nat) (4 : Nat))) : Int) : Int))), (I (wI (((numN (s.extract (4 : Nat) (8 : Nat))) : Int) : Int))), (I (wI ((strAt s (8 : Int)).tmod (4 : Int)))), (I (wI (IntKind.u8.wrap ((strAt s (8 : Int)).tdiv (16 : Int))))), (I (wI (IntKind.u8.wrap (((strAt s (8 : Int)).tmod (16 : Int)).tdiv (4 : Int))))), (I (wI (strAt s (9 : Int)))), (I (wI (strAt s (10 : Int)))), (I (wI (strAt s (11 : Int)))), (I (wI (((numN (s.extract (12 : Nat) (16 : Nat))) : Int) : Int)))]), (Bo true)]), M0)) else none) else none) else none) else none) else none) else none) else none) else none) else none) else none) else none) else none)) := by kernel_rfl
theorem runRRead (s : ByteArray) : runG ΓLf L0 Try.prog Try.f30 [.v (S s)] M0 = 
    (bif ((s.size : Int) : Int) != (24 : Int) then some (.v (.tuple #[(.agg #[(I 0), (I 0), (I 0), (I 0), (I 0), (I 0), (I 0), (I 0), (I 0)]), (Bo false)]), M0) else (bif Nat.ble (4) s.size then (bif true && (decide ((4 : Int) ≤ ((s.size : Int) : Int)) && decide (((s.size : Int) : Int) ≤ ((s.size : Int) : Int))) then (bif Nat.ble (4) (s.extract (4 : Nat) ((s.size : Int) : Int).toNat).size then (bif true && decide ((8 : Int) < ((s.size : Int) : Int)) then (bif true && decide ((8 : Int) < ((s.size : Int) : Int)) then (bif true && decide ((8 : Int) < ((s.size : Int) : Int)) then (bif true && decide ((9 : Int) < ((s.size : Int) : Int)) then (bif true && decide ((10 : Int) < ((s.size : Int) : Int)) then (bif true && decide ((11 : Int) < ((s.size : Int) : Int)) then (bif true && (decide ((12 : Int) ≤ ((s.size : Int) : Int)) && decide (((s.size : Int) : Int) ≤ ((s.size : Int) : Int))) then (bif Nat.ble (4) (s.extract (12 : Nat) ((s.size : Int) : Int).toNat).size then (bif !(recS (((numN (s.extract (0 : Nat) (4 : Nat))) : Int) : Int) (((numN ((s.extract (4 : Nat) ((s.size : Int) : Int).toNat).extract (0 : Nat) (4 : Nat))) : Int) : Int) ((wI (strAt s (8 : Int))).tmod (4 : Int)) (wI ((wI (strAt s (8 : Int))).tdiv (16 : Int))) (wI (((wI (strAt s (8 : Int))).tmod (16 : Int)).tdiv (4 : Int))) (wI (strAt s (9 : Int))) (wI (strAt s (10 : Int))) (wI (strAt s (11 : Int))) (((numN ((s.extract (12 : Nat) ((s.size : Int) : Int).toNat).extract (0 : Nat) (4 : Nat))) : Int) : Int)).toList == s.toList then some (.v (.tuple #[(.agg #[(I 0), (I 0), (I 0), (I 0), (I 0), (I 0), (I 0), (I 0), (I 0)]), (Bo false)]), M0) else some (.v (.tuple #[(.agg #[(I ((((numN (s.extract (0 : Nat) (4 : Nat))) : Int) : Int))), (I ((((numN ((s.extract (4 : Nat) ((s.size : Int) : Int).toNat).extract (0 : Nat) (4 : Nat))) : Int) : Int))), (I ((wI (strAt s (8 : Int))).tmod (4 : Int))), (I (wI ((wI (strAt s (8 : Int))).tdiv (16 : Int)))), (I (wI (((wI (strAt s (8 : Int))).tmod (16 : Int)).tdiv (4 : Int)))), (I (wI (strAt s (9 : Int)))), (I (wI (strAt s (10 : Int)))), (I (wI (strAt s (11 : Int)))), (I ((((numN ((s.extract (12 : Nat) ((s.size : Int) : Int).toNat).extract (0 : Nat) (4 : Nat))) : Int) : Int)))]), (Bo true)]), M0)) else none) else none) else none) else none) else none) else none) else none) else none) else none) else none) else none)) := by kernel_rfl
end Go.Proofs.Ytlhgaehjkpjniaa

namespace Go.Proofs.Ytlhgaehjkpjniaa
open Go Go.Proofs Go.Sx
set_option linter.unusedVariables false
def qS (s : ByteArray) : Int := ((numN (s.extract 0 4) : Nat) : Int)
def cS (s : ByteArray) : Int := ((numN (s.extract 4 8) : Nat) : Int)
def nS (s : ByteArray) : Int := ((numN (s.extract 12 16) : Nat) : Int)
def pS (s : ByteArray) : Int := strAt s 8 % 4
def uS (s : ByteArray) : Int := strAt s 8 / 16
def fS (s : ByteArray) : Int := strAt s 8 % 16 / 4
def rdS (s : ByteArray) : ByteArray := recS (qS s) (cS s) (pS s) (uS s) (fS s) (strAt s 9) (strAt s 10) (strAt s 11) (nS s)
def okS (s : ByteArray) : Bool := bif (s.size : Int) != 24 then false else (rdS s).toList == s.toList
def zI (b : Bool) (x : Int) : Int := bif b then x else 0
def rdA (s : ByteArray) : Value := .agg #[I (zI (okS s) (qS s)), I (zI (okS s) (cS s)), I (zI (okS s) (pS s)), I (zI (okS s) (uS s)), I (zI (okS s) (fS s)), I (zI (okS s) (strAt s 9)), I (zI (okS s) (strAt s 10)), I (zI (okS s) (strAt s 11)), I (zI (okS s) (nS s))]
def gRead (vs : List Value) : Option (Bool × Value) :=
  match vs with
  | [.string s] => some (true, .tuple #[.agg #[I (zI (okS s) (qS s)), I (zI (okS s) (cS s)), I (zI (okS s) (pS s)), I (zI (okS s) (uS s)), I (zI (okS s) (fS s)), I (zI (okS s) (strAt s 9)), I (zI (okS s) (strAt s 10)), I (zI (okS s) (strAt s 11)), I (zI (okS s) (nS s))], Bo (okS s)])
  | _ => none
theorem byteN {b : Int} (h : 0 ≤ b ∧ b < 256) : wI (b.tmod 4) = b % 4 ∧ wI (IntKind.u8.wrap (b.tdiv 16)) = b / 16 ∧ wI (IntKind.u8.wrap ((b.tmod 16).tdiv 4)) = b % 16 / 4 ∧ b.tmod 4 = b % 4 ∧ wI (b.tdiv 16) = b / 16 ∧ wI ((b.tmod 16).tdiv 4) = b % 16 / 4 ∧ wI b = b := by
  rw [Int.tmod_eq_emod_of_nonneg h.1, Int.tmod_eq_emod_of_nonneg h.1, Int.tdiv_eq_ediv_of_nonneg h.1, Int.tdiv_eq_ediv_of_nonneg (show 0 ≤ b % 16 by omega), wrap8_i, wrap8_i, wI_id (n := b % 4) (by omega), wI_id (n := b / 16 % 256) (by omega), wI_id (n := b % 16 / 4 % 256) (by omega), wI_id (n := b / 16) (by omega), wI_id (n := b % 16 / 4) (by omega), wI_id (n := b) (by omega)]
  refine ⟨rfl, by omega, by omega, rfl, rfl, rfl, rfl⟩
theorem strAt_byte (s : ByteArray) (k : Nat) : 0 ≤ strAt s (k : Int) ∧ strAt s (k : Int) < 256 := by
  rw [strAt_L]
  cases (L s)[k]? with
  | none => exact ⟨by decide, by decide⟩
  | some b => exact byteI b
theorem num4_lt {s : ByteArray} {i : Nat} (h : i + 4 ≤ s.size) : ((numN (s.extract i (i + 4)) : Nat) : Int) < 4294967296 := by
  obtain ⟨b0, b1, b2, b3, hb, e0, e1, e2, e3⟩ := four_of h
  rw [numN_four hb]
  have := byteI b0
  have := byteI b1
  have := byteI b2
  have := byteI b3
  omega
theorem num4_wI {s : ByteArray} {i : Nat} (h : i + 4 ≤ s.size) : wI ((numN (s.extract i (i + 4)) : Nat) : Int) = ((numN (s.extract i (i + 4)) : Nat) : Int) := by
  have := num4_lt h
  exact wI_id (by omega)
theorem szS_ext {s : ByteArray} (h : s.size = 24) (a b : Nat) : szS (s.extract a b) = true := Nat.ble_eq_true_of_le (by rw [ByteArray.size_extract]; omega)
theorem ext_ext {s : ByteArray} (h : s.size = 24) (a : Nat) (ha : a + 4 ≤ 24) : (s.extract a 24).extract 0 4 = s.extract a (a + 4) := by
  rw [← L_inj, L_ext, L_ext, L_ext, List.drop_zero, List.take_take, show min (4 - 0) (24 - a) = a + 4 - a by omega]
theorem gLRead_ok : ∀ vs r, gRead vs = some (true, r) → ∀ m, CallOk Try.prog 29 (vs.map .v) m (.v r) m := by
  intro vs r h
  unfold gRead at h
  split at h
  · rename_i s
    obtain ⟨h1, rfl⟩ := some_t h
    refine runV (vs := [S s]) (Λ := L0) (m' := M0) OkLf Try.func29 rfl (fun z z1 z2 => l0Ok' _ z) ?_
    refine (runLRead s).trans ?_
    by_cases hs : s.size = 24
    · have e0 : wI ((numN (s.extract 0 4) : Nat) : Int) = qS s := num4_wI (i := 0) (by omega)
      have e1 : wI ((numN (s.extract 4 8) : Nat) : Int) = cS s := num4_wI (i := 4) (by omega)
      have e2 : wI ((numN (s.extract 12 16) : Nat) : Int) = nS s := num4_wI (i := 12) (by omega)
      obtain ⟨a1, a2, a3, _⟩ := byteN (strAt_byte s 8)
      have b9 : wI (strAt s 9) = strAt s 9 := (byteN (strAt_byte s 9)).2.2.2.2.2.2
      have b10 : wI (strAt s 10) = strAt s 10 := (byteN (strAt_byte s 10)).2.2.2.2.2.2
      have b11 : wI (strAt s 11) = strAt s 11 := (byteN (strAt_byte s 11)).2.2.2.2.2.2
      rw [show ((8 : Nat) : Int) = (8 : Int) from rfl] at a1 a2 a3
      rw [e0, e1, e2, a1, a2, a3, b9, b10, b11, szS_ext hs, szS_ext hs, szS_ext hs]
      have hz : okS s = ((rdS s).toList == s.toList) := by
        unfold okS
        rw [hs]
        rfl
      rw [hs, hz]
      show (bif !((rdS s).toList == s.toList) then _ else _) = _
      cases ((rdS s).toList == s.toList) <;> rfl
    · have hz : okS s = false := by
        unfold okS
        rw [bne_iff_ne.2 (show (s.size : Int) ≠ 24 by omega)]
        rfl
      rw [bne_iff_ne.2 (show (s.size : Int) ≠ 24 by omega), hz]
      rfl
  · cases h
noncomputable def ΓLg : Orc := addVal 29 gRead ΓLf
theorem OkLg : ΓLg.Ok Try.prog := addVal_ok OkLf gLRead_ok
theorem gRRead_ok : ∀ vs r, gRead vs = some (true, r) → ∀ m, CallOk Try.prog 30 (vs.map .v) m (.v r) m := by
  intro vs r h
  unfold gRead at h
  split at h
  · rename_i s
    obtain ⟨h1, rfl⟩ := some_t h
    refine runV (vs := [S s]) (Λ := L0) (m' := M0) OkLf Try.func30 rfl (fun z z1 z2 => l0Ok' _ z) ?_
    refine (runRRead s).trans ?_
    by_cases hs : s.size = 24
    · obtain ⟨_, _, _, a4, a5, a6, a7⟩ := byteN (strAt_byte s 8)
      have b9 : wI (strAt s 9) = strAt s 9 := (byteN (strAt_byte s 9)).2.2.2.2.2.2
      have b10 : wI (strAt s 10) = strAt s 10 := (byteN (strAt_byte s 10)).2.2.2.2.2.2
      have b11 : wI (strAt s 11) = strAt s 11 := (byteN (strAt_byte s 11)).2.2.2.2.2.2
      rw [show ((8 : Nat) : Int) = (8 : Int) from rfl] at a4 a5 a6 a7
      have hz : okS s = ((rdS s).toList == s.toList) := by
        unfold okS
        rw [hs]
        rfl
      have s4 : Nat.ble 4 (s.extract 4 24).size = true := Nat.ble_eq_true_of_le (by rw [ByteArray.size_extract]; omega)
      have s12 : Nat.ble 4 (s.extract 12 24).size = true := Nat.ble_eq_true_of_le (by rw [ByteArray.size_extract]; omega)
      rw [hs, show ((24 : Nat) : Int).toNat = 24 from rfl, a7, a4, a5, a6, b9, b10, b11, s4, s12, ext_ext hs 4 (by omega), ext_ext hs 12 (by omega), hz]
      show (bif !((rdS s).toList == s.toList) then _ else _) = _
      cases ((rdS s).toList == s.toList) <;> rfl
    · have hz : okS s = false := by
        unfold okS
        rw [bne_iff_ne.2 (show (s.size : Int) ≠ 24 by omega)]
        rfl
      rw [bne_iff_ne.2 (show (s.size : Int) ≠ 24 by omega), hz]
      rfl
  · cases h
noncomputable def ΓLh : Orc := addVal 30 gRead ΓLg
theorem OkLh : ΓLh.Ok Try.prog := addVal_ok OkLg (fun vs r h => gRRead_ok vs r h)
end Go.Proofs.Ytlhgaehjkpjniaa

namespace Go.Proofs.Ytlhgaehjkpjniaa
open Go Go.Proofs Go.Sx
set_option linter.unusedVariables false
/-! A latch: a flash, its base, the last record, the next slot. -/
def ML (base q c p s f v d i n next : Int) (L : List (List Dat)) (mark : Bool) (mx w : Int) (down waits : Bool) (lets : Int) : Mem := ⟨[[.ptr 1 0, .v (I base), .v (I q), .v (I c), .v (I p), .v (I s), .v (I f), .v (I v), .v (I d), .v (I i), .v (I n), .v (I next)], [.row 0, .ptr 2 0, .v (Bo down), .v (Bo waits), .v (I lets)], [.v (I mx), .v (I w)]], [true, true, true], [.live ⟨5, [.num .u8], L, true, mark⟩]⟩

set_option maxRecDepth 20000 in
theorem runLast0 (base q c p s f v d i n next : Int) (down waits : Bool) (lets mx w : Int) (L : List (List Dat)) (mark : Bool) : runG ΓLh L0 Try.prog Try.f37 [.ptr 0 0] (ML base q c p s f v d i n next L mark mx w down waits lets) = same (some (.v (.tuple #[.agg #[I q, I c, I p, I s, I f, I v, I d, I i, I n], Bo (decide (q > 0))]), (ML base q c p s f v d i n next L mark mx w down waits lets))) (some (.v (.tuple #[.agg #[I q, I c, I p, I s, I f, I v, I d, I i, I n], Bo (decide (q > 0))]), (ML base q c p s f v d i n next L mark mx w down waits lets))) := by kernel_rfl
set_option maxRecDepth 20000 in
theorem runLast1  : runG ΓLh L0 Try.prog Try.f37 [.v (.pointer none)] M0 = some (.v (.tuple #[.agg #[I 0, I 0, I 0, I 0, I 0, I 0, I 0, I 0, I 0], Bo false]), M0) := by kernel_rfl
def gLast (xs : List SV) (m : Mem) : Option (Bool × Value) :=
  match xs, m with
  | [.ptr 0 0], ⟨[[.ptr 1 0, .v (.int .i64 base), .v (.int .i64 q), .v (.int .i64 c), .v (.int .i64 p), .v (.int .i64 s), .v (.int .i64 f), .v (.int .i64 v), .v (.int .i64 d), .v (.int .i64 i), .v (.int .i64 n), .v (.int .i64 next)], [.row 0, .ptr 2 0, .v (.bool down), .v (.bool waits), .v (.int .i64 lets)], [.v (.int .i64 mx), .v (.int .i64 w)]], [true, true, true], [.live ⟨5, [.num .u8], L, true, mark⟩]⟩ => some (true, .tuple #[.agg #[I q, I c, I p, I s, I f, I v, I d, I i, I n], Bo (decide (q > 0))])
  | [.v (.pointer none)], ⟨[], [], []⟩ => some (true, .tuple #[.agg #[I 0, I 0, I 0, I 0, I 0, I 0, I 0, I 0, I 0], Bo false])
  | _, _ => none
theorem gLast_ok : ∀ xs m r, gLast xs m = some (true, r) → CallOk Try.prog 37 xs m (.v r) m := by
  intro xs m r h
  unfold gLast at h
  split at h
  · rename_i base q c p s f v d i n next down waits lets mx w L mark
    obtain ⟨h1, rfl⟩ := some_t h
    refine runOk (Λ := L0) OkLh Try.func37 rfl (fun z _ _ => l0Ok' _ z) ?_
    exact (runLast0 base q c p s f v d i n next down waits lets mx w L mark).trans (same_self _)
  · obtain ⟨h1, rfl⟩ := some_t h
    refine runOk (Λ := L0) OkLh Try.func37 rfl (fun z _ _ => l0Ok' _ z) ?_
    exact (runLast1 ).trans (rfl)
  · cases h
noncomputable def ΓN1 : Orc := addRd 37 gLast ΓLh
theorem OkN1 : ΓN1.Ok Try.prog := addRd_ok OkLh gLast_ok
noncomputable def ΓLj : Orc := ΓN1
theorem OkLj : ΓLj.Ok Try.prog := OkN1
end Go.Proofs.Ytlhgaehjkpjniaa

namespace Go.Proofs.Ytlhgaehjkpjniaa
open Go Go.Proofs Go.Sx
noncomputable def Γ9a : Orc := addRd 37 gLast (addVal 29 gRead (addVal 28 gPrint (addVal 33 gRight ΓF1)))
theorem Ok9a : Γ9a.Ok Try.prog := addRd_ok (addVal_ok (addVal_ok (addVal_ok OkF1 gRight_ok) gLPrint_ok) gLRead_ok) gLast_ok
def wr9 (f : FuncId) : Bool := Nat.beq f 19
noncomputable def Γx9 : Orc := exec Try.prog Γ9a.call Γ9a.rd Γ9a.eqv wr9 30 4
theorem Okx9 : Γx9.Ok Try.prog := exec_ok mixed names (ext := Γ9a.call) (rd := Γ9a.rd) (eqv := Γ9a.eqv) (wr := wr9) ⟨Ok9a.call, Ok9a.rd, Ok9a.eqv⟩ 30 4
set_option maxRecDepth 100000 in
theorem runAwake9 : runG Γx9 (loopX Γx9 Try.prog 30 2) Try.prog Try.f27 [] M0 = some (.v (Bo true), M0) := by kernel_rfl
def gAwake9 (vs : List Value) : Option (Bool × Value) :=
  match vs with
  | [] => some (true, Bo true)
  | _ => none
theorem gAwake9_ok : ∀ vs r, gAwake9 vs = some (true, r) → ∀ m, CallOk Try.prog 27 (vs.map .v) m (.v r) m := by
  intro vs r h
  unfold gAwake9 at h
  split at h
  · obtain ⟨_, rfl⟩ := some_t h
    exact runV (vs := []) Okx9 Try.func27 rfl (fun z _ _ b hb => loopX_ok Okx9 mixed 30 2 b) runAwake9
  · cases h
noncomputable def ΓLk : Orc := addVal 27 gAwake9 ΓLj
theorem OkLk : ΓLk.Ok Try.prog := addVal_ok OkLj gAwake9_ok
end Go.Proofs.Ytlhgaehjkpjniaa

namespace Go.Proofs.Ytlhgaehjkpjniaa
open Go Go.Proofs Go.Sx
set_option linter.unusedVariables false
/-! norm -/
/-! cast -/
noncomputable def ΓLw : Orc := { ΓLk with wr := fun f => Nat.beq f 19 }
theorem OkLw : ΓLw.Ok Try.prog := ⟨OkLk.call, OkLk.rd, OkLk.eqv⟩
theorem runSave (base q c p s f v d i n next : Int) (down waits : Bool) (lets mx w : Int) (L : List (List Dat)) (mark : Bool) (q' c' p' s' f' v' d' i' n' : Int) : runG ΓLw L0 Try.prog Try.f38 [.ptr 0 0, .v (.agg #[I q', I c', I p', I s', I f', I v', I d', I i', I n'])] (ML base q c p s f v d i n next L mark mx w down waits lets) = 
    (bif !rightL (wI (q + (1 : Int))) c' p' s' f' v' d' i' n' then some (.v (I 1), ⟨[[.ptr 1 0, .v (I base), .v (I q), .v (I c), .v (I p), .v (I s), .v (I f), .v (I v), .v (I d), .v (I i), .v (I n), .v (I next)], [.row 0, .ptr 2 0, .v (Bo down), .v (Bo waits), .v (I lets)], [.v (I mx), .v (I w)]], [true, true, true], [.live ⟨5, [.num .u8], L, true, mark⟩]⟩) else (bif okL L lets then (bif wrE (txt L) down waits (wI (base + wI (next * (24 : Int)))) (recS (wI (q + (1 : Int))) c' p' s' f' v' d' i' n') != (0 : Int) then some (.v (I (wrE (txt L) down waits (wI (base + wI (next * (24 : Int)))) (recS (wI (q + (1 : Int))) c' p' s' f' v' d' i' n'))), ⟨[[.ptr 1 0, .v (I base), .v (I q), .v (I c), .v (I p), .v (I s), .v (I f), .v (I v), .v (I d), .v (I i), .v (I n), .v (I next)], [.row 0, .ptr 2 0, .v (Bo (wrD (txt L) down waits (wI (base + wI (next * (24 : Int)))) (recS (wI (q + (1 : Int))) c' p' s' f' v' d' i' n'))), .v (Bo (wrW (txt L) down waits (wI (base + wI (next * (24 : Int)))) (recS (wI (q + (1 : Int))) c' p' s' f' v' d' i' n'))), .v (I lets)], [.v (I mx), .v (I (wrV (txt L) mx w down (wI (base + wI (next * (24 : Int)))) (recS (wI (q + (1 : Int))) c' p' s' f' v' d' i' n')))]], [true, true, true], [.live ⟨5, [.num .u8], (rowT (wrB (txt L) down waits lets (wI (base + wI (next * (24 : Int)))) (recS (wI (q + (1 : Int))) c' p' s' f' v' d' i' n'))), true, mark⟩]⟩) else some (.v (I 0), ⟨[[.ptr 1 0, .v (I base), .v (I (wI (q + (1 : Int)))), .v (I c'), .v (I p'), .v (I s'), .v (I f'), .v (I v'), .v (I d'), .v (I i'), .v (I n'), .v (I ((wI (next + (1 : Int))).tmod (2)))], [.row 0, .ptr 2 0, .v (Bo (wrD (txt L) down waits (wI (base + wI (next * (24 : Int)))) (recS (wI (q + (1 : Int))) c' p' s' f' v' d' i' n'))), .v (Bo (wrW (txt L) down waits (wI (base + wI (next * (24 : Int)))) (recS (wI (q + (1 : Int))) c' p' s' f' v' d' i' n'))), .v (I lets)], [.v (I mx), .v (I (wrV (txt L) mx w down (wI (base + wI (next * (24 : Int)))) (recS (wI (q + (1 : Int))) c' p' s' f' v' d' i' n')))]], [true, true, true], [.live ⟨5, [.num .u8], (rowT (wrB (txt L) down waits lets (wI (base + wI (next * (24 : Int)))) (recS (wI (q + (1 : Int))) c' p' s' f' v' d' i' n'))), true, mark⟩]⟩)) else none)) := by kernel_rfl
theorem runOpen (base : Int) (down waits : Bool) (lets mx w : Int) (L : List (List Dat)) (mark : Bool) : runG ΓLk L0 Try.prog Try.f35 [.ptr 0 0, .v (I base)] (FM L mark mx w down waits lets) = 
    (bif okL L lets then (bif refE down (((txt L).size : Int) : Int) base (48 : Int) != (0 : Int) then some (.v (.tuple #[(Value.pointer none), (I (refE down (((txt L).size : Int) : Int) base (48 : Int)))]), ⟨[[.row 0, .ptr 1 0, .v (Bo down), .v (Bo waits), .v (I lets)], [.v (I mx), .v (I w)]], [true, true], [.live ⟨5, [.num .u8], L, true, mark⟩]⟩) else (bif true && (true && decide ((24 : Int) ≤ (((bif refE down (((txt L).size : Int) : Int) base (48 : Int) != (0 : Int) then { data := #[] : ByteArray } else (txt L).extract base.toNat (base + (48 : Int)).toNat).size : Int) : Int))) then (bif okS ((bif refE down (((txt L).size : Int) : Int) base (48 : Int) != (0 : Int) then { data := #[] : ByteArray } else (txt L).extract base.toNat (base + (48 : Int)).toNat).extract (0 : Nat) (24 : Nat)) then (bif decide (zI (okS ((bif refE down (((txt L).size : Int) : Int) base (48 : Int) != (0 : Int) then { data := #[] : ByteArray } else (txt L).extract base.toNat (base + (48 : Int)).toNat).extract (0 : Nat) (24 : Nat))) (qS ((bif refE down (((txt L).size : Int) : Int) base (48 : Int) != (0 : Int) then { data := #[] : ByteArray } else (txt L).extract base.toNat (base + (48 : Int)).toNat).extract (0 : Nat) (24 : Nat))) > (0 : Int)) then (bif true && (true && decide ((48 : Int) ≤ (((bif refE down (((txt L).size : Int) : Int) base (48 : Int) != (0 : Int) then { data := #[] : ByteArray } else (txt L).extract base.toNat (base + (48 : Int)).toNat).size : Int) : Int))) then (bif okS ((bif refE down (((txt L).size : Int) : Int) base (48 : Int) != (0 : Int) then { data := #[] : ByteArray } else (txt L).extract base.toNat (base + (48 : Int)).toNat).extract (24 : Nat) (48 : Nat)) then (bif decide (zI (okS ((bif refE down (((txt L).size : Int) : Int) base (48 : Int) != (0 : Int) then { data := #[] : ByteArray } else (txt L).extract base.toNat (base + (48 : Int)).toNat).extract (24 : Nat) (48 : Nat))) (qS ((bif refE down (((txt L).size : Int) : Int) base (48 : Int) != (0 : Int) then { data := #[] : ByteArray } else (txt L).extract base.toNat (base + (48 : Int)).toNat).extract (24 : Nat) (48 : Nat))) > zI (okS ((bif refE down (((txt L).size : Int) : Int) base (48 : Int) != (0 : Int) then { data := #[] : ByteArray } else (txt L).extract base.toNat (base + (48 : Int)).toNat).extract (0 : Nat) (24 : Nat))) (qS ((bif refE down (((txt L).size : Int) : Int) base (48 : Int) != (0 : Int) then { data := #[] : ByteArray } else (txt L).extract base.toNat (base + (48 : Int)).toNat).extract (0 : Nat) (24 : Nat)))) then some (.tup [.one (.ptr 2 0), .one (.v (I 0))], ⟨[[.row 0, .ptr 1 0, .v (Bo down), .v (Bo waits), .v (I lets)], [.v (I mx), .v (I w)], [.ptr 0 0, .v (I base), .v (I (zI (okS ((bif refE down (((txt L).size : Int) : Int) base (48 : Int) != (0 : Int) then { data := #[] : ByteArray } else (txt L).extract base.toNat (base + (48 : Int)).toNat).extract (24 : Nat) (48 : Nat))) (qS ((bif refE down (((txt L).size : Int) : Int) base (48 : Int) != (0 : Int) then { data := #[] : ByteArray } else (txt L).extract base.toNat (base + (48 : Int)).toNat).extract (24 : Nat) (48 : Nat))))), .v (I (zI (okS ((bif refE down (((txt L).size : Int) : Int) base (48 : Int) != (0 : Int) then { data := #[] : ByteArray } else (txt L).extract base.toNat (base + (48 : Int)).toNat).extract (24 : Nat) (48 : Nat))) (cS ((bif refE down (((txt L).size : Int) : Int) base (48 : Int) != (0 : Int) then { data := #[] : ByteArray } else (txt L).extract base.toNat (base + (48 : Int)).toNat).extract (24 : Nat) (48 : Nat))))), .v (I (zI (okS ((bif refE down (((txt L).size : Int) : Int) base (48 : Int) != (0 : Int) then { data := #[] : ByteArray } else (txt L).extract base.toNat (base + (48 : Int)).toNat).extract (24 : Nat) (48 : Nat))) (pS ((bif refE down (((txt L).size : Int) : Int) base (48 : Int) != (0 : Int) then { data := #[] : ByteArray } else (txt L).extract base.toNat (base + (48 : Int)).toNat).extract (24 : Nat) (48 : Nat))))), .v (I (zI (okS ((bif refE down (((txt L).size : Int) : Int) base (48 : Int) != (0 : Int) then { data := #[] : ByteArray } else (txt L).extract base.toNat (base + (48 : Int)).toNat).extract (24 : Nat) (48 : Nat))) (uS ((bif refE down (((txt L).size : Int) : Int) base (48 : Int) != (0 : Int) then { data := #[] : ByteArray } else (txt L).extract base.toNat (base + (48 : Int)).toNat).extract (24 : Nat) (48 : Nat))))), .v (I (zI (okS ((bif refE down (((txt L).size : Int) : Int) base (48 : Int) != (0 : Int) then { data := #[] : ByteArray } else (txt L).extract base.toNat (base + (48 : Int)).toNat).extract (24 : Nat) (48 : Nat))) (fS ((bif refE down (((txt L).size : Int) : Int) base (48 : Int) != (0 : Int) then { data := #[] : ByteArray } else (txt L).extract base.toNat (base + (48 : Int)).toNat).extract (24 : Nat) (48 : Nat))))), .v (I (zI (okS ((bif refE down (((txt L).size : Int) : Int) base (48 : Int) != (0 : Int) then { data := #[] : ByteArray } else (txt L).extract base.toNat (base + (48 : Int)).toNat).extract (24 : Nat) (48 : Nat))) (strAt ((bif refE down (((txt L).size : Int) : Int) base (48 : Int) != (0 : Int) then { data := #[] : ByteArray } else (txt L).extract base.toNat (base + (48 : Int)).toNat).extract (24 : Nat) (48 : Nat)) (9 : Int)))), .v (I (zI (okS ((bif refE down (((txt L).size : Int) : Int) base (48 : Int) != (0 : Int) then { data := #[] : ByteArray } else (txt L).extract base.toNat (base + (48 : Int)).toNat).extract (24 : Nat) (48 : Nat))) (strAt ((bif refE down (((txt L).size : Int) : Int) base (48 : Int) != (0 : Int) then { data := #[] : ByteArray } else (txt L).extract base.toNat (base + (48 : Int)).toNat).extract (24 : Nat) (48 : Nat)) (10 : Int)))), .v (I (zI (okS ((bif refE down (((txt L).size : Int) : Int) base (48 : Int) != (0 : Int) then { data := #[] : ByteArray } else (txt L).extract base.toNat (base + (48 : Int)).toNat).extract (24 : Nat) (48 : Nat))) (strAt ((bif refE down (((txt L).size : Int) : Int) base (48 : Int) != (0 : Int) then { data := #[] : ByteArray } else (txt L).extract base.toNat (base + (48 : Int)).toNat).extract (24 : Nat) (48 : Nat)) (11 : Int)))), .v (I (zI (okS ((bif refE down (((txt L).size : Int) : Int) base (48 : Int) != (0 : Int) then { data := #[] : ByteArray } else (txt L).extract base.toNat (base + (48 : Int)).toNat).extract (24 : Nat) (48 : Nat))) (nS ((bif refE down (((txt L).size : Int) : Int) base (48 : Int) != (0 : Int) then { data := #[] : ByteArray } else (txt L).extract base.toNat (base + (48 : Int)).toNat).extract (24 : Nat) (48 : Nat))))), .v (I 0)]], [true, true, true], [.live ⟨5, [.num .u8], L, true, mark⟩]⟩) else some (.tup [.one (.ptr 2 0), .one (.v (I 0))], ⟨[[.row 0, .ptr 1 0, .v (Bo down), .v (Bo waits), .v (I lets)], [.v (I mx), .v (I w)], [.ptr 0 0, .v (I base), .v (I (zI (okS ((bif refE down (((txt L).size : Int) : Int) base (48 : Int) != (0 : Int) then { data := #[] : ByteArray } else (txt L).extract base.toNat (base + (48 : Int)).toNat).extract (0 : Nat) (24 : Nat))) (qS ((bif refE down (((txt L).size : Int) : Int) base (48 : Int) != (0 : Int) then { data := #[] : ByteArray } else (txt L).extract base.toNat (base + (48 : Int)).toNat).extract (0 : Nat) (24 : Nat))))), .v (I (zI (okS ((bif refE down (((txt L).size : Int) : Int) base (48 : Int) != (0 : Int) then { data := #[] : ByteArray } else (txt L).extract base.toNat (base + (48 : Int)).toNat).extract (0 : Nat) (24 : Nat))) (cS ((bif refE down (((txt L).size : Int) : Int) base (48 : Int) != (0 : Int) then { data := #[] : ByteArray } else (txt L).extract base.toNat (base + (48 : Int)).toNat).extract (0 : Nat) (24 : Nat))))), .v (I (zI (okS ((bif refE down (((txt L).size : Int) : Int) base (48 : Int) != (0 : Int) then { data := #[] : ByteArray } else (txt L).extract base.toNat (base + (48 : Int)).toNat).extract (0 : Nat) (24 : Nat))) (pS ((bif refE down (((txt L).size : Int) : Int) base (48 : Int) != (0 : Int) then { data := #[] : ByteArray } else (txt L).extract base.toNat (base + (48 : Int)).toNat).extract (0 : Nat) (24 : Nat))))), .v (I (zI (okS ((bif refE down (((txt L).size : Int) : Int) base (48 : Int) != (0 : Int) then { data := #[] : ByteArray } else (txt L).extract base.toNat (base + (48 : Int)).toNat).extract (0 : Nat) (24 : Nat))) (uS ((bif refE down (((txt L).size : Int) : Int) base (48 : Int) != (0 : Int) then { data := #[] : ByteArray } else (txt L).extract base.toNat (base + (48 : Int)).toNat).extract (0 : Nat) (24 : Nat))))), .v (I (zI (okS ((bif refE down (((txt L).size : Int) : Int) base (48 : Int) != (0 : Int) then { data := #[] : ByteArray } else (txt L).extract base.toNat (base + (48 : Int)).toNat).extract (0 : Nat) (24 : Nat))) (fS ((bif refE down (((txt L).size : Int) : Int) base (48 : Int) != (0 : Int) then { data := #[] : ByteArray } else (txt L).extract base.toNat (base + (48 : Int)).toNat).extract (0 : Nat) (24 : Nat))))), .v (I (zI (okS ((bif refE down (((txt L).size : Int) : Int) base (48 : Int) != (0 : Int) then { data := #[] : ByteArray } else (txt L).extract base.toNat (base + (48 : Int)).toNat).extract (0 : Nat) (24 : Nat))) (strAt ((bif refE down (((txt L).size : Int) : Int) base (48 : Int) != (0 : Int) then { data := #[] : ByteArray } else (txt L).extract base.toNat (base + (48 : Int)).toNat).extract (0 : Nat) (24 : Nat)) (9 : Int)))), .v (I (zI (okS ((bif refE down (((txt L).size : Int) : Int) base (48 : Int) != (0 : Int) then { data := #[] : ByteArray } else (txt L).extract base.toNat (base + (48 : Int)).toNat).extract (0 : Nat) (24 : Nat))) (strAt ((bif refE down (((txt L).size : Int) : Int) base (48 : Int) != (0 : Int) then { data := #[] : ByteArray } else (txt L).extract base.toNat (base + (48 : Int)).toNat).extract (0 : Nat) (24 : Nat)) (10 : Int)))), .v (I (zI (okS ((bif refE down (((txt L).size : Int) : Int) base (48 : Int) != (0 : Int) then { data := #[] : ByteArray } else (txt L).extract base.toNat (base + (48 : Int)).toNat).extract (0 : Nat) (24 : Nat))) (strAt ((bif refE down (((txt L).size : Int) : Int) base (48 : Int) != (0 : Int) then { data := #[] : ByteArray } else (txt L).extract base.toNat (base + (48 : Int)).toNat).extract (0 : Nat) (24 : Nat)) (11 : Int)))), .v (I (zI (okS ((bif refE down (((txt L).size : Int) : Int) base (48 : Int) != (0 : Int) then { data := #[] : ByteArray } else (txt L).extract base.toNat (base + (48 : Int)).toNat).extract (0 : Nat) (24 : Nat))) (nS ((bif refE down (((txt L).size : Int) : Int) base (48 : Int) != (0 : Int) then { data := #[] : ByteArray } else (txt L).extract base.toNat (base + (48 : Int)).toNat).extract (0 : Nat) (24 : Nat))))), .v (I 1)]], [true, true, true], [.live ⟨5, [.num .u8], L, true, mark⟩]⟩)) else some (.tup [.one (.ptr 2 0), .one (.v (I 0))], ⟨[[.row 0, .ptr 1 0, .v (Bo down), .v (Bo waits), .v (I lets)], [.v (I mx), .v (I w)], [.ptr 0 0, .v (I base), .v (I (zI (okS ((bif refE down (((txt L).size : Int) : Int) base (48 : Int) != (0 : Int) then { data := #[] : ByteArray } else (txt L).extract base.toNat (base + (48 : Int)).toNat).extract (0 : Nat) (24 : Nat))) (qS ((bif refE down (((txt L).size : Int) : Int) base (48 : Int) != (0 : Int) then { data := #[] : ByteArray } else (txt L).extract base.toNat (base + (48 : Int)).toNat).extract (0 : Nat) (24 : Nat))))), .v (I (zI (okS ((bif refE down (((txt L).size : Int) : Int) base (48 : Int) != (0 : Int) then { data := #[] : ByteArray } else (txt L).extract base.toNat (base + (48 : Int)).toNat).extract (0 : Nat) (24 : Nat))) (cS ((bif refE down (((txt L).size : Int) : Int) base (48 : Int) != (0 : Int) then { data := #[] : ByteArray } else (txt L).extract base.toNat (base + (48 : Int)).toNat).extract (0 : Nat) (24 : Nat))))), .v (I (zI (okS ((bif refE down (((txt L).size : Int) : Int) base (48 : Int) != (0 : Int) then { data := #[] : ByteArray } else (txt L).extract base.toNat (base + (48 : Int)).toNat).extract (0 : Nat) (24 : Nat))) (pS ((bif refE down (((txt L).size : Int) : Int) base (48 : Int) != (0 : Int) then { data := #[] : ByteArray } else (txt L).extract base.toNat (base + (48 : Int)).toNat).extract (0 : Nat) (24 : Nat))))), .v (I (zI (okS ((bif refE down (((txt L).size : Int) : Int) base (48 : Int) != (0 : Int) then { data := #[] : ByteArray } else (txt L).extract base.toNat (base + (48 : Int)).toNat).extract (0 : Nat) (24 : Nat))) (uS ((bif refE down (((txt L).size : Int) : Int) base (48 : Int) != (0 : Int) then { data := #[] : ByteArray } else (txt L).extract base.toNat (base + (48 : Int)).toNat).extract (0 : Nat) (24 : Nat))))), .v (I (zI (okS ((bif refE down (((txt L).size : Int) : Int) base (48 : Int) != (0 : Int) then { data := #[] : ByteArray } else (txt L).extract base.toNat (base + (48 : Int)).toNat).extract (0 : Nat) (24 : Nat))) (fS ((bif refE down (((txt L).size : Int) : Int) base (48 : Int) != (0 : Int) then { data := #[] : ByteArray } else (txt L).extract base.toNat (base + (48 : Int)).toNat).extract (0 : Nat) (24 : Nat))))), .v (I (zI (okS ((bif refE down (((txt L).size : Int) : Int) base (48 : Int) != (0 : Int) then { data := #[] : ByteArray } else (txt L).extract base.toNat (base + (48 : Int)).toNat).extract (0 : Nat) (24 : Nat))) (strAt ((bif refE down (((txt L).size : Int) : Int) base (48 : Int) != (0 : Int) then { data := #[] : ByteArray } else (txt L).extract base.toNat (base + (48 : Int)).toNat).extract (0 : Nat) (24 : Nat)) (9 : Int)))), .v (I (zI (okS ((bif refE down (((txt L).size : Int) : Int) base (48 : Int) != (0 : Int) then { data := #[] : ByteArray } else (txt L).extract base.toNat (base + (48 : Int)).toNat).extract (0 : Nat) (24 : Nat))) (strAt ((bif refE down (((txt L).size : Int) : Int) base (48 : Int) != (0 : Int) then { data := #[] : ByteArray } else (txt L).extract base.toNat (base + (48 : Int)).toNat).extract (0 : Nat) (24 : Nat)) (10 : Int)))), .v (I (zI (okS ((bif refE down (((txt L).size : Int) : Int) base (48 : Int) != (0 : Int) then { data := #[] : ByteArray } else (txt L).extract base.toNat (base + (48 : Int)).toNat).extract (0 : Nat) (24 : Nat))) (strAt ((bif refE down (((txt L).size : Int) : Int) base (48 : Int) != (0 : Int) then { data := #[] : ByteArray } else (txt L).extract base.toNat (base + (48 : Int)).toNat).extract (0 : Nat) (24 : Nat)) (11 : Int)))), .v (I (zI (okS ((bif refE down (((txt L).size : Int) : Int) base (48 : Int) != (0 : Int) then { data := #[] : ByteArray } else (txt L).extract base.toNat (base + (48 : Int)).toNat).extract (0 : Nat) (24 : Nat))) (nS ((bif refE down (((txt L).size : Int) : Int) base (48 : Int) != (0 : Int) then { data := #[] : ByteArray } else (txt L).extract base.toNat (base + (48 : Int)).toNat).extract (0 : Nat) (24 : Nat))))), .v (I 1)]], [true, true, true], [.live ⟨5, [.num .u8], L, true, mark⟩]⟩)) else none) else (bif true && (true && decide ((48 : Int) ≤ (((bif refE down (((txt L).size : Int) : Int) base (48 : Int) != (0 : Int) then { data := #[] : ByteArray } else (txt L).extract base.toNat (base + (48 : Int)).toNat).size : Int) : Int))) then (bif okS ((bif refE down (((txt L).size : Int) : Int) base (48 : Int) != (0 : Int) then { data := #[] : ByteArray } else (txt L).extract base.toNat (base + (48 : Int)).toNat).extract (24 : Nat) (48 : Nat)) then (bif decide (zI (okS ((bif refE down (((txt L).size : Int) : Int) base (48 : Int) != (0 : Int) then { data := #[] : ByteArray } else (txt L).extract base.toNat (base + (48 : Int)).toNat).extract (24 : Nat) (48 : Nat))) (qS ((bif refE down (((txt L).size : Int) : Int) base (48 : Int) != (0 : Int) then { data := #[] : ByteArray } else (txt L).extract base.toNat (base + (48 : Int)).toNat).extract (24 : Nat) (48 : Nat))) > (0 : Int)) then some (.tup [.one (.ptr 2 0), .one (.v (I 0))], ⟨[[.row 0, .ptr 1 0, .v (Bo down), .v (Bo waits), .v (I lets)], [.v (I mx), .v (I w)], [.ptr 0 0, .v (I base), .v (I (zI (okS ((bif refE down (((txt L).size : Int) : Int) base (48 : Int) != (0 : Int) then { data := #[] : ByteArray } else (txt L).extract base.toNat (base + (48 : Int)).toNat).extract (24 : Nat) (48 : Nat))) (qS ((bif refE down (((txt L).size : Int) : Int) base (48 : Int) != (0 : Int) then { data := #[] : ByteArray } else (txt L).extract base.toNat (base + (48 : Int)).toNat).extract (24 : Nat) (48 : Nat))))), .v (I (zI (okS ((bif refE down (((txt L).size : Int) : Int) base (48 : Int) != (0 : Int) then { data := #[] : ByteArray } else (txt L).extract base.toNat (base + (48 : Int)).toNat).extract (24 : Nat) (48 : Nat))) (cS ((bif refE down (((txt L).size : Int) : Int) base (48 : Int) != (0 : Int) then { data := #[] : ByteArray } else (txt L).extract base.toNat (base + (48 : Int)).toNat).extract (24 : Nat) (48 : Nat))))), .v (I (zI (okS ((bif refE down (((txt L).size : Int) : Int) base (48 : Int) != (0 : Int) then { data := #[] : ByteArray } else (txt L).extract base.toNat (base + (48 : Int)).toNat).extract (24 : Nat) (48 : Nat))) (pS ((bif refE down (((txt L).size : Int) : Int) base (48 : Int) != (0 : Int) then { data := #[] : ByteArray } else (txt L).extract base.toNat (base + (48 : Int)).toNat).extract (24 : Nat) (48 : Nat))))), .v (I (zI (okS ((bif refE down (((txt L).size : Int) : Int) base (48 : Int) != (0 : Int) then { data := #[] : ByteArray } else (txt L).extract base.toNat (base + (48 : Int)).toNat).extract (24 : Nat) (48 : Nat))) (uS ((bif refE down (((txt L).size : Int) : Int) base (48 : Int) != (0 : Int) then { data := #[] : ByteArray } else (txt L).extract base.toNat (base + (48 : Int)).toNat).extract (24 : Nat) (48 : Nat))))), .v (I (zI (okS ((bif refE down (((txt L).size : Int) : Int) base (48 : Int) != (0 : Int) then { data := #[] : ByteArray } else (txt L).extract base.toNat (base + (48 : Int)).toNat).extract (24 : Nat) (48 : Nat))) (fS ((bif refE down (((txt L).size : Int) : Int) base (48 : Int) != (0 : Int) then { data := #[] : ByteArray } else (txt L).extract base.toNat (base + (48 : Int)).toNat).extract (24 : Nat) (48 : Nat))))), .v (I (zI (okS ((bif refE down (((txt L).size : Int) : Int) base (48 : Int) != (0 : Int) then { data := #[] : ByteArray } else (txt L).extract base.toNat (base + (48 : Int)).toNat).extract (24 : Nat) (48 : Nat))) (strAt ((bif refE down (((txt L).size : Int) : Int) base (48 : Int) != (0 : Int) then { data := #[] : ByteArray } else (txt L).extract base.toNat (base + (48 : Int)).toNat).extract (24 : Nat) (48 : Nat)) (9 : Int)))), .v (I (zI (okS ((bif refE down (((txt L).size : Int) : Int) base (48 : Int) != (0 : Int) then { data := #[] : ByteArray } else (txt L).extract base.toNat (base + (48 : Int)).toNat).extract (24 : Nat) (48 : Nat))) (strAt ((bif refE down (((txt L).size : Int) : Int) base (48 : Int) != (0 : Int) then { data := #[] : ByteArray } else (txt L).extract base.toNat (base + (48 : Int)).toNat).extract (24 : Nat) (48 : Nat)) (10 : Int)))), .v (I (zI (okS ((bif refE down (((txt L).size : Int) : Int) base (48 : Int) != (0 : Int) then { data := #[] : ByteArray } else (txt L).extract base.toNat (base + (48 : Int)).toNat).extract (24 : Nat) (48 : Nat))) (strAt ((bif refE down (((txt L).size : Int) : Int) base (48 : Int) != (0 : Int) then { data := #[] : ByteArray } else (txt L).extract base.toNat (base + (48 : Int)).toNat).extract (24 : Nat) (48 : Nat)) (11 : Int)))), .v (I (zI (okS ((bif refE down (((txt L).size : Int) : Int) base (48 : Int) != (0 : Int) then { data := #[] : ByteArray } else (txt L).extract base.toNat (base + (48 : Int)).toNat).extract (24 : Nat) (48 : Nat))) (nS ((bif refE down (((txt L).size : Int) : Int) base (48 : Int) != (0 : Int) then { data := #[] : ByteArray } else (txt L).extract base.toNat (base + (48 : Int)).toNat).extract (24 : Nat) (48 : Nat))))), .v (I 0)]], [true, true, true], [.live ⟨5, [.num .u8], L, true, mark⟩]⟩) else some (.tup [.one (.ptr 2 0), .one (.v (I 0))], ⟨[[.row 0, .ptr 1 0, .v (Bo down), .v (Bo waits), .v (I lets)], [.v (I mx), .v (I w)], [.ptr 0 0, .v (I base), .v (I 0), .v (I 0), .v (I 0), .v (I 0), .v (I 0), .v (I 0), .v (I 0), .v (I 0), .v (I 0), .v (I 0)]], [true, true, true], [.live ⟨5, [.num .u8], L, true, mark⟩]⟩)) else some (.tup [.one (.ptr 2 0), .one (.v (I 0))], ⟨[[.row 0, .ptr 1 0, .v (Bo down), .v (Bo waits), .v (I lets)], [.v (I mx), .v (I w)], [.ptr 0 0, .v (I base), .v (I 0), .v (I 0), .v (I 0), .v (I 0), .v (I 0), .v (I 0), .v (I 0), .v (I 0), .v (I 0), .v (I 0)]], [true, true, true], [.live ⟨5, [.num .u8], L, true, mark⟩]⟩)) else none)) else (bif true && (true && decide ((48 : Int) ≤ (((bif refE down (((txt L).size : Int) : Int) base (48 : Int) != (0 : Int) then { data := #[] : ByteArray } else (txt L).extract base.toNat (base + (48 : Int)).toNat).size : Int) : Int))) then (bif okS ((bif refE down (((txt L).size : Int) : Int) base (48 : Int) != (0 : Int) then { data := #[] : ByteArray } else (txt L).extract base.toNat (base + (48 : Int)).toNat).extract (24 : Nat) (48 : Nat)) then (bif decide (zI (okS ((bif refE down (((txt L).size : Int) : Int) base (48 : Int) != (0 : Int) then { data := #[] : ByteArray } else (txt L).extract base.toNat (base + (48 : Int)).toNat).extract (24 : Nat) (48 : Nat))) (qS ((bif refE down (((txt L).size : Int) : Int) base (48 : Int) != (0 : Int) then { data := #[] : ByteArray } else (txt L).extract base.toNat (base + (48 : Int)).toNat).extract (24 : Nat) (48 : Nat))) > (0 : Int)) then some (.tup [.one (.ptr 2 0), .one (.v (I 0))], ⟨[[.row 0, .ptr 1 0, .v (Bo down), .v (Bo waits), .v (I lets)], [.v (I mx), .v (I w)], [.ptr 0 0, .v (I base), .v (I (zI (okS ((bif refE down (((txt L).size : Int) : Int) base (48 : Int) != (0 : Int) then { data := #[] : ByteArray } else (txt L).extract base.toNat (base + (48 : Int)).toNat).extract (24 : Nat) (48 : Nat))) (qS ((bif refE down (((txt L).size : Int) : Int) base (48 : Int) != (0 : Int) then { data := #[] : ByteArray } else (txt L).extract base.toNat (base + (48 : Int)).toNat).extract (24 : Nat) (48 : Nat))))), .v (I (zI (okS ((bif refE down (((txt L).size : Int) : Int) base (48 : Int) != (0 : Int) then { data := #[] : ByteArray } else (txt L).extract base.toNat (base + (48 : Int)).toNat).extract (24 : Nat) (48 : Nat))) (cS ((bif refE down (((txt L).size : Int) : Int) base (48 : Int) != (0 : Int) then { data := #[] : ByteArray } else (txt L).extract base.toNat (base + (48 : Int)).toNat).extract (24 : Nat) (48 : Nat))))), .v (I (zI (okS ((bif refE down (((txt L).size : Int) : Int) base (48 : Int) != (0 : Int) then { data := #[] : ByteArray } else (txt L).extract base.toNat (base + (48 : Int)).toNat).extract (24 : Nat) (48 : Nat))) (pS ((bif refE down (((txt L).size : Int) : Int) base (48 : Int) != (0 : Int) then { data := #[] : ByteArray } else (txt L).extract base.toNat (base + (48 : Int)).toNat).extract (24 : Nat) (48 : Nat))))), .v (I (zI (okS ((bif refE down (((txt L).size : Int) : Int) base (48 : Int) != (0 : Int) then { data := #[] : ByteArray } else (txt L).extract base.toNat (base + (48 : Int)).toNat).extract (24 : Nat) (48 : Nat))) (uS ((bif refE down (((txt L).size : Int) : Int) base (48 : Int) != (0 : Int) then { data := #[] : ByteArray } else (txt L).extract base.toNat (base + (48 : Int)).toNat).extract (24 : Nat) (48 : Nat))))), .v (I (zI (okS ((bif refE down (((txt L).size : Int) : Int) base (48 : Int) != (0 : Int) then { data := #[] : ByteArray } else (txt L).extract base.toNat (base + (48 : Int)).toNat).extract (24 : Nat) (48 : Nat))) (fS ((bif refE down (((txt L).size : Int) : Int) base (48 : Int) != (0 : Int) then { data := #[] : ByteArray } else (txt L).extract base.toNat (base + (48 : Int)).toNat).extract (24 : Nat) (48 : Nat))))), .v (I (zI (okS ((bif refE down (((txt L).size : Int) : Int) base (48 : Int) != (0 : Int) then { data := #[] : ByteArray } else (txt L).extract base.toNat (base + (48 : Int)).toNat).extract (24 : Nat) (48 : Nat))) (strAt ((bif refE down (((txt L).size : Int) : Int) base (48 : Int) != (0 : Int) then { data := #[] : ByteArray } else (txt L).extract base.toNat (base + (48 : Int)).toNat).extract (24 : Nat) (48 : Nat)) (9 : Int)))), .v (I (zI (okS ((bif refE down (((txt L).size : Int) : Int) base (48 : Int) != (0 : Int) then { data := #[] : ByteArray } else (txt L).extract base.toNat (base + (48 : Int)).toNat).extract (24 : Nat) (48 : Nat))) (strAt ((bif refE down (((txt L).size : Int) : Int) base (48 : Int) != (0 : Int) then { data := #[] : ByteArray } else (txt L).extract base.toNat (base + (48 : Int)).toNat).extract (24 : Nat) (48 : Nat)) (10 : Int)))), .v (I (zI (okS ((bif refE down (((txt L).size : Int) : Int) base (48 : Int) != (0 : Int) then { data := #[] : ByteArray } else (txt L).extract base.toNat (base + (48 : Int)).toNat).extract (24 : Nat) (48 : Nat))) (strAt ((bif refE down (((txt L).size : Int) : Int) base (48 : Int) != (0 : Int) then { data := #[] : ByteArray } else (txt L).extract base.toNat (base + (48 : Int)).toNat).extract (24 : Nat) (48 : Nat)) (11 : Int)))), .v (I (zI (okS ((bif refE down (((txt L).size : Int) : Int) base (48 : Int) != (0 : Int) then { data := #[] : ByteArray } else (txt L).extract base.toNat (base + (48 : Int)).toNat).extract (24 : Nat) (48 : Nat))) (nS ((bif refE down (((txt L).size : Int) : Int) base (48 : Int) != (0 : Int) then { data := #[] : ByteArray } else (txt L).extract base.toNat (base + (48 : Int)).toNat).extract (24 : Nat) (48 : Nat))))), .v (I 0)]], [true, true, true], [.live ⟨5, [.num .u8], L, true, mark⟩]⟩) else some (.tup [.one (.ptr 2 0), .one (.v (I 0))], ⟨[[.row 0, .ptr 1 0, .v (Bo down), .v (Bo waits), .v (I lets)], [.v (I mx), .v (I w)], [.ptr 0 0, .v (I base), .v (I 0), .v (I 0), .v (I 0), .v (I 0), .v (I 0), .v (I 0), .v (I 0), .v (I 0), .v (I 0), .v (I 0)]], [true, true, true], [.live ⟨5, [.num .u8], L, true, mark⟩]⟩)) else some (.tup [.one (.ptr 2 0), .one (.v (I 0))], ⟨[[.row 0, .ptr 1 0, .v (Bo down), .v (Bo waits), .v (I lets)], [.v (I mx), .v (I w)], [.ptr 0 0, .v (I base), .v (I 0), .v (I 0), .v (I 0), .v (I 0), .v (I 0), .v (I 0), .v (I 0), .v (I 0), .v (I 0), .v (I 0)]], [true, true, true], [.live ⟨5, [.num .u8], L, true, mark⟩]⟩)) else none)) else none)) else none) := by kernel_rfl
theorem runKept (a b : ByteArray) : runG ΓLk L0 Try.prog Try.f36 [.v (S a), .v (S b)] M0 = 
    (bif okS a then (bif !okS b then some (.v (.tuple #[(I 0), (.agg #[(I (zI (okS a) (qS a))), (I (zI (okS a) (cS a))), (I (zI (okS a) (pS a))), (I (zI (okS a) (uS a))), (I (zI (okS a) (fS a))), (I (zI (okS a) (strAt a (9 : Int)))), (I (zI (okS a) (strAt a (10 : Int)))), (I (zI (okS a) (strAt a (11 : Int)))), (I (zI (okS a) (nS a)))])]), M0) else (bif decide (zI (okS a) (qS a) ≥ zI (okS b) (qS b)) then some (.v (.tuple #[(I 0), (.agg #[(I (zI (okS a) (qS a))), (I (zI (okS a) (cS a))), (I (zI (okS a) (pS a))), (I (zI (okS a) (uS a))), (I (zI (okS a) (fS a))), (I (zI (okS a) (strAt a (9 : Int)))), (I (zI (okS a) (strAt a (10 : Int)))), (I (zI (okS a) (strAt a (11 : Int)))), (I (zI (okS a) (nS a)))])]), M0) else (bif okS b then some (.v (.tuple #[(I 1), (.agg #[(I (zI (okS b) (qS b))), (I (zI (okS b) (cS b))), (I (zI (okS b) (pS b))), (I (zI (okS b) (uS b))), (I (zI (okS b) (fS b))), (I (zI (okS b) (strAt b (9 : Int)))), (I (zI (okS b) (strAt b (10 : Int)))), (I (zI (okS b) (strAt b (11 : Int)))), (I (zI (okS b) (nS b)))])]), M0) else some (.v (.tuple #[(I (-1)), (.agg #[(I 0), (I 0), (I 0), (I 0), (I 0), (I 0), (I 0), (I 0), (I 0)])]), M0)))) else (bif okS b then some (.v (.tuple #[(I 1), (.agg #[(I (zI (okS b) (qS b))), (I (zI (okS b) (cS b))), (I (zI (okS b) (pS b))), (I (zI (okS b) (uS b))), (I (zI (okS b) (fS b))), (I (zI (okS b) (strAt b (9 : Int)))), (I (zI (okS b) (strAt b (10 : Int)))), (I (zI (okS b) (strAt b (11 : Int)))), (I (zI (okS b) (nS b)))])]), M0) else some (.v (.tuple #[(I (-1)), (.agg #[(I 0), (I 0), (I 0), (I 0), (I 0), (I 0), (I 0), (I 0), (I 0)])]), M0))) := by kernel_rfl
end Go.Proofs.Ytlhgaehjkpjniaa

namespace Go.Proofs.Ytlhgaehjkpjniaa
open Go Go.Proofs Go.Sx
set_option linter.unusedVariables false
def svE (right : Bool) (e : Int) : Int := bif right then e else 1
def svI (ok : Bool) (x y : Int) : Int := bif ok then x else y
def svB (ok : Bool) (x y : Bool) : Bool := bif ok then x else y
def svT (ok : Bool) (x y : ByteArray) : ByteArray := bif ok then x else y
noncomputable def gSave (xs : List SV) (m : Mem) : Option (Bool × SV × Mem) :=
  match xs, m with
  | [.ptr 0 0, .v (.agg ⟨[.int .i64 q', .int .i64 c', .int .i64 p', .int .i64 s', .int .i64 f', .int .i64 v', .int .i64 d', .int .i64 i', .int .i64 n']⟩)], ⟨[[.ptr 1 0, .v (.int .i64 base), .v (.int .i64 q), .v (.int .i64 c), .v (.int .i64 p), .v (.int .i64 s), .v (.int .i64 f), .v (.int .i64 v), .v (.int .i64 d), .v (.int .i64 i), .v (.int .i64 n), .v (.int .i64 next)], [.row 0, .ptr 2 0, .v (.bool down), .v (.bool waits), .v (.int .i64 lets)], [.v (.int .i64 mx), .v (.int .i64 w)]], [true, true, true], [.live ⟨5, [.num .u8], L, true, mark⟩]⟩ =>
    some (okL L lets, .v (I (svE (rightL (wI (q + 1)) c' p' s' f' v' d' i' n') (wrE (txt L) down waits (wI (base + wI (next * 24))) (recS (wI (q + 1)) c' p' s' f' v' d' i' n')))),
      ML base (svI (rightL (wI (q + 1)) c' p' s' f' v' d' i' n' && wrE (txt L) down waits (wI (base + wI (next * 24))) (recS (wI (q + 1)) c' p' s' f' v' d' i' n') == 0) (wI (q + 1)) q) (svI (rightL (wI (q + 1)) c' p' s' f' v' d' i' n' && wrE (txt L) down waits (wI (base + wI (next * 24))) (recS (wI (q + 1)) c' p' s' f' v' d' i' n') == 0) c' c) (svI (rightL (wI (q + 1)) c' p' s' f' v' d' i' n' && wrE (txt L) down waits (wI (base + wI (next * 24))) (recS (wI (q + 1)) c' p' s' f' v' d' i' n') == 0) p' p) (svI (rightL (wI (q + 1)) c' p' s' f' v' d' i' n' && wrE (txt L) down waits (wI (base + wI (next * 24))) (recS (wI (q + 1)) c' p' s' f' v' d' i' n') == 0) s' s) (svI (rightL (wI (q + 1)) c' p' s' f' v' d' i' n' && wrE (txt L) down waits (wI (base + wI (next * 24))) (recS (wI (q + 1)) c' p' s' f' v' d' i' n') == 0) f' f) (svI (rightL (wI (q + 1)) c' p' s' f' v' d' i' n' && wrE (txt L) down waits (wI (base + wI (next * 24))) (recS (wI (q + 1)) c' p' s' f' v' d' i' n') == 0) v' v) (svI (rightL (wI (q + 1)) c' p' s' f' v' d' i' n' && wrE (txt L) down waits (wI (base + wI (next * 24))) (recS (wI (q + 1)) c' p' s' f' v' d' i' n') == 0) d' d) (svI (rightL (wI (q + 1)) c' p' s' f' v' d' i' n' && wrE (txt L) down waits (wI (base + wI (next * 24))) (recS (wI (q + 1)) c' p' s' f' v' d' i' n') == 0) i' i) (svI (rightL (wI (q + 1)) c' p' s' f' v' d' i' n' && wrE (txt L) down waits (wI (base + wI (next * 24))) (recS (wI (q + 1)) c' p' s' f' v' d' i' n') == 0) n' n) (svI (rightL (wI (q + 1)) c' p' s' f' v' d' i' n' && wrE (txt L) down waits (wI (base + wI (next * 24))) (recS (wI (q + 1)) c' p' s' f' v' d' i' n') == 0) ((wI (next + 1)).tmod 2) next)
        (rowT (svT (rightL (wI (q + 1)) c' p' s' f' v' d' i' n') (wrB (txt L) down waits lets (wI (base + wI (next * 24))) (recS (wI (q + 1)) c' p' s' f' v' d' i' n')) (txt L))) mark mx (svI (rightL (wI (q + 1)) c' p' s' f' v' d' i' n') (wrV (txt L) mx w down (wI (base + wI (next * 24))) (recS (wI (q + 1)) c' p' s' f' v' d' i' n')) w) (svB (rightL (wI (q + 1)) c' p' s' f' v' d' i' n') (wrD (txt L) down waits (wI (base + wI (next * 24))) (recS (wI (q + 1)) c' p' s' f' v' d' i' n')) down) (svB (rightL (wI (q + 1)) c' p' s' f' v' d' i' n') (wrW (txt L) down waits (wI (base + wI (next * 24))) (recS (wI (q + 1)) c' p' s' f' v' d' i' n')) waits) lets)
  | [.v (.pointer none), .v (.agg ⟨[.int .i64 q', .int .i64 c', .int .i64 p', .int .i64 s', .int .i64 f', .int .i64 v', .int .i64 d', .int .i64 i', .int .i64 n']⟩)], ⟨[], [], []⟩ => some (true, .v (I 9), M0)
  | _, _ => none
theorem runSaveN (q' c' p' s' f' v' d' i' n' : Int) : runG ΓLw L0 Try.prog Try.f38 [.v (.pointer none), .v (.agg #[I q', I c', I p', I s', I f', I v', I d', I i', I n'])] M0 = some (.v (I 9), M0) := by kernel_rfl
theorem gSave_ok : ∀ xs m r m', gSave xs m = some (true, r, m') → CallOk Try.prog 38 xs m r m' := by
  intro xs m r m' h
  unfold gSave at h
  split at h
  · rename_i q' c' p' s' f' v' d' i' n' base q c p s f v d i n next down waits lets mx w L mark
    obtain ⟨h1, rfl, rfl⟩ := some_t2 h
    refine runOk (Λ := L0) OkLw Try.func38 rfl (fun z _ _ => l0Ok' _ z) ?_
    refine (runSave base q c p s f v d i n next down waits lets mx w L mark q' c' p' s' f' v' d' i' n').trans ?_
    have hL : rowT (txt L) = L := (okL_iff.1 h1).1.symm
    rw [h1]
    cases hr : rightL (wI (q + 1)) c' p' s' f' v' d' i' n'
    · show _ = some (_, ML base q c p s f v d i n next (rowT (txt L)) mark mx w down waits lets)
      rw [hL]
      rfl
    · by_cases he : wrE (txt L) down waits (wI (base + wI (next * 24))) (recS (wI (q + 1)) c' p' s' f' v' d' i' n') = 0
      · rw [he]
        rfl
      · rw [bne_iff_ne.2 he, beq_eq_false_iff_ne.2 he]
        rfl
  · rename_i q' c' p' s' f' v' d' i' n'
    obtain ⟨h1, rfl, rfl⟩ := some_t2 h
    refine runOk (Λ := L0) OkLw Try.func38 rfl (fun z _ _ => l0Ok' _ z) ?_
    exact runSaveN q' c' p' s' f' v' d' i' n'
  · cases h
def has0 (a : ByteArray) : Bool := okS a && decide (zI (okS a) (qS a) > 0)
def has1 (a b : ByteArray) : Bool := okS b && (bif has0 a then decide (zI (okS b) (qS b) > zI (okS a) (qS a)) else decide (zI (okS b) (qS b) > 0))
def opI (a b : ByteArray) (g : ByteArray → Int) : Int := bif has1 a b then zI (okS b) (g b) else bif has0 a then zI (okS a) (g a) else 0
def opN (a b : ByteArray) : Int := bif has1 a b then 0 else bif has0 a then 1 else 0
def sl0 (B : ByteArray) (base : Int) : ByteArray := (B.extract base.toNat (base + 48).toNat).extract 0 24
def sl1 (B : ByteArray) (base : Int) : ByteArray := (B.extract base.toNat (base + 48).toNat).extract 24 48
def at9 (s : ByteArray) : Int := strAt s 9
def at10 (s : ByteArray) : Int := strAt s 10
def at11 (s : ByteArray) : Int := strAt s 11
def opM (base : Int) (a b : ByteArray) (L : List (List Dat)) (mark : Bool) (mx w : Int) (down waits : Bool) (lets : Int) : Mem := ⟨[[.row 0, .ptr 1 0, .v (Bo down), .v (Bo waits), .v (I lets)], [.v (I mx), .v (I w)], [.ptr 0 0, .v (I base), .v (I (opI a b qS)), .v (I (opI a b cS)), .v (I (opI a b pS)), .v (I (opI a b uS)), .v (I (opI a b fS)), .v (I (opI a b at9)), .v (I (opI a b at10)), .v (I (opI a b at11)), .v (I (opI a b nS)), .v (I (opN a b))]], [true, true, true], [.live ⟨5, [.num .u8], L, true, mark⟩]⟩
noncomputable def gOpenS (xs : List SV) (m : Mem) : Option (Bool × SV × Mem) :=
  match xs, m with
  | [.ptr 0 0, .v (.int .i64 base)], ⟨[[.row 0, .ptr 1 0, .v (.bool down), .v (.bool waits), .v (.int .i64 lets)], [.v (.int .i64 mx), .v (.int .i64 w)]], [true, true], [.live ⟨5, [.num .u8], L, true, mark⟩]⟩ =>
    some (okL L lets && refE down ((txt L).size : Int) base 48 == 0, .tup [.one (.ptr 2 0), .one (.v (I 0))], opM base (sl0 (txt L) base) (sl1 (txt L) base) L mark mx w down waits lets)
  | _, _ => none
noncomputable def gOpenF (xs : List SV) (m : Mem) : Option (Bool × Value) :=
  match xs, m with
  | [.ptr 0 0, .v (.int .i64 base)], ⟨[[.row 0, .ptr 1 0, .v (.bool down), .v (.bool waits), .v (.int .i64 lets)], [.v (.int .i64 mx), .v (.int .i64 w)]], [true, true], [.live ⟨5, [.num .u8], L, true, mark⟩]⟩ =>
    some (okL L lets && refE down ((txt L).size : Int) base 48 != 0, .tuple #[.pointer none, I (refE down ((txt L).size : Int) base 48)])
  | _, _ => none
theorem gOpenF_ok : ∀ xs m r, gOpenF xs m = some (true, r) → CallOk Try.prog 35 xs m (.v r) m := by
  intro xs m r h
  unfold gOpenF at h
  split at h
  · rename_i base down waits lets mx w L mark
    obtain ⟨h1, rfl⟩ := some_t h
    rw [Bool.and_eq_true] at h1
    refine runOk (Λ := L0) OkLk Try.func35 rfl (fun z _ _ => l0Ok' _ z) ?_
    refine (runOpen base down waits lets mx w L mark).trans ?_
    rw [h1.1, h1.2]
    rfl
  · cases h
theorem gOpenS_ok : ∀ xs m r m', gOpenS xs m = some (true, r, m') → CallOk Try.prog 35 xs m r m' := by
  intro xs m r m' h
  unfold gOpenS at h
  split at h
  · rename_i base down waits lets mx w L mark
    obtain ⟨h1, rfl, rfl⟩ := some_t2 h
    rw [Bool.and_eq_true, beq_iff_eq] at h1
    obtain ⟨hL, hr⟩ := h1
    obtain ⟨_, hB, _⟩ := okL_iff.1 hL
    obtain ⟨_, b0, _, b1⟩ := (refE_ok (by omega)).1 hr
    refine runOk (Λ := L0) OkLk Try.func35 rfl (fun z _ _ => l0Ok' _ z) ?_
    refine (runOpen base down waits lets mx w L mark).trans ?_
    have hz : ((txt L).extract base.toNat (base + 48).toNat).size = 48 := by rw [ByteArray.size_extract]; omega
    rw [hL, hr]
    simp only [bne_self_eq_false, cond_false, cond_true, hz]
    unfold opM opI opN has1 has0 sl0 sl1 at9 at10 at11
    generalize ((txt L).extract base.toNat (base + 48).toNat).extract 0 24 = a
    generalize ((txt L).extract base.toNat (base + 48).toNat).extract 24 48 = b
    cases okS a <;> cases okS b
    · rfl
    · cases decide (zI true (qS b) > 0) <;> rfl
    · cases decide (zI true (qS a) > 0) <;> rfl
    · cases decide (zI true (qS a) > 0)
      · cases decide (zI true (qS b) > 0) <;> rfl
      · cases decide (zI true (qS b) > zI true (qS a)) <;> rfl
  · cases h
def kp0 (a b : ByteArray) : Bool := okS a && (!okS b || decide (zI (okS a) (qS a) ≥ zI (okS b) (qS b)))
def kpK (a b : ByteArray) : Int := bif kp0 a b then 0 else bif okS b then 1 else -1
def kpC (a b : ByteArray) (g : ByteArray → Int) : Int := bif kp0 a b then zI (okS a) (g a) else bif okS b then zI (okS b) (g b) else 0
def gKept (vs : List Value) : Option (Bool × Value) :=
  match vs with
  | [.string a, .string b] => some (true, .tuple #[I (kpK a b), .agg #[I (kpC a b qS), I (kpC a b cS), I (kpC a b pS), I (kpC a b uS), I (kpC a b fS), I (kpC a b at9), I (kpC a b at10), I (kpC a b at11), I (kpC a b nS)]])
  | _ => none
theorem gKept_ok : ∀ vs r, gKept vs = some (true, r) → ∀ m, CallOk Try.prog 36 (vs.map .v) m (.v r) m := by
  intro vs r h
  unfold gKept at h
  split at h
  · rename_i a b
    obtain ⟨_, rfl⟩ := some_t h
    refine runV (vs := [S a, S b]) (Λ := L0) (m' := M0) OkLk Try.func36 rfl (fun z z1 z2 => l0Ok' _ z) ?_
    refine (runKept a b).trans ?_
    unfold kpK kpC kp0 at9 at10 at11
    cases okS a <;> cases okS b
    · rfl
    · rfl
    · rfl
    · cases decide (zI true (qS a) ≥ zI true (qS b)) <;> rfl
  · cases h
noncomputable def ΓLn : Orc := addCl 38 gSave (addVal 36 gKept ΓLk)
theorem OkLn : ΓLn.Ok Try.prog := addCl_ok (addVal_ok OkLk gKept_ok) gSave_ok
noncomputable def ΓLo : Orc := addCl 35 gOpenS ΓLn
theorem OkLo : ΓLo.Ok Try.prog := addCl_ok OkLn gOpenS_ok
noncomputable def ΓLp : Orc := addRd 35 gOpenF ΓLn
theorem OkLp : ΓLp.Ok Try.prog := addRd_ok OkLn gOpenF_ok
end Go.Proofs.Ytlhgaehjkpjniaa

