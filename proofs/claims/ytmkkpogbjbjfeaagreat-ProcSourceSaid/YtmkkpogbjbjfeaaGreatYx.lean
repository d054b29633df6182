/-
  What is known of this program: sums, bytes and numbers; tables that are made once.
-/
import Derived.Test.YtmkkpogbjbjfeaaGreatYd
import Derived.Test.YtmkkpogbjbjfeaaGreatYc
import Derived.Laws.Strings
import Derived.Test.YtmkkpogbjbjfeaaGreatSx
import Derived.Tactics
import Derived.Tactics2
import Derived.Defers
import Derived.Laws.Pointers
import Derived.Laws.LoneSync
import Derived.RegionTactic
import Derived.RegionCalls
import Derived.ChangeAlike
namespace Go.Proofs.YtmkkpogbjbjfeaaGreat
open Go Go.Proofs Go.Sx
/-! One step of a sum, and eight. -/
/-! Sums of texts. -/
end Go.Proofs.YtmkkpogbjbjfeaaGreat

namespace Go.Proofs.YtmkkpogbjbjfeaaGreat
open Go Go.Proofs Go.Sx
/-! Texts as lists of bytes. -/
abbrev L (s : ByteArray) : List UInt8 := s.data.toList
theorem L_inj {a b : ByteArray} : L a = L b ↔ a = b := by
  constructor
  · intro h
    exact ByteArray.ext (Array.toList_inj.1 h)
  · rintro rfl; rfl
theorem L_len (s : ByteArray) : (L s).length = s.size := by simp [L]
theorem L_app (a b : ByteArray) : L (a ++ b) = L a ++ L b := by simp [L, ByteArray.data_append]
theorem L_ext (s : ByteArray) (a b : Nat) : L (s.extract a b) = ((L s).drop a).take (b - a) := by
  simp [L, ByteArray.data_extract, List.extract_eq_take_drop]
theorem L_nums (xs : List Int) : L (strOfNums xs) = xs.map fun n => UInt8.ofNat n.toNat := rfl
theorem beq_S (a b : ByteArray) : (a == b) = true ↔ a = b := by
  show ((a.data == b.data) = true) ↔ a = b
  rw [beq_iff_eq]
  exact ByteArray.ext_iff.symm
theorem beq_L (a b : ByteArray) : (a == b) = (L a == L b) := by
  rw [Bool.eq_iff_iff, beq_S]
  simp only [beq_iff_eq, L_inj]
/-- As the model asks it of two texts. -/
theorem beq_T (a b : ByteArray) : (a.toList == b.toList) = (L a == L b) := by rw [ByteArray.toList_eq, ByteArray.toList_eq]
theorem beq_TS (a b : ByteArray) : (a.toList == b.toList) = (a == b) := by rw [beq_T, beq_L]
theorem strAt_L (s : ByteArray) (k : Nat) : strAt s (k : Int) = (((L s)[k]?.map fun b => (b.toNat : Int)).getD 0) := by
  cases h : (L s)[k]? with
  | some b =>
    have h' : s.data[k]? = some b := by simpa [L] using h
    rw [strAt_some h']
    rfl
  | none =>
    unfold strAt
    rw [Int.toNat_natCast]
    have hk : s.size ≤ k := by
      rw [← L_len]
      simpa using h
    have : s[k]? = none := by rw [getElem?_neg]; omega
    rw [this]
    rfl
theorem ext_all (s : ByteArray) : s.extract 0 s.size = s := by
  rw [← L_inj, L_ext, List.drop_zero, List.take_of_length_le (by rw [L_len]; omega)]
theorem ext_app {s t : ByteArray} {n : Nat} (h : n ≤ s.size) : (s ++ t).extract n (s ++ t).size = s.extract n s.size ++ t := by
  rw [← L_inj, L_ext, L_app, L_app, L_ext, List.drop_append_of_le_length (by rw [L_len]; exact h), ByteArray.size_append, List.take_of_length_le (by simp only [List.length_append, List.length_drop, L_len]; omega), List.take_of_length_le (by simp only [List.length_drop, L_len]; omega)]
theorem ext_app0 {s t : ByteArray} {a b : Nat} (h : b ≤ s.size) : (s ++ t).extract a b = s.extract a b := by
  rw [← L_inj, L_ext, L_ext, L_app]
  rcases Nat.lt_or_ge a b with h1 | h1
  · rw [List.drop_append_of_le_length (by rw [L_len]; omega), List.take_append_of_le_length (by simp only [List.length_drop, L_len]; omega)]
  · rw [show b - a = 0 by omega]
    simp
theorem app_nil (a : ByteArray) : a ++ (⟨#[]⟩ : ByteArray) = a := by rw [← L_inj, L_app]; simp [L]
theorem nil_app (a : ByteArray) : (⟨#[]⟩ : ByteArray) ++ a = a := by rw [← L_inj, L_app]; simp [L]
theorem wrap8 (n : Nat) : IntKind.u8.wrap (n : Int) = ((n % 256 : Nat) : Int) := by
  rw [← wr_eq true]; simp only [wr]; omega

/-! Frames. -/
def two16 (x : Int) : ByteArray := strOfNums [IntKind.u8.wrap (x.fdiv (2 ^ min (Int.toNat 8) IntKind.u16.bits)), IntKind.u8.wrap x]
def sumT (s : ByteArray) : ByteArray := two16 (R16 65535 s)
def bodyT (k : Int) (p : ByteArray) : ByteArray := strOfNums [IntKind.u8.wrap k, IntKind.u8.wrap (p.size : Int)] ++ p
def mark : ByteArray := ⟨#[165, 90]⟩
def prt (k : Int) (p : ByteArray) : ByteArray := (mark ++ bodyT k p) ++ sumT (bodyT k p)
def rightB (k : Int) (p : ByteArray) : Bool := decide (k ≥ 0) && (decide (k ≤ 255) && decide ((p.size : Int) ≤ 64))
def printB (k : Int) (p : ByteArray) : ByteArray := bif rightB k p then prt k p else ⟨#[]⟩
theorem two16_size (x : Int) : (two16 x).size = 2 := by simp [two16, strOfNums_size]
theorem bodyT_size (k : Int) (p : ByteArray) : (bodyT k p).size = p.size + 2 := by
  unfold bodyT
  rw [ByteArray.size_append, strOfNums_size]
  simp only [List.length_cons, List.length_nil]
  omega
theorem prt_size (k : Int) (p : ByteArray) : (prt k p).size = p.size + 6 := by
  unfold prt sumT
  rw [ByteArray.size_append, ByteArray.size_append, bodyT_size, two16_size]
  show 2 + _ + 2 = _
  omega

/-- What the bytes begin with may become no frame. -/
def badT (s : ByteArray) : Bool := (decide ((s.size : Int) > 0) && strAt s 0 != 165) || ((decide ((s.size : Int) > 1) && strAt s 1 != 90) || (decide ((s.size : Int) > 3) && decide (strAt s 3 > 64)))
def lenN (s : ByteArray) : Int := 6 + strAt s 3
def shortB (s : ByteArray) : Bool := decide ((s.size : Int) < 4) || decide ((s.size : Int) < lenN s)
def kOf (s : ByteArray) : Int := strAt s 2
def pOf (s : ByteArray) : ByteArray := s.extract 4 (lenN s - 2).toNat
def okB (s : ByteArray) : Bool := prt (kOf s) (pOf s) == s.extract 0 (lenN s).toNat
def rdE (s : ByteArray) : Int := bif badT s then 3 else bif shortB s then 5 else bif okB s then 0 else 4
def rdK (s : ByteArray) : Int := bif rdE s == 0 then kOf s else 0
def rdP (s : ByteArray) : ByteArray := bif rdE s == 0 then pOf s else ⟨#[]⟩
def rdN (s : ByteArray) : Int := bif rdE s == 0 then lenN s else 0

theorem strAt_range (s : ByteArray) (k : Nat) : 0 ≤ strAt s (k : Int) ∧ strAt s (k : Int) < 256 := by
  rw [strAt_L]
  cases (L s)[k]? with
  | none => simp
  | some b => have := byte_lt b; simp; omega
theorem lenN_range (s : ByteArray) : 6 ≤ lenN s ∧ lenN s < 262 := by
  have := strAt_range s 3
  unfold lenN
  rw [show (3 : Int) = ((3 : Nat) : Int) from rfl]
  omega
theorem rdE_cases (s : ByteArray) : (rdE s = 3 ∧ badT s = true) ∨ (rdE s = 5 ∧ badT s = false ∧ shortB s = true) ∨ (rdE s = 0 ∧ badT s = false ∧ shortB s = false ∧ okB s = true) ∨ (rdE s = 4 ∧ badT s = false ∧ shortB s = false ∧ okB s = false) := by
  unfold rdE
  cases badT s <;> cases shortB s <;> cases okB s <;> simp
theorem not_short {s : ByteArray} (h : shortB s = false) : 4 ≤ s.size ∧ (lenN s).toNat ≤ s.size ∧ 6 ≤ (lenN s).toNat := by
  unfold shortB at h
  simp only [Bool.or_eq_false_iff, decide_eq_false_iff_not] at h
  have := lenN_range s
  omega
theorem rd_ok {s : ByteArray} (h : rdE s = 0) : (rdN s).toNat ≤ s.size ∧ 6 ≤ (rdN s).toNat ∧ rdN s = ((rdN s).toNat : Int) ∧ rdK s = kOf s ∧ rdP s = pOf s ∧ rdN s = lenN s ∧ (rdP s).size + 6 = (rdN s).toNat ∧ (rdP s).size ≤ 64 ∧ 0 ≤ rdK s ∧ rdK s ≤ 255 ∧ badT s = false ∧ shortB s = false ∧ okB s = true := by
  rcases rdE_cases s with ⟨h1, h2⟩ | ⟨h1, h2, h3⟩ | ⟨h1, h2, h3, h4⟩ | ⟨h1, h2, h3, h4⟩
  · omega
  · omega
  · obtain ⟨g1, g2, g3⟩ := not_short h3
    have e1 : rdN s = lenN s := by unfold rdN; rw [h]; rfl
    have e2 : rdK s = kOf s := by unfold rdK; rw [h]; rfl
    have e3 : rdP s = pOf s := by unfold rdP; rw [h]; rfl
    have hl := lenN_range s
    have hb := h2
    unfold badT at hb
    simp only [Bool.or_eq_false_iff, Bool.and_eq_false_iff, decide_eq_false_iff_not] at hb
    have h64 : strAt s 3 ≤ 64 := by omega
    have hp : (rdP s).size + 6 = (lenN s).toNat := by
      rw [e3]
      unfold pOf
      rw [ByteArray.size_extract]
      omega
    have hk := strAt_range s 2
    refine ⟨by rw [e1]; exact g2, by rw [e1]; exact g3, by rw [e1]; omega, e2, e3, e1, by rw [e1]; exact hp, ?_, ?_, ?_, h2, h3, h4⟩
    · unfold lenN at hp
      omega
    · rw [e2]; exact hk.1
    · rw [e2]; unfold kOf; have := hk.2; rw [show (2 : Int) = ((2 : Nat) : Int) from rfl]; omega
  · omega
theorem rd_short {s : ByteArray} (h : rdE s = 5) : s.size < 70 := by
  rcases rdE_cases s with ⟨h1, h2⟩ | ⟨h1, h2, h3⟩ | ⟨h1, h2, h3, h4⟩ | ⟨h1, h2, h3, h4⟩
  · omega
  · unfold shortB at h3
    unfold badT at h2
    simp only [Bool.or_eq_true, decide_eq_true_eq, Bool.or_eq_false_iff, Bool.and_eq_false_iff, decide_eq_false_iff_not] at h2 h3
    unfold lenN at h3
    omega
  · omega
  · omega
theorem rd_nil : rdE ⟨#[]⟩ = 5 := by rfl
theorem rd_some {s : ByteArray} (h : rdE s ≠ 5) : 0 < s.size := by
  apply Classical.byContradiction
  intro hn
  have : s = ⟨#[]⟩ := by
    rw [← L_inj]
    have : (L s).length = 0 := by rw [L_len]; omega
    exact List.eq_nil_of_length_eq_zero this
  rw [this] at h
  exact h rd_nil
end Go.Proofs.YtmkkpogbjbjfeaaGreat

namespace Go.Proofs.YtmkkpogbjbjfeaaGreat
open Go Go.Proofs Go.Sx
set_option linter.unusedVariables false
/-! Numbers as bytes, the highest one first. -/
end Go.Proofs.YtmkkpogbjbjfeaaGreat

namespace Go.Proofs.YtmkkpogbjbjfeaaGreat
open Go Go.Proofs Go.Sx
theorem nums_app (a b : List Int) : strOfNums (a ++ b) = strOfNums a ++ strOfNums b := by
  rw [← L_inj, L_app, L_nums, L_nums, L_nums, List.map_append]
theorem be_size (k : Nat) (x : Int) : (be k x).size = k := by
  unfold be
  rw [strOfNums_size]
  simp
theorem be_u64_1 (x : Int) : be 1 (IntKind.u64.wrap x) = be 1 x := by
  have e : ∀ j : Int, IntKind.u64.wrap j = j % 18446744073709551616 := fun j => by rw [← wr_eq true]; rfl
  show strOfNums [_] = strOfNums [_]
  rw [e]
  congr 2
  show x % 18446744073709551616 / 256 ^ 0 % 256 = x / 256 ^ 0 % 256
  omega
theorem be_u64_2 (x : Int) : be 2 (IntKind.u64.wrap x) = be 2 x := by
  have e : ∀ j : Int, IntKind.u64.wrap j = j % 18446744073709551616 := fun j => by rw [← wr_eq true]; rfl
  have h0 : x % 18446744073709551616 / 256 ^ 0 % 256 = x / 256 ^ 0 % 256 := by omega
  have h1 : x % 18446744073709551616 / 256 ^ 1 % 256 = x / 256 ^ 1 % 256 := by omega
  show strOfNums [_ / 256 ^ 1 % 256, _ / 256 ^ 0 % 256] = strOfNums [_ / 256 ^ 1 % 256, _ / 256 ^ 0 % 256]
  rw [e, h0, h1]
theorem be_u64_4 (x : Int) : be 4 (IntKind.u64.wrap x) = be 4 x := by
  have e : ∀ j : Int, IntKind.u64.wrap j = j % 18446744073709551616 := fun j => by rw [← wr_eq true]; rfl
  have h0 : x % 18446744073709551616 / 256 ^ 0 % 256 = x / 256 ^ 0 % 256 := by omega
  have h1 : x % 18446744073709551616 / 256 ^ 1 % 256 = x / 256 ^ 1 % 256 := by omega
  have h2 : x % 18446744073709551616 / 256 ^ 2 % 256 = x / 256 ^ 2 % 256 := by omega
  have h3 : x % 18446744073709551616 / 256 ^ 3 % 256 = x / 256 ^ 3 % 256 := by omega
  show strOfNums [_ / 256 ^ 3 % 256, _ / 256 ^ 2 % 256, _ / 256 ^ 1 % 256, _ / 256 ^ 0 % 256] = strOfNums [_ / 256 ^ 3 % 256, _ / 256 ^ 2 % 256, _ / 256 ^ 1 % 256, _ / 256 ^ 0 % 256]
  rw [e, h0, h1, h2, h3]
end Go.Proofs.YtmkkpogbjbjfeaaGreat

namespace Go.Proofs.YtmkkpogbjbjfeaaGreat
open Go Go.Proofs Go.Sx
set_option linter.unusedVariables false
/-! crc's table: its rows are made once. -/
end Go.Proofs.YtmkkpogbjbjfeaaGreat

namespace Go.Proofs.YtmkkpogbjbjfeaaGreat
open Go Go.Proofs Go.Sx Go.RowKit
set_option linter.unusedVariables false
/-! sync.Once: what is asked for first is done, then never more. -/
end Go.Proofs.YtmkkpogbjbjfeaaGreat

namespace Go.Proofs.YtmkkpogbjbjfeaaGreat
open Go Go.Proofs Go.Sx
set_option linter.unusedVariables false
end Go.Proofs.YtmkkpogbjbjfeaaGreat

namespace Go.Proofs.YtmkkpogbjbjfeaaGreat
open Go Go.Proofs Go.Sx
set_option linter.unusedVariables false
/-! which of the two it is -/
end Go.Proofs.YtmkkpogbjbjfeaaGreat

