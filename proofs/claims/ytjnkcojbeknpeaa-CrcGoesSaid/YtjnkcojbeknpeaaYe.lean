/-
  The laws CrcTells, CrcGoes, CrcEnds and CrcRows over numbers. No condition.
-/
import Derived.Test.YtjnkcojbeknpeaaYd
namespace Go.Proofs.Ytjnkcojbeknpeaa
open Go Go.Proofs Go.Sx
theorem szS_of {s : ByteArray} (h : s.size ≤ 9223372036854775807) : szS s = true := Nat.ble_eq_true_of_le h
theorem in16_of {x : Int} (h : 0 ≤ x ∧ x < 65536) : in16 x = true := by
  obtain ⟨n, rfl⟩ : ∃ n : Nat, x = (n : Int) := ⟨x.toNat, by omega⟩
  exact inN_of (by omega)
theorem in16c : in16 65535 = true := by kernel_rfl
theorem run3 (s : ByteArray) (x : Int) : runA Γd L0 Try.prog Try.f3 [.v (Z s), .v (U16 x)] =
    bif decide ((s.size : Int) > 2000) then some (.v (.bool true))
    else bif szS s then bif in16 65535 && szS s then bif R16 65535 s == R16 65535 s then bif szS s then bif szS s then bif V32 s == V32 s then bif in16 x && szS s then bif in16 x && szS s then some (.v (.bool (R16 x s == R16 x s)))
      else none else none else some (.v (.bool false)) else none else none else some (.v (.bool false)) else none else none := by kernel_rfl
theorem crcTells (s : ByteArray) (x : Int) (hs : s.size ≤ 281474976710656) (hx : 0 ≤ x ∧ x < 65536) : runA Γd L0 Try.prog Try.f3 [.v (Z s), .v (U16 x)] = some (.v (.bool true)) := by
  rw [run3, szS_of (Nat.le_trans hs (by decide)), in16_of hx, in16c]
  cases decide ((s.size : Int) > 2000) <;> simp
theorem R16_lt (x : Int) (s : ByteArray) (hx : 0 ≤ x ∧ x < 65536) : 0 ≤ R16 x s ∧ R16 x s < 65536 := by
  unfold R16
  have := fold_lt (f := p16) (m := 65536) (fun n b => p16_lt b) s.data.toList x.toNat (by omega)
  omega
theorem R16_append (x : Int) (s t : ByteArray) : R16 (R16 x s) t = R16 x (s ++ t) := by
  unfold R16
  rw [ByteArray.data_append, Array.toList_append, List.foldl_append, Int.toNat_natCast]
theorem run4 (s t : ByteArray) : runA Γd L0 Try.prog Try.f4 [.v (Z s), .v (Z t)] =
    bif decide (wI ((s.size : Int) + (t.size : Int)) > 2000) then some (.v (.bool true))
    else bif szS s then bif in16 (R16 65535 s) && szS t then bif Nat.ble (s.size + t.size) 9223372036854775807 then bif szS (s ++ t) then some (.v (.bool (R16 (R16 65535 s) t == R16 65535 (s ++ t))))
      else none else none else none else none := by kernel_rfl
theorem crcGoes (s t : ByteArray) (hs : s.size ≤ 281474976710656) (ht : t.size ≤ 281474976710656) : runA Γd L0 Try.prog Try.f4 [.v (Z s), .v (Z t)] = some (.v (.bool true)) := by
  rw [run4, szS_of (by omega), in16_of (R16_lt _ _ (by decide)), szS_of (show t.size ≤ _ by omega), szS_of (show (s ++ t).size ≤ _ by rw [ByteArray.size_append]; omega), show Nat.ble (s.size + t.size) 9223372036854775807 = true from Nat.ble_eq_true_of_le (by omega), R16_append]
  cases decide (wI ((s.size : Int) + (t.size : Int)) > 2000) <;> simp
/-- The two bytes of a sum. -/
def hi (x : Int) : Int := IntKind.u8.wrap (Int.fdiv x (2 ^ min (Int.toNat 8) 16))
def lo (x : Int) : Int := IntKind.u8.wrap x
theorem run7 (s : ByteArray) : runA Γd L0 Try.prog Try.f7 [.v (Z s)] =
    bif decide ((s.size : Int) > 2000) then some (.v (.bool true))
    else bif szS s then bif Nat.ble (s.size + (strOfNums [hi (R16 65535 s), lo (R16 65535 s)]).size) 9223372036854775807 then bif szS (s ++ strOfNums [hi (R16 65535 s), lo (R16 65535 s)]) then some (.v (.bool (R16 65535 (s ++ strOfNums [hi (R16 65535 s), lo (R16 65535 s)]) == 0)))
      else none else none else none := by kernel_rfl
theorem ends {n : Nat} (h : n < 65536) : p16 (p16 n (UInt8.ofNat (n / 256))) (UInt8.ofNat (n % 256)) = 0 := by
  have h1 : (UInt8.ofNat (n / 256)).toNat = n / 256 := by simp; omega
  have h2 : (UInt8.ofNat (n % 256)).toNat = n % 256 := by simp
  have e1 : p16 n (UInt8.ofNat (n / 256)) = n % 256 * 256 := by
    unfold p16
    rw [h1]
    have : Nat.xor n (n / 256 * 256) = n % 256 := by
      show n ^^^ (n / 256 * 256) = _
      conv => lhs; rw [split8 n]
      rw [Nat.xor_comm, ← Nat.xor_assoc]
      rw [show (n / 256 * 256 ^^^ n % 256) / 256 = n / 256 from by rw [← split8 n], Nat.xor_self, Nat.zero_xor]
    rw [this, N16_low (by omega)]
  rw [e1]
  unfold p16
  rw [h2]
  show N16 ((n % 256 * 256) ^^^ (n % 256 * 256)) = 0
  rw [Nat.xor_self]
  kernel_rfl
theorem crcEnds (s : ByteArray) (hs : s.size ≤ 281474976710656) : runA Γd L0 Try.prog Try.f7 [.v (Z s)] = some (.v (.bool true)) := by
  have hz : (strOfNums [hi (R16 65535 s), lo (R16 65535 s)]).size = 2 := by rw [strOfNums_size]; rfl
  rw [run7, szS_of (by omega), hz, szS_of (show (s ++ strOfNums [hi (R16 65535 s), lo (R16 65535 s)]).size ≤ _ by rw [ByteArray.size_append, hz]; omega), show Nat.ble (s.size + 2) 9223372036854775807 = true from Nat.ble_eq_true_of_le (by omega)]
  have hr := R16_lt 65535 s (by decide)
  obtain ⟨n, hn⟩ : ∃ n : Nat, R16 65535 s = (n : Int) := ⟨(R16 65535 s).toNat, by omega⟩
  have e : R16 65535 (s ++ strOfNums [hi (R16 65535 s), lo (R16 65535 s)]) = 0 := by
    rw [← R16_append, hn]
    have e1 : hi (n : Int) = ((n / 256 : Nat) : Int) := by
      unfold hi
      rw [show min (Int.toNat 8) 16 = 8 from rfl, Int.fdiv_eq_ediv_of_nonneg _ (by decide), show (n : Int) / 2 ^ 8 = ((n / 256 : Nat) : Int) by omega, wrap8]
      omega
    have e2 : lo (n : Int) = ((n % 256 : Nat) : Int) := wrap8 n
    unfold R16
    rw [e1, e2, strOfNums_data]
    simp only [List.map_cons, List.map_nil, Int.toNat_natCast, List.foldl_cons, List.foldl_nil]
    rw [ends (by omega)]
    rfl
  rw [e]
  cases decide ((s.size : Int) > 2000) <;> rfl
theorem u16_wf {n : Int} (h : (Lit.int .u16 n).wf = true) : 0 ≤ n ∧ n < 65536 := by
  have e : IntKind.u16.min = 0 ∧ IntKind.u16.max = 65535 := by decide
  simp only [Lit.wf, Bool.and_eq_true, decide_eq_true_eq, e.1, e.2] at h
  omega
theorem i64_wf {n : Int} (h : (Lit.int .i64 n).wf = true) : -9223372036854775808 ≤ n ∧ n < 9223372036854775808 := by
  have e : IntKind.i64.min = -9223372036854775808 ∧ IntKind.i64.max = 9223372036854775807 := by decide
  simp only [Lit.wf, Bool.and_eq_true, decide_eq_true_eq, e.1, e.2] at h
  omega
theorem u32_wf {n : Int} (h : (Lit.int .u32 n).wf = true) : 0 ≤ n ∧ n < 4294967296 := by
  have e : IntKind.u32.min = 0 ∧ IntKind.u32.max = 4294967295 := by decide
  simp only [Lit.wf, Bool.and_eq_true, decide_eq_true_eq, e.1, e.2] at h
  omega
end Go.Proofs.Ytjnkcojbeknpeaa

namespace Go.Proofs.Ytjnkcojbeknpeaa
open Go Go.Proofs Go.Sx
def ad (a : Int) : Int := IntKind.i64.wrap (((BitVec.ofInt 64 a &&& BitVec.ofInt 64 255).toNat : Nat) : Int)
def ax (a b : Int) : Int := IntKind.i64.wrap (((BitVec.ofInt 64 (ad a) ^^^ BitVec.ofInt 64 (ad b)).toNat : Nat) : Int)
def bx16 (x y : Int) : Int := IntKind.u16.wrap (((BitVec.ofInt 16 x ^^^ BitVec.ofInt 16 y).toNat : Nat) : Int)
def bx32 (x y : Int) : Int := IntKind.u32.wrap (((BitVec.ofInt 32 x ^^^ BitVec.ofInt 32 y).toNat : Nat) : Int)
def u16of (a : Int) : Int := IntKind.u16.wrap (IntKind.u16.wrap a * 2 ^ min (Int.toNat 8) 16)
def u32of (a : Int) : Int := IntKind.u32.wrap a
theorem run5 (a b : Int) : runA Γd L0 Try.prog Try.f5 [.v (I a), .v (I b)] =
    bif decide (a ≥ 0) then
      bif inRow (ad a) then
        bif bx16 (r16 (ad a)) (r16 (ad b)) != r16 (ax a b) then some (.v (.bool false))
        else bif bx32 (r32 (ad a)) (r32 (ad b)) != r32 (ax a b) then some (.v (.bool false))
        else bif !decide (a < 256) then (bif r16 a == 0 then some (.v (.bool (r32 a == 0))) else some (.v (.bool false)))
        else bif in16 (u16of a) then (bif r16 a == S16 (u16of a) then (bif in32 (u32of a) then some (.v (.bool (r32 a == S32 (u32of a)))) else none) else some (.v (.bool false))) else none
      else none
    else
      bif inRow (ad a) then
        bif bx16 (r16 (ad a)) (r16 (ad b)) != r16 (ax a b) then some (.v (.bool false))
        else bif bx32 (r32 (ad a)) (r32 (ad b)) != r32 (ax a b) then some (.v (.bool false))
        else (bif r16 a == 0 then some (.v (.bool (r32 a == 0))) else some (.v (.bool false)))
      else none := by kernel_rfl
def na (a : Int) : Nat := (a % 18446744073709551616).toNat % 256
theorem na_lt (a : Int) : na a < 256 := Nat.mod_lt _ (by decide)
theorem ad_eq (a : Int) : ad a = ((na a : Nat) : Int) := by
  have h : ((BitVec.ofInt 64 a &&& BitVec.ofInt 64 255).toNat : Nat) = na a := by
    rw [BitVec.toNat_and, BitVec.toNat_ofInt, BitVec.toNat_ofInt]
    show (a % 18446744073709551616).toNat &&& (2 ^ 8 - 1) = _
    rw [Nat.and_two_pow_sub_one_eq_mod]
    rfl
  unfold ad
  rw [h]
  have := na_lt a
  exact wI_id (by omega)
theorem ax_eq (a b : Int) : ax a b = ((na a ^^^ na b : Nat) : Int) := by
  have h1 := na_lt a
  have h2 := na_lt b
  have h3 : na a ^^^ na b < 256 := Nat.xor_lt_two_pow (n := 8) h1 h2
  unfold ax
  rw [ad_eq, ad_eq, xorB 64 _ _ (Nat.lt_of_lt_of_le h1 (by decide)) (Nat.lt_of_lt_of_le h2 (by decide))]
  have h4 : ((Nat.xor (na a) (na b) : Nat) : Int) < 256 := by
    show ((na a ^^^ na b : Nat) : Int) < 256
    omega
  exact wI_id (by omega)
theorem inRow_nat {n : Nat} (h : n < 256) : inRow (n : Int) = true := by
  unfold inRow
  rw [decide_eq_true (by omega), decide_eq_true (by omega)]; rfl
theorem r16_nat {n : Nat} (h : n < 256) : r16 (n : Int) = ((N16 (n * 256) : Nat) : Int) := by
  unfold r16
  rw [inRow_nat h, cond_true, Int.toNat_natCast, tab16_get h]
theorem r32_nat {n : Nat} (h : n < 256) : r32 (n : Int) = ((N32 n : Nat) : Int) := by
  unfold r32
  rw [inRow_nat h, cond_true, Int.toNat_natCast, tab32_get h]
theorem bx16_nat {x y : Nat} (hx : x < 65536) (hy : y < 65536) : bx16 (x : Int) (y : Int) = ((x ^^^ y : Nat) : Int) := by
  unfold bx16
  rw [xorB 16 _ _ hx hy, wrap16, Nat.mod_eq_of_lt (xor_lt 16 hx hy)]
  rfl
theorem bx32_nat {x y : Nat} (hx : x < 4294967296) (hy : y < 4294967296) : bx32 (x : Int) (y : Int) = ((x ^^^ y : Nat) : Int) := by
  have h1 : x < 2 ^ 32 := by rw [two32]; exact hx
  have h2 : y < 2 ^ 32 := by rw [two32]; exact hy
  unfold bx32
  rw [xorB 32 _ _ h1 h2, wrap32, Nat.mod_eq_of_lt (by rw [← two32]; exact xor_lt 32 h1 h2)]
  rfl
theorem rows_eq (a b : Int) : (bx16 (r16 (ad a)) (r16 (ad b)) != r16 (ax a b)) = false ∧ (bx32 (r32 (ad a)) (r32 (ad b)) != r32 (ax a b)) = false := by
  have h1 := na_lt a
  have h2 := na_lt b
  have h3 : na a ^^^ na b < 256 := Nat.xor_lt_two_pow (n := 8) h1 h2
  have g1 : N16 (na a * 256) < 65536 := N16_lt (by omega)
  have g2 : N16 (na b * 256) < 65536 := N16_lt (by omega)
  have g3 : N32 (na a) < 4294967296 := N32_lt (by omega)
  have g4 : N32 (na b) < 4294967296 := N32_lt (by omega)
  rw [ax_eq, ad_eq, ad_eq, r16_nat h1, r16_nat h2, r16_nat h3, r32_nat h1, r32_nat h2, r32_nat h3, bx16_nat g1 g2, bx32_nat g3 g4, mul256_xor, N16_xor (by omega) (by omega), N32_xor]
  exact ⟨by simp, by simp⟩
theorem inRow_out {a : Int} (h : ¬ (0 ≤ a ∧ a < 256)) : inRow a = false := by
  unfold inRow
  by_cases h1 : a ≥ 0
  · rw [decide_eq_true h1, decide_eq_false (by omega)]; rfl
  · rw [decide_eq_false h1]; rfl
theorem crcRows (a b : Int) (_ : -9223372036854775808 ≤ a ∧ a < 9223372036854775808) (_ : -9223372036854775808 ≤ b ∧ b < 9223372036854775808) : runA Γd L0 Try.prog Try.f5 [.v (I a), .v (I b)] = some (.v (.bool true)) := by
  obtain ⟨e1, e2⟩ := rows_eq a b
  have e3 : inRow (ad a) = true := by rw [ad_eq]; exact inRow_nat (na_lt a)
  rw [run5, e1, e2, e3]
  simp only [cond_true, cond_false]
  by_cases h0 : a ≥ 0
  · rw [decide_eq_true h0]
    by_cases h1 : a < 256
    · obtain ⟨n, rfl⟩ : ∃ n : Nat, a = (n : Int) := ⟨a.toNat, by omega⟩
      have hn : n < 256 := by omega
      have u1 : u16of (n : Int) = ((n * 256 : Nat) : Int) := by
        unfold u16of
        rw [wrap16 n, Nat.mod_eq_of_lt (show n < 65536 by omega), show ((n : Nat) : Int) * 2 ^ min (Int.toNat 8) 16 = ((n * 256 : Nat) : Int) by rw [show min (Int.toNat 8) 16 = 8 from rfl]; omega, wrap16, Nat.mod_eq_of_lt (by omega)]
      have u2 : u32of (n : Int) = ((n : Nat) : Int) := by
        unfold u32of
        rw [wrap32, Nat.mod_eq_of_lt (by omega)]
      rw [decide_eq_true h1, u1, u2, show in16 ((n * 256 : Nat) : Int) = true from inN_of (by omega), show in32 ((n : Nat) : Int) = true from inN_of (by omega), r16_nat hn, r32_nat hn]
      unfold S16 S32
      rw [Int.toNat_natCast, Int.toNat_natCast]
      simp
    · rw [decide_eq_false h1]
      unfold r16 r32
      rw [inRow_out (by omega)]
      rfl
  · rw [decide_eq_false h0]
    unfold r16 r32
    rw [inRow_out (by omega)]
    rfl
end Go.Proofs.Ytjnkcojbeknpeaa

