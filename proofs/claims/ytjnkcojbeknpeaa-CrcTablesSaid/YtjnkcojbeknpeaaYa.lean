/-
  What is known of this program: atomics; contracts of the eight steps of both sums, and of the sums of texts, step by step. No condition.
-/
import Derived.Test.YtjnkcojbeknpeaaSy
import Derived.Test.YtjnkcojbeknpeaaProg
namespace Go.Proofs.Ytjnkcojbeknpeaa
open Go Go.Proofs Go.Sx
theorem mixed : Try.prog.follows .mixedOrders = true := by kernel_rfl
theorem names : namesOk Try.prog = true := by kernel_rfl
def noC : FuncId → List Arg → Option (Bool × Res) := fun _ _ => none
def noEq : TypeId → List Value → List Value → Option Bool := fun _ _ _ => none
def noOnce : FuncId → List Value → Nat → FuncId → Nat → Option (Bool × List Value) := fun _ _ _ _ _ => none
def Γ0 : Orc := { call := noC, eqv := noEq, eff := addE 37 .i64, rd := loadE 32 .i64 }
theorem Ok0 : Γ0.Ok Try.prog := ⟨(fun _ _ _ h => by cases h), loadE_ok Try.func32 (by kernel_rfl) (by kernel_rfl) (by kernel_rfl) (by kernel_rfl), addE_ok Try.func37 (by kernel_rfl) (by kernel_rfl) (by kernel_rfl) (by kernel_rfl), (fun _ _ _ _ _ _ h => by cases h), (fun _ _ _ _ h => by cases h)⟩
def addC (t : FuncId → List Arg → Option (Bool × Res)) (Γ : Orc) : Orc := { Γ with call := fun f vs => match t f vs with | some r => some r | none => Γ.call f vs }
def addX (t : FuncId → List Arg → Option (Bool × Res × List (List Value))) (Γ : Orc) : Orc := { Γ with eff := fun f vs => match t f vs with | some r => some r | none => Γ.eff f vs }
theorem addC_ok {t : FuncId → List Arg → Option (Bool × Res)} {Γ : Orc} {P : Program} (h : Γ.Ok P) (ht : ∀ f vs r, t f vs = some (true, r) → CallOk P f vs r) : (addC t Γ).Ok P := by
  refine ⟨fun f vs r hr => ?_, h.rd, h.eff, h.once, h.eqv⟩
  simp only [addC] at hr
  split at hr
  · rename_i q hq
    injection hr with hr
    subst hr
    exact ht f vs r hq
  · exact h.call f vs r hr
theorem addX_ok {t : FuncId → List Arg → Option (Bool × Res × List (List Value))} {Γ : Orc} {P : Program} (h : Γ.Ok P) (ht : ∀ f vs r outs, t f vs = some (true, r, outs) → EffOk P f vs r outs) : (addX t Γ).Ok P := by
  refine ⟨h.call, h.rd, fun f vs r outs hr => ?_, h.once, h.eqv⟩
  simp only [addX] at hr
  split at hr
  · rename_i q hq
    injection hr with hr
    subst hr
    exact ht f vs r outs hq
  · exact h.eff f vs r outs hr
def addR (t : FuncId → List Arg → Option (Bool × Value)) (Γ : Orc) : Orc := { Γ with rd := fun f vs => match t f vs with | some r => some r | none => Γ.rd f vs }
theorem addR_ok {t : FuncId → List Arg → Option (Bool × Value)} {Γ : Orc} {P : Program} (h : Γ.Ok P) (ht : ∀ f vs r, t f vs = some (true, r) → EffOk P f vs (.v r) (ptrCells vs)) : (addR t Γ).Ok P := by
  refine ⟨h.call, fun f vs r hr => ?_, h.eff, h.once, h.eqv⟩
  simp only [addR] at hr
  split at hr
  · rename_i q hq
    injection hr with hr
    subst hr
    exact ht f vs r hq
  · exact h.rd f vs r hr
def addO (t : FuncId → List Value → Nat → FuncId → Nat → Option (Bool × List Value)) (Γ : Orc) : Orc := { Γ with once := fun f vs o g o' => match t f vs o g o' with | some r => some r | none => Γ.once f vs o g o' }
theorem addO_ok {t : FuncId → List Value → Nat → FuncId → Nat → Option (Bool × List Value)} {Γ : Orc} {P : Program} (h : Γ.Ok P) (ht : ∀ f vs o g o' outs, t f vs o g o' = some (true, outs) → OnceOk P f vs o g o' outs) : (addO t Γ).Ok P := by
  refine ⟨h.call, h.rd, h.eff, fun f vs o g o' outs hr => ?_, h.eqv⟩
  simp only [addO] at hr
  split at hr
  · rename_i q hq
    injection hr with hr
    subst hr
    exact ht f vs o g o' outs hq
  · exact h.once f vs o g o' outs hr
def L0 : LoopOrc := fun _ _ => none
end Go.Proofs.Ytjnkcojbeknpeaa

namespace Go.Proofs.Ytjnkcojbeknpeaa
open Go Go.Proofs Go.Sx

/-! One step of a sum, and eight. -/
def n16 (n : Nat) : Nat := bif Nat.ble 32768 n then Nat.xor (2 * n % 65536) 4129 else 2 * n % 65536
def n32 (n : Nat) : Nat := bif Nat.beq (n % 2) 1 then Nat.xor (n / 2) 3988292384 else n / 2
def it (f : Nat → Nat) : Nat → Nat → Nat
  | 0, n => n
  | k + 1, n => it f k (f n)
def N16 (n : Nat) : Nat := it n16 8 n
def N32 (n : Nat) : Nat := it n32 8 n

theorem xor_lt {a b : Nat} (k : Nat) (ha : a < 2 ^ k) (hb : b < 2 ^ k) : Nat.xor a b < 2 ^ k := Nat.xor_lt_two_pow ha hb
theorem n16_lt (n : Nat) : n16 n < 65536 := by
  unfold n16
  cases Nat.ble 32768 n
  · exact Nat.mod_lt _ (by decide)
  · exact xor_lt 16 (Nat.mod_lt _ (by decide)) (by decide)
theorem n32_lt {n : Nat} (h : n < 4294967296) : n32 n < 4294967296 := by
  unfold n32
  cases Nat.beq (n % 2) 1
  · show n / 2 < _; omega
  · exact xor_lt 32 (by have : (2:Nat) ^ 32 = 4294967296 := by decide
                        omega) (by decide)
theorem it_lt {f : Nat → Nat} {m : Nat} (hf : ∀ n, n < m → f n < m) : ∀ (k n : Nat), n < m → it f k n < m
  | 0, _, h => h
  | k + 1, n, h => it_lt hf k (f n) (hf n h)
theorem N16_lt {n : Nat} (h : n < 65536) : N16 n < 65536 := it_lt (fun n _ => n16_lt n) 8 n h
theorem N32_lt {n : Nat} (h : n < 4294967296) : N32 n < 4294967296 := it_lt (fun _ => n32_lt) 8 n h

theorem wrap16 (n : Nat) : IntKind.u16.wrap (n : Int) = ((n % 65536 : Nat) : Int) := by
  rw [← wr_eq true]; simp only [wr]; omega
theorem wrap32 (n : Nat) : IntKind.u32.wrap (n : Int) = ((n % 4294967296 : Nat) : Int) := by
  rw [← wr_eq true]; simp only [wr]; omega
theorem wrapI (n : Int) : IntKind.i64.wrap n = if n % 18446744073709551616 ≥ 9223372036854775808 then n % 18446744073709551616 - 18446744073709551616 else n % 18446744073709551616 := by
  rw [← wr_eq true .i64 n]
  simp only [wr]
  split <;> simp_all <;> omega
def wI (n : Int) : Int := IntKind.i64.wrap n
theorem wI_id {n : Int} (h : -9223372036854775808 ≤ n ∧ n < 9223372036854775808) : wI n = n := by
  unfold wI
  rw [wrapI]
  split <;> omega
theorem xorB (w a b : Nat) (ha : a < 2 ^ w) (hb : b < 2 ^ w) : (((BitVec.ofInt w (a : Int) ^^^ BitVec.ofInt w (b : Int)).toNat : Nat) : Int) = ((Nat.xor a b : Nat) : Int) := by
  rw [BitVec.toNat_xor, BitVec.ofInt_natCast, BitVec.ofInt_natCast, BitVec.toNat_ofNat, BitVec.toNat_ofNat, Nat.mod_eq_of_lt ha, Nat.mod_eq_of_lt hb]
  rfl
theorem andB (w a b : Nat) (ha : a < 2 ^ w) (hb : b < 2 ^ w) : (((BitVec.ofInt w (a : Int) &&& BitVec.ofInt w (b : Int)).toNat : Nat) : Int) = ((Nat.land a b : Nat) : Int) := by
  rw [BitVec.toNat_and, BitVec.ofInt_natCast, BitVec.ofInt_natCast, BitVec.toNat_ofNat, BitVec.toNat_ofNat, Nat.mod_eq_of_lt ha, Nat.mod_eq_of_lt hb]
  rfl

/-- What eight rounds come to. -/
theorem eight {α : Type} (E : Nat → Int → Int → Option α) (F : Int → Option α) (c : Int → Bool) (A B : Int → Int) (f : Nat → Nat) (m : Nat) (hf : ∀ n, n < m → f n < m) (hc : ∀ n : Nat, n < m → (bif c (n : Int) then A (n : Int) else B (n : Int)) = ((f n : Nat) : Int))
    (hE : ∀ k x i, E (k + 1) x i = bif decide (i < (8 : Int)) then (bif c x then E k (A x) (wI (i + 1)) else E k (B x) (wI (i + 1))) else F x) :
    ∀ (j n : Nat), j ≤ 8 → n < m → E (j + 1) (n : Int) ((8 - j : Nat) : Int) = F ((it f j n : Nat) : Int) := by
  intro j
  induction j with
  | zero =>
    intro n _ _
    rw [hE]
    rfl
  | succ j ih =>
    intro n hj hn
    rw [hE, show decide (((8 - (j + 1) : Nat) : Int) < 8) = true from decide_eq_true (by omega), wI_id (by omega), show ((8 - (j + 1) : Nat) : Int) + 1 = ((8 - j : Nat) : Int) by omega]
    have hx := hc n hn
    have h2 : (bif c (n : Int) then E (j + 1) (A n) ((8 - j : Nat) : Int) else E (j + 1) (B n) ((8 - j : Nat) : Int)) = E (j + 1) (bif c (n : Int) then A (n : Int) else B (n : Int)) ((8 - j : Nat) : Int) := by
      cases c (n : Int) <;> rfl
    rw [cond_true, h2, hx, ih (f n) (by omega) (hf n hn)]
    rfl

def M0 : Mem := ⟨[], [], []⟩
def U16 (x : Int) : Value := .int .u16 x
def U32 (x : Int) : Value := .int .u32 x
def I (x : Int) : Value := .int .i64 x
def a16 (x : Int) : Int := IntKind.u16.wrap (((BitVec.ofInt 16 (IntKind.u16.wrap (x * 2 ^ min (Int.toNat 1) 16)) ^^^ BitVec.ofInt 16 4129).toNat : Nat) : Int)
def b16 (x : Int) : Int := IntKind.u16.wrap (x * 2 ^ min (Int.toNat 1) 16)
theorem step_n16 (n : Nat) (_ : n < 65536) : (bif decide ((n : Int) ≥ 32768) then a16 n else b16 n) = ((n16 n : Nat) : Int) := by
  have e : (n : Int) * 2 ^ min (Int.toNat 1) 16 = ((2 * n : Nat) : Int) := by
    rw [show min (Int.toNat 1) 16 = 1 from rfl]; omega
  unfold a16 b16 n16
  rw [e, wrap16 (2 * n), show (4129 : Int) = ((4129 : Nat) : Int) from rfl, xorB 16 _ _ (Nat.mod_lt _ (by decide)) (by decide), wrap16]
  by_cases h : 32768 ≤ n
  · rw [decide_eq_true (by omega), show Nat.ble 32768 n = true from by rw [Nat.ble_eq]; exact h]
    simp only [cond_true]
    rw [Nat.mod_eq_of_lt (xor_lt 16 (Nat.mod_lt _ (by decide)) (by decide))]
  · rw [decide_eq_false (by omega), show Nat.ble 32768 n = false from by rw [← Bool.not_eq_true, Nat.ble_eq]; exact h]
    rfl
def c32 (x : Int) : Bool := IntKind.u32.wrap (((BitVec.ofInt 32 x &&& BitVec.ofInt 32 1).toNat : Nat) : Int) == 1
def a32 (x : Int) : Int := IntKind.u32.wrap (((BitVec.ofInt 32 (Int.fdiv x (2 ^ min (Int.toNat 1) 32)) ^^^ BitVec.ofInt 32 3988292384).toNat : Nat) : Int)
def b32 (x : Int) : Int := Int.fdiv x (2 ^ min (Int.toNat 1) 32)
theorem two32 : (2 : Nat) ^ 32 = 4294967296 := by decide
theorem step_n32 (n : Nat) (h : n < 4294967296) : (bif c32 n then a32 n else b32 n) = ((n32 n : Nat) : Int) := by
  have e : Int.fdiv (n : Int) (2 ^ min (Int.toNat 1) 32) = ((n / 2 : Nat) : Int) := by
    rw [show min (Int.toNat 1) 32 = 1 from rfl, Int.fdiv_eq_ediv_of_nonneg _ (by decide)]; omega
  unfold c32 a32 b32 n32
  rw [e, show (3988292384 : Int) = ((3988292384 : Nat) : Int) from rfl, show (1 : Int) = ((1 : Nat) : Int) from rfl, andB 32 _ _ (by rw [two32]; exact h) (by decide), xorB 32 _ _ (by rw [two32]; omega) (by decide), wrap32, wrap32]
  have e2 : Nat.land n 1 = n % 2 := Nat.and_one_is_mod n
  rw [e2]
  rcases Nat.mod_two_eq_zero_or_one n with h0 | h0
  · rw [h0]; rfl
  · rw [h0, Nat.mod_eq_of_lt (xor_lt 32 (by rw [two32]; omega) (by decide))]; rfl
def d32 (x : Int) : Bool := Int.tmod x 2 == 1
def g32 (x : Int) : Int := IntKind.u32.wrap (((BitVec.ofInt 32 (IntKind.u32.wrap (Int.tdiv x 2)) ^^^ BitVec.ofInt 32 3988292384).toNat : Nat) : Int)
def h32 (x : Int) : Int := IntKind.u32.wrap (Int.tdiv x 2)
theorem step_r32 (n : Nat) (h : n < 4294967296) : (bif d32 n then g32 n else h32 n) = ((n32 n : Nat) : Int) := by
  have e : Int.tdiv (n : Int) 2 = ((n / 2 : Nat) : Int) := by
    rw [Int.tdiv_eq_ediv_of_nonneg (by omega)]; omega
  have e1 : Int.tmod (n : Int) 2 = ((n % 2 : Nat) : Int) := by
    rw [Int.tmod_eq_emod_of_nonneg (by omega)]; omega
  unfold d32 g32 h32 n32
  rw [e, e1, wrap32 (n / 2), Nat.mod_eq_of_lt (show n / 2 < 4294967296 by omega), show (3988292384 : Int) = ((3988292384 : Nat) : Int) from rfl, xorB 32 _ _ (by rw [two32]; omega) (by decide), wrap32]
  rcases Nat.mod_two_eq_zero_or_one n with h0 | h0
  · rw [h0]; rfl
  · rw [h0, Nat.mod_eq_of_lt (xor_lt 32 (by rw [two32]; omega) (by decide))]; rfl

/-! The loops. -/
def k24 : List Bool := maskOf 15 [4, 0]
def k23 : List Bool := maskOf 16 [4, 0]
def k18 : List Bool := maskOf 16 [3, 0]
def k19 : List Bool := maskOf 17 [3, 0]
def x24 : List Bool := maskOf 15 [0]
def x23 : List Bool := maskOf 16 [0]
def x19 : List Bool := maskOf 17 [0]
noncomputable def body24 : Code := loopAt (Try.f24.body.getD .skip) 0
noncomputable def body23 : Code := loopAt (Try.f23.body.getD .skip) 0
noncomputable def body18 : Code := loopAt (Try.f18.body.getD .skip) 0
noncomputable def body19 : Code := loopAt (Try.f19.body.getD .skip) 0
theorem loops24 : loopsOf (Try.f24.body.getD .skip) = [body24] := by kernel_rfl
theorem loops23 : loopsOf (Try.f23.body.getD .skip) = [body23] := by kernel_rfl
theorem loops18 : loopsOf (Try.f18.body.getD .skip) = [body18] := by kernel_rfl
theorem loops19 : loopsOf (Try.f19.body.getD .skip) = [body19] := by kernel_rfl
theorem loops24a : loopsOf body24 = [] := by kernel_rfl
theorem loops23a : loopsOf body23 = [] := by kernel_rfl
theorem loops18a : loopsOf body18 = [] := by kernel_rfl
theorem loops19a : loopsOf body19 = [] := by kernel_rfl
def K24 (e : Ex) (st : St) : Option (Ex × St) := some (e, cutG x24 st)
def K23 (e : Ex) (st : St) : Option (Ex × St) := some (e, cutG x23 st)
def K19 (e : Ex) (st : St) : Option (Ex × St) := some (e, cutG x19 st)
theorem step24 (k : Nat) (x i : Int) : evLoop Γ0 Try.prog L0 (cutG k24) body24 (k + 1) (mk k24 [.v (U16 x), .v (I i)] M0) K24 =
    bif decide (i < 8) then (bif decide (x ≥ 32768) then evLoop Γ0 Try.prog L0 (cutG k24) body24 k (mk k24 [.v (U16 (a16 x)), .v (I (wI (i + 1)))] M0) K24 else evLoop Γ0 Try.prog L0 (cutG k24) body24 k (mk k24 [.v (U16 (b16 x)), .v (I (wI (i + 1)))] M0) K24)
    else some (.exit 0, mk x24 [.v (U16 x)] M0) := by kernel_rfl
theorem step18 (k : Nat) (x i : Int) : evLoop Γ0 Try.prog L0 (cutG k18) body18 (k + 1) (mk k18 [.v (U16 x), .v (I i)] M0) K23 =
    bif decide (i < 8) then (bif decide (x ≥ 32768) then evLoop Γ0 Try.prog L0 (cutG k18) body18 k (mk k18 [.v (U16 (a16 x)), .v (I (wI (i + 1)))] M0) K23 else evLoop Γ0 Try.prog L0 (cutG k18) body18 k (mk k18 [.v (U16 (b16 x)), .v (I (wI (i + 1)))] M0) K23)
    else some (.exit 0, mk x23 [.v (U16 x)] M0) := by kernel_rfl
theorem step23 (k : Nat) (x i : Int) : evLoop Γ0 Try.prog L0 (cutG k23) body23 (k + 1) (mk k23 [.v (U32 x), .v (I i)] M0) K23 =
    bif decide (i < 8) then (bif c32 x then evLoop Γ0 Try.prog L0 (cutG k23) body23 k (mk k23 [.v (U32 (a32 x)), .v (I (wI (i + 1)))] M0) K23 else evLoop Γ0 Try.prog L0 (cutG k23) body23 k (mk k23 [.v (U32 (b32 x)), .v (I (wI (i + 1)))] M0) K23)
    else some (.exit 0, mk x23 [.v (U32 x)] M0) := by kernel_rfl
theorem step19 (k : Nat) (x i : Int) : evLoop Γ0 Try.prog L0 (cutG k19) body19 (k + 1) (mk k19 [.v (U32 x), .v (I i)] M0) K19 =
    bif decide (i < 8) then (bif d32 x then evLoop Γ0 Try.prog L0 (cutG k19) body19 k (mk k19 [.v (U32 (g32 x)), .v (I (wI (i + 1)))] M0) K19 else evLoop Γ0 Try.prog L0 (cutG k19) body19 k (mk k19 [.v (U32 (h32 x)), .v (I (wI (i + 1)))] M0) K19)
    else some (.exit 0, mk x19 [.v (U32 x)] M0) := by kernel_rfl

/-- From 0 to below m: said so that it stands still at once where the number isn't known. -/
def inN (m : Nat) (x : Int) : Bool :=
  match x with
  | .ofNat n => Nat.ble (n + 1) m
  | .negSucc _ => false
theorem inN_nat {m : Nat} {x : Int} (h : inN m x = true) : ∃ n : Nat, x = (n : Int) ∧ n < m := by
  cases x with
  | ofNat n => exact ⟨n, rfl, Nat.le_of_ble_eq_true h⟩
  | negSucc n => cases h
theorem inN_of {m n : Nat} (h : n < m) : inN m (n : Int) = true := Nat.ble_eq_true_of_le h
def in16 (x : Int) : Bool := inN 65536 x
def in32 (x : Int) : Bool := inN 4294967296 x
def S16 (x : Int) : Int := ((N16 x.toNat : Nat) : Int)
def S32 (x : Int) : Int := ((N32 x.toNat : Nat) : Int)
def G16 (kx : List Bool) (vals : List SV) (m : Mem) : Option (Bool × Ex × St) :=
  match vals, m with
  | [.v (.int .u16 x), .v (.int .i64 i)], ⟨[], [], []⟩ => some (i == 0 && in16 x, .exit 0, mk kx [.v (U16 (S16 x))] M0)
  | _, _ => none
def G32 (kx : List Bool) (vals : List SV) (m : Mem) : Option (Bool × Ex × St) :=
  match vals, m with
  | [.v (.int .u32 x), .v (.int .i64 i)], ⟨[], [], []⟩ => some (i == 0 && in32 x, .exit 0, mk kx [.v (U32 (S32 x))] M0)
  | _, _ => none
noncomputable def Λ24 : LoopOrc := fun _ st => viaK k24 (G16 x24) st
noncomputable def Λ18 : LoopOrc := fun _ st => viaK k18 (G16 x23) st
noncomputable def Λ23 : LoopOrc := fun _ st => viaK k23 (G32 x23) st
noncomputable def Λ19 : LoopOrc := fun _ st => viaK k19 (G32 x19) st
theorem in16_nat {x : Int} (h : in16 x = true) : ∃ n : Nat, x = (n : Int) ∧ n < 65536 := by
  exact inN_nat h
theorem in32_nat {x : Int} (h : in32 x = true) : ∃ n : Nat, x = (n : Int) ∧ n < 4294967296 := by
  exact inN_nat h
theorem loopOk24 (w0 : Base) : LoopOk Λ24 Try.prog w0 body24 := by
  refine loop_okK (Λ := L0) (kx := fun _ => x24) Ok0 mixed (fun b hb => by rw [loops24a] at hb; cases hb) (G := G16 x24) (fun _ => rfl) ?_
  intro vals m e st' h
  unfold G16 at h
  split at h
  · rename_i x i
    injection h with h
    injection h with h1 h
    injection h with h2 h3
    subst h2 h3
    simp only [Bool.and_eq_true, beq_iff_eq] at h1
    obtain ⟨rfl, h1⟩ := h1
    obtain ⟨n, rfl, hn⟩ := in16_nat h1
    exact ⟨9, eight (fun k x i => evLoop Γ0 Try.prog L0 (cutG k24) body24 k (mk k24 [.v (U16 x), .v (I i)] M0) K24) (fun x => some (.exit 0, mk x24 [.v (U16 x)] M0)) (fun x => decide (x ≥ 32768)) a16 b16 n16 65536 (fun n _ => n16_lt n) step_n16 step24 8 n (Nat.le_refl 8) hn⟩
  · cases h
theorem loopOk18 (w0 : Base) : LoopOk Λ18 Try.prog w0 body18 := by
  refine loop_okK (Λ := L0) (kx := fun _ => x23) Ok0 mixed (fun b hb => by rw [loops18a] at hb; cases hb) (G := G16 x23) (fun _ => rfl) ?_
  intro vals m e st' h
  unfold G16 at h
  split at h
  · rename_i x i
    injection h with h
    injection h with h1 h
    injection h with h2 h3
    subst h2 h3
    simp only [Bool.and_eq_true, beq_iff_eq] at h1
    obtain ⟨rfl, h1⟩ := h1
    obtain ⟨n, rfl, hn⟩ := in16_nat h1
    exact ⟨9, eight (fun k x i => evLoop Γ0 Try.prog L0 (cutG k18) body18 k (mk k18 [.v (U16 x), .v (I i)] M0) K23) (fun x => some (.exit 0, mk x23 [.v (U16 x)] M0)) (fun x => decide (x ≥ 32768)) a16 b16 n16 65536 (fun n _ => n16_lt n) step_n16 step18 8 n (Nat.le_refl 8) hn⟩
  · cases h
theorem loopOk23 (w0 : Base) : LoopOk Λ23 Try.prog w0 body23 := by
  refine loop_okK (Λ := L0) (kx := fun _ => x23) Ok0 mixed (fun b hb => by rw [loops23a] at hb; cases hb) (G := G32 x23) (fun _ => rfl) ?_
  intro vals m e st' h
  unfold G32 at h
  split at h
  · rename_i x i
    injection h with h
    injection h with h1 h
    injection h with h2 h3
    subst h2 h3
    simp only [Bool.and_eq_true, beq_iff_eq] at h1
    obtain ⟨rfl, h1⟩ := h1
    obtain ⟨n, rfl, hn⟩ := in32_nat h1
    exact ⟨9, eight (fun k x i => evLoop Γ0 Try.prog L0 (cutG k23) body23 k (mk k23 [.v (U32 x), .v (I i)] M0) K23) (fun x => some (.exit 0, mk x23 [.v (U32 x)] M0)) c32 a32 b32 n32 4294967296 (fun n => n32_lt) step_n32 step23 8 n (Nat.le_refl 8) hn⟩
  · cases h
theorem loopOk19 (w0 : Base) : LoopOk Λ19 Try.prog w0 body19 := by
  refine loop_okK (Λ := L0) (kx := fun _ => x19) Ok0 mixed (fun b hb => by rw [loops19a] at hb; cases hb) (G := G32 x19) (fun _ => rfl) ?_
  intro vals m e st' h
  unfold G32 at h
  split at h
  · rename_i x i
    injection h with h
    injection h with h1 h
    injection h with h2 h3
    subst h2 h3
    simp only [Bool.and_eq_true, beq_iff_eq] at h1
    obtain ⟨rfl, h1⟩ := h1
    obtain ⟨n, rfl, hn⟩ := in32_nat h1
    exact ⟨9, eight (fun k x i => evLoop Γ0 Try.prog L0 (cutG k19) body19 k (mk k19 [.v (U32 x), .v (I i)] M0) K19) (fun x => some (.exit 0, mk x19 [.v (U32 x)] M0)) d32 g32 h32 n32 4294967296 (fun n => n32_lt) step_r32 step19 8 n (Nat.le_refl 8) hn⟩
  · cases h
theorem run24 (x : Int) : run Γ0 Λ24 Try.prog Try.f24 [U16 x] = bif (0 : Int) == 0 && in16 x then some (U16 (S16 x)) else none := by kernel_rfl
theorem run18 (x : Int) : run Γ0 Λ18 Try.prog Try.f18 [U16 x] = bif (0 : Int) == 0 && in16 x then some (U16 (S16 x)) else none := by kernel_rfl
theorem run23 (x : Int) : run Γ0 Λ23 Try.prog Try.f23 [U32 x] = bif (0 : Int) == 0 && in32 x then some (U32 (S32 x)) else none := by kernel_rfl
theorem run19 (x : Int) : run Γ0 Λ19 Try.prog Try.f19 [U32 x] = bif (0 : Int) == 0 && in32 x then some (U32 (S32 x)) else none := by kernel_rfl

/-- Calls of the eight steps. -/
def t1 (f : FuncId) (vs : List Value) : Option (Bool × Value) :=
  match Nat.beq f 24 || Nat.beq f 18, Nat.beq f 23 || Nat.beq f 19, vs with
  | true, _, [.int .u16 x] => some (in16 x, U16 (S16 x))
  | _, true, [.int .u32 x] => some (in32 x, U32 (S32 x))
  | _, _, _ => none
theorem one_loop {fn : Func} {b0 : Code} {Λ : LoopOrc} (h1 : loopsOf (fn.body.getD .skip) = [b0]) (h2 : ∀ w0, LoopOk Λ Try.prog w0 b0) : ∀ z, ∀ b ∈ loopsOf (fn.body.getD .skip), LoopOk Λ Try.prog z b := by
  intro z b hb
  rw [h1, List.mem_singleton] at hb
  subst hb
  exact h2 z
theorem t1_ok : ∀ f vs r, t1 f vs = some (true, r) → CallOk Try.prog f (vs.map .v) (.v r) := by
  intro f vs r h
  unfold t1 at h
  split at h
  · rename_i x hf
    injection h with h
    injection h with h1 h2
    subst h2
    simp only [Bool.or_eq_true] at hf
    rcases hf with hf | hf
    · obtain rfl := Nat.eq_of_beq_eq_true hf
      exact callOk_of_runV (Λ := Λ24) Ok0 mixed names Try.func24 rfl (fun w => one_loop (fn := Try.f24) loops24 loopOk24 ⟨w, []⟩) (by show run Γ0 Λ24 Try.prog Try.f24 [U16 x] = _; rw [run24, h1]; rfl)
    · obtain rfl := Nat.eq_of_beq_eq_true hf
      exact callOk_of_runV (Λ := Λ18) Ok0 mixed names Try.func18 rfl (fun w => one_loop (fn := Try.f18) loops18 loopOk18 ⟨w, []⟩) (by show run Γ0 Λ18 Try.prog Try.f18 [U16 x] = _; rw [run18, h1]; rfl)
  · rename_i x hf
    injection h with h
    injection h with h1 h2
    subst h2
    simp only [Bool.or_eq_true] at hf
    rcases hf with hf | hf
    · obtain rfl := Nat.eq_of_beq_eq_true hf
      exact callOk_of_runV (Λ := Λ23) Ok0 mixed names Try.func23 rfl (fun w => one_loop (fn := Try.f23) loops23 loopOk23 ⟨w, []⟩) (by show run Γ0 Λ23 Try.prog Try.f23 [U32 x] = _; rw [run23, h1]; rfl)
    · obtain rfl := Nat.eq_of_beq_eq_true hf
      exact callOk_of_runV (Λ := Λ19) Ok0 mixed names Try.func19 rfl (fun w => one_loop (fn := Try.f19) loops19 loopOk19 ⟨w, []⟩) (by show run Γ0 Λ19 Try.prog Try.f19 [U32 x] = _; rw [run19, h1]; rfl)
  · cases h
def Γ1 : Orc := addC (tabV t1) Γ0
theorem Ok1 : Γ1.Ok Try.prog := addC_ok Ok0 (tabV_ok t1_ok)
end Go.Proofs.Ytjnkcojbeknpeaa

namespace Go.Proofs.Ytjnkcojbeknpeaa
open Go Go.Proofs Go.Sx

/-! Sums of texts. -/
def p16 (x : Nat) (b : UInt8) : Nat := N16 (Nat.xor x (b.toNat * 256))
def p32 (x : Nat) (b : UInt8) : Nat := N32 (Nat.xor x b.toNat)
theorem byte_lt (b : UInt8) : b.toNat < 256 := b.toNat_lt
theorem p16_lt {x : Nat} (b : UInt8) (h : x < 65536) : p16 x b < 65536 :=
  N16_lt (xor_lt 16 h (by have := byte_lt b; show _ < 65536; omega))
theorem p32_lt {x : Nat} (b : UInt8) (h : x < 4294967296) : p32 x b < 4294967296 :=
  N32_lt (xor_lt 32 h (by have := byte_lt b; rw [two32]; omega))
def R16 (x : Int) (s : ByteArray) : Int := ((s.data.toList.foldl p16 x.toNat : Nat) : Int)
def F32 (s : ByteArray) : Nat := s.data.toList.foldl p32 4294967295
theorem fold_lt {α : Type} {f : Nat → α → Nat} {m : Nat} (hf : ∀ n b, n < m → f n b < m) : ∀ (l : List α) (n : Nat), n < m → l.foldl f n < m
  | [], _, h => h
  | b :: l, n, h => fold_lt hf l _ (hf n b h)

theorem strAt_some {s : ByteArray} {k : Nat} {b : UInt8} (h : s.data[k]? = some b) : strAt s (k : Int) = (b.toNat : Int) := by
  unfold strAt
  have : s[(k : Int).toNat]? = some b := by
    rw [Int.toNat_natCast]
    have hk : k < s.size := by
      have := (Array.getElem?_eq_some_iff.1 h).1
      exact this
    rw [getElem?_pos s k hk]
    have h2 := (Array.getElem?_eq_some_iff.1 h).2
    rw [← h2]
    rfl
  rw [this]

/-- A loop over a text's bytes. -/
theorem overS {α : Type} (s : ByteArray) (hs : s.size ≤ 9223372036854775807) (E : Nat → Int → Int → Option α) (F : Int → Option α) (g : Int → Int → Bool) (A : Int → Int → Int) (f : Nat → UInt8 → Nat) (m : Nat) (hf : ∀ n b, n < m → f n b < m)
    (hg : ∀ (n k : Nat) b, n < m → s.data[k]? = some b → g n k = true ∧ A n k = ((f n b : Nat) : Int))
    (hE : ∀ k x i, E (k + 1) x i = bif decide (i < (s.size : Int)) then (bif decide (0 ≤ i) && decide (i < (s.size : Int)) then (bif g x i then E k (A x i) (wI (i + 1)) else none) else none) else F x) :
    ∀ (j k n : Nat), k + j = s.size → n < m → E (j + 1) (n : Int) (k : Int) = F (((s.data.toList.drop k).foldl f n : Nat) : Int) := by
  intro j
  induction j with
  | zero =>
    intro k n hk _
    rw [hE, show decide ((k : Int) < (s.size : Int)) = false from decide_eq_false (by omega)]
    rw [List.drop_eq_nil_of_le (by simp; omega)]
    rfl
  | succ j ih =>
    intro k n hk hn
    have hlt : k < s.data.size := by show k < s.size; omega
    obtain ⟨b, hb⟩ : ∃ b, s.data[k]? = some b := ⟨s.data[k], by simp⟩
    obtain ⟨h1, h2⟩ := hg n k b hn hb
    rw [hE, show decide ((k : Int) < (s.size : Int)) = true from decide_eq_true (by omega), show decide ((0 : Int) ≤ (k : Int)) = true from decide_eq_true (by omega), wI_id (by omega), h1, h2]
    simp only [cond_true, Bool.and_self]
    rw [show (k : Int) + 1 = ((k + 1 : Nat) : Int) by omega, ih (k + 1) _ (by omega) (hf n b hn)]
    have e2 : s.data.toList.drop k = b :: s.data.toList.drop (k + 1) := by
      rw [List.drop_eq_getElem_cons (by simpa using hlt)]
      have := (Array.getElem?_eq_some_iff.1 hb).2
      simp [this]
    rw [e2, List.foldl_cons]

def Z (s : ByteArray) : Value := .string s
def q16 (s : ByteArray) (x i : Int) : Int := IntKind.u16.wrap (((BitVec.ofInt 16 x ^^^ BitVec.ofInt 16 (IntKind.u16.wrap (IntKind.u16.wrap (strAt s i) * 2 ^ min (Int.toNat 8) 16))).toNat : Nat) : Int)
def q32 (s : ByteArray) (x i : Int) : Int := IntKind.u32.wrap (((BitVec.ofInt 32 x ^^^ BitVec.ofInt 32 (IntKind.u32.wrap (strAt s i))).toNat : Nat) : Int)
theorem q16_nat {s : ByteArray} {n k : Nat} {b : UInt8} (hn : n < 65536) (hb : s.data[k]? = some b) : q16 s n k = ((Nat.xor n (b.toNat * 256) : Nat) : Int) := by
  have h := byte_lt b
  unfold q16
  rw [strAt_some hb, wrap16 b.toNat, Nat.mod_eq_of_lt (show b.toNat < 65536 by omega)]
  have e : ((b.toNat : Nat) : Int) * 2 ^ min (Int.toNat 8) 16 = ((b.toNat * 256 : Nat) : Int) := by
    rw [show min (Int.toNat 8) 16 = 8 from rfl]; omega
  rw [e, wrap16 (b.toNat * 256), Nat.mod_eq_of_lt (show b.toNat * 256 < 65536 by omega), xorB 16 _ _ hn (by show _ < 65536; omega), wrap16, Nat.mod_eq_of_lt (xor_lt 16 hn (by show _ < 65536; omega))]
theorem q32_nat {s : ByteArray} {n k : Nat} {b : UInt8} (hn : n < 4294967296) (hb : s.data[k]? = some b) : q32 s n k = ((Nat.xor n b.toNat : Nat) : Int) := by
  have h := byte_lt b
  unfold q32
  rw [strAt_some hb, wrap32 b.toNat, Nat.mod_eq_of_lt (show b.toNat < 4294967296 by omega)]
  rw [xorB 32 _ _ (by rw [two32]; exact hn) (by rw [two32]; omega), wrap32, Nat.mod_eq_of_lt (xor_lt 32 (by rw [two32]; exact hn) (by rw [two32]; omega))]

def k11 : List Bool := maskOf 21 [0, 1, 5]
def k12 : List Bool := maskOf 20 [0, 3, 6, 7]
def k13 : List Bool := maskOf 20 [0, 3, 4]
def k14 : List Bool := maskOf 21 [0, 1, 7, 8]
def x11 : List Bool := maskOf 21 [0]
def x12 : List Bool := maskOf 20 [3]
noncomputable def body11 : Code := loopAt (Try.f11.body.getD .skip) 0
noncomputable def body12 : Code := loopAt (Try.f12.body.getD .skip) 0
noncomputable def body13 : Code := loopAt (Try.f13.body.getD .skip) 0
noncomputable def body14 : Code := loopAt (Try.f14.body.getD .skip) 0
theorem loops11 : loopsOf (Try.f11.body.getD .skip) = [body11] := by kernel_rfl
theorem loops12 : loopsOf (Try.f12.body.getD .skip) = [body12] := by kernel_rfl
theorem loops13 : loopsOf (Try.f13.body.getD .skip) = [body13] := by kernel_rfl
theorem loops14 : loopsOf (Try.f14.body.getD .skip) = [body14] := by kernel_rfl
theorem loops11a : loopsOf body11 = [] := by kernel_rfl
theorem loops12a : loopsOf body12 = [] := by kernel_rfl
theorem loops13a : loopsOf body13 = [] := by kernel_rfl
theorem loops14a : loopsOf body14 = [] := by kernel_rfl
def K11 (e : Ex) (st : St) : Option (Ex × St) := some (e, cutG x11 st)
def K12 (e : Ex) (st : St) : Option (Ex × St) := some (e, cutG x12 st)
def H11 (s : ByteArray) (x i : Int) : St := mk k11 [.v (U16 x), .v (Z s), .v (I i)] M0
def H14 (s : ByteArray) (x i : Int) : St := mk k14 [.v (U16 x), .v (Z s), .v (I (s.size : Int)), .v (I i)] M0
def H12 (s : ByteArray) (x i : Int) : St := mk k12 [.v (Z s), .v (U32 x), .v (I (s.size : Int)), .v (I i)] M0
def H13 (s : ByteArray) (x i : Int) : St := mk k13 [.v (Z s), .v (U32 x), .v (I i)] M0
theorem step11 (s : ByteArray) (k : Nat) (x i : Int) : evLoop Γ1 Try.prog L0 (cutG k11) body11 (k + 1) (H11 s x i) K11 =
    bif decide (i < (s.size : Int)) then (bif decide (0 ≤ i) && decide (i < (s.size : Int)) then (bif in16 (q16 s x i) then evLoop Γ1 Try.prog L0 (cutG k11) body11 k (H11 s (S16 (q16 s x i)) (wI (i + 1))) K11 else none) else none)
    else some (.exit 0, mk x11 [.v (U16 x)] M0) := by kernel_rfl
theorem step14 (s : ByteArray) (k : Nat) (x i : Int) : evLoop Γ1 Try.prog L0 (cutG k14) body14 (k + 1) (H14 s x i) K11 =
    bif decide (i < (s.size : Int)) then (bif decide (0 ≤ i) && decide (i < (s.size : Int)) then (bif in16 (q16 s x i) then evLoop Γ1 Try.prog L0 (cutG k14) body14 k (H14 s (S16 (q16 s x i)) (wI (i + 1))) K11 else none) else none)
    else some (.exit 0, mk x11 [.v (U16 x)] M0) := by kernel_rfl
theorem step12 (s : ByteArray) (k : Nat) (x i : Int) : evLoop Γ1 Try.prog L0 (cutG k12) body12 (k + 1) (H12 s x i) K12 =
    bif decide (i < (s.size : Int)) then (bif decide (0 ≤ i) && decide (i < (s.size : Int)) then (bif in32 (q32 s x i) then evLoop Γ1 Try.prog L0 (cutG k12) body12 k (H12 s (S32 (q32 s x i)) (wI (i + 1))) K12 else none) else none)
    else some (.exit 0, mk x12 [.v (U32 x)] M0) := by kernel_rfl
theorem step13 (s : ByteArray) (k : Nat) (x i : Int) : evLoop Γ1 Try.prog L0 (cutG k13) body13 (k + 1) (H13 s x i) K12 =
    bif decide (i < (s.size : Int)) then (bif decide (0 ≤ i) && decide (i < (s.size : Int)) then (bif in32 (q32 s x i) then evLoop Γ1 Try.prog L0 (cutG k13) body13 k (H13 s (S32 (q32 s x i)) (wI (i + 1))) K12 else none) else none)
    else some (.exit 0, mk x12 [.v (U32 x)] M0) := by kernel_rfl

/-- A text that may be gone through. -/
def szS (s : ByteArray) : Bool := Nat.ble s.size 9223372036854775807
def G11 (vals : List SV) (m : Mem) : Option (Bool × Ex × St) :=
  match vals, m with
  | [.v (.int .u16 x), .v (.string s), .v (.int .i64 i)], ⟨[], [], []⟩ => some (i == 0 && (in16 x && szS s), .exit 0, mk x11 [.v (U16 (R16 x s))] M0)
  | _, _ => none
def G14 (vals : List SV) (m : Mem) : Option (Bool × Ex × St) :=
  match vals, m with
  | [.v (.int .u16 x), .v (.string s), .v (.int .i64 n), .v (.int .i64 i)], ⟨[], [], []⟩ => some (n == (s.size : Int) && (i == 0 && (in16 x && szS s)), .exit 0, mk x11 [.v (U16 (R16 x s))] M0)
  | _, _ => none
def R32 (x : Int) (s : ByteArray) : Int := ((s.data.toList.foldl p32 x.toNat : Nat) : Int)
def G12 (vals : List SV) (m : Mem) : Option (Bool × Ex × St) :=
  match vals, m with
  | [.v (.string s), .v (.int .u32 x), .v (.int .i64 n), .v (.int .i64 i)], ⟨[], [], []⟩ => some (n == (s.size : Int) && (i == 0 && (in32 x && szS s)), .exit 0, mk x12 [.v (U32 (R32 x s))] M0)
  | _, _ => none
def G13 (vals : List SV) (m : Mem) : Option (Bool × Ex × St) :=
  match vals, m with
  | [.v (.string s), .v (.int .u32 x), .v (.int .i64 i)], ⟨[], [], []⟩ => some (i == 0 && (in32 x && szS s), .exit 0, mk x12 [.v (U32 (R32 x s))] M0)
  | _, _ => none
noncomputable def Λ11 : LoopOrc := fun _ st => viaK k11 G11 st
noncomputable def Λ12 : LoopOrc := fun _ st => viaK k12 G12 st
noncomputable def Λ13 : LoopOrc := fun _ st => viaK k13 G13 st
noncomputable def Λ14 : LoopOrc := fun _ st => viaK k14 G14 st
theorem gs16 (s : ByteArray) (n k : Nat) (b : UInt8) (hn : n < 65536) (hb : s.data[k]? = some b) : in16 (q16 s n k) = true ∧ S16 (q16 s n k) = ((p16 n b : Nat) : Int) := by
  rw [q16_nat hn hb]
  exact ⟨inN_of (xor_lt 16 hn (by have := byte_lt b; show _ < 65536; omega)), rfl⟩
theorem gs32 (s : ByteArray) (n k : Nat) (b : UInt8) (hn : n < 4294967296) (hb : s.data[k]? = some b) : in32 (q32 s n k) = true ∧ S32 (q32 s n k) = ((p32 n b : Nat) : Int) := by
  rw [q32_nat hn hb]
  exact ⟨inN_of (xor_lt 32 (by rw [two32]; exact hn) (by have := byte_lt b; rw [two32]; omega)), rfl⟩
theorem loopOk11 (w0 : Base) : LoopOk Λ11 Try.prog w0 body11 := by
  refine loop_okK (Λ := L0) (kx := fun _ => x11) Ok1 mixed (fun b hb => by rw [loops11a] at hb; cases hb) (G := G11) (fun _ => rfl) ?_
  intro vals m e st' h
  unfold G11 at h
  split at h
  · rename_i x s i
    injection h with h
    injection h with h1 h
    injection h with h2 h3
    subst h2 h3
    simp only [Bool.and_eq_true, beq_iff_eq] at h1
    obtain ⟨rfl, h1, h4⟩ := h1
    obtain ⟨n, rfl, hn⟩ := in16_nat h1
    exact ⟨s.size + 1, overS s (Nat.le_of_ble_eq_true h4) (fun k x i => evLoop Γ1 Try.prog L0 (cutG k11) body11 k (H11 s x i) K11) (fun x => some (.exit 0, mk x11 [.v (U16 x)] M0)) (fun x i => in16 (q16 s x i)) (fun x i => S16 (q16 s x i)) p16 65536 (fun n b => p16_lt b) (gs16 s) (step11 s) s.size 0 n (by omega) hn⟩
  · cases h
theorem loopOk14 (w0 : Base) : LoopOk Λ14 Try.prog w0 body14 := by
  refine loop_okK (Λ := L0) (kx := fun _ => x11) Ok1 mixed (fun b hb => by rw [loops14a] at hb; cases hb) (G := G14) (fun _ => rfl) ?_
  intro vals m e st' h
  unfold G14 at h
  split at h
  · rename_i x s l i
    injection h with h
    injection h with h1 h
    injection h with h2 h3
    subst h2 h3
    simp only [Bool.and_eq_true, beq_iff_eq] at h1
    obtain ⟨rfl, rfl, h1, h4⟩ := h1
    obtain ⟨n, rfl, hn⟩ := in16_nat h1
    exact ⟨s.size + 1, overS s (Nat.le_of_ble_eq_true h4) (fun k x i => evLoop Γ1 Try.prog L0 (cutG k14) body14 k (H14 s x i) K11) (fun x => some (.exit 0, mk x11 [.v (U16 x)] M0)) (fun x i => in16 (q16 s x i)) (fun x i => S16 (q16 s x i)) p16 65536 (fun n b => p16_lt b) (gs16 s) (step14 s) s.size 0 n (by omega) hn⟩
  · cases h
theorem loopOk12 (w0 : Base) : LoopOk Λ12 Try.prog w0 body12 := by
  refine loop_okK (Λ := L0) (kx := fun _ => x12) Ok1 mixed (fun b hb => by rw [loops12a] at hb; cases hb) (G := G12) (fun _ => rfl) ?_
  intro vals m e st' h
  unfold G12 at h
  split at h
  · rename_i s x l i
    injection h with h
    injection h with h1 h
    injection h with h2 h3
    subst h2 h3
    simp only [Bool.and_eq_true, beq_iff_eq] at h1
    obtain ⟨rfl, rfl, h1, h4⟩ := h1
    obtain ⟨n, rfl, hn⟩ := in32_nat h1
    exact ⟨s.size + 1, overS s (Nat.le_of_ble_eq_true h4) (fun k x i => evLoop Γ1 Try.prog L0 (cutG k12) body12 k (H12 s x i) K12) (fun x => some (.exit 0, mk x12 [.v (U32 x)] M0)) (fun x i => in32 (q32 s x i)) (fun x i => S32 (q32 s x i)) p32 4294967296 (fun n b => p32_lt b) (gs32 s) (step12 s) s.size 0 n (by omega) hn⟩
  · cases h
theorem loopOk13 (w0 : Base) : LoopOk Λ13 Try.prog w0 body13 := by
  refine loop_okK (Λ := L0) (kx := fun _ => x12) Ok1 mixed (fun b hb => by rw [loops13a] at hb; cases hb) (G := G13) (fun _ => rfl) ?_
  intro vals m e st' h
  unfold G13 at h
  split at h
  · rename_i s x i
    injection h with h
    injection h with h1 h
    injection h with h2 h3
    subst h2 h3
    simp only [Bool.and_eq_true, beq_iff_eq] at h1
    obtain ⟨rfl, h1, h4⟩ := h1
    obtain ⟨n, rfl, hn⟩ := in32_nat h1
    exact ⟨s.size + 1, overS s (Nat.le_of_ble_eq_true h4) (fun k x i => evLoop Γ1 Try.prog L0 (cutG k13) body13 k (H13 s x i) K12) (fun x => some (.exit 0, mk x12 [.v (U32 x)] M0)) (fun x i => in32 (q32 s x i)) (fun x i => S32 (q32 s x i)) p32 4294967296 (fun n b => p32_lt b) (gs32 s) (step13 s) s.size 0 n (by omega) hn⟩
  · cases h
/-- The sum of 32 bits, turned at its end. -/
def V32 (s : ByteArray) : Int := IntKind.u32.wrap (((BitVec.ofInt 32 (R32 4294967295 s) ^^^ BitVec.ofInt 32 4294967295).toNat : Nat) : Int)
theorem run11 (x : Int) (s : ByteArray) : run Γ1 Λ11 Try.prog Try.f11 [U16 x, Z s] = bif (0 : Int) == 0 && (in16 x && szS s) then some (U16 (R16 x s)) else none := by kernel_rfl
theorem run14 (x : Int) (s : ByteArray) : run Γ1 Λ14 Try.prog Try.f14 [U16 x, Z s] = bif (s.size : Int) == (s.size : Int) && ((0 : Int) == 0 && (in16 x && szS s)) then some (U16 (R16 x s)) else none := by kernel_rfl
theorem run12 (s : ByteArray) : run Γ1 Λ12 Try.prog Try.f12 [Z s] = bif (s.size : Int) == (s.size : Int) && ((0 : Int) == 0 && (in32 4294967295 && szS s)) then some (U32 (V32 s)) else none := by kernel_rfl
theorem run13 (s : ByteArray) : run Γ1 Λ13 Try.prog Try.f13 [Z s] = bif (0 : Int) == 0 && (in32 4294967295 && szS s) then some (U32 (V32 s)) else none := by kernel_rfl
/-- Calls of sums. -/
def t2 (f : FuncId) (vs : List Value) : Option (Bool × Value) :=
  match Nat.beq f 11 || Nat.beq f 14, Nat.beq f 12 || Nat.beq f 13, vs with
  | true, _, [.int .u16 x, .string s] => some (in16 x && szS s, U16 (R16 x s))
  | _, true, [.string s] => some (szS s, U32 (V32 s))
  | _, _, _ => none
theorem t2_ok : ∀ f vs r, t2 f vs = some (true, r) → CallOk Try.prog f (vs.map .v) (.v r) := by
  intro f vs r h
  unfold t2 at h
  split at h
  · rename_i x s hf
    injection h with h
    injection h with h1 h2
    subst h2
    simp only [Bool.or_eq_true] at hf
    rcases hf with hf | hf
    · obtain rfl := Nat.eq_of_beq_eq_true hf
      exact callOk_of_runV (Λ := Λ11) Ok1 mixed names Try.func11 rfl (fun w => one_loop (fn := Try.f11) loops11 loopOk11 ⟨w, []⟩) (by show run Γ1 Λ11 Try.prog Try.f11 [U16 x, Z s] = _; rw [run11, h1]; rfl)
    · obtain rfl := Nat.eq_of_beq_eq_true hf
      exact callOk_of_runV (Λ := Λ14) Ok1 mixed names Try.func14 rfl (fun w => one_loop (fn := Try.f14) loops14 loopOk14 ⟨w, []⟩) (by show run Γ1 Λ14 Try.prog Try.f14 [U16 x, Z s] = _; rw [run14, h1, beq_self_eq_true]; rfl)
  · rename_i s hf
    injection h with h
    injection h with h1 h2
    subst h2
    simp only [Bool.or_eq_true] at hf
    rcases hf with hf | hf
    · obtain rfl := Nat.eq_of_beq_eq_true hf
      exact callOk_of_runV (Λ := Λ12) Ok1 mixed names Try.func12 rfl (fun w => one_loop (fn := Try.f12) loops12 loopOk12 ⟨w, []⟩) (by show run Γ1 Λ12 Try.prog Try.f12 [Z s] = _; rw [run12, h1, beq_self_eq_true]; rfl)
    · obtain rfl := Nat.eq_of_beq_eq_true hf
      exact callOk_of_runV (Λ := Λ13) Ok1 mixed names Try.func13 rfl (fun w => one_loop (fn := Try.f13) loops13 loopOk13 ⟨w, []⟩) (by show run Γ1 Λ13 Try.prog Try.f13 [Z s] = _; rw [run13, h1]; rfl)
  · cases h
def Γ2 : Orc := addC (tabV t2) Γ1
theorem Ok2 : Γ2.Ok Try.prog := addC_ok Ok1 (tabV_ok t2_ok)
theorem run10 (s : ByteArray) : run Γ2 L0 Try.prog Try.f10 [Z s] = bif in16 65535 && szS s then some (U16 (R16 65535 s)) else none := by kernel_rfl
theorem loops10 : loopsOf (Try.f10.body.getD .skip) = [] := by kernel_rfl
theorem no_loop {fn : Func} {Λ : LoopOrc} (h1 : loopsOf (fn.body.getD .skip) = []) : ∀ z, ∀ b ∈ loopsOf (fn.body.getD .skip), LoopOk Λ Try.prog z b := by
  intro z b hb
  rw [h1] at hb
  cases hb
def t3 (f : FuncId) (vs : List Value) : Option (Bool × Value) :=
  match Nat.beq f 10, vs with
  | true, [.string s] => some (szS s, U16 (R16 65535 s))
  | _, _ => none
theorem t3_ok : ∀ f vs r, t3 f vs = some (true, r) → CallOk Try.prog f (vs.map .v) (.v r) := by
  intro f vs r h
  unfold t3 at h
  split at h
  · rename_i s hf
    injection h with h
    injection h with h1 h2
    subst h2
    obtain rfl := Nat.eq_of_beq_eq_true hf
    exact callOk_of_runV (Λ := L0) Ok2 mixed names Try.func10 rfl (fun w => no_loop (fn := Try.f10) loops10 ⟨w, []⟩) (by show run Γ2 L0 Try.prog Try.f10 [Z s] = _; rw [run10, h1]; rfl)
  · cases h
def Γ3 : Orc := addC (tabV t3) Γ2
theorem Ok3 : Γ3.Ok Try.prog := addC_ok Ok2 (tabV_ok t3_ok)
end Go.Proofs.Ytjnkcojbeknpeaa

