/-
  The law CrcTables over numbers. No condition.
-/
import Derived.Test.YtjnkcojbeknpeaaYe
namespace Go.Proofs.Ytjnkcojbeknpeaa
open Go Go.Proofs Go.Sx

/-! CrcTables. -/
def tx (L : List (List Dat)) (i : Int) : ByteArray := ((L.getD i.toNat []).headD (.n 0)).toS
def minI (i : Int) : Int := if 1 < i then 1 else i
def tbl (d : Bool) : List Value := match d with | true => made | false => new
def k8 : List Bool := maskOf 84 [0, 3, 16, 17, 18]
def x8 : List Bool := maskOf 84 [0, 3]
def v8 : List Bool := maskOf 84 [2]
def kx8 (e : Ex) : List Bool := match e with | .exit _ => x8 | .ret => v8 | .normal => k8
noncomputable def body8 : Code := loopAt (Try.f8.body.getD .skip) 0
theorem loops8 : loopsOf (Try.f8.body.getD .skip) = [body8] := by kernel_rfl
theorem loops8a : loopsOf body8 = [] := by kernel_rfl
def M8 (d : Bool) (R : List RowS) : Mem := ⟨[(tbl d).map .v], [true], R⟩
def S8 (L : List (List Dat)) (d : Bool) (i : Int) : St := mk k8 [.row 0, .ptr 0 0, .row 0, .v (I (L.length : Int)), .v (I i)] (M8 d [.wide [.str] L])
def K8 (e : Ex) (st : St) : Option (Ex × St) := some (e, cutG (kx8 e) st)
def A8 (d b : Bool) : Option (Ex × St) := some (.ret, mk v8 [.v (.bool b)] (M8 d []))
def F8 (L : List (List Dat)) (d : Bool) : Option (Ex × St) := some (.exit 0, mk x8 [.row 0, .ptr 0 0] (M8 d [.wide [.str] L]))
def num (d : Bool) : Int := match d with | true => 1 | false => 0
theorem step8 (L : List (List Dat)) (k : Nat) (d : Bool) (i : Int) : evLoop Γd Try.prog L0 (cutG k8) body8 (k + 1) (S8 L d i) K8 =
    bif decide (i < (L.length : Int)) then
      bif decide (0 ≤ i) && decide (i < (L.length : Int)) then
        bif decide (((tx L i).size : Int) > 500) then A8 d true
        else bif num d != minI i then A8 d false
        else bif szS (tx L i) then bif szS (tx L i) then bif R16 65535 (tx L i) != R16 65535 (tx L i) then A8 true false
        else bif szS (tx L i) then bif szS (tx L i) then bif V32 (tx L i) != V32 (tx L i) then A8 true false
        else evLoop Γd Try.prog L0 (cutG k8) body8 k (S8 L true (wI (i + 1))) K8
        else none else none else none else none
      else none
    else F8 L d := by
  cases d
  · kernel_rfl
  · kernel_rfl
/-- A text that is too long. -/
def big (o : List Dat) : Bool := decide (((o.headD (.n 0)).toS.size : Int) > 500)
def bigAt (L : List (List Dat)) (m : Nat) : Bool := big (L.getD m [])
theorem goes8 {α : Type} (L : List (List Dat)) (hL : L.length ≤ 281474976710656) (E : Nat → Bool → Int → Option α) (A : Bool → Bool → Option α) (F : Bool → Option α)
    (hE : ∀ k d i, E (k + 1) d i = bif decide (i < (L.length : Int)) then
      bif decide (0 ≤ i) && decide (i < (L.length : Int)) then
        bif decide (((tx L i).size : Int) > 500) then A d true
        else bif num d != minI i then A d false
        else bif szS (tx L i) then bif szS (tx L i) then bif R16 65535 (tx L i) != R16 65535 (tx L i) then A true false
        else bif szS (tx L i) then bif szS (tx L i) then bif V32 (tx L i) != V32 (tx L i) then A true false
        else E k true (wI (i + 1))
        else none else none else none else none
      else none
    else F d) : ∀ (j m : Nat), m + j = L.length → E (j + 1) (decide (0 < m)) (m : Int) = bif (L.drop m).any big then A (decide (0 < m) || !bigAt L m) true else F (decide (0 < L.length)) := by
  intro j
  induction j with
  | zero =>
    intro m hm
    rw [hE, show decide ((m : Int) < (L.length : Int)) = false from decide_eq_false (by omega), List.drop_eq_nil_of_le (by omega), show m = L.length by omega]
    rfl
  | succ j ih =>
    intro m hm
    have hlt : m < L.length := by omega
    have e2 : L.drop m = L.getD m [] :: L.drop (m + 1) := by
      rw [List.drop_eq_getElem_cons hlt]
      simp [List.getD, hlt]
    have hb : decide (((tx L (m : Int)).size : Int) > 500) = bigAt L m := rfl
    rw [hE, show decide ((m : Int) < (L.length : Int)) = true from decide_eq_true (by omega), show decide ((0 : Int) ≤ (m : Int)) = true from decide_eq_true (by omega), wI_id (by omega), hb, e2, List.any_cons]
    simp only [cond_true, Bool.and_self]
    have hn : (num (decide (0 < m)) != minI (m : Int)) = false := by
      unfold minI
      by_cases h0 : 0 < m
      · rw [decide_eq_true h0]
        by_cases h1 : (1 : Int) < (m : Int)
        · rw [if_pos h1]; rfl
        · rw [if_neg h1, show (m : Int) = 1 by omega]; rfl
      · rw [decide_eq_false h0, show m = 0 by omega]; rfl
    rw [hn]
    have ih' := ih (m + 1) (by omega)
    rw [decide_eq_true (Nat.succ_pos m), Bool.true_or] at ih'
    rw [show (m : Int) + 1 = ((m + 1 : Nat) : Int) by omega, ih']
    have e3 : big (L.getD m []) = bigAt L m := rfl
    rw [e3]
    cases hbb : bigAt L m
    · have hs : szS (tx L (m : Int)) = true := szS_of (by
        have := of_decide_eq_false (hb.trans hbb)
        omega)
      rw [hs]
      simp
    · simp

def isNewS (cs : List SV) : Bool :=
  match allV cs with
  | some vs => eqL vs new
  | none => false
theorem isNewS_eq {cs : List SV} (h : isNewS cs = true) : cs = new.map .v := by
  unfold isNewS at h
  split at h
  · rename_i vs hv
    rw [allV_eq _ _ hv, eqL_eq h]
  · cases h
/-- The loop, where a text is too long; where none is. -/
def G8 (b : Bool) (vals : List SV) (m : Mem) : Option (Bool × Ex × St) :=
  match vals, m with
  | [.row 0, .ptr 0 0, .row 0, .v (.int .i64 n), .v (.int .i64 i)], ⟨[cs], [true], [.wide [.str] L]⟩ =>
    match b with
    | true => some (n == (L.length : Int) && (i == 0 && (Nat.ble L.length 281474976710656 && (isNewS cs && L.any big))), .ret, mk v8 [.v (.bool true)] (M8 (!bigAt L 0) []))
    | false => some (n == (L.length : Int) && (i == 0 && (Nat.ble L.length 281474976710656 && (isNewS cs && !L.any big))), .exit 0, mk x8 [.row 0, .ptr 0 0] (M8 (decide (0 < L.length)) [.wide [.str] L]))
  | _, _ => none
noncomputable def Λ8 (b : Bool) : LoopOrc := fun _ st => viaK k8 (G8 b) st
theorem loopOk8 (b : Bool) (w0 : Base) : LoopOk (Λ8 b) Try.prog w0 body8 := by
  refine loop_okK (Λ := L0) (kx := kx8) Okd mixed (fun b hb => by rw [loops8a] at hb; cases hb) (G := G8 b) (fun _ => rfl) ?_
  intro vals m e st' h
  unfold G8 at h
  split at h
  · rename_i n i cs L
    have key := fun (hL : L.length ≤ 281474976710656) => goes8 L hL (fun k d i => evLoop Γd Try.prog L0 (cutG k8) body8 k (S8 L d i) K8) A8 (F8 L) (step8 L) L.length 0 (by omega)
    cases b
    · injection h with h
      injection h with h1 h
      injection h with h2 h3
      subst h2 h3
      simp only [Bool.and_eq_true, beq_iff_eq, Bool.not_eq_true'] at h1
      obtain ⟨rfl, rfl, h4, h5, h6⟩ := h1
      obtain rfl := isNewS_eq h5
      have := key (Nat.le_of_ble_eq_true h4)
      rw [List.drop_zero, h6] at this
      exact ⟨L.length + 1, this⟩
    · injection h with h
      injection h with h1 h
      injection h with h2 h3
      subst h2 h3
      simp only [Bool.and_eq_true, beq_iff_eq] at h1
      obtain ⟨rfl, rfl, h4, h5, h6⟩ := h1
      obtain rfl := isNewS_eq h5
      have := key (Nat.le_of_ble_eq_true h4)
      rw [List.drop_zero, h6] at this
      exact ⟨L.length + 1, this⟩
  · cases h
theorem run8t (L : List (List Dat)) : runA Γd (Λ8 true) Try.prog Try.f8 [.wide [.str] L] =
    bif decide ((L.length : Int) > 50) then some (.v (.bool true))
    else bif (L.length : Int) == (L.length : Int) && ((0 : Int) == 0 && (Nat.ble L.length 281474976710656 && (true && L.any big))) then some (.v (.bool true))
    else none := by kernel_rfl
theorem run8n : runA Γd (Λ8 false) Try.prog Try.f8 [.wide [.str] []] = some (.v (.bool true)) := by kernel_rfl
theorem run8f (x : List Dat) (r : List (List Dat)) : runA Γd (Λ8 false) Try.prog Try.f8 [.wide [.str] (x :: r)] =
    bif decide (((x :: r).length : Int) > 50) then some (.v (.bool true))
    else bif ((x :: r).length : Int) == ((x :: r).length : Int) && ((0 : Int) == 0 && (Nat.ble (x :: r).length 281474976710656 && (true && !(x :: r).any big))) then
      (bif num true == minI ((x :: r).length : Int) then some (.v (.bool true)) else some (.v (.bool false)))
    else none := by kernel_rfl
theorem crcTables (L : List (List Dat)) (_ : ∀ o ∈ L, ∃ b, o = [.s b] ∧ b.size ≤ maxLen) (hL : L.length ≤ 281474976710656) : ∃ b, runA Γd (Λ8 b) Try.prog Try.f8 [.wide [.str] L] = some (.v (.bool true)) := by
  have h1 : Nat.ble L.length 281474976710656 = true := Nat.ble_eq_true_of_le hL
  cases ha : L.any big
  · refine ⟨false, ?_⟩
    cases L with
    | nil => exact run8n
    | cons x r =>
      have hm : (num true == minI (((x :: r).length : Nat) : Int)) = true := by
        unfold minI
        by_cases h2 : (1 : Int) < (((x :: r).length : Nat) : Int)
        · rw [if_pos h2]; rfl
        · rw [if_neg h2]
          have : (((x :: r).length : Nat) : Int) = 1 := by simp at h2 ⊢; omega
          rw [this]; rfl
      rw [run8f, h1, ha, beq_self_eq_true, hm]
      cases decide ((((x :: r).length : Nat) : Int) > 50) <;> rfl
  · refine ⟨true, ?_⟩
    rw [run8t, h1, ha, beq_self_eq_true]
    cases decide ((L.length : Int) > 50) <;> rfl
end Go.Proofs.Ytjnkcojbeknpeaa

