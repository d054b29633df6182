/-
  The laws CountMany, CountRises and CountUps over numbers.
-/
import Derived.Test.YtdlhgjkcfchpnaaYb
namespace Go.Proofs.Ytdlhgjkcfchpnaa
open Go Go.Proofs Go.Sx
theorem wrapI (n : Int) : IntKind.i64.wrap n = if n % 18446744073709551616 ≥ 9223372036854775808 then n % 18446744073709551616 - 18446744073709551616 else n % 18446744073709551616 := by
  rw [← wr_eq true .i64 n]
  simp only [wr]
  split <;> simp_all <;> omega
theorem wI_id {n : Int} (h : -9223372036854775808 ≤ n ∧ n < 9223372036854775808) : wI n = n := by
  unfold wI
  rw [wrapI]
  split <;> omega
/-- Calls, each of two numbers. -/
def Ops (L : List (List Int)) : Prop := ∀ o ∈ L, ∃ a b, o = [a, b] ∧ I64 a ∧ I64 b
abbrev OpL (L : List (List Int)) : RowS := .wide [.i64, .i64] L
/-- A call's kind, and its number. -/
def kd (o : List Int) : Int := o.headD 0
def nm (o : List Int) : Int := o.tail.headD 0
/-- A counter of this most behind a call. -/
def upd (a b : Int) (o : List Int) : Int :=
  bif kd o == 1 then nx a b 1 else bif kd o == 2 then nx a b (nm o) else bif kd o == 3 then cl (nm o) a else cl 0 a

/-! CountMany. -/
def keep6 : List Bool := maskOf 59 [7, 8, 9, 28, 29, 30]
def kx6 : List Bool := maskOf 59 [8, 9]
noncomputable def body6 : Code := loopAt (Try.f6.body.getD .skip) 0
theorem loops6 : loopsOf (Try.f6.body.getD .skip) = [body6] := by kernel_rfl
theorem loops6a : loopsOf body6 = [] := by kernel_rfl
def K6 (e : Ex) (st : St) : Option (Ex × St) := some (e, cutB 2 kx6 st)
def B2 (a b c d : Int) (R : List RowS) : Mem := ⟨[[.v (I a), .v (I b)], [.v (I c), .v (I d)]], [true, true], R⟩
def S6 (a c d was : Int) (L : List (List Int)) (b i : Int) : St := mk keep6 [.ptr 0 0, .ptr 1 0, .v (I was), .row 0, .v (I (L.length : Int)), .v (I i)] (B2 a b c d [OpL L])
theorem step6 (a c d was : Int) (L : List (List Int)) (b i : Int) (k : Nat) : evLoop Γ4 Try.prog L0 (cutB 2 keep6) body6 (k + 1) (S6 a c d was L b i) K6 =
    bif decide (i < (L.length : Int)) then
      bif decide (0 ≤ i) && decide (i < (L.length : Int)) then
        bif kd (L.getD i.toNat []) == 1 then evLoop Γ4 Try.prog L0 (cutB 2 keep6) body6 k (S6 a c d was L (nx a b 1) (wI (i + 1))) K6
        else bif kd (L.getD i.toNat []) == 2 then evLoop Γ4 Try.prog L0 (cutB 2 keep6) body6 k (S6 a c d was L (nx a b (nm (L.getD i.toNat []))) (wI (i + 1))) K6
        else bif kd (L.getD i.toNat []) == 3 then evLoop Γ4 Try.prog L0 (cutB 2 keep6) body6 k (S6 a c d was L (cl (nm (L.getD i.toNat [])) a) (wI (i + 1))) K6
        else evLoop Γ4 Try.prog L0 (cutB 2 keep6) body6 k (S6 a c d was L (cl 0 a) (wI (i + 1))) K6
      else none
    else some (.exit 0, mk kx6 [.ptr 1 0, .v (I was)] (B2 a b c d [])) := by kernel_rfl

theorem many {α : Type} (a : Int) (L : List (List Int)) (hL : L.length ≤ 300) (E : Nat → Int → Int → Option α) (F : Int → Option α)
    (hE : ∀ k b i, E (k + 1) b i = bif decide (i < (L.length : Int)) then
      bif decide (0 ≤ i) && decide (i < (L.length : Int)) then
        bif kd (L.getD i.toNat []) == 1 then E k (nx a b 1) (wI (i + 1))
        else bif kd (L.getD i.toNat []) == 2 then E k (nx a b (nm (L.getD i.toNat []))) (wI (i + 1))
        else bif kd (L.getD i.toNat []) == 3 then E k (cl (nm (L.getD i.toNat [])) a) (wI (i + 1))
        else E k (cl 0 a) (wI (i + 1))
      else none
    else F b) : ∀ (j m : Nat) (b : Int), m + j = L.length → E (j + 1) b (m : Int) = F ((L.drop m).foldl (upd a) b) := by
  intro j
  induction j with
  | zero =>
    intro m b hm
    rw [hE, show decide ((m : Int) < (L.length : Int)) = false from decide_eq_false (by omega), List.drop_eq_nil_of_le (by omega)]
    rfl
  | succ j ih =>
    intro m b hm
    have hlt : m < L.length := by omega
    rw [hE, show decide ((m : Int) < (L.length : Int)) = true from decide_eq_true (by omega), show decide ((0 : Int) ≤ (m : Int)) = true from decide_eq_true (by omega), wI_id (by omega), Int.toNat_natCast]
    simp only [cond_true, Bool.and_self]
    have e1 : ((m : Int) + 1) = ((m + 1 : Nat) : Int) := by omega
    rw [e1, ih _ _ (by omega), ih _ _ (by omega), ih _ _ (by omega), ih _ _ (by omega)]
    have e2 : L.drop m = L.getD m [] :: L.drop (m + 1) := by
      rw [List.drop_eq_getElem_cons hlt]
      simp [List.getD, hlt]
    rw [e2, List.foldl_cons]
    unfold upd
    cases kd (L.getD m []) == 1 <;> cases kd (L.getD m []) == 2 <;> cases kd (L.getD m []) == 3 <;> rfl

def G6 (vals : List SV) (m : Mem) : Option (Bool × Ex × St) :=
  match vals, m with
  | [.ptr 0 0, .ptr 1 0, .v (.int .i64 was), .row 0, .v (.int .i64 n), .v (.int .i64 i)], ⟨[[.v (.int .i64 a), .v (.int .i64 b)], [.v (.int .i64 c), .v (.int .i64 d)]], [true, true], [.wide [.i64, .i64] L]⟩ =>
    some (i == 0 && (n == (L.length : Int) && decide ((L.length : Int) ≤ 300)), .exit 0, mk kx6 [.ptr 1 0, .v (I was)] (B2 a (L.foldl (upd a) b) c d []))
  | _, _ => none
noncomputable def Λ6 : LoopOrc := fun _ st => viaB 2 keep6 G6 st
theorem loopOk6 (w : World) : LoopOk Λ6 Try.prog ⟨w, []⟩ body6 := by
  refine loop_okB (Λ := L0) (kx := fun _ => kx6) Ok4 mixed 2 (Nat.zero_le _) (fun b hb => by rw [loops6a] at hb; cases hb) (G := G6) (fun _ => rfl) ?_
  intro vals m e st' h
  unfold G6 at h
  split at h
  · rename_i was n i a b c d L
    injection h with h
    injection h with h1 h
    injection h with h2 h3
    subst h2 h3
    simp only [Bool.and_eq_true, beq_iff_eq, decide_eq_true_eq] at h1
    obtain ⟨rfl, rfl, h1⟩ := h1
    have := many a L (by omega) (fun k b i => evLoop Γ4 Try.prog L0 (cutB 2 keep6) body6 k (S6 a c d was L b i) K6) (fun b => some (.exit 0, mk kx6 [.ptr 1 0, .v (I was)] (B2 a b c d []))) (fun k b i => step6 a c d was L b i k) L.length 0 b (by omega)
    exact ⟨L.length + 1, this⟩
  · cases h
theorem run6 (a b : Int) (L : List (List Int)) : runA Γ4 Λ6 Try.prog Try.f6 [.v (I a), .v (I b), .wide [.i64, .i64] L] =
    bif decide ((L.length : Int) > 300) then some (.v (.bool true))
    else bif (0 : Int) == 0 && ((L.length : Int) == (L.length : Int) && decide ((L.length : Int) ≤ 300)) then some (.v (.bool (cl 3 (cl b 1000000) == cl 3 (cl b 1000000))))
    else none := by kernel_rfl
theorem countMany (a b : Int) (L : List (List Int)) (_ : I64 a) (_ : I64 b) (_ : Ops L) (_ : L.length ≤ 281474976710656) : runA Γ4 Λ6 Try.prog Try.f6 [.v (I a), .v (I b), .wide [.i64, .i64] L] = some (.v (.bool true)) := by
  rw [run6]
  by_cases h : (L.length : Int) > 300
  · simp [h]
  · have h' : (L.length : Int) ≤ 300 := by omega
    simp [h, h']
end Go.Proofs.Ytdlhgjkcfchpnaa

namespace Go.Proofs.Ytdlhgjkcfchpnaa
open Go Go.Proofs Go.Sx
theorem cl_in (n m : Int) (h : 0 ≤ m) : 0 ≤ cl n m ∧ cl n m ≤ m := by
  unfold cl
  split <;> split <;> omega
theorem nx_in {a b : Int} (n : Int) (h0 : 0 ≤ b) (h1 : b ≤ a) (h2 : a ≤ 1000000) : nx a b n = b + cl n (a - b) ∧ b ≤ nx a b n ∧ nx a b n ≤ a := by
  have hw : wI (a - b) = a - b := wI_id (by omega)
  have hc := cl_in n (a - b) (by omega)
  have : nx a b n = b + cl n (a - b) := by
    unfold nx
    rw [hw, wI_id (by omega)]
  omega
theorem upd_in {a b : Int} (o : List Int) (h0 : 0 ≤ b) (h1 : b ≤ a) (h2 : a ≤ 1000000) : 0 ≤ upd a b o ∧ upd a b o ≤ a := by
  have e1 := nx_in 1 h0 h1 h2
  have e2 := nx_in (nm o) h0 h1 h2
  have e3 := cl_in (nm o) a (by omega)
  have e4 := cl_in 0 a (by omega)
  unfold upd
  cases kd o == 1 <;> cases kd o == 2 <;> cases kd o == 3 <;> simp only [cond_true, cond_false] <;> omega
theorem cl_zero (m : Int) (h : 0 ≤ m) : cl 0 m = 0 := by
  unfold cl
  split <;> split <;> omega

/-! CountRises. -/
def keep5 : List Bool := maskOf 55 [5, 19, 20, 21]
def kx5 : List Bool := maskOf 55 [4]
noncomputable def body5 : Code := loopAt (Try.f5.body.getD .skip) 0
theorem loops5 : loopsOf (Try.f5.body.getD .skip) = [body5] := by kernel_rfl
theorem loops5a : loopsOf body5 = [] := by kernel_rfl
def K5 (e : Ex) (st : St) : Option (Ex × St) := some (e, cutB 1 kx5 st)
def B1 (a b : Int) (R : List RowS) : Mem := ⟨[[.v (I a), .v (I b)]], [true], R⟩
def S5 (a : Int) (L : List (List Int)) (b i : Int) : St := mk keep5 [.ptr 0 0, .row 0, .v (I (L.length : Int)), .v (I i)] (B1 a b [OpL L])
def X5 (a b : Int) : Option (Ex × St) := some (.ret, mk kx5 [.v (.bool false)] (B1 a b []))
theorem step5 (a : Int) (L : List (List Int)) (b i : Int) (k : Nat) : evLoop Γ4 Try.prog L0 (cutB 1 keep5) body5 (k + 1) (S5 a L b i) K5 =
    bif decide (i < (L.length : Int)) then
      bif decide (0 ≤ i) && decide (i < (L.length : Int)) then
        bif kd (L.getD i.toNat []) == 1 then
          bif decide (nx a b 1 < b) then X5 a (nx a b 1) else evLoop Γ4 Try.prog L0 (cutB 1 keep5) body5 k (S5 a L (nx a b 1) (wI (i + 1))) K5
        else bif kd (L.getD i.toNat []) == 2 then
          bif decide (nx a b (nm (L.getD i.toNat [])) < b) then X5 a (nx a b (nm (L.getD i.toNat []))) else evLoop Γ4 Try.prog L0 (cutB 1 keep5) body5 k (S5 a L (nx a b (nm (L.getD i.toNat []))) (wI (i + 1))) K5
        else bif kd (L.getD i.toNat []) == 3 then evLoop Γ4 Try.prog L0 (cutB 1 keep5) body5 k (S5 a L (cl (nm (L.getD i.toNat [])) a) (wI (i + 1))) K5
        else bif cl 0 a != 0 then X5 a (cl 0 a) else evLoop Γ4 Try.prog L0 (cutB 1 keep5) body5 k (S5 a L (cl 0 a) (wI (i + 1))) K5
      else none
    else some (.exit 0, mk kx5 [.poison] (B1 a b [])) := by kernel_rfl

theorem rises {α : Type} (a : Int) (ha : a ≤ 1000000) (L : List (List Int)) (hL : L.length ≤ 300) (E : Nat → Int → Int → Option α) (F X : Int → Option α)
    (hE : ∀ k b i, E (k + 1) b i = bif decide (i < (L.length : Int)) then
      bif decide (0 ≤ i) && decide (i < (L.length : Int)) then
        bif kd (L.getD i.toNat []) == 1 then
          bif decide (nx a b 1 < b) then X (nx a b 1) else E k (nx a b 1) (wI (i + 1))
        else bif kd (L.getD i.toNat []) == 2 then
          bif decide (nx a b (nm (L.getD i.toNat [])) < b) then X (nx a b (nm (L.getD i.toNat []))) else E k (nx a b (nm (L.getD i.toNat []))) (wI (i + 1))
        else bif kd (L.getD i.toNat []) == 3 then E k (cl (nm (L.getD i.toNat [])) a) (wI (i + 1))
        else bif cl 0 a != 0 then X (cl 0 a) else E k (cl 0 a) (wI (i + 1))
      else none
    else F b) : ∀ (j m : Nat) (b : Int), 0 ≤ b → b ≤ a → m + j = L.length → E (j + 1) b (m : Int) = F ((L.drop m).foldl (upd a) b) := by
  intro j
  induction j with
  | zero =>
    intro m b _ _ hm
    rw [hE, show decide ((m : Int) < (L.length : Int)) = false from decide_eq_false (by omega), List.drop_eq_nil_of_le (by omega)]
    rfl
  | succ j ih =>
    intro m b h0 h1 hm
    have hlt : m < L.length := by omega
    have e1 : ((m : Int) + 1) = ((m + 1 : Nat) : Int) := by omega
    have n1 := nx_in 1 h0 h1 ha
    have n2 := nx_in (nm (L.getD m [])) h0 h1 ha
    have hu := upd_in (L.getD m []) h0 h1 ha
    have hz : (cl 0 a != 0) = false := by rw [cl_zero a (by omega)]; rfl
    rw [hE, show decide ((m : Int) < (L.length : Int)) = true from decide_eq_true (by omega), show decide ((0 : Int) ≤ (m : Int)) = true from decide_eq_true (by omega), wI_id (by omega), Int.toNat_natCast,
      show decide (nx a b 1 < b) = false from decide_eq_false (by omega), show decide (nx a b (nm (L.getD m [])) < b) = false from decide_eq_false (by omega), hz]
    simp only [cond_true, cond_false, Bool.and_self]
    have e2 : L.drop m = L.getD m [] :: L.drop (m + 1) := by
      rw [List.drop_eq_getElem_cons hlt]
      simp [List.getD, hlt]
    rw [e2, List.foldl_cons, ← ih (m + 1) (upd a b (L.getD m [])) hu.1 hu.2 (by omega), e1]
    unfold upd
    cases kd (L.getD m []) == 1 <;> cases kd (L.getD m []) == 2 <;> cases kd (L.getD m []) == 3 <;> rfl

def G5 (vals : List SV) (m : Mem) : Option (Bool × Ex × St) :=
  match vals, m with
  | [.ptr 0 0, .row 0, .v (.int .i64 n), .v (.int .i64 i)], ⟨[[.v (.int .i64 a), .v (.int .i64 b)]], [true], [.wide [.i64, .i64] L]⟩ =>
    some (i == 0 && (n == (L.length : Int) && (decide ((L.length : Int) ≤ 300) && (decide (a ≤ 1000000) && (decide (0 ≤ b) && decide (b ≤ a))))), .exit 0, mk kx5 [.poison] (B1 a (L.foldl (upd a) b) []))
  | _, _ => none
noncomputable def Λ5 : LoopOrc := fun _ st => viaB 1 keep5 G5 st
theorem loopOk5 (w : World) : LoopOk Λ5 Try.prog ⟨w, []⟩ body5 := by
  refine loop_okB (Λ := L0) (kx := fun _ => kx5) Ok4 mixed 1 (Nat.zero_le _) (fun b hb => by rw [loops5a] at hb; cases hb) (G := G5) (fun _ => rfl) ?_
  intro vals m e st' h
  unfold G5 at h
  split at h
  · rename_i n i a b L
    injection h with h
    injection h with h1 h
    injection h with h2 h3
    subst h2 h3
    simp only [Bool.and_eq_true, beq_iff_eq, decide_eq_true_eq] at h1
    obtain ⟨rfl, rfl, h1, h2, h3, h4⟩ := h1
    have := rises a h2 L (by omega) (fun k b i => evLoop Γ4 Try.prog L0 (cutB 1 keep5) body5 k (S5 a L b i) K5) (fun b => some (.exit 0, mk kx5 [.poison] (B1 a b []))) (X5 a) (fun k b i => step5 a L b i k) L.length 0 b h3 h4 (by omega)
    exact ⟨L.length + 1, this⟩
  · cases h
theorem run5 (a : Int) (L : List (List Int)) : runA Γ4 Λ5 Try.prog Try.f5 [.v (I a), .wide [.i64, .i64] L] =
    bif decide ((L.length : Int) > 300) then some (.v (.bool true))
    else bif (0 : Int) == 0 && ((L.length : Int) == (L.length : Int) && (decide ((L.length : Int) ≤ 300) && (decide (cl a 1000000 ≤ 1000000) && (decide ((0 : Int) ≤ 0) && decide (0 ≤ cl a 1000000))))) then some (.v (.bool true))
    else none := by kernel_rfl
theorem countRises (a : Int) (L : List (List Int)) (_ : I64 a) (_ : Ops L) (_ : L.length ≤ 281474976710656) : runA Γ4 Λ5 Try.prog Try.f5 [.v (I a), .wide [.i64, .i64] L] = some (.v (.bool true)) := by
  rw [run5]
  have hc := cl_in a 1000000 (by decide)
  by_cases h : (L.length : Int) > 300
  · simp [h]
  · have h' : (L.length : Int) ≤ 300 := by omega
    simp [h, h', hc]
end Go.Proofs.Ytdlhgjkcfchpnaa

namespace Go.Proofs.Ytdlhgjkcfchpnaa
open Go Go.Proofs Go.Sx
/-! CountUps. -/
theorem wrapU (n : Int) : IntKind.u64.wrap n = n % 18446744073709551616 := by
  rw [← wr_eq true .u64 n]
  rfl
def keep4 : List Bool := maskOf 57 [0, 1, 5, 6, 20, 21]
def kx4 : List Bool := maskOf 57 [0, 1, 5, 6]
noncomputable def body4 : Code := loopAt (Try.f4.body.getD .skip) 0
theorem loops4 : loopsOf (Try.f4.body.getD .skip) = [body4] := by kernel_rfl
theorem loops4a : loopsOf body4 = [] := by kernel_rfl
def K4 (e : Ex) (st : St) : Option (Ex × St) := some (e, cutB 2 kx4 st)
def S4 (x y c d : Int) (a n : Int) (b i : Int) : St := mk keep4 [.v (I x), .v (I y), .ptr 0 0, .ptr 1 0, .v (I n), .v (I i)] (B2 a b c d [])
def R4 (x y c d : Int) (a b : Int) : St := mk kx4 [.v (I x), .v (I y), .ptr 0 0, .ptr 1 0] (B2 a b c d [])
theorem step4 (x y c d a n b i : Int) (k : Nat) : evLoop Γ4 Try.prog L0 (cutB 2 keep4) body4 (k + 1) (S4 x y c d a n b i) K4 =
    bif decide (i < n) then
      bif nx a b 1 != if x < wI (i + 1) then x else wI (i + 1) then some (.ret, R4 x y c d a (nx a b 1))
      else evLoop Γ4 Try.prog L0 (cutB 2 keep4) body4 k (S4 x y c d a n (nx a b 1) (wI (i + 1))) K4
    else some (.exit 0, R4 x y c d a b) := by kernel_rfl
theorem cl_one (m : Int) (h : 0 ≤ m) : cl 1 m = min 1 m := by
  unfold cl
  split <;> split <;> omega
theorem cl_min (n m : Int) (h : 0 ≤ m) (h' : 0 ≤ n) : cl n m = min n m := by
  unfold cl
  split <;> split <;> omega

theorem ups {α : Type} (x : Int) (hx : 0 ≤ x) (hx' : x < 300) (y : Int) (hy : 0 ≤ y) (hy' : y < 500) (E : Nat → Int → Int → Option α) (F X : Int → Option α)
    (hE : ∀ k b i, E (k + 1) b i = bif decide (i < y) then
      bif nx x b 1 != if x < wI (i + 1) then x else wI (i + 1) then X (nx x b 1) else E k (nx x b 1) (wI (i + 1))
    else F b) : ∀ (j m : Nat), (m : Int) + j = y → E (j + 1) (min (m : Int) x) (m : Int) = F (min y x) := by
  intro j
  induction j with
  | zero =>
    intro m hm
    have e : (m : Int) = y := by omega
    rw [hE, e, show decide (y < y) = false from decide_eq_false (by omega)]
    rfl
  | succ j ih =>
    intro m hm
    have e1 : ((m : Int) + 1) = ((m + 1 : Nat) : Int) := by omega
    have n1 := nx_in (a := x) (b := min (m : Int) x) 1 (by omega) (by omega) (by omega)
    have c1 := cl_one (x - min (m : Int) x) (by omega)
    have n2 : nx x (min (m : Int) x) 1 = min ((m + 1 : Nat) : Int) x := by
      rw [n1.1, c1]; omega
    have n3 : (min ((m + 1 : Nat) : Int) x != if x < ((m + 1 : Nat) : Int) then x else ((m + 1 : Nat) : Int)) = false := by
      have : (if x < ((m + 1 : Nat) : Int) then x else ((m + 1 : Nat) : Int)) = min ((m + 1 : Nat) : Int) x := by split <;> omega
      rw [this]
      simp
    rw [hE, show decide ((m : Int) < y) = true from decide_eq_true (by omega), wI_id (by omega), e1, n2, n3]
    simp only [cond_true, cond_false]
    exact ih (m + 1) (by omega)

def G4 (vals : List SV) (m : Mem) : Option (Bool × Ex × St) :=
  match vals, m with
  | [.v (.int .i64 x), .v (.int .i64 y), .ptr 0 0, .ptr 1 0, .v (.int .i64 n), .v (.int .i64 i)], ⟨[[.v (.int .i64 a), .v (.int .i64 b)], [.v (.int .i64 c), .v (.int .i64 d)]], [true, true], []⟩ =>
    some (i == 0 && (b == 0 && (a == x && (n == y && (decide (0 ≤ x) && (decide (x < 300) && (decide (0 ≤ y) && decide (y < 500))))))), .exit 0, R4 x y c d a (min y x))
  | _, _ => none
noncomputable def Λ4 : LoopOrc := fun _ st => viaB 2 keep4 G4 st
theorem loopOk4 (w : World) : LoopOk Λ4 Try.prog ⟨w, []⟩ body4 := by
  refine loop_okB (Λ := L0) (kx := fun _ => kx4) Ok4 mixed 2 (Nat.zero_le _) (fun b hb => by rw [loops4a] at hb; cases hb) (G := G4) (fun _ => rfl) ?_
  intro vals m e st' h
  unfold G4 at h
  split at h
  · rename_i x y n i a b c d
    injection h with h
    injection h with h1 h
    injection h with h2 h3
    subst h2 h3
    simp only [Bool.and_eq_true, beq_iff_eq, decide_eq_true_eq] at h1
    obtain ⟨rfl, rfl, rfl, rfl, h1, h2, h3, h4⟩ := h1
    have := ups a h1 h2 n h3 h4 (fun k b i => evLoop Γ4 Try.prog L0 (cutB 2 keep4) body4 k (S4 a n c d a n b i) K4) (fun b => some (.exit 0, R4 a n c d a b)) (fun b => some (.ret, R4 a n c d a b)) (fun k b i => step4 a n c d a n b i k) n.toNat 0 (by omega)
    rw [show min ((0 : Nat) : Int) a = 0 by omega] at this
    exact ⟨n.toNat + 1, this⟩
  · cases h
def p4 (x : Int) : Int := IntKind.i64.wrap ((IntKind.u64.wrap x).tmod 300)
def q4 (x : Int) : Int := IntKind.i64.wrap ((IntKind.u64.wrap x).tmod 500)
theorem p4_in (x : Int) : 0 ≤ p4 x ∧ p4 x < 300 := by
  unfold p4
  rw [wrapU, wrapI, Int.tmod_eq_emod_of_nonneg (by omega)]
  split <;> omega
theorem q4_in (x : Int) : 0 ≤ q4 x ∧ q4 x < 500 := by
  unfold q4
  rw [wrapU, wrapI, Int.tmod_eq_emod_of_nonneg (by omega)]
  split <;> omega
theorem run4 (x y : Int) : runA Γ4 Λ4 Try.prog Try.f4 [.v (I x), .v (I y)] =
    bif (0 : Int) == 0 && ((0 : Int) == 0 && (cl (p4 x) 1000000 == p4 x && (q4 y == q4 y && (decide (0 ≤ p4 x) && (decide (p4 x < 300) && (decide (0 ≤ q4 y) && decide (q4 y < 500))))))) then
      bif nx (cl (p4 x) 1000000) 0 (q4 y) == if p4 x < q4 y then p4 x else q4 y then
        bif min (q4 y) (p4 x) == nx (cl (p4 x) 1000000) 0 (q4 y) then
          some (.v (.bool ((min (q4 y) (p4 x) == cl (p4 x) 1000000) == decide (q4 y ≥ p4 x))))
        else some (.v (.bool false))
      else some (.v (.bool false))
    else none := by kernel_rfl
theorem countUps (x y : Int) (_ : I64 x) (_ : I64 y) : runA Γ4 Λ4 Try.prog Try.f4 [.v (I x), .v (I y)] = some (.v (.bool true)) := by
  rw [run4]
  have hp := p4_in x
  have hq := q4_in y
  generalize p4 x = p at *
  generalize q4 y = q at *
  have e1 : cl p 1000000 = p := by rw [cl_min p 1000000 (by decide) hp.1]; omega
  have n1 := (nx_in (a := p) (b := 0) q (by omega) hp.1 (by omega)).1
  have e2 : nx p 0 q = min q p := by
    rw [n1, cl_min q (p - 0) (by omega) hq.1]; omega
  have e3 : (if p < q then p else q) = min q p := by split <;> omega
  have e4 : (min q p == p) = decide (q ≥ p) := by
    rw [Bool.eq_iff_iff]
    simp only [beq_iff_eq, decide_eq_true_eq]
    omega
  rw [e1, e2, e3, e4]
  simp [hp, hq]
end Go.Proofs.Ytdlhgjkcfchpnaa

