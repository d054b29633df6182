/-
  Contracts: fix.Sum, and the document's.
-/
import Derived.Test.YtanjomncnbmgkaaYm
namespace Go.Proofs.Ytanjomncnbmgkaa
open Go Go.Proofs Go.Sx

/-- A sum on its way. -/
def sumS : List Int → Int → Int × Bool
  | [], t => (t, true)
  | n :: r, t => bif inI (t + n) then sumS r (t + n) else (0, false)
def allI (L : List Int) : Bool := L.all inI

theorem sum_loop {α : Type} (L : List Int) (hL : allI L = true) (hlen : L.length ≤ 100000) (E : Nat → Int → Int → Option α) (F : Int → Option α) (R : Option α)
    (hE : ∀ m t i, E (m + 1) t i = bif decide (i < (L.length : Int)) then
      bif decide (0 ≤ i) && decide (i < (L.length : Int)) then
        bif inI t && inI (L.getD i.toNat 0) then
          bif !inI (t + L.getD i.toNat 0) then R else E m (smI (t + L.getD i.toNat 0)) (IntKind.i64.wrap (i + 1))
        else none
      else none
    else F t) : ∀ (m i : Nat) (t : Int), i + m = L.length → inI t = true → E (m + 1) t i = bif (sumS (L.drop i) t).2 then F (sumS (L.drop i) t).1 else R := by
  intro m
  induction m with
  | zero =>
    intro i t hi ht
    have : ¬ ((i : Int) < (L.length : Int)) := by omega
    rw [hE, List.drop_eq_nil_of_le (by omega)]
    simp only [this, decide_false, cond_false]
    rfl
  | succ m ih =>
    intro i t hi ht
    have hlt : i < L.length := by omega
    have h1 : decide ((i : Int) < (L.length : Int)) = true := by simp; omega
    have hg : L.getD (i : Int).toNat 0 = L[i] := by simp [List.getD, hlt]
    have hin : inI L[i] = true := List.all_eq_true.1 hL _ (List.getElem_mem hlt)
    have hw : IntKind.i64.wrap ((i : Int) + 1) = ((i + 1 : Nat) : Int) := by rw [wrapS (by omega)]; omega
    rw [hE, hg, hin, ht, h1, hw, List.drop_eq_getElem_cons hlt]
    unfold sumS
    cases hs : inI (t + L[i])
    · simp
    · have hsm : smI (t + L[i]) = t + L[i] := by unfold smI; rw [hs]; rfl
      rw [hsm]
      simp
      exact ih (i + 1) (t + L[i]) (by omega) hs

noncomputable def body51 : Code := loopAt (Try.f51.body.getD .skip) 0
noncomputable def body52 : Code := loopAt (Try.f52.body.getD .skip) 0
theorem loops51 : loopsOf (Try.f51.body.getD .skip) = [body51] := by kernel_rfl
theorem loops51' : loopsOf body51 = [] := by kernel_rfl
theorem loops52 : loopsOf (Try.f52.body.getD .skip) = [body52] := by kernel_rfl
theorem loops52' : loopsOf body52 = [] := by kernel_rfl
def keep51 := maskOf 26 [11, 10, 9, 4]
def keep52 := maskOf 27 [5, 0, 4]
def kx51 : Ex → List Bool
  | .exit _ => maskOf 26 [4]
  | _ => maskOf 26 [2, 3]
def kx52 : Ex → List Bool
  | .exit _ => maskOf 27 [4]
  | _ => maskOf 27 [2, 3]
def S51 (L : List Int) (t i : Int) : St := mk keep51 [.v (.int .i64 t), .row 0, .v (.int .i64 L.length), .v (.int .i64 i)] ⟨[], [], [.live ⟨0, .i64, L, false⟩]⟩
def S52 (L : List Int) (t i : Int) : St := mk keep52 [.row 0, .v (.int .i64 t), .v (.int .i64 i)] ⟨[], [], [.live ⟨0, .i64, L, false⟩]⟩
def S51x (t : Int) : St := mk (maskOf 26 [4]) [.v (.int .i64 t)] ⟨[], [], []⟩
def S52x (t : Int) : St := mk (maskOf 27 [4]) [.v (.int .i64 t)] ⟨[], [], []⟩
def S51r : St := mk (maskOf 26 [2, 3]) [.v (.int .i64 0), .v (.bool false)] ⟨[], [], []⟩
def S52r : St := mk (maskOf 27 [2, 3]) [.v (.int .i64 0), .v (.bool false)] ⟨[], [], []⟩
def K51 (e : Ex) (st : St) : Option (Ex × St) := some (e, cutG (kx51 e) st)
def K52 (e : Ex) (st : St) : Option (Ex × St) := some (e, cutG (kx52 e) st)
theorem step51 (L : List Int) (t i : Int) (m : Nat) : evLoop Γp Try.prog L0 (cutG keep51) body51 (m + 1) (S51 L t i) K51 =
    bif decide (i < (L.length : Int)) then
      bif decide (0 ≤ i) && decide (i < (L.length : Int)) then
        bif inI t && inI (L.getD i.toNat 0) then
          bif !inI (t + L.getD i.toNat 0) then some (.ret, S51r) else evLoop Γp Try.prog L0 (cutG keep51) body51 m (S51 L (smI (t + L.getD i.toNat 0)) (IntKind.i64.wrap (i + 1))) K51
        else none
      else none
    else some (.exit 0, S51x t) := by kernel_rfl
theorem step52 (L : List Int) (t i : Int) (m : Nat) : evLoop Γp Try.prog L0 (cutG keep52) body52 (m + 1) (S52 L t i) K52 =
    bif decide (i < (L.length : Int)) then
      bif decide (0 ≤ i) && decide (i < (L.length : Int)) then
        bif inI t && inI (L.getD i.toNat 0) then
          bif !inI (t + L.getD i.toNat 0) then some (.ret, S52r) else evLoop Γp Try.prog L0 (cutG keep52) body52 m (S52 L (smI (t + L.getD i.toNat 0)) (IntKind.i64.wrap (i + 1))) K52
        else none
      else none
    else some (.exit 0, S52x t) := by kernel_rfl
theorem loop51 (L : List Int) (hL : allI L = true) (hlen : L.length ≤ 100000) : evLoop Γp Try.prog L0 (cutG keep51) body51 (L.length + 1) (S51 L 0 0) K51 = bif (sumS L 0).2 then some (.exit 0, S51x (sumS L 0).1) else some (.ret, S51r) :=
  sum_loop L hL hlen (fun m t i => evLoop Γp Try.prog L0 (cutG keep51) body51 m (S51 L t i) K51) (fun t => some (.exit 0, S51x t)) (some (.ret, S51r)) (fun m t i => step51 L t i m) L.length 0 0 (by omega) (by decide)
theorem loop52 (L : List Int) (hL : allI L = true) (hlen : L.length ≤ 100000) : evLoop Γp Try.prog L0 (cutG keep52) body52 (L.length + 1) (S52 L 0 0) K52 = bif (sumS L 0).2 then some (.exit 0, S52x (sumS L 0).1) else some (.ret, S52r) :=
  sum_loop L hL hlen (fun m t i => evLoop Γp Try.prog L0 (cutG keep52) body52 m (S52 L t i) K52) (fun t => some (.exit 0, S52x t)) (some (.ret, S52r)) (fun m t i => step52 L t i m) L.length 0 0 (by omega) (by decide)

/-- Where a sum comes to: it is told, or refused: which of both is known. -/
def G51 (c : Bool) (vals : List SV) (m : Mem) : Option (Bool × Ex × St) :=
  match vals, m with
  | [.v (.int .i64 t), .row 0, .v (.int .i64 n), .v (.int .i64 i)], ⟨[], [], [.live ⟨0, .i64, L, false⟩]⟩ =>
    match c with
    | true => some (t == 0 && (i == 0 && (n == (L.length : Int) && (allI L && (decide (L.length ≤ 100000) && (sumS L 0).2)))), .exit 0, S51x (sumS L 0).1)
    | false => some (t == 0 && (i == 0 && (n == (L.length : Int) && (allI L && (decide (L.length ≤ 100000) && !(sumS L 0).2)))), .ret, S51r)
  | _, _ => none
def G52 (c : Bool) (vals : List SV) (m : Mem) : Option (Bool × Ex × St) :=
  match vals, m with
  | [.row 0, .v (.int .i64 t), .v (.int .i64 i)], ⟨[], [], [.live ⟨0, .i64, L, false⟩]⟩ =>
    match c with
    | true => some (t == 0 && (i == 0 && (allI L && (decide (L.length ≤ 100000) && (sumS L 0).2))), .exit 0, S52x (sumS L 0).1)
    | false => some (t == 0 && (i == 0 && (allI L && (decide (L.length ≤ 100000) && !(sumS L 0).2))), .ret, S52r)
  | _, _ => none
def Λ51 (c : Bool) : LoopOrc := fun _ st => viaK keep51 (G51 c) st
def Λ52 (c : Bool) : LoopOrc := fun _ st => viaK keep52 (G52 c) st
theorem loopOk51 (c : Bool) (w0 : World) : LoopOk (Λ51 c) Try.prog w0 body51 := by
  refine loop_okK (Λ := L0) (keep := keep51) (kx := kx51) Okp mixed (fun b hb => by rw [loops51'] at hb; cases hb) (G := G51 c) (fun _ => rfl) ?_
  intro vals m e st' h
  unfold G51 at h
  split at h
  · rename_i t n i L
    cases c <;>
    · injection h with h
      injection h with h1 h
      injection h with h2 h3
      subst h2 h3
      simp only [Bool.and_eq_true, beq_iff_eq, decide_eq_true_eq, Bool.not_eq_true'] at h1
      obtain ⟨rfl, rfl, rfl, g1, g2, g3⟩ := h1
      have := loop51 L g1 g2
      rw [g3] at this
      exact ⟨L.length + 1, this⟩
  · cases h
theorem loopOk52 (c : Bool) (w0 : World) : LoopOk (Λ52 c) Try.prog w0 body52 := by
  refine loop_okK (Λ := L0) (keep := keep52) (kx := kx52) Okp mixed (fun b hb => by rw [loops52'] at hb; cases hb) (G := G52 c) (fun _ => rfl) ?_
  intro vals m e st' h
  unfold G52 at h
  split at h
  · rename_i t i L
    cases c <;>
    · injection h with h
      injection h with h1 h
      injection h with h2 h3
      subst h2 h3
      simp only [Bool.and_eq_true, beq_iff_eq, decide_eq_true_eq, Bool.not_eq_true'] at h1
      obtain ⟨rfl, rfl, g1, g2, g3⟩ := h1
      have := loop52 L g1 g2
      rw [g3] at this
      exact ⟨L.length + 1, this⟩
  · cases h
theorem sumS_no (L : List Int) : ∀ t, (sumS L t).2 = false → (sumS L t).1 = 0 := by
  induction L with
  | nil => intro t h; cases h
  | cons n r ih =>
    intro t h
    unfold sumS at h ⊢
    cases hs : inI (t + n)
    · rfl
    · rw [hs] at h; exact ih _ h
def suV (L : List Int) : Value := .tuple #[.int .i64 (sumS L 0).1, .bool (sumS L 0).2]
theorem call51 (L : List Int) (hL : allI L = true) (hlen : L.length ≤ 100000) : Go.Sx.CallOk Try.prog 51 [.ints .i64 L] (.v (suV L)) := by
  refine callOk_of_run Okp mixed names (Λ := Λ51 (sumS L 0).2) Try.func51 rfl (fun w b hb => ?_) ?_
  · have hb' : b ∈ loopsOf (Try.f51.body.getD .skip) := hb
    rw [loops51, List.mem_singleton] at hb'
    subst hb'; exact loopOk51 _ w
  · cases hc : (sumS L 0).2
    · have e : runA Γp (Λ51 false) Try.prog Try.f51 [.ints .i64 L] = bif ((0 : Int) == 0 && ((0 : Int) == 0 && ((L.length : Int) == (L.length : Int) && (allI L && (decide (L.length ≤ 100000) && !(sumS L 0).2))))) then some (.v (.tuple #[.int .i64 0, .bool false])) else none := by kernel_rfl
      rw [e, hL, hc]
      unfold suV
      rw [hc, sumS_no L 0 hc]
      simp [hlen]
    · have e : runA Γp (Λ51 true) Try.prog Try.f51 [.ints .i64 L] = bif ((0 : Int) == 0 && ((0 : Int) == 0 && ((L.length : Int) == (L.length : Int) && (allI L && (decide (L.length ≤ 100000) && (sumS L 0).2))))) then some (.v (.tuple #[.int .i64 (sumS L 0).1, .bool true])) else none := by kernel_rfl
      rw [e, hL, hc]
      unfold suV
      rw [hc]
      simp [hlen]
theorem call52 (L : List Int) (hL : allI L = true) (hlen : L.length ≤ 100000) : Go.Sx.CallOk Try.prog 52 [.ints .i64 L] (.v (suV L)) := by
  refine callOk_of_run Okp mixed names (Λ := Λ52 (sumS L 0).2) Try.func52 rfl (fun w b hb => ?_) ?_
  · have hb' : b ∈ loopsOf (Try.f52.body.getD .skip) := hb
    rw [loops52, List.mem_singleton] at hb'
    subst hb'; exact loopOk52 _ w
  · cases hc : (sumS L 0).2
    · have e : runA Γp (Λ52 false) Try.prog Try.f52 [.ints .i64 L] = bif ((0 : Int) == 0 && ((0 : Int) == 0 && (allI L && (decide (L.length ≤ 100000) && !(sumS L 0).2)))) then some (.v (.tuple #[.int .i64 0, .bool false])) else none := by kernel_rfl
      rw [e, hL, hc]
      unfold suV
      rw [hc, sumS_no L 0 hc]
      simp [hlen]
    · have e : runA Γp (Λ52 true) Try.prog Try.f52 [.ints .i64 L] = bif ((0 : Int) == 0 && ((0 : Int) == 0 && (allI L && (decide (L.length ≤ 100000) && (sumS L 0).2)))) then some (.v (.tuple #[.int .i64 (sumS L 0).1, .bool true])) else none := by kernel_rfl
      rw [e, hL, hc]
      unfold suV
      rw [hc]
      simp [hlen]
end Go.Proofs.Ytanjomncnbmgkaa

