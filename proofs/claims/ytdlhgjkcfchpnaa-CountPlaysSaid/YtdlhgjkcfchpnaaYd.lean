/-
  Contracts: the document's counter.
-/
import Derived.Test.YtdlhgjkcfchpnaaYc
namespace Go.Proofs.Ytdlhgjkcfchpnaa
open Go Go.Proofs Go.Sx
/-! The document's counter. -/
def lo (n : Int) : Int := if 0 > n then 0 else n
def mnx (n m : Int) : Int := if m < lo n then m else lo n
theorem mnx_cl (n m : Int) (h : 0 ≤ m) : mnx n m = cl n m := by
  unfold mnx lo cl
  (repeat' split) <;> omega
theorem eff10 (n : Int) : EffOk Try.prog 10 [.v (I n)] (.ptr [I 0, I (mnx n 1000000)]) [] := by
  refine by_runE Ok4 Try.func10 rfl (by kernel_rfl) ?_
  kernel_rfl
theorem eff15 (N M n : Int) : EffOk Try.prog 15 [Ct N M, .v (I n)] (.v (.tuple #[])) (cC (mnx n M) M) := by
  refine by_runE Ok4 Try.func15 rfl (by kernel_rfl) ?_
  kernel_rfl
def keep12 : List Bool := maskOf 33 [0, 1, 5]
def kx12 : List Bool := maskOf 33 [0]
noncomputable def body12 : Code := loopAt (Try.f12.body.getD .skip) 0
theorem loops12 : loopsOf (Try.f12.body.getD .skip) = [body12] := by kernel_rfl
theorem loops12a : loopsOf body12 = [] := by kernel_rfl
def K12 (e : Ex) (st : St) : Option (Ex × St) := some (e, cutG kx12 st)
def S12 (n M : Int) (N i : Int) : St := mk keep12 [.ptr 0 0, .v (I n), .v (I i)] (M13 N M)
def R12 (M N : Int) : St := mk kx12 [.ptr 0 0] (M13 N M)
theorem step12 (n M N i : Int) (k : Nat) : evLoop Γ4 Try.prog L0 (cutG keep12) body12 (k + 1) (S12 n M N i) K12 =
    bif decide (i < n) then
      bif decide (N < M) then evLoop Γ4 Try.prog L0 (cutG keep12) body12 k (S12 n M (wI (N + 1)) (wI (i + 1))) K12
      else some (.exit 0, R12 M N)
    else some (.exit 0, R12 M N) := by kernel_rfl
theorem adds {α : Type} (n M : Int) (hn : n ≤ 2000000) (hM : M ≤ 1000000) (E : Nat → Int → Int → Option α) (F : Int → Option α)
    (hE : ∀ k N i, E (k + 1) N i = bif decide (i < n) then bif decide (N < M) then E k (wI (N + 1)) (wI (i + 1)) else F N else F N) :
    ∀ (j : Nat) (N i : Int), 0 ≤ N → N ≤ M → 0 ≤ i → j = (n - i).toNat → E (j + 1) N i = F (N + cl (n - i) (M - N)) := by
  intro j
  induction j with
  | zero =>
    intro N i h0 h1 hi hj
    have hc : cl (n - i) (M - N) = 0 := by unfold cl; split <;> split <;> omega
    rw [hE, show decide (i < n) = false from decide_eq_false (by omega), hc]
    simp
  | succ j ih =>
    intro N i h0 h1 hi hj
    rw [hE, show decide (i < n) = true from decide_eq_true (by omega)]
    by_cases hNM : N < M
    · have hc : cl (n - i) (M - N) = 1 + cl (n - (i + 1)) (M - (N + 1)) := by
        unfold cl
        split <;> split <;> split <;> split <;> omega
      rw [show decide (N < M) = true from decide_eq_true hNM, wI_id (by omega), wI_id (by omega)]
      simp only [cond_true]
      rw [ih (N + 1) (i + 1) (by omega) (by omega) (by omega) (by omega), hc]
      congr 1; omega
    · have hc : cl (n - i) (M - N) = 0 := by unfold cl; split <;> split <;> omega
      rw [show decide (N < M) = false from decide_eq_false hNM, hc]
      simp
def g12 (N M n : Int) : Bool := decide (0 ≤ N) && (decide (N ≤ M) && (decide (M ≤ 1000000) && decide (n ≤ 2000000)))
/-- The document's number behind an Add. -/
def rx (N M n : Int) : Int := N + cl n (M - N)
def G12 (vals : List SV) (m : Mem) : Option (Bool × Ex × St) :=
  match vals, m with
  | [.ptr 0 0, .v (.int .i64 n), .v (.int .i64 i)], ⟨[[.v (.int .i64 N), .v (.int .i64 M)]], [true], []⟩ => some (i == 0 && g12 N M n, .exit 0, R12 M (rx N M n))
  | _, _ => none
noncomputable def Λ12 : LoopOrc := fun _ st => viaK keep12 G12 st
theorem loopOk12 (z : Base) : LoopOk Λ12 Try.prog z body12 := by
  refine loop_okK (Λ := L0) (kx := fun _ => kx12) Ok4 mixed (fun b hb => by rw [loops12a] at hb; cases hb) (G := G12) (fun _ => rfl) ?_
  intro vals m e st' h
  unfold G12 at h
  split at h
  · rename_i n i N M
    injection h with h
    injection h with h1 h
    injection h with h2 h3
    subst h2 h3
    simp only [g12, Bool.and_eq_true, beq_iff_eq, decide_eq_true_eq] at h1
    obtain ⟨rfl, h1, h2, h3, h4⟩ := h1
    have := adds n M h4 h3 (fun k N i => evLoop Γ4 Try.prog L0 (cutG keep12) body12 k (S12 n M N i) K12) (fun N => some (.exit 0, R12 M N)) (fun k N i => step12 n M N i k) (n - 0).toNat N 0 h1 h2 (by omega) rfl
    rw [Int.sub_zero] at this
    exact ⟨n.toNat + 1, this⟩
  · cases h
theorem run12 (N M n : Int) : runE Γ4 Λ12 Try.prog Try.f12 [Ct N M, .v (I n)] = bif (0 : Int) == 0 && g12 N M n then some (.v (I (rx N M n)), cC (rx N M n) M) else none := by kernel_rfl
theorem eff12 (N M n : Int) (h : g12 N M n = true) : EffOk Try.prog 12 [Ct N M, .v (I n)] (.v (I (rx N M n))) (cC (rx N M n) M) := by
  refine effOk_of_run Ok4 mixed names (Λ := Λ12) Try.func12 rfl (fun w b hb => ?_) (by rw [run12, h]; rfl)
  have hb' : b ∈ loopsOf (Try.f12.body.getD .skip) := hb
  rw [loops12, List.mem_singleton] at hb'
  subst hb'; exact loopOk12 w
def x5 : FuncId → List Arg → Option (Bool × Res × List (List Value))
  | 10, [.v (.int .i64 n)] => some (true, .ptr [I 0, I (mnx n 1000000)], [])
  | 12, [.ptr [.int .i64 N, .int .i64 M] 0, .v (.int .i64 n)] => some (g12 N M n, .v (I (rx N M n)), cC (rx N M n) M)
  | 15, [.ptr [.int .i64 _, .int .i64 M] 0, .v (.int .i64 n)] => some (true, .v (.tuple #[]), cC (mnx n M) M)
  | _, _ => none
theorem x5_ok (f : FuncId) (vs : List Arg) (r : Res) (outs : List (List Value)) (h : x5 f vs = some (true, r, outs)) : EffOk Try.prog f vs r outs := by
  unfold x5 at h
  split at h
  · injection h with h; injection h with _ h; injection h with h1 h2; subst h1 h2; exact eff10 _
  · injection h with h; injection h with h0 h; injection h with h1 h2; subst h1 h2; exact eff12 _ _ _ h0
  · injection h with h; injection h with _ h; injection h with h1 h2; subst h1 h2; exact eff15 _ _ _
  · cases h
noncomputable def Γ5 := addX x5 Γ4
theorem Ok5 : Γ5.Ok Try.prog := addX_ok Ok4 x5_ok
end Go.Proofs.Ytdlhgjkcfchpnaa

