/-
  The law CountPlays over numbers.
-/
import Derived.Test.YtdlhgjkcfchpnaaYd
namespace Go.Proofs.Ytdlhgjkcfchpnaa
open Go Go.Proofs Go.Sx
/-! CountPlays. -/
def keep3 : List Bool := maskOf 107 [5, 6, 22, 23, 24]
def kx3 : List Bool := maskOf 107 [4]
noncomputable def body3 : Code := loopAt (Try.f3.body.getD .skip) 0
theorem loops3 : loopsOf (Try.f3.body.getD .skip) = [body3] := by kernel_rfl
theorem loops3a : loopsOf body3 = [] := by kernel_rfl
def K3 (e : Ex) (st : St) : Option (Ex × St) := some (e, cutB 2 kx3 st)
def S3 (a M : Int) (L : List (List Int)) (b N i : Int) : St := mk keep3 [.ptr 0 0, .ptr 1 0, .row 0, .v (I (L.length : Int)), .v (I i)] (B2 a b N M [OpL L])
def X3 (a M b N : Int) : Option (Ex × St) := some (.ret, mk kx3 [.v (.bool false)] (B2 a b N M []))
/-- What a law of this shape looks at behind each call. -/
def chk {α : Type} (a M v N : Int) (X Y : α) : α :=
  bif v != N then X else bif a != M then X else bif !((v == a) == (N == M)) then X else bif decide (v < 0) then X else bif decide (v > a) then X else Y
def play {α : Type} (a M : Int) (o : List Int) (p b N : Int) (X Y : Int → Int → Option α) : Option α :=
  bif kd o == 1 then
    bif g12 N M 1 then bif nx a b 1 != rx N M 1 then X (nx a b 1) (rx N M 1) else chk a M (nx a b 1) (rx N M 1) (X (nx a b 1) (rx N M 1)) (Y (nx a b 1) (rx N M 1)) else none
  else bif kd o == 2 then
    bif g12 N M p then bif nx a b (nm o) != rx N M p then X (nx a b (nm o)) (rx N M p) else chk a M (nx a b (nm o)) (rx N M p) (X (nx a b (nm o)) (rx N M p)) (Y (nx a b (nm o)) (rx N M p)) else none
  else bif kd o == 3 then chk a M (cl (nm o) a) (mnx p M) (X (cl (nm o) a) (mnx p M)) (Y (cl (nm o) a) (mnx p M))
  else chk a M (cl 0 a) (mnx 0 M) (X (cl 0 a) (mnx 0 M)) (Y (cl 0 a) (mnx 0 M))
theorem step3 (a M : Int) (L : List (List Int)) (b N i : Int) (k : Nat) : evLoop Γ5 Try.prog L0 (cutB 2 keep3) body3 (k + 1) (S3 a M L b N i) K3 =
    bif decide (i < (L.length : Int)) then
      bif decide (0 ≤ i) && decide (i < (L.length : Int)) then
        bif decide (nm (L.getD i.toNat []) > 2000000) then
          play a M (L.getD i.toNat []) 2000000 b N (X3 a M) (fun v w => evLoop Γ5 Try.prog L0 (cutB 2 keep3) body3 k (S3 a M L v w (wI (i + 1))) K3)
        else play a M (L.getD i.toNat []) (nm (L.getD i.toNat [])) b N (X3 a M) (fun v w => evLoop Γ5 Try.prog L0 (cutB 2 keep3) body3 k (S3 a M L v w (wI (i + 1))) K3)
      else none
    else some (.exit 0, mk kx3 [.poison] (B2 a b N M [])) := by kernel_rfl
end Go.Proofs.Ytdlhgjkcfchpnaa

namespace Go.Proofs.Ytdlhgjkcfchpnaa
open Go Go.Proofs Go.Sx
theorem chk_true {α : Type} (a v : Int) (X Y : α) (h0 : 0 ≤ v) (h1 : v ≤ a) : chk a a v v X Y = Y := by
  unfold chk
  have e1 : (v != v) = false := by simp
  have e2 : (a != a) = false := by simp
  have e3 : (!((v == a) == (v == a))) = false := by simp
  have e4 : decide (v < 0) = false := decide_eq_false (by omega)
  have e5 : decide (v > a) = false := decide_eq_false (by omega)
  rw [e1, e2, e3, e4, e5]
  rfl
theorem play_true {α : Type} (a : Int) (o : List Int) (p b : Int) (X Y : Int → Int → Option α) (h0 : 0 ≤ b) (h1 : b ≤ a) (h2 : a ≤ 1000000) (hp : p = if nm o > 2000000 then 2000000 else nm o) : play a a o p b b X Y = Y (upd a b o) (upd a b o) := by
  have n1 := nx_in 1 h0 h1 h2
  have n2 := nx_in (nm o) h0 h1 h2
  have c3 := cl_in (nm o) a (by omega)
  have c4 := cl_in 0 a (by omega)
  have e1 : rx b a 1 = nx a b 1 := by unfold rx; rw [n1.1]
  have e2 : rx b a p = nx a b (nm o) := by
    unfold rx
    rw [n2.1, hp]
    split
    · unfold cl
      (repeat' split) <;> omega
    · rfl
  have e3 : mnx p a = cl (nm o) a := by
    rw [mnx_cl _ _ (by omega), hp]
    split
    · unfold cl
      (repeat' split) <;> omega
    · rfl
  have e4 : mnx 0 a = cl 0 a := mnx_cl _ _ (by omega)
  have g1 : g12 b a 1 = true := by simp [g12, h0, h1, h2]
  have g2 : g12 b a p = true := by
    have : p ≤ 2000000 := by rw [hp]; split <;> omega
    simp [g12, h0, h1, h2, this]
  unfold play
  rw [e1, e2, e3, e4, g1, g2, chk_true a _ _ _ (by omega) (by omega), chk_true a _ _ _ (by omega) (by omega), chk_true a _ _ _ (by omega) (by omega), chk_true a _ _ _ (by omega) (by omega)]
  simp only [bne_self_eq_false, cond_true, cond_false]
  unfold upd
  cases kd o == 1 <;> cases kd o == 2 <;> cases kd o == 3 <;> rfl

theorem plays {α : Type} (a : Int) (ha : a ≤ 1000000) (L : List (List Int)) (hL : L.length ≤ 300) (E : Nat → Int → Int → Int → Option α) (F X : Int → Int → Option α)
    (hE : ∀ k b N i, E (k + 1) b N i = bif decide (i < (L.length : Int)) then
      bif decide (0 ≤ i) && decide (i < (L.length : Int)) then
        bif decide (nm (L.getD i.toNat []) > 2000000) then
          play a a (L.getD i.toNat []) 2000000 b N X (fun v w => E k v w (wI (i + 1)))
        else play a a (L.getD i.toNat []) (nm (L.getD i.toNat [])) b N X (fun v w => E k v w (wI (i + 1)))
      else none
    else F b N) : ∀ (j m : Nat) (b : Int), 0 ≤ b → b ≤ a → m + j = L.length → E (j + 1) b b (m : Int) = F ((L.drop m).foldl (upd a) b) ((L.drop m).foldl (upd a) b) := by
  intro j
  induction j with
  | zero =>
    intro m b _ _ hm
    rw [hE, show decide ((m : Int) < (L.length : Int)) = false from decide_eq_false (by omega), List.drop_eq_nil_of_le (by omega)]
    rfl
  | succ j ih =>
    intro m b h0 h1 hm
    have hlt : m < L.length := by omega
    have e1 : ((m : Int) + 1) = ((m + 1 : Nat) : Int) := by omega
    have hu := upd_in (L.getD m []) h0 h1 ha
    have e2 : L.drop m = L.getD m [] :: L.drop (m + 1) := by
      rw [List.drop_eq_getElem_cons hlt]
      simp [List.getD, hlt]
    have fin := ih (m + 1) (upd a b (L.getD m [])) hu.1 hu.2 (by omega)
    rw [hE, show decide ((m : Int) < (L.length : Int)) = true from decide_eq_true (by omega), show decide ((0 : Int) ≤ (m : Int)) = true from decide_eq_true (by omega), wI_id (by omega), Int.toNat_natCast, e2, List.foldl_cons, ← fin, e1]
    simp only [cond_true, Bool.and_self]
    by_cases hn : nm (L.getD m []) > 2000000
    · rw [show decide (nm (L.getD m []) > 2000000) = true from decide_eq_true hn]
      simp only [cond_true]
      exact play_true a _ _ b X _ h0 h1 ha (by rw [if_pos hn])
    · rw [show decide (nm (L.getD m []) > 2000000) = false from decide_eq_false hn]
      simp only [cond_false]
      exact play_true a _ _ b X _ h0 h1 ha (by rw [if_neg hn])

def G3 (vals : List SV) (m : Mem) : Option (Bool × Ex × St) :=
  match vals, m with
  | [.ptr 0 0, .ptr 1 0, .row 0, .v (.int .i64 n), .v (.int .i64 i)], ⟨[[.v (.int .i64 a), .v (.int .i64 b)], [.v (.int .i64 N), .v (.int .i64 M)]], [true, true], [.wide [.i64, .i64] L]⟩ =>
    some (i == 0 && (n == (L.length : Int) && (N == b && (M == a && (decide ((L.length : Int) ≤ 300) && (decide (a ≤ 1000000) && (decide (0 ≤ b) && decide (b ≤ a))))))), .exit 0, mk kx3 [.poison] (B2 a (L.foldl (upd a) b) (L.foldl (upd a) b) M []))
  | _, _ => none
noncomputable def Λ3 : LoopOrc := fun _ st => viaB 2 keep3 G3 st
theorem loopOk3 (w : World) : LoopOk Λ3 Try.prog ⟨w, []⟩ body3 := by
  refine loop_okB (Λ := L0) (kx := fun _ => kx3) Ok5 mixed 2 (Nat.zero_le _) (fun b hb => by rw [loops3a] at hb; cases hb) (G := G3) (fun _ => rfl) ?_
  intro vals m e st' h
  unfold G3 at h
  split at h
  · rename_i n i a b N M L
    injection h with h
    injection h with h1 h
    injection h with h2 h3
    subst h2 h3
    simp only [Bool.and_eq_true, beq_iff_eq, decide_eq_true_eq] at h1
    obtain ⟨rfl, rfl, rfl, rfl, h1, h2, h3, h4⟩ := h1
    have := plays M h2 L (by omega) (fun k b N i => evLoop Γ5 Try.prog L0 (cutB 2 keep3) body3 k (S3 M M L b N i) K3) (fun b N => some (.exit 0, mk kx3 [.poison] (B2 M b N M []))) (X3 M M) (fun k b N i => step3 M M L b N i k) L.length 0 N h3 h4 (by omega)
    exact ⟨L.length + 1, this⟩
  · cases h
theorem run3 (a : Int) (L : List (List Int)) : runA Γ5 Λ3 Try.prog Try.f3 [.v (I a), .wide [.i64, .i64] L] =
    bif decide ((L.length : Int) > 300) then some (.v (.bool true))
    else bif (0 : Int) == 0 && ((L.length : Int) == (L.length : Int) && ((0 : Int) == 0 && (mnx a 1000000 == cl a 1000000 && (decide ((L.length : Int) ≤ 300) && (decide (cl a 1000000 ≤ 1000000) && (decide ((0 : Int) ≤ 0) && decide (0 ≤ cl a 1000000))))))) then some (.v (.bool true))
    else none := by kernel_rfl
theorem countPlays (a : Int) (L : List (List Int)) (_ : I64 a) (_ : Ops L) (_ : L.length ≤ 281474976710656) : runA Γ5 Λ3 Try.prog Try.f3 [.v (I a), .wide [.i64, .i64] L] = some (.v (.bool true)) := by
  rw [run3, mnx_cl a 1000000 (by decide)]
  have hc := cl_in a 1000000 (by decide)
  by_cases h : (L.length : Int) > 300
  · simp [h]
  · have h' : (L.length : Int) ≤ 300 := by omega
    simp [h, h', hc]
end Go.Proofs.Ytdlhgjkcfchpnaa

