/-
  Contracts: the digits of a number, the number of digits, and sums digit by digit.
-/
import Derived.Test.YtanjomncnbmgkaaYa
namespace Go.Proofs.Ytanjomncnbmgkaa
open Go Go.Proofs Go.Sx

noncomputable def body62 : Code := loopAt (Try.f62.body.getD .skip) 0
noncomputable def body62' : Code := loopAt (Try.f62.body.getD .skip) 1
theorem loops62 : loopsOf (Try.f62.body.getD .skip) = [body62, body62'] := by kernel_rfl
theorem loops62a : loopsOf body62 = [] := by kernel_rfl
theorem loops62b : loopsOf body62' = [] := by kernel_rfl
def pz (n : Nat) : List SV := List.replicate n .poison
def keep62 : List Bool := [false, true, false, true, true, false, false, false, false, false, false, false, false, false, false, false, false, false, false, false, false, false, false, false, false, false, false, false, false, false, false, false, false, false]
def S62 (a b i : Int) (L : List Int) : St := ⟨Tr.ofList ([.poison, .ptr 0 0, .poison, .row 0, .v (.int .i64 i)] ++ pz 29), ⟨[[.v (.int .i64 a), .v (.int .u64 b)]], [true], [.live ⟨3, .i64, L, true⟩]⟩⟩
def S62x (a b i : Int) (L : List Int) : St := ⟨Tr.ofList ([.poison, .ptr 0 0, .poison, .row 0, .v (.int .i64 i), .poison, .v (.int .i64 i), .v (.bool false)] ++ pz 26), ⟨[[.v (.int .i64 a), .v (.int .u64 b)]], [true], [.live ⟨3, .i64, L, true⟩]⟩⟩
def S62n (a b : Int) : St := ⟨Tr.ofList ([.poison, .ptr 0 0, .poison, .v (.slice none 0 0), .v (.int .i64 0)] ++ pz 29), ⟨[[.v (.int .i64 a), .v (.int .u64 b)]], [true], []⟩⟩
def bx (b i : Int) : Int := IntKind.i64.wrap (IntKind.u64.wrap ((BitVec.ofInt 64 (b.fdiv (2 ^ (min i.toNat IntKind.u64.bits))) &&& BitVec.ofInt 64 1).toNat : Int))

theorem first62 (a b : Int) (n : Nat) (k : Ex → St → Option (Ex × St)) : evLoop Γ1 Try.prog L0 (cutG keep62) body62 (n + 1) (S62n a b) k = evLoop Γ1 Try.prog L0 (cutG keep62) body62 n (S62 a b 1 [bx b 0]) k := by kernel_rfl

theorem step62 (a b i : Int) (L : List Int) (n : Nat) (k : Ex → St → Option (Ex × St)) : evLoop Γ1 Try.prog L0 (cutG keep62) body62 (n + 1) (S62 a b i L) k =
    bif decide (i < 64) then
      bif decide (i < 0) then none else
        bif decide ((L.length + [bx b i].length) * 8 ≤ 140737488355328 ∧ L.length + [bx b i].length ≤ 9223372036854775807) then
          evLoop Γ1 Try.prog L0 (cutG keep62) body62 n (S62 a b (IntKind.i64.wrap (i + 1)) (L ++ [bx b i])) k
        else none
    else k (.exit 0) (S62x a b i L) := by kernel_rfl
end Go.Proofs.Ytanjomncnbmgkaa

namespace Go.Proofs.Ytanjomncnbmgkaa
open Go Go.Proofs Go.Sx

def keep62b : List Bool := [false, true, false, true, false, true, false, false, false, false, false, false, false, false, false, false, false, false, false, false, false, false, false, false, false, false, false, false, false, false, false, false, false, false]
def S62b (a b i : Int) (L : List Int) : St := ⟨Tr.ofList ([.poison, .ptr 0 0, .poison, .row 0, .poison, .v (.int .i64 i)] ++ pz 28), ⟨[[.v (.int .i64 a), .v (.int .u64 b)]], [true], [.live ⟨3, .i64, L, true⟩]⟩⟩
def S62y (a b i : Int) (L : List Int) : St := ⟨Tr.ofList ([.poison, .ptr 0 0, .poison, .row 0, .poison, .v (.int .i64 i)] ++ pz 13 ++ [.v (.int .i64 i), .v (.bool false)] ++ pz 13), ⟨[[.v (.int .i64 a), .v (.int .u64 b)]], [true], [.live ⟨3, .i64, L, true⟩]⟩⟩
theorem step62b (a b i : Int) (L : List Int) (n : Nat) (k : Ex → St → Option (Ex × St)) : evLoop Γ1 Try.prog L0 (cutG keep62b) body62' (n + 1) (S62b a b i L) k =
    bif decide (i < 64) then
      bif decide (i < 0) then none else
        bif decide ((L.length + [bx (IntKind.u64.wrap a) i].length) * 8 ≤ 140737488355328 ∧ L.length + [bx (IntKind.u64.wrap a) i].length ≤ 9223372036854775807) then
          evLoop Γ1 Try.prog L0 (cutG keep62b) body62' n (S62b a b (IntKind.i64.wrap (i + 1)) (L ++ [bx (IntKind.u64.wrap a) i])) k
        else none
    else k (.exit 2) (S62y a b i L) := by kernel_rfl

/-- A number's digits, the least first. -/
def bitI (b : Int) (i : Nat) : Int := b / 2 ^ i % 2
def bl (b : Int) (n : Nat) : List Int := (List.range n).map (bitI b)
theorem bl_length (b : Int) (n : Nat) : (bl b n).length = n := by simp [bl]
theorem bl_succ (b : Int) (n : Nat) : bl b (n + 1) = bl b n ++ [bitI b n] := by simp [bl, List.range_succ]

theorem and1 (x : Int) (h0 : 0 ≤ x) (h1 : x < 18446744073709551616) : ((BitVec.ofInt 64 x &&& BitVec.ofInt 64 1).toNat : Int) = x % 2 := by
  obtain ⟨n, rfl⟩ := Int.eq_ofNat_of_zero_le h0
  have e : (BitVec.ofInt 64 1) = BitVec.ofNat 64 (2 ^ 1 - 1) := by decide
  rw [e, BitVec.toNat_and, BitVec.ofInt_natCast, BitVec.toNat_ofNat, BitVec.toNat_ofNat]
  rw [Nat.mod_eq_of_lt (a := 2 ^ 1 - 1) (by decide), Nat.and_two_pow_sub_one_eq_mod]
  show ((n % 18446744073709551616 % 2 : Nat) : Int) = _
  omega

theorem bx_eq (b : Int) (h0 : 0 ≤ b) (h1 : b < 18446744073709551616) (i : Nat) (hi : i < 64) : bx b i = bitI b i := by
  unfold bx bitI
  have hm : min (i : Int).toNat IntKind.u64.bits = i := by
    show min (i : Int).toNat 64 = i
    omega
  have hp : (0 : Int) < 2 ^ i := Int.pow_pos (by decide)
  rw [hm, Int.fdiv_eq_ediv_of_nonneg _ (by omega)]
  have d0 : 0 ≤ b / 2 ^ i := Int.ediv_nonneg h0 (by omega)
  have d1 : b / 2 ^ i ≤ b := Int.ediv_le_self _ h0
  generalize b / 2 ^ i = y at *
  rw [and1 _ d0 (by omega), wrapU, wrapI]
  split <;> omega

theorem wrap1 (j : Nat) (h : j < 1000) : IntKind.i64.wrap ((j : Int) + 1) = ((j + 1 : Nat) : Int) := by
  rw [wrapI]; split <;> omega

theorem loop62 (a b : Int) (h0 : 0 ≤ b) (h1 : b < 18446744073709551616) (K : Ex → St → Option (Ex × St)) : ∀ (m j : Nat), j + m = 64 →
    evLoop Γ1 Try.prog L0 (cutG keep62) body62 (m + 1) (S62 a b j (bl b j)) K = K (.exit 0) (S62x a b 64 (bl b 64)) := by
  intro m
  induction m with
  | zero =>
    intro j hj
    obtain rfl : j = 64 := by omega
    rw [step62]
    rfl
  | succ m ih =>
    intro j hj
    rw [step62]
    have g1 : decide ((j : Int) < 64) = true := by simp; omega
    have g2 : decide ((j : Int) < 0) = false := by simp
    have g3 : decide (((bl b j).length + [bx b j].length) * 8 ≤ 140737488355328 ∧ (bl b j).length + [bx b j].length ≤ 9223372036854775807) = true := by
      simp [bl_length]; omega
    rw [g1, g2, g3, bx_eq b h0 h1 j (by omega), wrap1 j (by omega), ← bl_succ]
    exact ih (j + 1) (by omega)

theorem loop62b (a b : Int) (L : List Int) (hL : L.length ≤ 1000) (K : Ex → St → Option (Ex × St)) : ∀ (m j : Nat), j + m = 64 →
    evLoop Γ1 Try.prog L0 (cutG keep62b) body62' (m + 1) (S62b a b j (L ++ bl (IntKind.u64.wrap a) j)) K = K (.exit 2) (S62y a b 64 (L ++ bl (IntKind.u64.wrap a) 64)) := by
  have h0 : 0 ≤ IntKind.u64.wrap a := by rw [wrapU]; omega
  have h1 : IntKind.u64.wrap a < 18446744073709551616 := by rw [wrapU]; omega
  intro m
  induction m with
  | zero =>
    intro j hj
    obtain rfl : j = 64 := by omega
    rw [step62b]
    rfl
  | succ m ih =>
    intro j hj
    rw [step62b]
    have g1 : decide ((j : Int) < 64) = true := by simp; omega
    have g2 : decide ((j : Int) < 0) = false := by simp
    have g3 : decide (((L ++ bl (IntKind.u64.wrap a) j).length + [bx (IntKind.u64.wrap a) j].length) * 8 ≤ 140737488355328 ∧ (L ++ bl (IntKind.u64.wrap a) j).length + [bx (IntKind.u64.wrap a) j].length ≤ 9223372036854775807) = true := by
      simp [bl_length]; omega
    rw [g1, g2, g3, bx_eq _ h0 h1 j (by omega), wrap1 j (by omega), List.append_assoc, ← bl_succ]
    exact ih (j + 1) (by omega)

/-- The first region of a code. -/
def tagOf : Code → Nat
  | .seq a _ => tagOf a
  | .region id _ _ => id
  | _ => 0
theorem tag62 : tagOf body62 = 3 := by kernel_rfl
theorem tag62b : tagOf body62' = 7 := by kernel_rfl

def isPz : List SV → Nat → Bool
  | [], 0 => true
  | .poison :: r, n + 1 => isPz r n
  | _, _ => false
theorem isPz_eq : ∀ {r : List SV} {n : Nat}, isPz r n = true → r = pz n
  | [], 0, _ => rfl
  | .poison :: r, n + 1, h => by
    have := isPz_eq (r := r) (n := n) h
    rw [this]; rfl
  | [], n + 1, h => by cases h
  | .poison :: r, 0, h => by cases h
  | .v _ :: r, n, h => by cases h
  | .ptr _ _ :: r, n, h => by cases h
  | .row _ :: r, n, h => by cases h
  | .rp _ _ :: r, n, h => by cases h

def F62 (st : St) : Option (Bool × Ex × St) :=
  match cutL st.tmps.get keep62 0, st.mem with
  | .poison :: .ptr 0 0 :: .poison :: .v (.slice none 0 0) :: .v (.int .i64 z) :: p, ⟨[[.v (.int .i64 a), .v (.int .u64 b)]], [true], []⟩ =>
    some (isPz p 29 && (inU b && z == 0), .exit 0, S62x a b 64 (bl b 64))
  | _, _ => none
def F62b (st : St) : Option (Bool × Ex × St) :=
  match cutL st.tmps.get keep62b 0, st.mem with
  | .poison :: .ptr 0 0 :: .poison :: .row 0 :: .poison :: .v (.int .i64 z) :: p, ⟨[[.v (.int .i64 a), .v (.int .u64 b)]], [true], [.live ⟨3, .i64, L, true⟩]⟩ =>
    some (isPz p 28 && (decide (L.length ≤ 1000) && z == 0), .exit 2, S62y a b 64 (L ++ bl (IntKind.u64.wrap a) 64))
  | _, _ => none
def Λ62 : LoopOrc := fun body st => match tagOf body with
  | 3 => F62 st
  | 7 => F62b st
  | _ => none

theorem loopOk62 (w0 : World) : LoopOk Λ62 Try.prog w0 body62 := by
  refine loop_okG (Λ := L0) (keep := keep62) Ok1 mixed (fun b hb => by rw [loops62a] at hb; cases hb) (F := F62) (fun st => by unfold Λ62; rw [tag62]; rfl) ?_
  intro st e st' h
  unfold F62 at h
  split at h
  · rename_i z p a b hc hm
    injection h with h
    injection h with h1 h
    injection h with h2 h3
    subst h2 h3
    simp only [Bool.and_eq_true, beq_iff_eq, inU_iff] at h1
    obtain ⟨g0, ⟨g1, g2⟩, rfl⟩ := h1
    obtain rfl := isPz_eq g0
    refine ⟨65, ?_⟩
    have hs : cutG keep62 st = S62n a b := by
      unfold cutG
      rw [hc, hm]
      rfl
    rw [hs, first62]
    have hb : bx b 0 = bitI b 0 := bx_eq b g1 g2 0 (by decide)
    rw [hb]
    exact loop62 a b g1 g2 _ 63 1 rfl
  · cases h

theorem loopOk62b (w0 : World) : LoopOk Λ62 Try.prog w0 body62' := by
  refine loop_okG (Λ := L0) (keep := keep62b) Ok1 mixed (fun b hb => by rw [loops62b] at hb; cases hb) (F := F62b) (fun st => by unfold Λ62; rw [tag62b]; rfl) ?_
  intro st e st' h
  unfold F62b at h
  split at h
  · rename_i z p a b L hc hm
    injection h with h
    injection h with h1 h
    injection h with h2 h3
    subst h2 h3
    simp only [Bool.and_eq_true, beq_iff_eq, decide_eq_true_eq] at h1
    obtain ⟨g0, g1, rfl⟩ := h1
    obtain rfl := isPz_eq g0
    refine ⟨65, ?_⟩
    have hs : cutG keep62b st = S62b a b 0 L := by
      unfold cutG
      rw [hc, hm]
      rfl
    rw [hs]
    have := loop62b a b L g1 (fun e st => some (e, st)) 64 0 rfl
    rw [show bl (IntKind.u64.wrap a) 0 = [] from rfl, List.append_nil] at this
    exact this
  · cases h

theorem run62 (a b : Int) : runA Γ1 Λ62 Try.prog Try.f62 [.v (W a b)] =
    bif inU b && (0 : Int) == 0 then
      bif decide ((bl b 64).length ≤ 1000) && (0 : Int) == 0 then some (.ints 3 .i64 (bl b 64 ++ bl (IntKind.u64.wrap a) 64)) else none
    else none := by kernel_rfl

theorem call62 (a b : Int) (h : inU b = true) : Go.Sx.CallOk Try.prog 62 [.v (W a b)] (.ints 3 .i64 (bl b 64 ++ bl (IntKind.u64.wrap a) 64)) := by
  refine callOk_of_run Ok1 mixed names (Λ := Λ62) Try.func62 rfl (fun w b hb => ?_) ?_
  · have hb' : b ∈ loopsOf (Try.f62.body.getD .skip) := hb
    rw [loops62] at hb'
    rcases List.mem_cons.1 hb' with hb' | hb'
    · subst hb'; exact loopOk62 w
    · rw [List.mem_singleton] at hb'
      subst hb'; exact loopOk62b w
  · rw [run62, h, bl_length]
    rfl
end Go.Proofs.Ytanjomncnbmgkaa

namespace Go.Proofs.Ytanjomncnbmgkaa
open Go Go.Proofs Go.Sx

noncomputable def body63 : Code := loopAt (Try.f63.body.getD .skip) 0
theorem loops63 : loopsOf (Try.f63.body.getD .skip) = [body63] := by kernel_rfl
theorem loops63a : loopsOf body63 = [] := by kernel_rfl
def keep63 : List Bool := [true, false, true, true, true, true, false, false, false, false, false, false, false, false, false, false, false, false, false, false, false, false, false, false, false, false, false, false, false, false, false, false, false, false, false, false]
def S63 (L : List Int) (lo hi i : Int) : St := ⟨Tr.ofList ([.row 0, .poison, .ptr 0 0, .ptr 1 0, .v (.int .u64 hi), .v (.int .i64 i)] ++ pz 30), ⟨[[.v (.int .i64 0), .v (.int .u64 0)], [.v (.int .i64 0), .v (.int .u64 lo)]], [true, true], [.live ⟨0, .i64, L, false⟩]⟩⟩
def S63x (L : List Int) (lo hi i : Int) : St := ⟨Tr.ofList ([.row 0, .poison, .ptr 0 0, .ptr 1 0, .v (.int .u64 hi), .v (.int .i64 i), .poison, .v (.int .i64 i), .v (.bool false)] ++ pz 27), ⟨[[.v (.int .i64 0), .v (.int .u64 0)], [.v (.int .i64 0), .v (.int .u64 lo)]], [true, true], [.live ⟨0, .i64, L, false⟩]⟩⟩
def orV (r i : Int) : Int := IntKind.u64.wrap ((BitVec.ofInt 64 r ||| BitVec.ofInt 64 (IntKind.u64.wrap (1 * 2 ^ (min i.toNat IntKind.u64.bits)))).toNat : Int)

theorem step63 (L : List Int) (lo hi i : Int) (n : Nat) (k : Ex → St → Option (Ex × St)) : evLoop Γ1 Try.prog L0 (cutG keep63) body63 (n + 1) (S63 L lo hi i) k =
    bif decide (i < 64) then
      bif decide (0 ≤ i) && decide (i < L.length) then
        bif L.getD i.toNat 0 == 1 then
          bif decide (i < 0) then none else
            bif decide (0 ≤ IntKind.i64.wrap (64 + i)) && decide (IntKind.i64.wrap (64 + i) < L.length) then
              bif L.getD (IntKind.i64.wrap (64 + i)).toNat 0 == 1 then
                bif decide (i < 0) then none else evLoop Γ1 Try.prog L0 (cutG keep63) body63 n (S63 L (orV lo i) (orV hi i) (IntKind.i64.wrap (i + 1))) k
              else evLoop Γ1 Try.prog L0 (cutG keep63) body63 n (S63 L (orV lo i) hi (IntKind.i64.wrap (i + 1))) k
            else none
        else
          bif decide (0 ≤ IntKind.i64.wrap (64 + i)) && decide (IntKind.i64.wrap (64 + i) < L.length) then
            bif L.getD (IntKind.i64.wrap (64 + i)).toNat 0 == 1 then
              bif decide (i < 0) then none else evLoop Γ1 Try.prog L0 (cutG keep63) body63 n (S63 L lo (orV hi i) (IntKind.i64.wrap (i + 1))) k
            else evLoop Γ1 Try.prog L0 (cutG keep63) body63 n (S63 L lo hi (IntKind.i64.wrap (i + 1))) k
          else none
      else none
    else k (.exit 0) (S63x L lo hi i) := by kernel_rfl

def valD (f : Nat → Int) : Nat → Int
  | 0 => 0
  | n + 1 => bif f n == 1 then valD f n + 2 ^ n else valD f n

theorem valD_bd (f : Nat → Int) : ∀ n, 0 ≤ valD f n ∧ valD f n < 2 ^ n
  | 0 => by simp [valD]
  | n + 1 => by
    have := valD_bd f n
    have hs : (2 : Int) ^ (n + 1) = 2 ^ n * 2 := Int.pow_succ 2 n
    have hp : (0 : Int) < 2 ^ n := Int.pow_pos (by decide)
    unfold valD
    cases f n == 1 <;> simp only [cond_true, cond_false] <;> omega

theorem orV_add (r : Int) (k : Nat) (hk : k < 64) (h0 : 0 ≤ r) (h1 : r < 2 ^ k) : orV r k = r + 2 ^ k := by
  obtain ⟨m, rfl⟩ := Int.eq_ofNat_of_zero_le h0
  have e1 : ((2 : Int) ^ k) = ((2 ^ k : Nat) : Int) := by simp
  rw [e1] at h1 ⊢
  have h1' : m < 2 ^ k := by exact_mod_cast h1
  have hk2 : (2 : Nat) ^ k ≤ 2 ^ 63 := Nat.pow_le_pow_right (by decide) (by omega)
  have e63 : (2 : Nat) ^ 63 = 9223372036854775808 := by decide
  have e64 : (2 : Nat) ^ 64 = 18446744073709551616 := by decide
  have hm : min (k : Int).toNat IntKind.u64.bits = k := by
    show min (k : Int).toNat 64 = k
    omega
  unfold orV
  rw [hm, e1, Int.one_mul]
  have hw : IntKind.u64.wrap ((2 ^ k : Nat) : Int) = ((2 ^ k : Nat) : Int) := by
    rw [wrapU]; omega
  rw [hw, BitVec.ofInt_natCast, BitVec.ofInt_natCast, BitVec.toNat_or, BitVec.toNat_ofNat, BitVec.toNat_ofNat, e64]
  rw [Nat.mod_eq_of_lt (by omega : m < 18446744073709551616), Nat.mod_eq_of_lt (by omega : 2 ^ k < 18446744073709551616)]
  have hor : m ||| 2 ^ k = m + 2 ^ k := by
    have := Nat.two_pow_add_eq_or_of_lt h1' 1
    rw [Nat.mul_one] at this
    rw [Nat.or_comm, ← this, Nat.add_comm]
  rw [hor, wrapU]
  omega

def loL (L : List Int) : Nat → Int := valD (fun i => L.getD i 0)
def hiL (L : List Int) : Nat → Int := valD (fun i => L.getD (64 + i) 0)

theorem loop63 (L : List Int) (hL : L.length = 128) (K : Ex → St → Option (Ex × St)) : ∀ (m j : Nat), j + m = 64 →
    evLoop Γ1 Try.prog L0 (cutG keep63) body63 (m + 1) (S63 L (loL L j) (hiL L j) j) K = K (.exit 0) (S63x L (loL L 64) (hiL L 64) 64) := by
  intro m
  induction m with
  | zero =>
    intro j hj
    obtain rfl : j = 64 := by omega
    rw [step63]
    rfl
  | succ m ih =>
    intro j hj
    rw [step63]
    have hw : IntKind.i64.wrap (64 + (j : Int)) = ((64 + j : Nat) : Int) := by
      rw [wrapI]; split <;> omega
    have g1 : decide ((j : Int) < 64) = true := by simp; omega
    have g2 : decide ((j : Int) < 0) = false := by simp
    have g3 : (decide (0 ≤ (j : Int)) && decide ((j : Int) < L.length)) = true := by simp; omega
    have g4 : (decide (0 ≤ ((64 + j : Nat) : Int)) && decide (((64 + j : Nat) : Int) < L.length)) = true := by rw [hL]; simp; omega
    have b1 := valD_bd (fun i => L.getD i 0) j
    have b2 := valD_bd (fun i => L.getD (64 + i) 0) j
    have o1 : orV (loL L j) j = loL L j + 2 ^ j := orV_add _ j (by omega) b1.1 b1.2
    have o2 : orV (hiL L j) j = hiL L j + 2 ^ j := orV_add _ j (by omega) b2.1 b2.2
    have n1 : loL L (j + 1) = bif L.getD j 0 == 1 then loL L j + 2 ^ j else loL L j := rfl
    have n2 : hiL L (j + 1) = bif L.getD (64 + j) 0 == 1 then hiL L j + 2 ^ j else hiL L j := rfl
    rw [g1, hw, g3, g4, g2, o1, o2, wrap1 j (by omega)]
    simp only [cond_true, cond_false, Int.toNat_natCast]
    have := ih (j + 1) (by omega)
    rw [n1, n2] at this
    cases h1 : L.getD j 0 == 1 <;> cases h2 : L.getD (64 + j) 0 == 1 <;> rw [h1, h2] at this <;> simpa only [cond_true, cond_false] using this

def F63 (st : St) : Option (Bool × Ex × St) :=
  match cutL st.tmps.get keep63 0, st.mem with
  | .row 0 :: .poison :: .ptr 0 0 :: .ptr 1 0 :: .v (.int .u64 y) :: .v (.int .i64 z) :: p, ⟨[[.v (.int .i64 a), .v (.int .u64 b)], [.v (.int .i64 c), .v (.int .u64 d)]], [true, true], [.live ⟨0, .i64, L, false⟩]⟩ =>
    some (isPz p 30 && (decide (L.length = 128) && (y == 0 && (z == 0 && (a == 0 && (b == 0 && (c == 0 && d == 0)))))), .exit 0, S63x L (loL L 64) (hiL L 64) 64)
  | _, _ => none
def Λ63 : LoopOrc := fun _ st => F63 st

theorem loopOk63 (w0 : World) : LoopOk Λ63 Try.prog w0 body63 := by
  refine loop_okG (Λ := L0) (keep := keep63) Ok1 mixed (fun b hb => by rw [loops63a] at hb; cases hb) (F := F63) (fun st => rfl) ?_
  intro st e st' h
  unfold F63 at h
  split at h
  · rename_i y z p a b c d L hc hm
    injection h with h
    injection h with h1 h
    injection h with h2 h3
    subst h2 h3
    simp only [Bool.and_eq_true, beq_iff_eq, decide_eq_true_eq] at h1
    obtain ⟨g0, g1, rfl, rfl, rfl, rfl, rfl, rfl⟩ := h1
    obtain rfl := isPz_eq g0
    refine ⟨65, ?_⟩
    have hs : cutG keep63 st = S63 L 0 0 0 := by
      unfold cutG
      rw [hc, hm]
      rfl
    rw [hs]
    exact loop63 L g1 _ 64 0 rfl
  · cases h

theorem run63 (L : List Int) : runA Γ1 Λ63 Try.prog Try.f63 [.ints .i64 L] =
    bif decide (L.length = 128) && ((0 : Int) == 0 && ((0 : Int) == 0 && ((0 : Int) == 0 && ((0 : Int) == 0 && ((0 : Int) == 0 && (0 : Int) == 0))))) then
      some (.v (W (IntKind.i64.wrap (hiL L 64)) (loL L 64))) else none := by kernel_rfl

theorem call63 (L : List Int) (h : L.length = 128) : Go.Sx.CallOk Try.prog 63 [.ints .i64 L] (.v (W (IntKind.i64.wrap (hiL L 64)) (loL L 64))) := by
  refine callOk_of_run Ok1 mixed names (Λ := Λ63) Try.func63 rfl (fun w b hb => ?_) ?_
  · have hb' : b ∈ loopsOf (Try.f63.body.getD .skip) := hb
    rw [loops63] at hb'
    rw [List.mem_singleton] at hb'
    subst hb'; exact loopOk63 w
  · rw [run63, h]
    rfl

/-- The digits' number. -/
theorem valD_bit (n : Int) (f : Nat → Int) (s : Nat) (h : ∀ i, i < 64 → f i = bitI n (s + i)) : ∀ k, k ≤ 64 → valD f k = n / 2 ^ s % 2 ^ k
  | 0, _ => by simp [valD, Int.emod_one]
  | k + 1, hk => by
    have ih := valD_bit n f s h k (by omega)
    have hp : (0 : Int) < 2 ^ k := Int.pow_pos (by decide)
    have hs : (2 : Int) ^ (k + 1) = 2 ^ k * 2 := Int.pow_succ 2 k
    have e : f k = n / 2 ^ s / 2 ^ k % 2 := by
      rw [h k (by omega)]
      unfold bitI
      rw [Int.pow_add, Int.ediv_ediv_of_nonneg (Int.le_of_lt (Int.pow_pos (by decide)))]
    unfold valD
    rw [e, ih, hs]
    generalize n / 2 ^ s = y
    generalize (2 : Int) ^ k = p at *
    have hy := Int.mul_ediv_add_emod y p
    have hu := Int.mul_ediv_add_emod (y / p) 2
    have r0 : 0 ≤ y % p := Int.emod_nonneg _ (by omega)
    have r1 : y % p < p := Int.emod_lt_of_pos _ hp
    generalize y % p = r at *
    generalize y / p = q at *
    generalize q / 2 = t at *
    have hq : q % 2 = 0 ∨ q % 2 = 1 := by omega
    rcases hq with hq | hq <;> rw [hq] at hu ⊢
    · have : y = r + p * 2 * t := by rw [← hy, ← hu, Int.mul_assoc]; simp [Int.add_comm]
      rw [this, Int.add_mul_emod_self_left, Int.emod_eq_of_lt r0 (by omega)]
      rfl
    · have : y = (r + p) + p * 2 * t := by rw [← hy, ← hu, Int.mul_assoc, Int.mul_add, Int.mul_one]; omega
      rw [this, Int.add_mul_emod_self_left, Int.emod_eq_of_lt (by omega) (by omega)]
      rfl

theorem bl_getD (n : Int) (k i : Nat) (h : i < k) : (bl n k).getD i 0 = bitI n i := by
  simp [bl, List.getD, h]

/-- The number of 128 digits. -/
theorem lo_bl (n : Int) : loL (bl n 128) 64 = n % 18446744073709551616 := by
  have := valD_bit n (fun i => (bl n 128).getD i 0) 0 (fun i hi => by simp only [Nat.zero_add]; exact bl_getD n 128 i (by omega)) 64 (by omega)
  unfold loL
  rw [this]
  have e1 : (2 : Int) ^ 0 = 1 := by decide
  have e2 : (2 : Int) ^ 64 = 18446744073709551616 := by decide
  rw [e1, e2, Int.ediv_one]
theorem hi_bl (n : Int) : hiL (bl n 128) 64 = n / 18446744073709551616 % 18446744073709551616 := by
  have := valD_bit n (fun i => (bl n 128).getD (64 + i) 0) 64 (fun i hi => bl_getD n 128 (64 + i) (by omega)) 64 (by omega)
  unfold hiL
  rw [this]
  have e2 : (2 : Int) ^ 64 = 18446744073709551616 := by decide
  rw [e2]

theorem bl_join (b h : Int) (h0 : 0 ≤ b) (h1 : b < 18446744073709551616) : bl b 64 ++ bl h 64 = bl (h * 18446744073709551616 + b) 128 := by
  have e2 : (2 : Int) ^ 64 = 18446744073709551616 := by decide
  refine List.ext_getElem (by simp [bl]) ?_
  intro i hi hi'
  rw [List.getElem_append]
  simp only [bl_length] at hi'
  split
  · rename_i hlt
    simp only [bl_length] at hlt
    simp only [bl, List.getElem_map, List.getElem_range]
    unfold bitI
    have hs : (2 : Int) ^ 64 = 2 ^ i * 2 ^ (64 - i) := by rw [← Int.pow_add]; congr 1; omega
    have hs2 : (2 : Int) ^ (64 - i) = 2 ^ (63 - i) * 2 := by rw [← Int.pow_succ]; congr 1; omega
    have hp : (0 : Int) < 2 ^ i := Int.pow_pos (by decide)
    rw [← e2, hs, hs2, show h * (2 ^ i * (2 ^ (63 - i) * 2)) = 2 ^ i * (h * 2 ^ (63 - i) * 2) by
      rw [Int.mul_left_comm, Int.mul_assoc h]]
    rw [Int.add_comm, Int.add_mul_ediv_left _ _ (by omega)]
    omega
  · rename_i hge
    simp only [bl_length] at hge
    simp only [bl, List.getElem_map, List.getElem_range]
    unfold bitI
    have hs : (2 : Int) ^ i = 2 ^ 64 * 2 ^ (i - 64) := by rw [← Int.pow_add]; congr 1; omega
    simp only [List.length_map, List.length_range]
    rw [hs, ← Int.ediv_ediv_of_nonneg (by decide), e2]
    congr 2
    omega

end Go.Proofs.Ytanjomncnbmgkaa

namespace Go.Proofs.Ytanjomncnbmgkaa
open Go Go.Proofs Go.Sx

def wu (a b : Int) : Int := IntKind.u64.wrap a * 18446744073709551616 + b
def tA : FuncId → List Arg → Option (Bool × Res)
  | 62, [.v (.agg ⟨[.int .i64 a, .int .u64 b]⟩)] => some (inU b, .ints 3 .i64 (bl (wu a b) 128))
  | 63, [.ints .i64 L] => some (decide (L.length = 128), .v (W (IntKind.i64.wrap (hiL L 64)) (loL L 64)))
  | _, _ => none
noncomputable def Γa := addA tA Γ1
theorem OkA : Γa.Ok Try.prog := addA_ok Ok1 (fun f vs r h => by
  unfold tA at h
  split at h
  · rename_i a b
    injection h with h; injection h with h1 h2; subst h2
    have := call62 a b h1
    rw [inU_iff] at h1
    rw [bl_join _ _ h1.1 h1.2] at this
    exact this
  · injection h with h; injection h with h1 h2; subst h2
    exact call63 _ (by simpa using h1)
  · cases h)

noncomputable def body56 : Code := loopAt (Try.f56.body.getD .skip) 0
theorem loops56 : loopsOf (Try.f56.body.getD .skip) = [body56] := by kernel_rfl
theorem loops56a : loopsOf body56 = [] := by kernel_rfl
def keep56 : List Bool := [false, false, false, false, true, true, true, true, true, true] ++ List.replicate 29 false
def B56 (a b c d : Int) : List (List SV) := [[.v (.int .i64 a), .v (.int .u64 b)], [.v (.int .i64 c), .v (.int .u64 d)], [.v (.int .i64 0), .v (.int .u64 0)]]
def S56 (a b c d : Int) (X Y L : List Int) (s i : Int) : St := ⟨Tr.ofList ([.poison, .poison, .poison, .poison, .ptr 2 0, .row 0, .row 1, .row 2, .v (.int .i64 s), .v (.int .i64 i)] ++ pz 29), ⟨B56 a b c d, [true, true, true], [.live ⟨3, .i64, X, true⟩, .live ⟨3, .i64, Y, true⟩, .live ⟨3, .i64, L, true⟩]⟩⟩
def S56n (a b c d : Int) (X Y : List Int) : St := ⟨Tr.ofList ([.poison, .poison, .poison, .poison, .ptr 2 0, .row 0, .row 1, .v (.slice none 0 0), .v (.int .i64 0), .v (.int .i64 0)] ++ pz 29), ⟨B56 a b c d, [true, true, true], [.live ⟨3, .i64, X, true⟩, .live ⟨3, .i64, Y, true⟩]⟩⟩
def S56x (a b c d : Int) (X Y L : List Int) (s i : Int) : St := ⟨Tr.ofList ([.poison, .poison, .poison, .poison, .ptr 2 0, .row 0, .row 1, .row 2, .v (.int .i64 s), .v (.int .i64 i)] ++ pz 5 ++ [.v (.int .i64 i), .v (.bool false)] ++ pz 22), ⟨B56 a b c d, [true, true, true], [.live ⟨3, .i64, X, true⟩, .live ⟨3, .i64, Y, true⟩, .live ⟨3, .i64, L, true⟩]⟩⟩
def sm (X Y : List Int) (s i : Int) : Int := IntKind.i64.wrap (IntKind.i64.wrap (X.getD i.toNat 0 + Y.getD i.toNat 0) + s)

theorem first56 (a b c d : Int) (X Y : List Int) (n : Nat) (k : Ex → St → Option (Ex × St)) : evLoop Γa Try.prog L0 (cutG keep56) body56 (n + 1) (S56n a b c d X Y) k =
    bif decide ((0 : Int) ≤ 0) && decide ((0 : Int) < X.length) then
      bif decide ((0 : Int) ≤ 0) && decide ((0 : Int) < Y.length) then
        evLoop Γa Try.prog L0 (cutG keep56) body56 n (S56 a b c d X Y [(sm X Y 0 0).tmod 2] (IntKind.i64.wrap ((sm X Y 0 0).tdiv 2)) 1) k
      else none
    else none := by kernel_rfl

theorem step56 (a b c d : Int) (X Y L : List Int) (s i : Int) (n : Nat) (k : Ex → St → Option (Ex × St)) : evLoop Γa Try.prog L0 (cutG keep56) body56 (n + 1) (S56 a b c d X Y L s i) k =
    bif decide (i < 128) then
      bif decide (0 ≤ i) && decide (i < X.length) then
        bif decide (0 ≤ i) && decide (i < Y.length) then
          bif decide ((L.length + [(sm X Y s i).tmod 2].length) * 8 ≤ 140737488355328 ∧ L.length + [(sm X Y s i).tmod 2].length ≤ 9223372036854775807) then
            evLoop Γa Try.prog L0 (cutG keep56) body56 n (S56 a b c d X Y (L ++ [(sm X Y s i).tmod 2]) (IntKind.i64.wrap ((sm X Y s i).tdiv 2)) (IntKind.i64.wrap (i + 1))) k
          else none
        else none
      else none
    else k (.exit 0) (S56x a b c d X Y L s i) := by kernel_rfl

theorem emod2 (y p : Int) (hp : 0 < p) : y % (p * 2) = y % p + p * (y / p % 2) := by
  have hy := Int.mul_ediv_add_emod y p
  have hu := Int.mul_ediv_add_emod (y / p) 2
  have r0 : 0 ≤ y % p := Int.emod_nonneg _ (by omega)
  have r1 : y % p < p := Int.emod_lt_of_pos _ hp
  generalize y % p = r at *
  generalize y / p = q at *
  generalize q / 2 = t at *
  have hq : q % 2 = 0 ∨ q % 2 = 1 := by omega
  rcases hq with hq | hq <;> rw [hq] at hu ⊢
  · have : y = r + p * 2 * t := by rw [← hy, ← hu, Int.mul_assoc]; simp [Int.add_comm]
    rw [this, Int.add_mul_emod_self_left, Int.emod_eq_of_lt r0 (by omega)]
    simp
  · have : y = (r + p) + p * 2 * t := by rw [← hy, ← hu, Int.mul_assoc, Int.mul_add, Int.mul_one]; omega
    rw [this, Int.add_mul_emod_self_left, Int.emod_eq_of_lt (by omega) (by omega)]
    simp

/-- What is carried into the next digit. -/
def cy (A B : Int) (j : Nat) : Int := (A % 2 ^ j + B % 2 ^ j) / 2 ^ j
theorem cy_step (A B : Int) (j : Nat) : 0 ≤ bitI A j ∧ bitI A j ≤ 1 ∧ 0 ≤ bitI B j ∧ bitI B j ≤ 1 ∧ 0 ≤ cy A B j ∧ cy A B j ≤ 1 ∧ (bitI A j + bitI B j + cy A B j) % 2 = bitI (A + B) j ∧ (bitI A j + bitI B j + cy A B j) / 2 = cy A B (j + 1) := by
  have hp : (0 : Int) < 2 ^ j := Int.pow_pos (by decide)
  have hs : (2 : Int) ^ (j + 1) = 2 ^ j * 2 := Int.pow_succ 2 j
  unfold cy bitI
  rw [hs, emod2 A _ hp, emod2 B _ hp]
  generalize (2 : Int) ^ j = p at *
  have a0 := Int.emod_nonneg A (by omega : p ≠ 0)
  have a1 := Int.emod_lt_of_pos A hp
  have b0 := Int.emod_nonneg B (by omega : p ≠ 0)
  have b1 := Int.emod_lt_of_pos B hp
  have eA := Int.mul_ediv_add_emod A p
  have eB := Int.mul_ediv_add_emod B p
  have hc0 : 0 ≤ (A % p + B % p) / p := Int.ediv_nonneg (by omega) (by omega)
  have hc1 : (A % p + B % p) / p < 2 := Int.ediv_lt_of_lt_mul hp (by omega)
  have eAB : (A + B) / p = A / p + B / p + (A % p + B % p) / p := by
    have : A + B = (A % p + B % p) + p * (A / p + B / p) := by rw [Int.mul_add]; omega
    rw [this, Int.add_mul_ediv_left _ _ (by omega)]
    have : A % p + B % p + p * (A / p + B / p) = A + B := by rw [Int.mul_add]; omega
    omega
  rw [eAB]
  have e2 : (A % p + p * (A / p % 2) + (B % p + p * (B / p % 2))) / (p * 2) = (A / p % 2 + B / p % 2 + (A % p + B % p) / p) / 2 := by
    rw [← Int.ediv_ediv_of_nonneg (by omega)]
    have : A % p + p * (A / p % 2) + (B % p + p * (B / p % 2)) = (A % p + B % p) + p * (A / p % 2 + B / p % 2) := by rw [Int.mul_add]; omega
    rw [this, Int.add_mul_ediv_left _ _ (by omega)]
    congr 1
    omega
  rw [e2]
  generalize (A % p + B % p) / p = q at *
  refine ⟨by omega, by omega, by omega, by omega, hc0, by omega, by omega, rfl⟩

theorem sm_eq (A B : Int) (j : Nat) (hj : j < 128) : sm (bl A 128) (bl B 128) (cy A B j) j = bitI A j + bitI B j + cy A B j := by
  obtain ⟨h1, h2, h3, h4, h5, h6, _⟩ := cy_step A B j
  unfold sm
  rw [Int.toNat_natCast, bl_getD _ _ _ hj, bl_getD _ _ _ hj, wrapI, wrapI]
  split <;> split <;> omega

theorem loop56 (a b c d A B : Int) (K : Ex → St → Option (Ex × St)) : ∀ (m j : Nat), j + m = 128 →
    evLoop Γa Try.prog L0 (cutG keep56) body56 (m + 1) (S56 a b c d (bl A 128) (bl B 128) (bl (A + B) j) (cy A B j) j) K = K (.exit 0) (S56x a b c d (bl A 128) (bl B 128) (bl (A + B) 128) (cy A B 128) 128) := by
  intro m
  induction m with
  | zero =>
    intro j hj
    obtain rfl : j = 128 := by omega
    rw [step56]
    have g1 : decide (((128 : Nat) : Int) < 128) = false := by decide
    rw [g1]
    simp only [cond_false]
    rfl
  | succ m ih =>
    intro j hj
    obtain ⟨h1, h2, h3, h4, h5, h6, h7, h8⟩ := cy_step A B j
    rw [step56, sm_eq A B j (by omega)]
    have g1 : decide ((j : Int) < 128) = true := by simp; omega
    have g3 : ∀ n, (decide (0 ≤ (j : Int)) && decide ((j : Int) < (bl n 128).length)) = true := fun n => by simp [bl_length]; omega
    have e1 : (bitI A j + bitI B j + cy A B j).tmod 2 = bitI (A + B) j := by rw [Int.tmod_eq_emod_of_nonneg (by omega), h7]
    have e2 : IntKind.i64.wrap ((bitI A j + bitI B j + cy A B j).tdiv 2) = cy A B (j + 1) := by
      rw [Int.tdiv_eq_ediv_of_nonneg (by omega), wrapI, ← h8]; split <;> omega
    have g4 : decide (((bl (A + B) j).length + [bitI (A + B) j].length) * 8 ≤ 140737488355328 ∧ (bl (A + B) j).length + [bitI (A + B) j].length ≤ 9223372036854775807) = true := by
      simp [bl_length]; omega
    rw [g1, g3, g3, e1, e2, g4, wrap1 j (by omega), ← bl_succ]
    simp only [cond_true]
    exact ih (j + 1) (by omega)

end Go.Proofs.Ytanjomncnbmgkaa

namespace Go.Proofs.Ytanjomncnbmgkaa
open Go Go.Proofs Go.Sx

theorem firstB (a b c d : Int) (X Y : List Int) (hX : X.length = 128) (hY : Y.length = 128) (n : Nat) (k : Ex → St → Option (Ex × St)) : evLoop Γa Try.prog L0 (cutG keep56) body56 (n + 1) (S56n a b c d X Y) k =
    evLoop Γa Try.prog L0 (cutG keep56) body56 n (S56 a b c d X Y [(sm X Y 0 0).tmod 2] (IntKind.i64.wrap ((sm X Y 0 0).tdiv 2)) 1) k := by
  have g1 : (decide ((0 : Int) ≤ 0) && decide ((0 : Int) < ((128 : Nat) : Int))) = true := by decide
  rw [first56, hX, hY, g1, cond_true, cond_true]
theorem zero56 (A B : Int) : (sm (bl A 128) (bl B 128) 0 0).tmod 2 = bitI (A + B) 0 ∧ IntKind.i64.wrap ((sm (bl A 128) (bl B 128) 0 0).tdiv 2) = cy A B 1 := by
  have h0 : cy A B 0 = 0 := by simp [cy, Int.emod_one]
  have hsm := sm_eq A B 0 (by omega)
  obtain ⟨h1, h2, h3, h4, h5, h6, h7, h8⟩ := cy_step A B 0
  rw [h0] at hsm h7 h8
  rw [show ((0 : Nat) : Int) = 0 from rfl] at hsm
  rw [hsm]
  refine ⟨by rw [Int.tmod_eq_emod_of_nonneg (by omega), h7], ?_⟩
  rw [Int.tdiv_eq_ediv_of_nonneg (by omega), wrapI, ← h8]; split <;> omega
end Go.Proofs.Ytanjomncnbmgkaa

namespace Go.Proofs.Ytanjomncnbmgkaa
open Go Go.Proofs Go.Sx
theorem mid56 (a b c d A B : Int) : S56 a b c d (bl A 128) (bl B 128) [(sm (bl A 128) (bl B 128) 0 0).tmod 2] (IntKind.i64.wrap ((sm (bl A 128) (bl B 128) 0 0).tdiv 2)) 1 = S56 a b c d (bl A 128) (bl B 128) (bl (A + B) 1) (cy A B 1) ((1 : Nat) : Int) := by
  rw [(zero56 A B).1, (zero56 A B).2]; rfl
theorem full56 (a b c d A B : Int) (K : Ex → St → Option (Ex × St)) :
    evLoop Γa Try.prog L0 (cutG keep56) body56 (127 + 1 + 1) (S56n a b c d (bl A 128) (bl B 128)) K = K (.exit 0) (S56x a b c d (bl A 128) (bl B 128) (bl (A + B) 128) (cy A B 128) 128) :=
  (firstB a b c d _ _ (bl_length _ _) (bl_length _ _) (127 + 1) K).trans ((congrArg (fun s => evLoop Γa Try.prog L0 (cutG keep56) body56 (127 + 1) s K) (mid56 a b c d A B)).trans (loop56 a b c d A B K 127 1 rfl))
end Go.Proofs.Ytanjomncnbmgkaa

namespace Go.Proofs.Ytanjomncnbmgkaa
open Go Go.Proofs Go.Sx
def F56 (st : St) : Option (Bool × Ex × St) :=
  match cutL st.tmps.get keep56 0, st.mem with
  | .poison :: .poison :: .poison :: .poison :: .ptr 2 0 :: .row 0 :: .row 1 :: .v (.slice none 0 0) :: .v (.int .i64 y) :: .v (.int .i64 z) :: p, ⟨[[.v (.int .i64 a), .v (.int .u64 b)], [.v (.int .i64 c), .v (.int .u64 d)], [.v (.int .i64 e), .v (.int .u64 f)]], [true, true, true], [.live ⟨3, .i64, X, true⟩, .live ⟨3, .i64, Y, true⟩]⟩ =>
    some (isPz p 29 && (decide (X = bl (wu a b) 128 ∧ Y = bl (wu c d) 128) && (y == 0 && (z == 0 && (e == 0 && f == 0)))), .exit 0, S56x a b c d X Y (bl (wu a b + wu c d) 128) (cy (wu a b) (wu c d) 128) 128)
  | _, _ => none
def Λ56 : LoopOrc := fun _ st => F56 st

theorem loopOk56 (w0 : World) : LoopOk Λ56 Try.prog w0 body56 := by
  refine loop_okG (Λ := L0) (keep := keep56) OkA mixed (fun b hb => by rw [loops56a] at hb; cases hb) (F := F56) (fun st => rfl) ?_
  intro st e st' h
  unfold F56 at h
  split at h
  · rename_i y z p a b c d e f X Y hc hm
    injection h with h
    injection h with h1 h
    injection h with h2 h3
    subst h2 h3
    simp only [Bool.and_eq_true, beq_iff_eq, decide_eq_true_eq] at h1
    obtain ⟨g0, ⟨hX, hY⟩, rfl, rfl, rfl, rfl⟩ := h1
    obtain rfl := isPz_eq g0
    refine ⟨127 + 1 + 1, ?_⟩
    have hs : cutG keep56 st = S56n a b c d X Y := by
      unfold cutG
      rw [hc, hm]
      rfl
    rw [hs, hX, hY]
    exact full56 a b c d (wu a b) (wu c d) _
  · cases h

end Go.Proofs.Ytanjomncnbmgkaa

namespace Go.Proofs.Ytanjomncnbmgkaa
open Go Go.Proofs Go.Sx
theorem run56 (a b c d : Int) : run Γa Λ56 Try.prog Try.f56 [W a b, W c d] =
    bif inU b then
      bif inU d then
        bif decide (bl (wu a b) 128 = bl (wu a b) 128 ∧ bl (wu c d) 128 = bl (wu c d) 128) && ((0 : Int) == 0 && ((0 : Int) == 0 && ((0 : Int) == 0 && (0 : Int) == 0))) then
          bif decide ((bl (wu a b + wu c d) 128).length = 128) then
            some (W (IntKind.i64.wrap (hiL (bl (wu a b + wu c d) 128) 64)) (loL (bl (wu a b + wu c d) 128) 64))
          else none
        else none
      else none
    else none := by kernel_rfl

/-- A number, modulo 2^128. -/
def pW (n : Int) : Value := W (IntKind.i64.wrap (n / 18446744073709551616)) (n % 18446744073709551616)

theorem call56 (a b c d : Int) (h1 : inU b = true) (h2 : inU d = true) : CallOk Try.prog 56 [W a b, W c d] (pW (wv a b + wv c d)) := by
  refine callOk_of_runV OkA mixed names (Λ := Λ56) Try.func56 rfl (fun w b hb => ?_) ?_
  · have hb' : b ∈ loopsOf (Try.f56.body.getD .skip) := hb
    rw [loops56] at hb'
    rw [List.mem_singleton] at hb'
    subst hb'; exact loopOk56 w
  · rw [run56, h1, h2, bl_length, lo_bl, hi_bl]
    simp only [and_self, decide_true, cond_true, Bool.true_and, BEq.rfl]
    unfold pW
    refine agg_int ?_ ?_
    · rw [wrapI, wrapI]
      unfold wu wv
      rw [wrapU, wrapU]
      have : (a % 18446744073709551616 * 18446744073709551616 + b + (c % 18446744073709551616 * 18446744073709551616 + d)) / 18446744073709551616 % 18446744073709551616 % 18446744073709551616 = (a * 18446744073709551616 + b + (c * 18446744073709551616 + d)) / 18446744073709551616 % 18446744073709551616 := by omega
      rw [this]
    · unfold wu wv
      rw [wrapU, wrapU]; omega
end Go.Proofs.Ytanjomncnbmgkaa

