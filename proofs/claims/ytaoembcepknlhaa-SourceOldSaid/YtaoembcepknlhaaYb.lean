/-
  What is known of this program: contracts of a source, and of the document's; their law package's own.
-/
import Derived.Test.YtaoembcepknlhaaYa
import Derived.Test.YtaoembcepknlhaaSx
namespace Go.Proofs.Ytaoembcepknlhaa
open Go Go.Proofs Go.Sx
set_option linter.unusedVariables false
/-! norm -/
/-! cast -/
def wrS (f : FuncId) : Bool := Nat.beq f 25 || Nat.beq f 19 || Nat.beq f 28 || Nat.beq f 10 || Nat.beq f 15 || Nat.beq f 17 || Nat.beq f 23 || Nat.beq f 11 || Nat.beq f 9 || Nat.beq f 16 || makers f
noncomputable def Γs0 : Orc := { addVal 39 gMul64 ΓTl0 with wr := wrS, sb := true, bs := true, av := true }
theorem Oks0 : Γs0.Ok Try.prog := ⟨(addVal_ok OkTl0 gMul64_ok).call, (addVal_ok OkTl0 gMul64_ok).rd, (addVal_ok OkTl0 gMul64_ok).eqv⟩
def beyB (n m : Int) : Bool := bif decide (n < wI (0 - m)) then true else decide (n > m)
def uD (a b : Int) : Int := IntKind.u64.wrap (IntKind.u64.wrap a - IntKind.u64.wrap b)

set_option maxRecDepth 20000 in
theorem runSby (n : Int) (m : Int) : runG Γs0 L0 Try.prog Try.f32 [.v (I n), .v (I m)] M0 = 
    (bif decide (n < wI ((0 : Int) - m)) then some (.v (Bo true), M0) else some (.v (Bo (decide (n > m))), M0)) := by kernel_rfl
def gSby (vs : List Value) : Option (Bool × Value) :=
  match vs with
  | [.int .i64 n, .int .i64 m] => some (true, Bo (beyB n m))
  | _ => none
theorem gSby_ok : ∀ vs r, gSby vs = some (true, r) → ∀ m, CallOk Try.prog 32 (vs.map .v) m (.v r) m := by
  intro vs r h
  unfold gSby at h
  split at h
  · rename_i n m
    obtain ⟨h1, rfl⟩ := some_t h
    refine runV (vs := [I n, I m]) (Λ := L0) (m' := M0) Oks0 Try.func32 rfl (fun z _ _ => l0Ok' _ z) ?_
    exact (runSby n m).trans (by unfold beyB; cases decide (n < wI (0 - m)) <;> rfl)
  · cases h
noncomputable def Γs1 : Orc := addVal 32 gSby Γs0
theorem Oks1 : Γs1.Ok Try.prog := addVal_ok Oks0 gSby_ok
set_option maxRecDepth 20000 in
theorem runSsp (p : Int) (q : Int) (x : Int) (y : Int) (z : Int) (vx : Int) (vy : Int) (vz : Int) : runG Γs1 L0 Try.prog Try.f33 [.v (.agg #[I p, I q, I x, I y, I z, I vx, I vy, I vz])] M0 = 
    some (.v (.agg #[(I vx), (I vy), (I vz)]), M0) := by kernel_rfl
def gSsp (vs : List Value) : Option (Bool × Value) :=
  match vs with
  | [.agg ⟨[.int .i64 p, .int .i64 q, .int .i64 x, .int .i64 y, .int .i64 z, .int .i64 vx, .int .i64 vy, .int .i64 vz]⟩] => some (true, .agg #[I vx, I vy, I vz])
  | _ => none
theorem gSsp_ok : ∀ vs r, gSsp vs = some (true, r) → ∀ m, CallOk Try.prog 33 (vs.map .v) m (.v r) m := by
  intro vs r h
  unfold gSsp at h
  split at h
  · rename_i p q x y z vx vy vz
    obtain ⟨h1, rfl⟩ := some_t h
    refine runV (vs := [.agg #[I p, I q, I x, I y, I z, I vx, I vy, I vz]]) (Λ := L0) (m' := M0) Oks1 Try.func33 rfl (fun z _ _ => l0Ok' _ z) ?_
    exact (runSsp p q x y z vx vy vz).trans (rfl)
  · cases h
noncomputable def Γs2 : Orc := addVal 33 gSsp Γs1
theorem Oks2 : Γs2.Ok Try.prog := addVal_ok Oks1 gSsp_ok
def farB (x y z vx vy vz : Int) : Bool := beyB x 1073741824 || (beyB y 1073741824 || (beyB z 1073741824 || (beyB vx 65536 || (beyB vy 65536 || beyB vz 65536))))
set_option maxRecDepth 20000 in
theorem runSfa (p : Int) (q : Int) (x : Int) (y : Int) (z : Int) (vx : Int) (vy : Int) (vz : Int) : runG Γs2 L0 Try.prog Try.f26 [.v (.agg #[I p, I q, I x, I y, I z, I vx, I vy, I vz])] M0 = 
    (bif beyB x (1073741824 : Int) then some (.v (Bo true), M0) else (bif beyB y (1073741824 : Int) then some (.v (Bo true), M0) else (bif beyB z (1073741824 : Int) then some (.v (Bo true), M0) else (bif beyB vx (65536 : Int) then some (.v (Bo true), M0) else (bif beyB vy (65536 : Int) then some (.v (Bo true), M0) else (bif beyB vz (65536 : Int) then some (.v (Bo true), M0) else some (.v (Bo false), M0))))))) := by kernel_rfl
def gSfa (vs : List Value) : Option (Bool × Value) :=
  match vs with
  | [.agg ⟨[.int .i64 p, .int .i64 q, .int .i64 x, .int .i64 y, .int .i64 z, .int .i64 vx, .int .i64 vy, .int .i64 vz]⟩] => some (true, Bo (farB x y z vx vy vz))
  | _ => none
theorem gSfa_ok : ∀ vs r, gSfa vs = some (true, r) → ∀ m, CallOk Try.prog 26 (vs.map .v) m (.v r) m := by
  intro vs r h
  unfold gSfa at h
  split at h
  · rename_i p q x y z vx vy vz
    obtain ⟨h1, rfl⟩ := some_t h
    refine runV (vs := [.agg #[I p, I q, I x, I y, I z, I vx, I vy, I vz]]) (Λ := L0) (m' := M0) Oks2 Try.func26 rfl (fun z _ _ => l0Ok' _ z) ?_
    exact (runSfa p q x y z vx vy vz).trans (by unfold farB; cases beyB x 1073741824 <;> cases beyB y 1073741824 <;> cases beyB z 1073741824 <;> cases beyB vx 65536 <;> cases beyB vy 65536 <;> cases beyB vz 65536 <;> rfl)
  · cases h
noncomputable def Γs3 : Orc := addVal 26 gSfa Γs2
theorem Oks3 : Γs3.Ok Try.prog := addVal_ok Oks2 gSfa_ok
def morB (a b P : Int) : Bool := decide (a - b > P) || decide (b - a > P)
def i64B (a : Int) : Bool := decide (-9223372036854775808 ≤ a ∧ a < 9223372036854775808)
set_option maxRecDepth 20000 in
theorem runSmo (a : Int) (b : Int) (s : Int) (c : Int) : runG Γs3 L0 Try.prog Try.f34 [.v (I a), .v (I b), .v (I s), .v (I c)] M0 = 
    (bif inU (IntKind.u64.wrap s) && inU (IntKind.u64.wrap c) then (bif IntKind.u64.wrap s * IntKind.u64.wrap c / (18446744073709551616 : Int) == (0 : Int) then some (.v (Bo (decide (IntKind.u64.wrap (IntKind.u64.wrap (if b > a then b else a) - IntKind.u64.wrap (if b < a then b else a)) > IntKind.u64.wrap s * IntKind.u64.wrap c % (18446744073709551616 : Int)))), M0) else some (.v (Bo false), M0)) else none) := by kernel_rfl
def gSmo (vs : List Value) : Option (Bool × Value) :=
  match vs with
  | [.int .i64 a, .int .i64 b, .int .i64 s, .int .i64 c] => some (i64B a && (i64B b && (decide (0 ≤ s ∧ s < 9223372036854775808) && decide (0 ≤ c ∧ c < 9223372036854775808))), Bo (morB a b (s * c)))
  | _ => none
theorem gSmo_ok : ∀ vs r, gSmo vs = some (true, r) → ∀ m, CallOk Try.prog 34 (vs.map .v) m (.v r) m := by
  intro vs r h
  unfold gSmo at h
  split at h
  · rename_i a b s c
    obtain ⟨h1, rfl⟩ := some_t h
    refine runV (vs := [I a, I b, I s, I c]) (Λ := L0) (m' := M0) Oks3 Try.func34 rfl (fun z _ _ => l0Ok' _ z) ?_
    exact (runSmo a b s c).trans (by
      simp only [Bool.and_eq_true, decide_eq_true_eq, i64B] at h1
      obtain ⟨h1, h2, h3, h4⟩ := h1
      rw [wrU_id (n := s) (by omega), wrU_id (n := c) (by omega), inU_iff.2 (by omega), inU_iff.2 (by omega)]
      have hp : 0 ≤ s * c := Int.mul_nonneg h3.1 h4.1
      generalize s * c = P at *
      have hd : IntKind.u64.wrap (IntKind.u64.wrap (if b > a then b else a) - IntKind.u64.wrap (if b < a then b else a)) = (if b > a then b - a else a - b) := by
        rw [wrU, wrU, wrU]
        split <;> split <;> omega
      rw [hd]
      unfold morB
      by_cases h : P / 18446744073709551616 = 0
      · rw [h]
        have e : (decide ((if b > a then b - a else a - b) > P % 18446744073709551616)) = (decide (a - b > P) || decide (b - a > P)) := by
          rw [← Bool.decide_or, decide_eq_decide]
          split <;> omega
        show some (SV.v (Bo (decide _)), M0) = _
        rw [e]
      · rw [beq_eq_false_iff_ne.2 h, decide_eq_false (show ¬ a - b > P by omega), decide_eq_false (show ¬ b - a > P by omega)]
        rfl)
  · cases h
noncomputable def Γs4 : Orc := addVal 34 gSmo Γs3
theorem Oks4 : Γs4.Ok Try.prog := addVal_ok Oks3 gSmo_ok
def jmB (vx vy vz l6 l7 l8 P : Int) : Bool := morB vx l6 P || (morB vy l7 P || morB vz l8 P)
set_option maxRecDepth 20000 in
theorem runSju (p : Int) (q : Int) (x : Int) (y : Int) (z : Int) (vx : Int) (vy : Int) (vz : Int) (s : Int) (ma : Int) (l1 : Int) (l2 : Int) (l3 : Int) (l4 : Int) (l5 : Int) (l6 : Int) (l7 : Int) (l8 : Int) (hs : Bool) (ct : Int) (t : Int) : runG Γs4 L0 Try.prog Try.f27 [.ptr 0 0, .v (.agg #[I p, I q, I x, I y, I z, I vx, I vy, I vz])] ⟨[[.v (I s), .v (I ma), .ptr 1 0, .v (I l1), .v (I l2), .v (I l3), .v (I l4), .v (I l5), .v (I l6), .v (I l7), .v (I l8), .v (Bo hs)], [.v (I ct), .v (I t)]], [true, true], []⟩ = 
    (bif i64B vx && (i64B l6 && (decide ((0 : Int) ≤ s ∧ s < (9223372036854775808 : Int)) && decide ((0 : Int) ≤ wI (t + (1 : Int)) ∧ wI (t + (1 : Int)) < (9223372036854775808 : Int)))) then (bif morB vx l6 (s * wI (t + (1 : Int))) then some (.v (Bo true), ⟨[[.v (I s), .v (I ma), .ptr 1 0, .v (I l1), .v (I l2), .v (I l3), .v (I l4), .v (I l5), .v (I l6), .v (I l7), .v (I l8), .v (Bo hs)], [.v (I ct), .v (I t)]], [true, true], []⟩) else (bif i64B vy && (i64B l7 && (decide ((0 : Int) ≤ s ∧ s < (9223372036854775808 : Int)) && decide ((0 : Int) ≤ wI (t + (1 : Int)) ∧ wI (t + (1 : Int)) < (9223372036854775808 : Int)))) then (bif morB vy l7 (s * wI (t + (1 : Int))) then some (.v (Bo true), ⟨[[.v (I s), .v (I ma), .ptr 1 0, .v (I l1), .v (I l2), .v (I l3), .v (I l4), .v (I l5), .v (I l6), .v (I l7), .v (I l8), .v (Bo hs)], [.v (I ct), .v (I t)]], [true, true], []⟩) else (bif i64B vz && (i64B l8 && (decide ((0 : Int) ≤ s ∧ s < (9223372036854775808 : Int)) && decide ((0 : Int) ≤ wI (t + (1 : Int)) ∧ wI (t + (1 : Int)) < (9223372036854775808 : Int)))) then (bif morB vz l8 (s * wI (t + (1 : Int))) then some (.v (Bo true), ⟨[[.v (I s), .v (I ma), .ptr 1 0, .v (I l1), .v (I l2), .v (I l3), .v (I l4), .v (I l5), .v (I l6), .v (I l7), .v (I l8), .v (Bo hs)], [.v (I ct), .v (I t)]], [true, true], []⟩) else some (.v (Bo false), ⟨[[.v (I s), .v (I ma), .ptr 1 0, .v (I l1), .v (I l2), .v (I l3), .v (I l4), .v (I l5), .v (I l6), .v (I l7), .v (I l8), .v (Bo hs)], [.v (I ct), .v (I t)]], [true, true], []⟩)) else none)) else none)) else none) := by kernel_rfl
def gSju (xs : List SV) (m : Mem) : Option (Bool × Value) :=
  match xs, m with
  | [.ptr 0 0, .v (.agg ⟨[.int .i64 p, .int .i64 q, .int .i64 x, .int .i64 y, .int .i64 z, .int .i64 vx, .int .i64 vy, .int .i64 vz]⟩)], ⟨[[.v (.int .i64 s), .v (.int .i64 ma), .ptr 1 0, .v (.int .i64 l1), .v (.int .i64 l2), .v (.int .i64 l3), .v (.int .i64 l4), .v (.int .i64 l5), .v (.int .i64 l6), .v (.int .i64 l7), .v (.int .i64 l8), .v (.bool hs)], [.v (.int .i64 ct), .v (.int .i64 t)]], [true, true], []⟩ => some ((i64B vx && (i64B vy && (i64B vz && (i64B l6 && (i64B l7 && (i64B l8 && (decide (0 ≤ s ∧ s < 9223372036854775808) && decide (0 ≤ t ∧ t ≤ 1000000)))))))), Bo (jmB vx vy vz l6 l7 l8 (s * (t + 1))))
  | _, _ => none
theorem gSju_ok : ∀ xs m r, gSju xs m = some (true, r) → CallOk Try.prog 27 xs m (.v r) m := by
  intro xs m r h
  unfold gSju at h
  split at h
  · rename_i p q x y z vx vy vz s ma l1 l2 l3 l4 l5 l6 l7 l8 hs ct t
    obtain ⟨h1, rfl⟩ := some_t h
    refine runOk (Λ := L0) Oks4 Try.func27 rfl (fun z _ _ => l0Ok' _ z) ?_
    refine (runSju p q x y z vx vy vz s ma l1 l2 l3 l4 l5 l6 l7 l8 hs ct t).trans ?_
    simp only [Bool.and_eq_true] at h1
    obtain ⟨h1, h2, h3, h4, h5, h6, h7, h8⟩ := h1
    have h9 := of_decide_eq_true h8
    rw [wI_id (n := t + 1) (by omega), h1, h2, h3, h4, h5, h6, h7, decide_eq_true (show 0 ≤ t + 1 ∧ t + 1 < 9223372036854775808 by omega)]
    unfold jmB
    cases morB vx l6 (s * (t + 1)) <;> cases morB vy l7 (s * (t + 1)) <;> cases morB vz l8 (s * (t + 1)) <;> rfl
  · cases h
noncomputable def Γs5 : Orc := addRd 27 gSju Γs4
theorem Oks5 : Γs5.Ok Try.prog := addRd_ok Oks4 gSju_ok
def ftI (st fl fr jm : Bool) : Int := (bif st then 2 else 0) + ((bif fl then 4 else 0) + ((bif fr then 8 else 0) + (bif jm then 16 else 0)))
set_option maxRecDepth 20000 in
theorem runSft (p : Int) (q : Int) (x : Int) (y : Int) (z : Int) (vx : Int) (vy : Int) (vz : Int) (s : Int) (ma : Int) (l1 : Int) (l2 : Int) (l3 : Int) (l4 : Int) (l5 : Int) (l6 : Int) (l7 : Int) (l8 : Int) (hs : Bool) (ct : Int) (t : Int) : runG Γs5 L0 Try.prog Try.f18 [.ptr 0 0, .v (.agg #[I p, I q, I x, I y, I z, I vx, I vy, I vz])] ⟨[[.v (I s), .v (I ma), .ptr 1 0, .v (I l1), .v (I l2), .v (I l3), .v (I l4), .v (I l5), .v (I l6), .v (I l7), .v (I l8), .v (Bo hs)], [.v (I ct), .v (I t)]], [true, true], []⟩ = 
    (bif hs then (bif p == l1 then (bif q != (0 : Int) then (bif farB x y z vx vy vz then (bif hs then (bif i64B vx && (i64B vy && (i64B vz && (i64B l6 && (i64B l7 && (i64B l8 && (decide ((0 : Int) ≤ s ∧ s < (9223372036854775808 : Int)) && decide ((0 : Int) ≤ t ∧ t ≤ (1000000 : Int)))))))) then (bif jmB vx vy vz l6 l7 l8 (s * (t + (1 : Int))) then some (.v (I 30), ⟨[[.v (I s), .v (I ma), .ptr 1 0, .v (I l1), .v (I l2), .v (I l3), .v (I l4), .v (I l5), .v (I l6), .v (I l7), .v (I l8), .v (Bo hs)], [.v (I ct), .v (I t)]], [true, true], []⟩) else some (.v (I 14), ⟨[[.v (I s), .v (I ma), .ptr 1 0, .v (I l1), .v (I l2), .v (I l3), .v (I l4), .v (I l5), .v (I l6), .v (I l7), .v (I l8), .v (Bo hs)], [.v (I ct), .v (I t)]], [true, true], []⟩)) else none) else some (.v (I 14), ⟨[[.v (I s), .v (I ma), .ptr 1 0, .v (I l1), .v (I l2), .v (I l3), .v (I l4), .v (I l5), .v (I l6), .v (I l7), .v (I l8), .v (Bo hs)], [.v (I ct), .v (I t)]], [true, true], []⟩)) else (bif hs then (bif i64B vx && (i64B vy && (i64B vz && (i64B l6 && (i64B l7 && (i64B l8 && (decide ((0 : Int) ≤ s ∧ s < (9223372036854775808 : Int)) && decide ((0 : Int) ≤ t ∧ t ≤ (1000000 : Int)))))))) then (bif jmB vx vy vz l6 l7 l8 (s * (t + (1 : Int))) then some (.v (I 22), ⟨[[.v (I s), .v (I ma), .ptr 1 0, .v (I l1), .v (I l2), .v (I l3), .v (I l4), .v (I l5), .v (I l6), .v (I l7), .v (I l8), .v (Bo hs)], [.v (I ct), .v (I t)]], [true, true], []⟩) else some (.v (I 6), ⟨[[.v (I s), .v (I ma), .ptr 1 0, .v (I l1), .v (I l2), .v (I l3), .v (I l4), .v (I l5), .v (I l6), .v (I l7), .v (I l8), .v (Bo hs)], [.v (I ct), .v (I t)]], [true, true], []⟩)) else none) else some (.v (I 6), ⟨[[.v (I s), .v (I ma), .ptr 1 0, .v (I l1), .v (I l2), .v (I l3), .v (I l4), .v (I l5), .v (I l6), .v (I l7), .v (I l8), .v (Bo hs)], [.v (I ct), .v (I t)]], [true, true], []⟩))) else (bif farB x y z vx vy vz then (bif hs then (bif i64B vx && (i64B vy && (i64B vz && (i64B l6 && (i64B l7 && (i64B l8 && (decide ((0 : Int) ≤ s ∧ s < (9223372036854775808 : Int)) && decide ((0 : Int) ≤ t ∧ t ≤ (1000000 : Int)))))))) then (bif jmB vx vy vz l6 l7 l8 (s * (t + (1 : Int))) then some (.v (I 26), ⟨[[.v (I s), .v (I ma), .ptr 1 0, .v (I l1), .v (I l2), .v (I l3), .v (I l4), .v (I l5), .v (I l6), .v (I l7), .v (I l8), .v (Bo hs)], [.v (I ct), .v (I t)]], [true, true], []⟩) else some (.v (I 10), ⟨[[.v (I s), .v (I ma), .ptr 1 0, .v (I l1), .v (I l2), .v (I l3), .v (I l4), .v (I l5), .v (I l6), .v (I l7), .v (I l8), .v (Bo hs)], [.v (I ct), .v (I t)]], [true, true], []⟩)) else none) else some (.v (I 10), ⟨[[.v (I s), .v (I ma), .ptr 1 0, .v (I l1), .v (I l2), .v (I l3), .v (I l4), .v (I l5), .v (I l6), .v (I l7), .v (I l8), .v (Bo hs)], [.v (I ct), .v (I t)]], [true, true], []⟩)) else (bif hs then (bif i64B vx && (i64B vy && (i64B vz && (i64B l6 && (i64B l7 && (i64B l8 && (decide ((0 : Int) ≤ s ∧ s < (9223372036854775808 : Int)) && decide ((0 : Int) ≤ t ∧ t ≤ (1000000 : Int)))))))) then (bif jmB vx vy vz l6 l7 l8 (s * (t + (1 : Int))) then some (.v (I 18), ⟨[[.v (I s), .v (I ma), .ptr 1 0, .v (I l1), .v (I l2), .v (I l3), .v (I l4), .v (I l5), .v (I l6), .v (I l7), .v (I l8), .v (Bo hs)], [.v (I ct), .v (I t)]], [true, true], []⟩) else some (.v (I 2), ⟨[[.v (I s), .v (I ma), .ptr 1 0, .v (I l1), .v (I l2), .v (I l3), .v (I l4), .v (I l5), .v (I l6), .v (I l7), .v (I l8), .v (Bo hs)], [.v (I ct), .v (I t)]], [true, true], []⟩)) else none) else some (.v (I 2), ⟨[[.v (I s), .v (I ma), .ptr 1 0, .v (I l1), .v (I l2), .v (I l3), .v (I l4), .v (I l5), .v (I l6), .v (I l7), .v (I l8), .v (Bo hs)], [.v (I ct), .v (I t)]], [true, true], []⟩)))) else (bif q != (0 : Int) then (bif farB x y z vx vy vz then (bif hs then (bif i64B vx && (i64B vy && (i64B vz && (i64B l6 && (i64B l7 && (i64B l8 && (decide ((0 : Int) ≤ s ∧ s < (9223372036854775808 : Int)) && decide ((0 : Int) ≤ t ∧ t ≤ (1000000 : Int)))))))) then (bif jmB vx vy vz l6 l7 l8 (s * (t + (1 : Int))) then some (.v (I 28), ⟨[[.v (I s), .v (I ma), .ptr 1 0, .v (I l1), .v (I l2), .v (I l3), .v (I l4), .v (I l5), .v (I l6), .v (I l7), .v (I l8), .v (Bo hs)], [.v (I ct), .v (I t)]], [true, true], []⟩) else some (.v (I 12), ⟨[[.v (I s), .v (I ma), .ptr 1 0, .v (I l1), .v (I l2), .v (I l3), .v (I l4), .v (I l5), .v (I l6), .v (I l7), .v (I l8), .v (Bo hs)], [.v (I ct), .v (I t)]], [true, true], []⟩)) else none) else some (.v (I 12), ⟨[[.v (I s), .v (I ma), .ptr 1 0, .v (I l1), .v (I l2), .v (I l3), .v (I l4), .v (I l5), .v (I l6), .v (I l7), .v (I l8), .v (Bo hs)], [.v (I ct), .v (I t)]], [true, true], []⟩)) else (bif hs then (bif i64B vx && (i64B vy && (i64B vz && (i64B l6 && (i64B l7 && (i64B l8 && (decide ((0 : Int) ≤ s ∧ s < (9223372036854775808 : Int)) && decide ((0 : Int) ≤ t ∧ t ≤ (1000000 : Int)))))))) then (bif jmB vx vy vz l6 l7 l8 (s * (t + (1 : Int))) then some (.v (I 20), ⟨[[.v (I s), .v (I ma), .ptr 1 0, .v (I l1), .v (I l2), .v (I l3), .v (I l4), .v (I l5), .v (I l6), .v (I l7), .v (I l8), .v (Bo hs)], [.v (I ct), .v (I t)]], [true, true], []⟩) else some (.v (I 4), ⟨[[.v (I s), .v (I ma), .ptr 1 0, .v (I l1), .v (I l2), .v (I l3), .v (I l4), .v (I l5), .v (I l6), .v (I l7), .v (I l8), .v (Bo hs)], [.v (I ct), .v (I t)]], [true, true], []⟩)) else none) else some (.v (I 4), ⟨[[.v (I s), .v (I ma), .ptr 1 0, .v (I l1), .v (I l2), .v (I l3), .v (I l4), .v (I l5), .v (I l6), .v (I l7), .v (I l8), .v (Bo hs)], [.v (I ct), .v (I t)]], [true, true], []⟩))) else (bif farB x y z vx vy vz then (bif hs then (bif i64B vx && (i64B vy && (i64B vz && (i64B l6 && (i64B l7 && (i64B l8 && (decide ((0 : Int) ≤ s ∧ s < (9223372036854775808 : Int)) && decide ((0 : Int) ≤ t ∧ t ≤ (1000000 : Int)))))))) then (bif jmB vx vy vz l6 l7 l8 (s * (t + (1 : Int))) then some (.v (I 24), ⟨[[.v (I s), .v (I ma), .ptr 1 0, .v (I l1), .v (I l2), .v (I l3), .v (I l4), .v (I l5), .v (I l6), .v (I l7), .v (I l8), .v (Bo hs)], [.v (I ct), .v (I t)]], [true, true], []⟩) else some (.v (I 8), ⟨[[.v (I s), .v (I ma), .ptr 1 0, .v (I l1), .v (I l2), .v (I l3), .v (I l4), .v (I l5), .v (I l6), .v (I l7), .v (I l8), .v (Bo hs)], [.v (I ct), .v (I t)]], [true, true], []⟩)) else none) else some (.v (I 8), ⟨[[.v (I s), .v (I ma), .ptr 1 0, .v (I l1), .v (I l2), .v (I l3), .v (I l4), .v (I l5), .v (I l6), .v (I l7), .v (I l8), .v (Bo hs)], [.v (I ct), .v (I t)]], [true, true], []⟩)) else (bif hs then (bif i64B vx && (i64B vy && (i64B vz && (i64B l6 && (i64B l7 && (i64B l8 && (decide ((0 : Int) ≤ s ∧ s < (9223372036854775808 : Int)) && decide ((0 : Int) ≤ t ∧ t ≤ (1000000 : Int)))))))) then (bif jmB vx vy vz l6 l7 l8 (s * (t + (1 : Int))) then some (.v (I 16), ⟨[[.v (I s), .v (I ma), .ptr 1 0, .v (I l1), .v (I l2), .v (I l3), .v (I l4), .v (I l5), .v (I l6), .v (I l7), .v (I l8), .v (Bo hs)], [.v (I ct), .v (I t)]], [true, true], []⟩) else some (.v (I 0), ⟨[[.v (I s), .v (I ma), .ptr 1 0, .v (I l1), .v (I l2), .v (I l3), .v (I l4), .v (I l5), .v (I l6), .v (I l7), .v (I l8), .v (Bo hs)], [.v (I ct), .v (I t)]], [true, true], []⟩)) else none) else some (.v (I 0), ⟨[[.v (I s), .v (I ma), .ptr 1 0, .v (I l1), .v (I l2), .v (I l3), .v (I l4), .v (I l5), .v (I l6), .v (I l7), .v (I l8), .v (Bo hs)], [.v (I ct), .v (I t)]], [true, true], []⟩))))) else (bif q != (0 : Int) then (bif farB x y z vx vy vz then (bif hs then (bif i64B vx && (i64B vy && (i64B vz && (i64B l6 && (i64B l7 && (i64B l8 && (decide ((0 : Int) ≤ s ∧ s < (9223372036854775808 : Int)) && decide ((0 : Int) ≤ t ∧ t ≤ (1000000 : Int)))))))) then (bif jmB vx vy vz l6 l7 l8 (s * (t + (1 : Int))) then some (.v (I 28), ⟨[[.v (I s), .v (I ma), .ptr 1 0, .v (I l1), .v (I l2), .v (I l3), .v (I l4), .v (I l5), .v (I l6), .v (I l7), .v (I l8), .v (Bo hs)], [.v (I ct), .v (I t)]], [true, true], []⟩) else some (.v (I 12), ⟨[[.v (I s), .v (I ma), .ptr 1 0, .v (I l1), .v (I l2), .v (I l3), .v (I l4), .v (I l5), .v (I l6), .v (I l7), .v (I l8), .v (Bo hs)], [.v (I ct), .v (I t)]], [true, true], []⟩)) else none) else some (.v (I 12), ⟨[[.v (I s), .v (I ma), .ptr 1 0, .v (I l1), .v (I l2), .v (I l3), .v (I l4), .v (I l5), .v (I l6), .v (I l7), .v (I l8), .v (Bo hs)], [.v (I ct), .v (I t)]], [true, true], []⟩)) else (bif hs then (bif i64B vx && (i64B vy && (i64B vz && (i64B l6 && (i64B l7 && (i64B l8 && (decide ((0 : Int) ≤ s ∧ s < (9223372036854775808 : Int)) && decide ((0 : Int) ≤ t ∧ t ≤ (1000000 : Int)))))))) then (bif jmB vx vy vz l6 l7 l8 (s * (t + (1 : Int))) then some (.v (I 20), ⟨[[.v (I s), .v (I ma), .ptr 1 0, .v (I l1), .v (I l2), .v (I l3), .v (I l4), .v (I l5), .v (I l6), .v (I l7), .v (I l8), .v (Bo hs)], [.v (I ct), .v (I t)]], [true, true], []⟩) else some (.v (I 4), ⟨[[.v (I s), .v (I ma), .ptr 1 0, .v (I l1), .v (I l2), .v (I l3), .v (I l4), .v (I l5), .v (I l6), .v (I l7), .v (I l8), .v (Bo hs)], [.v (I ct), .v (I t)]], [true, true], []⟩)) else none) else some (.v (I 4), ⟨[[.v (I s), .v (I ma), .ptr 1 0, .v (I l1), .v (I l2), .v (I l3), .v (I l4), .v (I l5), .v (I l6), .v (I l7), .v (I l8), .v (Bo hs)], [.v (I ct), .v (I t)]], [true, true], []⟩))) else (bif farB x y z vx vy vz then (bif hs then (bif i64B vx && (i64B vy && (i64B vz && (i64B l6 && (i64B l7 && (i64B l8 && (decide ((0 : Int) ≤ s ∧ s < (9223372036854775808 : Int)) && decide ((0 : Int) ≤ t ∧ t ≤ (1000000 : Int)))))))) then (bif jmB vx vy vz l6 l7 l8 (s * (t + (1 : Int))) then some (.v (I 24), ⟨[[.v (I s), .v (I ma), .ptr 1 0, .v (I l1), .v (I l2), .v (I l3), .v (I l4), .v (I l5), .v (I l6), .v (I l7), .v (I l8), .v (Bo hs)], [.v (I ct), .v (I t)]], [true, true], []⟩) else some (.v (I 8), ⟨[[.v (I s), .v (I ma), .ptr 1 0, .v (I l1), .v (I l2), .v (I l3), .v (I l4), .v (I l5), .v (I l6), .v (I l7), .v (I l8), .v (Bo hs)], [.v (I ct), .v (I t)]], [true, true], []⟩)) else none) else some (.v (I 8), ⟨[[.v (I s), .v (I ma), .ptr 1 0, .v (I l1), .v (I l2), .v (I l3), .v (I l4), .v (I l5), .v (I l6), .v (I l7), .v (I l8), .v (Bo hs)], [.v (I ct), .v (I t)]], [true, true], []⟩)) else (bif hs then (bif i64B vx && (i64B vy && (i64B vz && (i64B l6 && (i64B l7 && (i64B l8 && (decide ((0 : Int) ≤ s ∧ s < (9223372036854775808 : Int)) && decide ((0 : Int) ≤ t ∧ t ≤ (1000000 : Int)))))))) then (bif jmB vx vy vz l6 l7 l8 (s * (t + (1 : Int))) then some (.v (I 16), ⟨[[.v (I s), .v (I ma), .ptr 1 0, .v (I l1), .v (I l2), .v (I l3), .v (I l4), .v (I l5), .v (I l6), .v (I l7), .v (I l8), .v (Bo hs)], [.v (I ct), .v (I t)]], [true, true], []⟩) else some (.v (I 0), ⟨[[.v (I s), .v (I ma), .ptr 1 0, .v (I l1), .v (I l2), .v (I l3), .v (I l4), .v (I l5), .v (I l6), .v (I l7), .v (I l8), .v (Bo hs)], [.v (I ct), .v (I t)]], [true, true], []⟩)) else none) else some (.v (I 0), ⟨[[.v (I s), .v (I ma), .ptr 1 0, .v (I l1), .v (I l2), .v (I l3), .v (I l4), .v (I l5), .v (I l6), .v (I l7), .v (I l8), .v (Bo hs)], [.v (I ct), .v (I t)]], [true, true], []⟩))))) := by kernel_rfl
def gSft (xs : List SV) (m : Mem) : Option (Bool × Value) :=
  match xs, m with
  | [.ptr 0 0, .v (.agg ⟨[.int .i64 p, .int .i64 q, .int .i64 x, .int .i64 y, .int .i64 z, .int .i64 vx, .int .i64 vy, .int .i64 vz]⟩)], ⟨[[.v (.int .i64 s), .v (.int .i64 ma), .ptr 1 0, .v (.int .i64 l1), .v (.int .i64 l2), .v (.int .i64 l3), .v (.int .i64 l4), .v (.int .i64 l5), .v (.int .i64 l6), .v (.int .i64 l7), .v (.int .i64 l8), .v (.bool hs)], [.v (.int .i64 ct), .v (.int .i64 t)]], [true, true], []⟩ => some ((i64B vx && (i64B vy && (i64B vz && (i64B l6 && (i64B l7 && (i64B l8 && (decide (0 ≤ s ∧ s < 9223372036854775808) && decide (0 ≤ t ∧ t ≤ 1000000)))))))), I (ftI (hs && p == l1) (q != 0) (farB x y z vx vy vz) (hs && jmB vx vy vz l6 l7 l8 (s * (t + 1)))))
  | _, _ => none
theorem gSft_ok : ∀ xs m r, gSft xs m = some (true, r) → CallOk Try.prog 18 xs m (.v r) m := by
  intro xs m r h
  unfold gSft at h
  split at h
  · rename_i p q x y z vx vy vz s ma l1 l2 l3 l4 l5 l6 l7 l8 hs ct t
    obtain ⟨h1, rfl⟩ := some_t h
    refine runOk (Λ := L0) Oks5 Try.func18 rfl (fun z _ _ => l0Ok' _ z) ?_
    refine (runSft p q x y z vx vy vz s ma l1 l2 l3 l4 l5 l6 l7 l8 hs ct t).trans ?_
    rw [h1]
    cases hs <;> cases p == l1 <;> cases q != 0 <;> cases farB x y z vx vy vz <;> cases jmB vx vy vz l6 l7 l8 (s * (t + 1)) <;> rfl
  · cases h
noncomputable def Γs6 : Orc := addRd 18 gSft Γs5
theorem Oks6 : Γs6.Ok Try.prog := addRd_ok Oks5 gSft_ok
def gN (b : Bool) (x : Int) : Int := bif b then 0 else x
def gB' (b x : Bool) : Bool := bif b then false else x
set_option maxRecDepth 20000 in
theorem runSfo (s : Int) (ma : Int) (l1 : Int) (l2 : Int) (l3 : Int) (l4 : Int) (l5 : Int) (l6 : Int) (l7 : Int) (l8 : Int) (hs : Bool) (ct : Int) (t : Int) : runG Γs6 L0 Try.prog Try.f23 [.ptr 0 0] ⟨[[.v (I s), .v (I ma), .ptr 1 0, .v (I l1), .v (I l2), .v (I l3), .v (I l4), .v (I l5), .v (I l6), .v (I l7), .v (I l8), .v (Bo hs)], [.v (I ct), .v (I t)]], [true, true], []⟩ = 
    some (.v (.tuple #[]), ⟨[[.v (I s), .v (I ma), .ptr 1 0, .v (I 0), .v (I 0), .v (I 0), .v (I 0), .v (I 0), .v (I 0), .v (I 0), .v (I 0), .v (Bo false)], [.v (I ct), .v (I t)]], [true, true], []⟩) := by kernel_rfl
def gSfo (xs : List SV) (m : Mem) : Option (Bool × SV × Mem) :=
  match xs, m with
  | [.ptr 0 0], ⟨[[.v (.int .i64 s), .v (.int .i64 ma), .ptr 1 0, .v (.int .i64 l1), .v (.int .i64 l2), .v (.int .i64 l3), .v (.int .i64 l4), .v (.int .i64 l5), .v (.int .i64 l6), .v (.int .i64 l7), .v (.int .i64 l8), .v (.bool hs)], [.v (.int .i64 ct), .v (.int .i64 t)]], [true, true], []⟩ => some (true, .v (.tuple #[]), ⟨[[.v (I s), .v (I ma), .ptr 1 0, .v (I 0), .v (I 0), .v (I 0), .v (I 0), .v (I 0), .v (I 0), .v (I 0), .v (I 0), .v (Bo false)], [.v (I ct), .v (I t)]], [true, true], []⟩)
  | _, _ => none
theorem gSfo_ok : ∀ xs m r m', gSfo xs m = some (true, r, m') → CallOk Try.prog 23 xs m r m' := by
  intro xs m r m' h
  unfold gSfo at h
  split at h
  · rename_i s ma l1 l2 l3 l4 l5 l6 l7 l8 hs ct t
    obtain ⟨h1, rfl, rfl⟩ := some_t2 h
    refine runOk (Λ := L0) Oks6 Try.func23 rfl (fun z _ _ => l0Ok' _ z) ?_
    refine (runSfo s ma l1 l2 l3 l4 l5 l6 l7 l8 hs ct t).trans ?_
    rfl
  · cases h
noncomputable def Γs7 : Orc := addCl 23 gSfo Γs6
theorem Oks7 : Γs7.Ok Try.prog := addCl_ok Oks6 gSfo_ok
set_option maxRecDepth 20000 in
theorem runSgr (s : Int) (ma : Int) (l1 : Int) (l2 : Int) (l3 : Int) (l4 : Int) (l5 : Int) (l6 : Int) (l7 : Int) (l8 : Int) (hs : Bool) (ct : Int) (t : Int) : runG Γs7 L0 Try.prog Try.f17 [.ptr 0 0] ⟨[[.v (I s), .v (I ma), .ptr 1 0, .v (I l1), .v (I l2), .v (I l3), .v (I l4), .v (I l5), .v (I l6), .v (I l7), .v (I l8), .v (Bo hs)], [.v (I ct), .v (I t)]], [true, true], []⟩ = 
    (bif decide (addN' ct t (1 : Int) > ma) then some (.v (.tuple #[]), ⟨[[.v (I s), .v (I ma), .ptr 1 0, .v (I 0), .v (I 0), .v (I 0), .v (I 0), .v (I 0), .v (I 0), .v (I 0), .v (I 0), .v (Bo false)], [.v (I ct), .v (I (addN' ct t (1 : Int)))]], [true, true], []⟩) else some (.v (.tuple #[]), ⟨[[.v (I s), .v (I ma), .ptr 1 0, .v (I l1), .v (I l2), .v (I l3), .v (I l4), .v (I l5), .v (I l6), .v (I l7), .v (I l8), .v (Bo hs)], [.v (I ct), .v (I (addN' ct t (1 : Int)))]], [true, true], []⟩)) := by kernel_rfl
def gSgr (xs : List SV) (m : Mem) : Option (Bool × SV × Mem) :=
  match xs, m with
  | [.ptr 0 0], ⟨[[.v (.int .i64 s), .v (.int .i64 ma), .ptr 1 0, .v (.int .i64 l1), .v (.int .i64 l2), .v (.int .i64 l3), .v (.int .i64 l4), .v (.int .i64 l5), .v (.int .i64 l6), .v (.int .i64 l7), .v (.int .i64 l8), .v (.bool hs)], [.v (.int .i64 ct), .v (.int .i64 t)]], [true, true], []⟩ => some (true, .v (.tuple #[]), ⟨[[.v (I s), .v (I ma), .ptr 1 0, .v (I (gN (decide (addN' ct t 1 > ma)) l1)), .v (I (gN (decide (addN' ct t 1 > ma)) l2)), .v (I (gN (decide (addN' ct t 1 > ma)) l3)), .v (I (gN (decide (addN' ct t 1 > ma)) l4)), .v (I (gN (decide (addN' ct t 1 > ma)) l5)), .v (I (gN (decide (addN' ct t 1 > ma)) l6)), .v (I (gN (decide (addN' ct t 1 > ma)) l7)), .v (I (gN (decide (addN' ct t 1 > ma)) l8)), .v (Bo (gB' (decide (addN' ct t 1 > ma)) hs))], [.v (I ct), .v (I (addN' ct t 1))]], [true, true], []⟩)
  | _, _ => none
theorem gSgr_ok : ∀ xs m r m', gSgr xs m = some (true, r, m') → CallOk Try.prog 17 xs m r m' := by
  intro xs m r m' h
  unfold gSgr at h
  split at h
  · rename_i s ma l1 l2 l3 l4 l5 l6 l7 l8 hs ct t
    obtain ⟨h1, rfl, rfl⟩ := some_t2 h
    refine runOk (Λ := L0) Oks7 Try.func17 rfl (fun z _ _ => l0Ok' _ z) ?_
    refine (runSgr s ma l1 l2 l3 l4 l5 l6 l7 l8 hs ct t).trans ?_
    unfold gN gB'
    cases decide (addN' ct t 1 > ma) <;> rfl
  · cases h
noncomputable def Γs8 : Orc := addCl 17 gSgr Γs7
theorem Oks8 : Γs8.Ok Try.prog := addCl_ok Oks7 gSgr_ok
set_option maxRecDepth 20000 in
theorem runSla (s : Int) (ma : Int) (l1 : Int) (l2 : Int) (l3 : Int) (l4 : Int) (l5 : Int) (l6 : Int) (l7 : Int) (l8 : Int) (hs : Bool) (ct : Int) (t : Int) : runG Γs8 L0 Try.prog Try.f12 [.ptr 0 0] ⟨[[.v (I s), .v (I ma), .ptr 1 0, .v (I l1), .v (I l2), .v (I l3), .v (I l4), .v (I l5), .v (I l6), .v (I l7), .v (I l8), .v (Bo hs)], [.v (I ct), .v (I t)]], [true, true], []⟩ = 
    (same (some (.v (.tuple #[(.agg #[(I l1), (I l2), (I l3), (I l4), (I l5), (I l6), (I l7), (I l8)]), (Bo hs)]), ⟨[[.v (I s), .v (I ma), .ptr 1 0, .v (I l1), .v (I l2), .v (I l3), .v (I l4), .v (I l5), .v (I l6), .v (I l7), .v (I l8), .v (Bo hs)], [.v (I ct), .v (I t)]], [true, true], []⟩)) (some (.v (.tuple #[(.agg #[(I l1), (I l2), (I l3), (I l4), (I l5), (I l6), (I l7), (I l8)]), (Bo hs)]), ⟨[[.v (I s), .v (I ma), .ptr 1 0, .v (I l1), .v (I l2), .v (I l3), .v (I l4), .v (I l5), .v (I l6), .v (I l7), .v (I l8), .v (Bo hs)], [.v (I ct), .v (I t)]], [true, true], []⟩))) := by kernel_rfl
def gSla (xs : List SV) (m : Mem) : Option (Bool × Value) :=
  match xs, m with
  | [.ptr 0 0], ⟨[[.v (.int .i64 s), .v (.int .i64 ma), .ptr 1 0, .v (.int .i64 l1), .v (.int .i64 l2), .v (.int .i64 l3), .v (.int .i64 l4), .v (.int .i64 l5), .v (.int .i64 l6), .v (.int .i64 l7), .v (.int .i64 l8), .v (.bool hs)], [.v (.int .i64 ct), .v (.int .i64 t)]], [true, true], []⟩ => some (true, .tuple #[.agg #[I l1, I l2, I l3, I l4, I l5, I l6, I l7, I l8], Bo hs])
  | _, _ => none
theorem gSla_ok : ∀ xs m r, gSla xs m = some (true, r) → CallOk Try.prog 12 xs m (.v r) m := by
  intro xs m r h
  unfold gSla at h
  split at h
  · rename_i s ma l1 l2 l3 l4 l5 l6 l7 l8 hs ct t
    obtain ⟨h1, rfl⟩ := some_t h
    refine runOk (Λ := L0) Oks8 Try.func12 rfl (fun z _ _ => l0Ok' _ z) ?_
    refine (runSla s ma l1 l2 l3 l4 l5 l6 l7 l8 hs ct t).trans ?_
    rw [same_self]
    rfl
  · cases h
noncomputable def Γs9 : Orc := addRd 12 gSla Γs8
theorem Oks9 : Γs9.Ok Try.prog := addRd_ok Oks8 gSla_ok
set_option maxRecDepth 20000 in
theorem runSag (s : Int) (ma : Int) (l1 : Int) (l2 : Int) (l3 : Int) (l4 : Int) (l5 : Int) (l6 : Int) (l7 : Int) (l8 : Int) (hs : Bool) (ct : Int) (t : Int) : runG Γs9 L0 Try.prog Try.f13 [.ptr 0 0] ⟨[[.v (I s), .v (I ma), .ptr 1 0, .v (I l1), .v (I l2), .v (I l3), .v (I l4), .v (I l5), .v (I l6), .v (I l7), .v (I l8), .v (Bo hs)], [.v (I ct), .v (I t)]], [true, true], []⟩ = 
    some (.v (I t), ⟨[[.v (I s), .v (I ma), .ptr 1 0, .v (I l1), .v (I l2), .v (I l3), .v (I l4), .v (I l5), .v (I l6), .v (I l7), .v (I l8), .v (Bo hs)], [.v (I ct), .v (I t)]], [true, true], []⟩) := by kernel_rfl
def gSag (xs : List SV) (m : Mem) : Option (Bool × Value) :=
  match xs, m with
  | [.ptr 0 0], ⟨[[.v (.int .i64 s), .v (.int .i64 ma), .ptr 1 0, .v (.int .i64 l1), .v (.int .i64 l2), .v (.int .i64 l3), .v (.int .i64 l4), .v (.int .i64 l5), .v (.int .i64 l6), .v (.int .i64 l7), .v (.int .i64 l8), .v (.bool hs)], [.v (.int .i64 ct), .v (.int .i64 t)]], [true, true], []⟩ => some (true, I t)
  | _, _ => none
theorem gSag_ok : ∀ xs m r, gSag xs m = some (true, r) → CallOk Try.prog 13 xs m (.v r) m := by
  intro xs m r h
  unfold gSag at h
  split at h
  · rename_i s ma l1 l2 l3 l4 l5 l6 l7 l8 hs ct t
    obtain ⟨h1, rfl⟩ := some_t h
    refine runOk (Λ := L0) Oks9 Try.func13 rfl (fun z _ _ => l0Ok' _ z) ?_
    refine (runSag s ma l1 l2 l3 l4 l5 l6 l7 l8 hs ct t).trans ?_
    rfl
  · cases h
noncomputable def Γs10 : Orc := addRd 13 gSag Γs9
theorem Oks10 : Γs10.Ok Try.prog := addRd_ok Oks9 gSag_ok
set_option maxRecDepth 20000 in
theorem runSre (s : Int) (ma : Int) (l1 : Int) (l2 : Int) (l3 : Int) (l4 : Int) (l5 : Int) (l6 : Int) (l7 : Int) (l8 : Int) (hs : Bool) (ct : Int) (t : Int) : runG Γs10 L0 Try.prog Try.f15 [.ptr 0 0] ⟨[[.v (I s), .v (I ma), .ptr 1 0, .v (I l1), .v (I l2), .v (I l3), .v (I l4), .v (I l5), .v (I l6), .v (I l7), .v (I l8), .v (Bo hs)], [.v (I ct), .v (I t)]], [true, true], []⟩ = 
    some (.v (.tuple #[]), ⟨[[.v (I s), .v (I ma), .ptr 1 0, .v (I 0), .v (I 0), .v (I 0), .v (I 0), .v (I 0), .v (I 0), .v (I 0), .v (I 0), .v (Bo false)], [.v (I ct), .v (I (clampI (0 : Int) ct))]], [true, true], []⟩) := by kernel_rfl
def gSre (xs : List SV) (m : Mem) : Option (Bool × SV × Mem) :=
  match xs, m with
  | [.ptr 0 0], ⟨[[.v (.int .i64 s), .v (.int .i64 ma), .ptr 1 0, .v (.int .i64 l1), .v (.int .i64 l2), .v (.int .i64 l3), .v (.int .i64 l4), .v (.int .i64 l5), .v (.int .i64 l6), .v (.int .i64 l7), .v (.int .i64 l8), .v (.bool hs)], [.v (.int .i64 ct), .v (.int .i64 t)]], [true, true], []⟩ => some (true, .v (.tuple #[]), ⟨[[.v (I s), .v (I ma), .ptr 1 0, .v (I 0), .v (I 0), .v (I 0), .v (I 0), .v (I 0), .v (I 0), .v (I 0), .v (I 0), .v (Bo false)], [.v (I ct), .v (I (clampI 0 ct))]], [true, true], []⟩)
  | _, _ => none
theorem gSre_ok : ∀ xs m r m', gSre xs m = some (true, r, m') → CallOk Try.prog 15 xs m r m' := by
  intro xs m r m' h
  unfold gSre at h
  split at h
  · rename_i s ma l1 l2 l3 l4 l5 l6 l7 l8 hs ct t
    obtain ⟨h1, rfl, rfl⟩ := some_t2 h
    refine runOk (Λ := L0) Oks10 Try.func15 rfl (fun z _ _ => l0Ok' _ z) ?_
    refine (runSre s ma l1 l2 l3 l4 l5 l6 l7 l8 hs ct t).trans ?_
    rfl
  · cases h
noncomputable def Γs11 : Orc := addCl 15 gSre Γs10
theorem Oks11 : Γs11.Ok Try.prog := addCl_ok Oks10 gSre_ok
/-! rep (((L.getD (wI ((L.length : Int) - (1 : Int))).toNat []).headD (Dat.n (0 : Int))).toI) => (nv0 L) -/
/-! rep ((L.getD (wI ((L.length : Int) - (1 : Int))).toNat []).headD (Dat.n (0 : Int))).toI => (nv0 L) -/
/-! rep (((L.getD (wI ((L.length : Int) - (1 : Int))).toNat []).tail.headD (Dat.n (0 : Int))).toI) => (nv1 L) -/
/-! rep ((L.getD (wI ((L.length : Int) - (1 : Int))).toNat []).tail.headD (Dat.n (0 : Int))).toI => (nv1 L) -/
/-! rep (((L.getD (wI ((L.length : Int) - (1 : Int))).toNat []).tail.tail.headD (Dat.n (0 : Int))).toI) => (nv2 L) -/
/-! rep ((L.getD (wI ((L.length : Int) - (1 : Int))).toNat []).tail.tail.headD (Dat.n (0 : Int))).toI => (nv2 L) -/
/-! rep (((L.getD (wI ((L.length : Int) - (1 : Int))).toNat []).tail.tail.tail.headD (Dat.n (0 : Int))).toI) => (nv3 L) -/
/-! rep ((L.getD (wI ((L.length : Int) - (1 : Int))).toNat []).tail.tail.tail.headD (Dat.n (0 : Int))).toI => (nv3 L) -/
/-! rep (((L.getD (wI ((L.length : Int) - (1 : Int))).toNat []).tail.tail.tail.tail.headD (Dat.n (0 : Int))).toI) => (nv4 L) -/
/-! rep ((L.getD (wI ((L.length : Int) - (1 : Int))).toNat []).tail.tail.tail.tail.headD (Dat.n (0 : Int))).toI => (nv4 L) -/
/-! rep (((L.getD (wI ((L.length : Int) - (1 : Int))).toNat []).tail.tail.tail.tail.tail.headD (Dat.n (0 : Int))).toI) => (nv5 L) -/
/-! rep ((L.getD (wI ((L.length : Int) - (1 : Int))).toNat []).tail.tail.tail.tail.tail.headD (Dat.n (0 : Int))).toI => (nv5 L) -/
/-! rep (((L.getD (wI ((L.length : Int) - (1 : Int))).toNat []).tail.tail.tail.tail.tail.tail.headD (Dat.n (0 : Int))).toI) => (nv6 L) -/
/-! rep ((L.getD (wI ((L.length : Int) - (1 : Int))).toNat []).tail.tail.tail.tail.tail.tail.headD (Dat.n (0 : Int))).toI => (nv6 L) -/
/-! rep (((L.getD (wI ((L.length : Int) - (1 : Int))).toNat []).tail.tail.tail.tail.tail.tail.tail.headD (Dat.n (0 : Int))).toI) => (nv7 L) -/
/-! rep ((L.getD (wI ((L.length : Int) - (1 : Int))).toNat []).tail.tail.tail.tail.tail.tail.tail.headD (Dat.n (0 : Int))).toI => (nv7 L) -/
def nv0 (L : List (List Dat)) : Int := ((L.getD (wI ((L.length : Int) - 1)).toNat []).headD (.n 0)).toI
def nv1 (L : List (List Dat)) : Int := ((L.getD (wI ((L.length : Int) - 1)).toNat []).tail.headD (.n 0)).toI
def nv2 (L : List (List Dat)) : Int := ((L.getD (wI ((L.length : Int) - 1)).toNat []).tail.tail.headD (.n 0)).toI
def nv3 (L : List (List Dat)) : Int := ((L.getD (wI ((L.length : Int) - 1)).toNat []).tail.tail.tail.headD (.n 0)).toI
def nv4 (L : List (List Dat)) : Int := ((L.getD (wI ((L.length : Int) - 1)).toNat []).tail.tail.tail.tail.headD (.n 0)).toI
def nv5 (L : List (List Dat)) : Int := ((L.getD (wI ((L.length : Int) - 1)).toNat []).tail.tail.tail.tail.tail.headD (.n 0)).toI
def nv6 (L : List (List Dat)) : Int := ((L.getD (wI ((L.length : Int) - 1)).toNat []).tail.tail.tail.tail.tail.tail.headD (.n 0)).toI
def nv7 (L : List (List Dat)) : Int := ((L.getD (wI ((L.length : Int) - 1)).toNat []).tail.tail.tail.tail.tail.tail.tail.headD (.n 0)).toI
abbrev kNv : List CK := [.num .i64, .num .i64, .num .i64, .num .i64, .num .i64, .num .i64, .num .i64, .num .i64]
abbrev rN (L : List (List Dat)) (own mark : Bool) : RowS := .live ⟨32, kNv, L, own, mark⟩
set_option maxRecDepth 20000 in
theorem runScn (s : Int) (ma : Int) (l1 : Int) (l2 : Int) (l3 : Int) (l4 : Int) (l5 : Int) (l6 : Int) (l7 : Int) (l8 : Int) (hs : Bool) (ct : Int) (t : Int) : runG Γs11 L0 Try.prog Try.f10 [.ptr 0 0, .v (.slice none 0 0)] ⟨[[.v (I s), .v (I ma), .ptr 1 0, .v (I l1), .v (I l2), .v (I l3), .v (I l4), .v (I l5), .v (I l6), .v (I l7), .v (I l8), .v (Bo hs)], [.v (I ct), .v (I t)]], [true, true], []⟩ = 
    some (.v (.tuple #[(.agg #[(I 0), (I 0), (I 0), (I 0), (I 0), (I 0), (I 0), (I 0)]), (I 1)]), ⟨[[.v (I s), .v (I ma), .ptr 1 0, .v (I (gN (decide (addN' ct t (1 : Int) > ma)) l1)), .v (I (gN (decide (addN' ct t (1 : Int) > ma)) l2)), .v (I (gN (decide (addN' ct t (1 : Int) > ma)) l3)), .v (I (gN (decide (addN' ct t (1 : Int) > ma)) l4)), .v (I (gN (decide (addN' ct t (1 : Int) > ma)) l5)), .v (I (gN (decide (addN' ct t (1 : Int) > ma)) l6)), .v (I (gN (decide (addN' ct t (1 : Int) > ma)) l7)), .v (I (gN (decide (addN' ct t (1 : Int) > ma)) l8)), .v (Bo (gB' (decide (addN' ct t (1 : Int) > ma)) hs))], [.v (I ct), .v (I (addN' ct t (1 : Int)))]], [true, true], []⟩) := by kernel_rfl
def gScn (xs : List SV) (m : Mem) : Option (Bool × SV × Mem) :=
  match xs, m with
  | [.ptr 0 0, .v (.slice none 0 0)], ⟨[[.v (.int .i64 s), .v (.int .i64 ma), .ptr 1 0, .v (.int .i64 l1), .v (.int .i64 l2), .v (.int .i64 l3), .v (.int .i64 l4), .v (.int .i64 l5), .v (.int .i64 l6), .v (.int .i64 l7), .v (.int .i64 l8), .v (.bool hs)], [.v (.int .i64 ct), .v (.int .i64 t)]], [true, true], []⟩ => some (true, .v (.tuple #[.agg #[I 0, I 0, I 0, I 0, I 0, I 0, I 0, I 0], I 1]), ⟨[[.v (I s), .v (I ma), .ptr 1 0, .v (I (gN (decide (addN' ct t 1 > ma)) l1)), .v (I (gN (decide (addN' ct t 1 > ma)) l2)), .v (I (gN (decide (addN' ct t 1 > ma)) l3)), .v (I (gN (decide (addN' ct t 1 > ma)) l4)), .v (I (gN (decide (addN' ct t 1 > ma)) l5)), .v (I (gN (decide (addN' ct t 1 > ma)) l6)), .v (I (gN (decide (addN' ct t 1 > ma)) l7)), .v (I (gN (decide (addN' ct t 1 > ma)) l8)), .v (Bo (gB' (decide (addN' ct t 1 > ma)) hs))], [.v (I ct), .v (I (addN' ct t 1))]], [true, true], []⟩)
  | _, _ => none
theorem gScn_ok : ∀ xs m r m', gScn xs m = some (true, r, m') → CallOk Try.prog 10 xs m r m' := by
  intro xs m r m' h
  unfold gScn at h
  split at h
  · rename_i s ma l1 l2 l3 l4 l5 l6 l7 l8 hs ct t
    obtain ⟨h1, rfl, rfl⟩ := some_t2 h
    refine runOk (Λ := L0) Oks11 Try.func10 rfl (fun z _ _ => l0Ok' _ z) ?_
    refine (runScn s ma l1 l2 l3 l4 l5 l6 l7 l8 hs ct t).trans ?_
    rfl
  · cases h
noncomputable def Γs12 : Orc := addCl 10 gScn Γs11
theorem Oks12 : Γs12.Ok Try.prog := addCl_ok Oks11 gScn_ok
def faI (L : List (List Dat)) (hs : Bool) (l1 l6 l7 l8 P : Int) : Int := bif (L.length : Int) == 0 then 1 else ftI (hs && nv0 L == l1) (nv1 L != 0) (farB (nv2 L) (nv3 L) (nv4 L) (nv5 L) (nv6 L) (nv7 L)) (hs && jmB (nv5 L) (nv6 L) (nv7 L) l6 l7 l8 P)
def pk (b : Bool) (x y : Int) : Int := bif b then x else y
set_option maxRecDepth 20000 in
theorem runScy (s : Int) (ma : Int) (l1 : Int) (l2 : Int) (l3 : Int) (l4 : Int) (l5 : Int) (l6 : Int) (l7 : Int) (l8 : Int) (hs : Bool) (ct : Int) (t : Int) (L : List (List Dat)) (own : Bool) (mark : Bool) : runG Γs12 L0 Try.prog Try.f10 [.ptr 0 0, .row 0] ⟨[[.v (I s), .v (I ma), .ptr 1 0, .v (I l1), .v (I l2), .v (I l3), .v (I l4), .v (I l5), .v (I l6), .v (I l7), .v (I l8), .v (Bo hs)], [.v (I ct), .v (I t)]], [true, true], [rN L own mark]⟩ = 
    (bif (L.length : Int) == (0 : Int) then some (.v (.tuple #[(.agg #[(I 0), (I 0), (I 0), (I 0), (I 0), (I 0), (I 0), (I 0)]), (I 1)]), ⟨[[.v (I s), .v (I ma), .ptr 1 0, .v (I (gN (decide (addN' ct t (1 : Int) > ma)) l1)), .v (I (gN (decide (addN' ct t (1 : Int) > ma)) l2)), .v (I (gN (decide (addN' ct t (1 : Int) > ma)) l3)), .v (I (gN (decide (addN' ct t (1 : Int) > ma)) l4)), .v (I (gN (decide (addN' ct t (1 : Int) > ma)) l5)), .v (I (gN (decide (addN' ct t (1 : Int) > ma)) l6)), .v (I (gN (decide (addN' ct t (1 : Int) > ma)) l7)), .v (I (gN (decide (addN' ct t (1 : Int) > ma)) l8)), .v (Bo (gB' (decide (addN' ct t (1 : Int) > ma)) hs))], [.v (I ct), .v (I (addN' ct t (1 : Int)))]], [true, true], [rN L own mark]⟩) else (bif decide ((0 : Int) ≤ wI ((L.length : Int) - (1 : Int))) && decide (wI ((L.length : Int) - (1 : Int)) < (L.length : Int)) then (bif i64B (nv5 L) && (i64B (nv6 L) && (i64B (nv7 L) && (i64B l6 && (i64B l7 && (i64B l8 && (decide ((0 : Int) ≤ s ∧ s < (9223372036854775808 : Int)) && decide ((0 : Int) ≤ t ∧ t ≤ (1000000 : Int)))))))) then (bif ftI (hs && (nv0 L) == l1) ((nv1 L) != (0 : Int)) (farB (nv2 L) (nv3 L) (nv4 L) (nv5 L) (nv6 L) (nv7 L)) (hs && jmB (nv5 L) (nv6 L) (nv7 L) l6 l7 l8 (s * (t + (1 : Int)))) != (0 : Int) then some (.v (.tuple #[(.agg #[(I 0), (I 0), (I 0), (I 0), (I 0), (I 0), (I 0), (I 0)]), (I (ftI (hs && (nv0 L) == l1) ((nv1 L) != (0 : Int)) (farB (nv2 L) (nv3 L) (nv4 L) (nv5 L) (nv6 L) (nv7 L)) (hs && jmB (nv5 L) (nv6 L) (nv7 L) l6 l7 l8 (s * (t + (1 : Int))))))]), ⟨[[.v (I s), .v (I ma), .ptr 1 0, .v (I (gN (decide (addN' ct t (1 : Int) > ma)) l1)), .v (I (gN (decide (addN' ct t (1 : Int) > ma)) l2)), .v (I (gN (decide (addN' ct t (1 : Int) > ma)) l3)), .v (I (gN (decide (addN' ct t (1 : Int) > ma)) l4)), .v (I (gN (decide (addN' ct t (1 : Int) > ma)) l5)), .v (I (gN (decide (addN' ct t (1 : Int) > ma)) l6)), .v (I (gN (decide (addN' ct t (1 : Int) > ma)) l7)), .v (I (gN (decide (addN' ct t (1 : Int) > ma)) l8)), .v (Bo (gB' (decide (addN' ct t (1 : Int) > ma)) hs))], [.v (I ct), .v (I (addN' ct t (1 : Int)))]], [true, true], [rN L own mark]⟩) else some (.v (.tuple #[(.agg #[(I (nv0 L)), (I (nv1 L)), (I (nv2 L)), (I (nv3 L)), (I (nv4 L)), (I (nv5 L)), (I (nv6 L)), (I (nv7 L))]), (I 0)]), ⟨[[.v (I s), .v (I ma), .ptr 1 0, .v (I (nv0 L)), .v (I (nv1 L)), .v (I (nv2 L)), .v (I (nv3 L)), .v (I (nv4 L)), .v (I (nv5 L)), .v (I (nv6 L)), .v (I (nv7 L)), .v (Bo true)], [.v (I ct), .v (I (clampI (0 : Int) ct))]], [true, true], [rN L own mark]⟩)) else none) else none)) := by kernel_rfl
def gScy (xs : List SV) (m : Mem) : Option (Bool × SV × Mem) :=
  match xs, m with
  | [.ptr 0 0, .row 0], ⟨[[.v (.int .i64 s), .v (.int .i64 ma), .ptr 1 0, .v (.int .i64 l1), .v (.int .i64 l2), .v (.int .i64 l3), .v (.int .i64 l4), .v (.int .i64 l5), .v (.int .i64 l6), .v (.int .i64 l7), .v (.int .i64 l8), .v (.bool hs)], [.v (.int .i64 ct), .v (.int .i64 t)]], [true, true], [.live ⟨32, [.num .i64, .num .i64, .num .i64, .num .i64, .num .i64, .num .i64, .num .i64, .num .i64], L, own, mark⟩]⟩ => some (Nat.ble L.length 1000000 && (i64B (nv5 L) && (i64B (nv6 L) && (i64B (nv7 L) && (i64B l6 && (i64B l7 && (i64B l8 && (decide (0 ≤ s ∧ s < 9223372036854775808) && decide (0 ≤ t ∧ t ≤ 1000000)))))))), .v (.tuple #[.agg #[I (pk (faI L hs l1 l6 l7 l8 (s * (t + 1)) == 0) (nv0 L) 0), I (pk (faI L hs l1 l6 l7 l8 (s * (t + 1)) == 0) (nv1 L) 0), I (pk (faI L hs l1 l6 l7 l8 (s * (t + 1)) == 0) (nv2 L) 0), I (pk (faI L hs l1 l6 l7 l8 (s * (t + 1)) == 0) (nv3 L) 0), I (pk (faI L hs l1 l6 l7 l8 (s * (t + 1)) == 0) (nv4 L) 0), I (pk (faI L hs l1 l6 l7 l8 (s * (t + 1)) == 0) (nv5 L) 0), I (pk (faI L hs l1 l6 l7 l8 (s * (t + 1)) == 0) (nv6 L) 0), I (pk (faI L hs l1 l6 l7 l8 (s * (t + 1)) == 0) (nv7 L) 0)], I (faI L hs l1 l6 l7 l8 (s * (t + 1)))]), ⟨[[.v (I s), .v (I ma), .ptr 1 0, .v (I (pk (faI L hs l1 l6 l7 l8 (s * (t + 1)) == 0) (nv0 L) (gN (decide (addN' ct t 1 > ma)) l1))), .v (I (pk (faI L hs l1 l6 l7 l8 (s * (t + 1)) == 0) (nv1 L) (gN (decide (addN' ct t 1 > ma)) l2))), .v (I (pk (faI L hs l1 l6 l7 l8 (s * (t + 1)) == 0) (nv2 L) (gN (decide (addN' ct t 1 > ma)) l3))), .v (I (pk (faI L hs l1 l6 l7 l8 (s * (t + 1)) == 0) (nv3 L) (gN (decide (addN' ct t 1 > ma)) l4))), .v (I (pk (faI L hs l1 l6 l7 l8 (s * (t + 1)) == 0) (nv4 L) (gN (decide (addN' ct t 1 > ma)) l5))), .v (I (pk (faI L hs l1 l6 l7 l8 (s * (t + 1)) == 0) (nv5 L) (gN (decide (addN' ct t 1 > ma)) l6))), .v (I (pk (faI L hs l1 l6 l7 l8 (s * (t + 1)) == 0) (nv6 L) (gN (decide (addN' ct t 1 > ma)) l7))), .v (I (pk (faI L hs l1 l6 l7 l8 (s * (t + 1)) == 0) (nv7 L) (gN (decide (addN' ct t 1 > ma)) l8))), .v (Bo (bif (faI L hs l1 l6 l7 l8 (s * (t + 1)) == 0) then true else gB' (decide (addN' ct t 1 > ma)) hs))], [.v (I ct), .v (I (pk (faI L hs l1 l6 l7 l8 (s * (t + 1)) == 0) (clampI 0 ct) (addN' ct t 1)))]], [true, true], [rN L own mark]⟩)
  | _, _ => none
theorem gScy_ok : ∀ xs m r m', gScy xs m = some (true, r, m') → CallOk Try.prog 10 xs m r m' := by
  intro xs m r m' h
  unfold gScy at h
  split at h
  · rename_i s ma l1 l2 l3 l4 l5 l6 l7 l8 hs ct t L own mark
    obtain ⟨h1, rfl, rfl⟩ := some_t2 h
    refine runOk (Λ := L0) Oks12 Try.func10 rfl (fun z _ _ => l0Ok' _ z) ?_
    refine (runScy s ma l1 l2 l3 l4 l5 l6 l7 l8 hs ct t L own mark).trans ?_
    rw [Bool.and_eq_true] at h1
    obtain ⟨h1, h2⟩ := h1
    have h3 := Nat.le_of_ble_eq_true h1
    rw [h2]
    unfold faI pk
    by_cases hl : (L.length : Int) = 0
    · rw [hl]
      rfl
    rw [beq_eq_false_iff_ne.2 hl, wI_id (n := (L.length : Int) - 1) (by omega), decide_eq_true (show (0 : Int) ≤ (L.length : Int) - 1 by omega), decide_eq_true (show (L.length : Int) - 1 < (L.length : Int) by omega)]
    generalize ftI (hs && nv0 L == l1) (nv1 L != 0) (farB (nv2 L) (nv3 L) (nv4 L) (nv5 L) (nv6 L) (nv7 L)) (hs && jmB (nv5 L) (nv6 L) (nv7 L) l6 l7 l8 (s * (t + 1))) = f
    simp only [cond_false, cond_true, Bool.and_self]
    by_cases hf : f = 0
    · subst hf; rfl
    · rw [bne_iff_ne.2 hf, beq_eq_false_iff_ne.2 hf]
      rfl
  · cases h
noncomputable def Γs13 : Orc := addCl 10 gScy Γs12
theorem Oks13 : Γs13.Ok Try.prog := addCl_ok Oks12 gScy_ok
set_option maxRecDepth 20000 in
theorem runSnw (r1 : Int) (r2 : Int) (r3 : Int) (r4 : Int) (r5 : Int) (r6 : Int) (r7 : Int) (r8 : Int) (e1 : TypeId) (k1 : List CK) (L : List (List Dat)) (own : Bool) (mark : Bool) : runG Γs13 L0 Try.prog Try.f9 [.ag [.row 0, .v (I r1), .v (I r2), .v (I r3), .v (I r4), .v (I r5), .v (I r6), .v (I r7), .v (I r8)]] ⟨[], [], [.live ⟨e1, k1, L, own, mark⟩]⟩ = 
    (bif decide (r5 < (1 : Int)) then some (.v (Value.pointer none), ⟨[], [], [.live ⟨e1, k1, L, own, mark⟩]⟩) else (bif decide (r6 < (1 : Int)) then some (.v (Value.pointer none), ⟨[], [], [.live ⟨e1, k1, L, own, mark⟩]⟩) else some (.ptr 0 0, ⟨[[.v (I r5), .v (I r6), .ptr 1 0, .v (I 0), .v (I 0), .v (I 0), .v (I 0), .v (I 0), .v (I 0), .v (I 0), .v (I 0), .v (Bo false)], [.v (I 1000000), .v (I 0)]], [true, true], [.live ⟨e1, k1, L, own, mark⟩]⟩))) := by kernel_rfl
def gSnw (xs : List SV) (m : Mem) : Option (Bool × SV × Mem) :=
  match xs, m with
  | [.ag [.row 0, .v (.int .i64 r1), .v (.int .i64 r2), .v (.int .i64 r3), .v (.int .i64 r4), .v (.int .i64 r5), .v (.int .i64 r6), .v (.int .i64 r7), .v (.int .i64 r8)]], ⟨[], [], [.live ⟨e1, k1, L, own, mark⟩]⟩ => some (decide (1 ≤ r5) && decide (1 ≤ r6), .ptr 0 0, ⟨[[.v (I r5), .v (I r6), .ptr 1 0, .v (I 0), .v (I 0), .v (I 0), .v (I 0), .v (I 0), .v (I 0), .v (I 0), .v (I 0), .v (Bo false)], [.v (I 1000000), .v (I 0)]], [true, true], [.live ⟨e1, k1, L, own, mark⟩]⟩)
  | _, _ => none
theorem gSnw_ok : ∀ xs m r m', gSnw xs m = some (true, r, m') → CallOk Try.prog 9 xs m r m' := by
  intro xs m r m' h
  unfold gSnw at h
  split at h
  · rename_i r1 r2 r3 r4 r5 r6 r7 r8 e1 k1 L own mark
    obtain ⟨h1, rfl, rfl⟩ := some_t2 h
    refine runOk (Λ := L0) Oks13 Try.func9 rfl (fun z _ _ => l0Ok' _ z) ?_
    refine (runSnw r1 r2 r3 r4 r5 r6 r7 r8 e1 k1 L own mark).trans ?_
    rw [Bool.and_eq_true, decide_eq_true_eq, decide_eq_true_eq] at h1
    rw [decide_eq_false (show ¬ r5 < 1 by omega), decide_eq_false (show ¬ r6 < 1 by omega)]
    rfl
  · cases h
noncomputable def Γs14 : Orc := addCl 9 gSnw Γs13
theorem Oks14 : Γs14.Ok Try.prog := addCl_ok Oks13 gSnw_ok
noncomputable def ΓSoA : Orc := Γs14
theorem OkSoA : ΓSoA.Ok Try.prog := Oks14
set_option maxRecDepth 20000 in
theorem runSnx (r1 : Int) (r2 : Int) (r3 : Int) (r4 : Int) (r5 : Int) (r6 : Int) (r7 : Int) (r8 : Int) (e1 : TypeId) (k1 : List CK) (L : List (List Dat)) (own : Bool) (mark : Bool) : runG Γs13 L0 Try.prog Try.f9 [.ag [.row 0, .v (I r1), .v (I r2), .v (I r3), .v (I r4), .v (I r5), .v (I r6), .v (I r7), .v (I r8)]] ⟨[], [], [.live ⟨e1, k1, L, own, mark⟩]⟩ = 
    (bif decide (r5 < (1 : Int)) then some (.v (Value.pointer none), ⟨[], [], [.live ⟨e1, k1, L, own, mark⟩]⟩) else (bif decide (r6 < (1 : Int)) then some (.v (Value.pointer none), ⟨[], [], [.live ⟨e1, k1, L, own, mark⟩]⟩) else some (.ptr 0 0, ⟨[[.v (I r5), .v (I r6), .ptr 1 0, .v (I 0), .v (I 0), .v (I 0), .v (I 0), .v (I 0), .v (I 0), .v (I 0), .v (I 0), .v (Bo false)], [.v (I 1000000), .v (I 0)]], [true, true], [.live ⟨e1, k1, L, own, mark⟩]⟩))) := by kernel_rfl
def gSnx (xs : List SV) (m : Mem) : Option (Bool × SV × Mem) :=
  match xs, m with
  | [.ag [.row 0, .v (.int .i64 r1), .v (.int .i64 r2), .v (.int .i64 r3), .v (.int .i64 r4), .v (.int .i64 r5), .v (.int .i64 r6), .v (.int .i64 r7), .v (.int .i64 r8)]], ⟨[], [], [.live ⟨e1, k1, L, own, mark⟩]⟩ => some (!(decide (1 ≤ r5) && decide (1 ≤ r6)), .v (.pointer none), ⟨[], [], [.live ⟨e1, k1, L, own, mark⟩]⟩)
  | _, _ => none
theorem gSnx_ok : ∀ xs m r m', gSnx xs m = some (true, r, m') → CallOk Try.prog 9 xs m r m' := by
  intro xs m r m' h
  unfold gSnx at h
  split at h
  · rename_i r1 r2 r3 r4 r5 r6 r7 r8 e1 k1 L own mark
    obtain ⟨h1, rfl, rfl⟩ := some_t2 h
    refine runOk (Λ := L0) Oks13 Try.func9 rfl (fun z _ _ => l0Ok' _ z) ?_
    refine (runSnx r1 r2 r3 r4 r5 r6 r7 r8 e1 k1 L own mark).trans ?_
    have h2 : r5 < 1 ∨ r6 < 1 := by
      by_cases a : 1 ≤ r5
      · by_cases b : 1 ≤ r6
        · rw [decide_eq_true a, decide_eq_true b] at h1; cases h1
        · omega
      · omega
    by_cases a : r5 < 1
    · rw [decide_eq_true a]; rfl
    · rw [decide_eq_false a, decide_eq_true (show r6 < 1 by omega)]; rfl
  · cases h
noncomputable def Γs15 : Orc := addCl 9 gSnx Γs13
theorem Oks15 : Γs15.Ok Try.prog := addCl_ok Oks13 gSnx_ok
noncomputable def ΓSoB : Orc := Γs15
theorem OkSoB : ΓSoB.Ok Try.prog := Oks15
set_option maxRecDepth 20000 in
theorem runRou (n : Int) (m : Int) : runG Γs13 L0 Try.prog Try.f20 [.v (I n), .v (I m)] M0 = 
    (bif decide (n < wI ((0 : Int) - m)) then some (.v (Bo true), M0) else some (.v (Bo (decide (n > m))), M0)) := by kernel_rfl
def gRou (vs : List Value) : Option (Bool × Value) :=
  match vs with
  | [.int .i64 n, .int .i64 m] => some (true, Bo (beyB n m))
  | _ => none
theorem gRou_ok : ∀ vs r, gRou vs = some (true, r) → ∀ m, CallOk Try.prog 20 (vs.map .v) m (.v r) m := by
  intro vs r h
  unfold gRou at h
  split at h
  · rename_i n m
    obtain ⟨h1, rfl⟩ := some_t h
    refine runV (vs := [I n, I m]) (Λ := L0) (m' := M0) Oks13 Try.func20 rfl (fun z _ _ => l0Ok' _ z) ?_
    exact (runRou n m).trans (by unfold beyB; cases decide (n < wI (0 - m)) <;> rfl)
  · cases h
noncomputable def Γs16 : Orc := addVal 20 gRou Γs13
theorem Oks16 : Γs16.Ok Try.prog := addVal_ok Oks13 gRou_ok
def stB (a b m : Int) : Bool := bif decide (wI (a - b) > m) then true else decide (wI (b - a) > m)
def c62 (a : Int) : Int := if (4611686018427387904 : Int) < (if (-4611686018427387904 : Int) > a then -4611686018427387904 else a) then 4611686018427387904 else (if (-4611686018427387904 : Int) > a then -4611686018427387904 else a)
set_option maxRecDepth 20000 in
theorem runRst (a : Int) (b : Int) (m : Int) : runG Γs16 L0 Try.prog Try.f29 [.v (I a), .v (I b), .v (I m)] M0 = 
    (bif decide (wI (a - b) > m) then some (.v (Bo true), M0) else some (.v (Bo (decide (wI (b - a) > m))), M0)) := by kernel_rfl
def gRst (vs : List Value) : Option (Bool × Value) :=
  match vs with
  | [.int .i64 a, .int .i64 b, .int .i64 m] => some (true, Bo (stB a b m))
  | _ => none
theorem gRst_ok : ∀ vs r, gRst vs = some (true, r) → ∀ m, CallOk Try.prog 29 (vs.map .v) m (.v r) m := by
  intro vs r h
  unfold gRst at h
  split at h
  · rename_i a b m
    obtain ⟨h1, rfl⟩ := some_t h
    refine runV (vs := [I a, I b, I m]) (Λ := L0) (m' := M0) Oks16 Try.func29 rfl (fun z _ _ => l0Ok' _ z) ?_
    exact (runRst a b m).trans (by unfold stB; cases decide (wI (a - b) > m) <;> rfl)
  · cases h
noncomputable def Γs17 : Orc := addVal 29 gRst Γs16
theorem Oks17 : Γs17.Ok Try.prog := addVal_ok Oks16 gRst_ok
set_option maxRecDepth 20000 in
theorem runRju (a : Int) (b : Int) (m : Int) : runG Γs17 L0 Try.prog Try.f21 [.v (I a), .v (I b), .v (I m)] M0 = 
    some (.v (Bo (stB (if (4611686018427387904 : Int) < if (-4611686018427387904 : Int) > a then (-4611686018427387904 : Int) else a then (4611686018427387904 : Int) else if (-4611686018427387904 : Int) > a then (-4611686018427387904 : Int) else a) b m)), M0) := by kernel_rfl
def gRju (vs : List Value) : Option (Bool × Value) :=
  match vs with
  | [.int .i64 a, .int .i64 b, .int .i64 m] => some (true, Bo (stB (c62 a) b m))
  | _ => none
theorem gRju_ok : ∀ vs r, gRju vs = some (true, r) → ∀ m, CallOk Try.prog 21 (vs.map .v) m (.v r) m := by
  intro vs r h
  unfold gRju at h
  split at h
  · rename_i a b m
    obtain ⟨h1, rfl⟩ := some_t h
    refine runV (vs := [I a, I b, I m]) (Λ := L0) (m' := M0) Oks17 Try.func21 rfl (fun z _ _ => l0Ok' _ z) ?_
    exact (runRju a b m).trans (rfl)
  · cases h
noncomputable def Γs18 : Orc := addVal 21 gRju Γs17
theorem Oks18 : Γs18.Ok Try.prog := addVal_ok Oks17 gRju_ok
def jmR (vx vy vz l6 l7 l8 P : Int) : Bool := stB (c62 vx) l6 P || (stB (c62 vy) l7 P || stB (c62 vz) l8 P)
def faR (L : List (List Dat)) (hs : Bool) (l1 l6 l7 l8 P : Int) : Int := bif (L.length : Int) == 0 then 1 else ftI (hs && nv0 L == l1) (nv1 L != 0) (farB (nv2 L) (nv3 L) (nv4 L) (nv5 L) (nv6 L) (nv7 L)) (hs && jmR (nv5 L) (nv6 L) (nv7 L) l6 l7 l8 P)
/-! rep [.num .i64, .num .i64, .num .i64, .num .i64, .num .i64, .num .i64, .num .i64, .num .i64] => kNv -/
/-! rep .live ⟨32, kNv, L, own, mark⟩ => rN L own mark -/
/-! rep (if (1000000 : Int) < wI (od + (1 : Int)) then (1000000 : Int) else wI (od + (1 : Int))) => (odI od) -/
/-! rep .v (I st), .v (I mo), .v (I 0), .v (I 0), .v (I 0), .v (I 0), .v (I 0), .v (I 0), .v (I 0), .v (I 0), .v (Bo false), .v (I (odI od)) => «0» -/
/-! rep .v (I st), .v (I mo), .v (I l1), .v (I l2), .v (I l3), .v (I l4), .v (I l5), .v (I l6), .v (I l7), .v (I l8), .v (Bo hs), .v (I (odI od)) => «1» -/
/-! rex some \(\.v \(\.tuple #\[\(\.agg #\[\(I 0\), \(I 0\), \(I 0\), \(I 0\), \(I 0\), \(I 0\), \(I 0\), \(I 0\)\]\), \(I (\d+)\)\]\), ⟨\[\[«0»\]\], \[true\], \[rN L own mark\]⟩\) ==> (r0 st mo od L own mark \1) -/
/-! rex some \(\.v \(\.tuple #\[\(\.agg #\[\(I 0\), \(I 0\), \(I 0\), \(I 0\), \(I 0\), \(I 0\), \(I 0\), \(I 0\)\]\), \(I (\d+)\)\]\), ⟨\[\[«1»\]\], \[true\], \[rN L own mark\]⟩\) ==> (r1 st mo l1 l2 l3 l4 l5 l6 l7 l8 hs od L own mark \1) -/
def odI (od : Int) : Int := if (1000000 : Int) < wI (od + 1) then 1000000 else wI (od + 1)
def r0 (st mo od : Int) (L : List (List Dat)) (own mark : Bool) (n : Int) : Option (SV × Mem) := some (.v (.tuple #[(.agg #[(I 0), (I 0), (I 0), (I 0), (I 0), (I 0), (I 0), (I 0)]), I n]), ⟨[[.v (I st), .v (I mo), .v (I 0), .v (I 0), .v (I 0), .v (I 0), .v (I 0), .v (I 0), .v (I 0), .v (I 0), .v (Bo false), .v (I (odI od))]], [true], [rN L own mark]⟩)
def r1 (st mo l1 l2 l3 l4 l5 l6 l7 l8 : Int) (hs : Bool) (od : Int) (L : List (List Dat)) (own mark : Bool) (n : Int) : Option (SV × Mem) := some (.v (.tuple #[(.agg #[(I 0), (I 0), (I 0), (I 0), (I 0), (I 0), (I 0), (I 0)]), I n]), ⟨[[.v (I st), .v (I mo), .v (I l1), .v (I l2), .v (I l3), .v (I l4), .v (I l5), .v (I l6), .v (I l7), .v (I l8), .v (Bo hs), .v (I (odI od))]], [true], [rN L own mark]⟩)
set_option maxRecDepth 20000 in
theorem runRcy (st : Int) (mo : Int) (l1 : Int) (l2 : Int) (l3 : Int) (l4 : Int) (l5 : Int) (l6 : Int) (l7 : Int) (l8 : Int) (hs : Bool) (od : Int) (L : List (List Dat)) (own : Bool) (mark : Bool) : runG Γs18 L0 Try.prog Try.f11 [.ptr 0 0, .row 0] ⟨[[.v (I st), .v (I mo), .v (I l1), .v (I l2), .v (I l3), .v (I l4), .v (I l5), .v (I l6), .v (I l7), .v (I l8), .v (Bo hs), .v (I od)]], [true], [rN L own mark]⟩ = 
    (bif (L.length : Int) == (0 : Int) then (bif decide ((odI od) > mo) then (r0 st mo od L own mark 1) else (r1 st mo l1 l2 l3 l4 l5 l6 l7 l8 hs od L own mark 1)) else (bif decide ((0 : Int) ≤ wI ((L.length : Int) - (1 : Int))) && decide (wI ((L.length : Int) - (1 : Int)) < (L.length : Int)) then (bif beyB (nv2 L) (1073741824 : Int) then (bif hs then (bif (nv0 L) == l1 then (bif (nv1 L) != (0 : Int) then (bif hs then (bif stB (c62 (nv5 L)) l6 (wI (st * wI (od + (1 : Int)))) then (bif decide ((odI od) > mo) then (r0 st mo od L own mark 30) else (r1 st mo l1 l2 l3 l4 l5 l6 l7 l8 hs od L own mark 30)) else (bif stB (c62 (nv6 L)) l7 (wI (st * wI (od + (1 : Int)))) then (bif decide ((odI od) > mo) then (r0 st mo od L own mark 30) else (r1 st mo l1 l2 l3 l4 l5 l6 l7 l8 hs od L own mark 30)) else (bif stB (c62 (nv7 L)) l8 (wI (st * wI (od + (1 : Int)))) then (bif decide ((odI od) > mo) then (r0 st mo od L own mark 30) else (r1 st mo l1 l2 l3 l4 l5 l6 l7 l8 hs od L own mark 30)) else (bif decide ((odI od) > mo) then (r0 st mo od L own mark 14) else (r1 st mo l1 l2 l3 l4 l5 l6 l7 l8 hs od L own mark 14))))) else (bif decide ((odI od) > mo) then (r0 st mo od L own mark 14) else (r1 st mo l1 l2 l3 l4 l5 l6 l7 l8 hs od L own mark 14))) else (bif hs then (bif stB (c62 (nv5 L)) l6 (wI (st * wI (od + (1 : Int)))) then (bif decide ((odI od) > mo) then (r0 st mo od L own mark 26) else (r1 st mo l1 l2 l3 l4 l5 l6 l7 l8 hs od L own mark 26)) else (bif stB (c62 (nv6 L)) l7 (wI (st * wI (od + (1 : Int)))) then (bif decide ((odI od) > mo) then (r0 st mo od L own mark 26) else (r1 st mo l1 l2 l3 l4 l5 l6 l7 l8 hs od L own mark 26)) else (bif stB (c62 (nv7 L)) l8 (wI (st * wI (od + (1 : Int)))) then (bif decide ((odI od) > mo) then (r0 st mo od L own mark 26) else (r1 st mo l1 l2 l3 l4 l5 l6 l7 l8 hs od L own mark 26)) else (bif decide ((odI od) > mo) then (r0 st mo od L own mark 10) else (r1 st mo l1 l2 l3 l4 l5 l6 l7 l8 hs od L own mark 10))))) else (bif decide ((odI od) > mo) then (r0 st mo od L own mark 10) else (r1 st mo l1 l2 l3 l4 l5 l6 l7 l8 hs od L own mark 10)))) else (bif (nv1 L) != (0 : Int) then (bif hs then (bif stB (c62 (nv5 L)) l6 (wI (st * wI (od + (1 : Int)))) then (bif decide ((odI od) > mo) then (r0 st mo od L own mark 28) else (r1 st mo l1 l2 l3 l4 l5 l6 l7 l8 hs od L own mark 28)) else (bif stB (c62 (nv6 L)) l7 (wI (st * wI (od + (1 : Int)))) then (bif decide ((odI od) > mo) then (r0 st mo od L own mark 28) else (r1 st mo l1 l2 l3 l4 l5 l6 l7 l8 hs od L own mark 28)) else (bif stB (c62 (nv7 L)) l8 (wI (st * wI (od + (1 : Int)))) then (bif decide ((odI od) > mo) then (r0 st mo od L own mark 28) else (r1 st mo l1 l2 l3 l4 l5 l6 l7 l8 hs od L own mark 28)) else (bif decide ((odI od) > mo) then (r0 st mo od L own mark 12) else (r1 st mo l1 l2 l3 l4 l5 l6 l7 l8 hs od L own mark 12))))) else (bif decide ((odI od) > mo) then (r0 st mo od L own mark 12) else (r1 st mo l1 l2 l3 l4 l5 l6 l7 l8 hs od L own mark 12))) else (bif hs then (bif stB (c62 (nv5 L)) l6 (wI (st * wI (od + (1 : Int)))) then (bif decide ((odI od) > mo) then (r0 st mo od L own mark 24) else (r1 st mo l1 l2 l3 l4 l5 l6 l7 l8 hs od L own mark 24)) else (bif stB (c62 (nv6 L)) l7 (wI (st * wI (od + (1 : Int)))) then (bif decide ((odI od) > mo) then (r0 st mo od L own mark 24) else (r1 st mo l1 l2 l3 l4 l5 l6 l7 l8 hs od L own mark 24)) else (bif stB (c62 (nv7 L)) l8 (wI (st * wI (od + (1 : Int)))) then (bif decide ((odI od) > mo) then (r0 st mo od L own mark 24) else (r1 st mo l1 l2 l3 l4 l5 l6 l7 l8 hs od L own mark 24)) else (bif decide ((odI od) > mo) then (r0 st mo od L own mark 8) else (r1 st mo l1 l2 l3 l4 l5 l6 l7 l8 hs od L own mark 8))))) else (bif decide ((odI od) > mo) then (r0 st mo od L own mark 8) else (r1 st mo l1 l2 l3 l4 l5 l6 l7 l8 hs od L own mark 8))))) else (bif (nv1 L) != (0 : Int) then (bif hs then (bif stB (c62 (nv5 L)) l6 (wI (st * wI (od + (1 : Int)))) then (bif decide ((odI od) > mo) then (r0 st mo od L own mark 28) else (r1 st mo l1 l2 l3 l4 l5 l6 l7 l8 hs od L own mark 28)) else (bif stB (c62 (nv6 L)) l7 (wI (st * wI (od + (1 : Int)))) then (bif decide ((odI od) > mo) then (r0 st mo od L own mark 28) else (r1 st mo l1 l2 l3 l4 l5 l6 l7 l8 hs od L own mark 28)) else (bif stB (c62 (nv7 L)) l8 (wI (st * wI (od + (1 : Int)))) then (bif decide ((odI od) > mo) then (r0 st mo od L own mark 28) else (r1 st mo l1 l2 l3 l4 l5 l6 l7 l8 hs od L own mark 28)) else (bif decide ((odI od) > mo) then (r0 st mo od L own mark 12) else (r1 st mo l1 l2 l3 l4 l5 l6 l7 l8 hs od L own mark 12))))) else (bif decide ((odI od) > mo) then (r0 st mo od L own mark 12) else (r1 st mo l1 l2 l3 l4 l5 l6 l7 l8 hs od L own mark 12))) else (bif hs then (bif stB (c62 (nv5 L)) l6 (wI (st * wI (od + (1 : Int)))) then (bif decide ((odI od) > mo) then (r0 st mo od L own mark 24) else (r1 st mo l1 l2 l3 l4 l5 l6 l7 l8 hs od L own mark 24)) else (bif stB (c62 (nv6 L)) l7 (wI (st * wI (od + (1 : Int)))) then (bif decide ((odI od) > mo) then (r0 st mo od L own mark 24) else (r1 st mo l1 l2 l3 l4 l5 l6 l7 l8 hs od L own mark 24)) else (bif stB (c62 (nv7 L)) l8 (wI (st * wI (od + (1 : Int)))) then (bif decide ((odI od) > mo) then (r0 st mo od L own mark 24) else (r1 st mo l1 l2 l3 l4 l5 l6 l7 l8 hs od L own mark 24)) else (bif decide ((odI od) > mo) then (r0 st mo od L own mark 8) else (r1 st mo l1 l2 l3 l4 l5 l6 l7 l8 hs od L own mark 8))))) else (bif decide ((odI od) > mo) then (r0 st mo od L own mark 8) else (r1 st mo l1 l2 l3 l4 l5 l6 l7 l8 hs od L own mark 8))))) else (bif beyB (nv3 L) (1073741824 : Int) then (bif hs then (bif (nv0 L) == l1 then (bif (nv1 L) != (0 : Int) then (bif hs then (bif stB (c62 (nv5 L)) l6 (wI (st * wI (od + (1 : Int)))) then (bif decide ((odI od) > mo) then (r0 st mo od L own mark 30) else (r1 st mo l1 l2 l3 l4 l5 l6 l7 l8 hs od L own mark 30)) else (bif stB (c62 (nv6 L)) l7 (wI (st * wI (od + (1 : Int)))) then (bif decide ((odI od) > mo) then (r0 st mo od L own mark 30) else (r1 st mo l1 l2 l3 l4 l5 l6 l7 l8 hs od L own mark 30)) else (bif stB (c62 (nv7 L)) l8 (wI (st * wI (od + (1 : Int)))) then (bif decide ((odI od) > mo) then (r0 st mo od L own mark 30) else (r1 st mo l1 l2 l3 l4 l5 l6 l7 l8 hs od L own mark 30)) else (bif decide ((odI od) > mo) then (r0 st mo od L own mark 14) else (r1 st mo l1 l2 l3 l4 l5 l6 l7 l8 hs od L own mark 14))))) else (bif decide ((odI od) > mo) then (r0 st mo od L own mark 14) else (r1 st mo l1 l2 l3 l4 l5 l6 l7 l8 hs od L own mark 14))) else (bif hs then (bif stB (c62 (nv5 L)) l6 (wI (st * wI (od + (1 : Int)))) then (bif decide ((odI od) > mo) then (r0 st mo od L own mark 26) else (r1 st mo l1 l2 l3 l4 l5 l6 l7 l8 hs od L own mark 26)) else (bif stB (c62 (nv6 L)) l7 (wI (st * wI (od + (1 : Int)))) then (bif decide ((odI od) > mo) then (r0 st mo od L own mark 26) else (r1 st mo l1 l2 l3 l4 l5 l6 l7 l8 hs od L own mark 26)) else (bif stB (c62 (nv7 L)) l8 (wI (st * wI (od + (1 : Int)))) then (bif decide ((odI od) > mo) then (r0 st mo od L own mark 26) else (r1 st mo l1 l2 l3 l4 l5 l6 l7 l8 hs od L own mark 26)) else (bif decide ((odI od) > mo) then (r0 st mo od L own mark 10) else (r1 st mo l1 l2 l3 l4 l5 l6 l7 l8 hs od L own mark 10))))) else (bif decide ((odI od) > mo) then (r0 st mo od L own mark 10) else (r1 st mo l1 l2 l3 l4 l5 l6 l7 l8 hs od L own mark 10)))) else (bif (nv1 L) != (0 : Int) then (bif hs then (bif stB (c62 (nv5 L)) l6 (wI (st * wI (od + (1 : Int)))) then (bif decide ((odI od) > mo) then (r0 st mo od L own mark 28) else (r1 st mo l1 l2 l3 l4 l5 l6 l7 l8 hs od L own mark 28)) else (bif stB (c62 (nv6 L)) l7 (wI (st * wI (od + (1 : Int)))) then (bif decide ((odI od) > mo) then (r0 st mo od L own mark 28) else (r1 st mo l1 l2 l3 l4 l5 l6 l7 l8 hs od L own mark 28)) else (bif stB (c62 (nv7 L)) l8 (wI (st * wI (od + (1 : Int)))) then (bif decide ((odI od) > mo) then (r0 st mo od L own mark 28) else (r1 st mo l1 l2 l3 l4 l5 l6 l7 l8 hs od L own mark 28)) else (bif decide ((odI od) > mo) then (r0 st mo od L own mark 12) else (r1 st mo l1 l2 l3 l4 l5 l6 l7 l8 hs od L own mark 12))))) else (bif decide ((odI od) > mo) then (r0 st mo od L own mark 12) else (r1 st mo l1 l2 l3 l4 l5 l6 l7 l8 hs od L own mark 12))) else (bif hs then (bif stB (c62 (nv5 L)) l6 (wI (st * wI (od + (1 : Int)))) then (bif decide ((odI od) > mo) then (r0 st mo od L own mark 24) else (r1 st mo l1 l2 l3 l4 l5 l6 l7 l8 hs od L own mark 24)) else (bif stB (c62 (nv6 L)) l7 (wI (st * wI (od + (1 : Int)))) then (bif decide ((odI od) > mo) then (r0 st mo od L own mark 24) else (r1 st mo l1 l2 l3 l4 l5 l6 l7 l8 hs od L own mark 24)) else (bif stB (c62 (nv7 L)) l8 (wI (st * wI (od + (1 : Int)))) then (bif decide ((odI od) > mo) then (r0 st mo od L own mark 24) else (r1 st mo l1 l2 l3 l4 l5 l6 l7 l8 hs od L own mark 24)) else (bif decide ((odI od) > mo) then (r0 st mo od L own mark 8) else (r1 st mo l1 l2 l3 l4 l5 l6 l7 l8 hs od L own mark 8))))) else (bif decide ((odI od) > mo) then (r0 st mo od L own mark 8) else (r1 st mo l1 l2 l3 l4 l5 l6 l7 l8 hs od L own mark 8))))) else (bif (nv1 L) != (0 : Int) then (bif hs then (bif stB (c62 (nv5 L)) l6 (wI (st * wI (od + (1 : Int)))) then (bif decide ((odI od) > mo) then (r0 st mo od L own mark 28) else (r1 st mo l1 l2 l3 l4 l5 l6 l7 l8 hs od L own mark 28)) else (bif stB (c62 (nv6 L)) l7 (wI (st * wI (od + (1 : Int)))) then (bif decide ((odI od) > mo) then (r0 st mo od L own mark 28) else (r1 st mo l1 l2 l3 l4 l5 l6 l7 l8 hs od L own mark 28)) else (bif stB (c62 (nv7 L)) l8 (wI (st * wI (od + (1 : Int)))) then (bif decide ((odI od) > mo) then (r0 st mo od L own mark 28) else (r1 st mo l1 l2 l3 l4 l5 l6 l7 l8 hs od L own mark 28)) else (bif decide ((odI od) > mo) then (r0 st mo od L own mark 12) else (r1 st mo l1 l2 l3 l4 l5 l6 l7 l8 hs od L own mark 12))))) else (bif decide ((odI od) > mo) then (r0 st mo od L own mark 12) else (r1 st mo l1 l2 l3 l4 l5 l6 l7 l8 hs od L own mark 12))) else (bif hs then (bif stB (c62 (nv5 L)) l6 (wI (st * wI (od + (1 : Int)))) then (bif decide ((odI od) > mo) then (r0 st mo od L own mark 24) else (r1 st mo l1 l2 l3 l4 l5 l6 l7 l8 hs od L own mark 24)) else (bif stB (c62 (nv6 L)) l7 (wI (st * wI (od + (1 : Int)))) then (bif decide ((odI od) > mo) then (r0 st mo od L own mark 24) else (r1 st mo l1 l2 l3 l4 l5 l6 l7 l8 hs od L own mark 24)) else (bif stB (c62 (nv7 L)) l8 (wI (st * wI (od + (1 : Int)))) then (bif decide ((odI od) > mo) then (r0 st mo od L own mark 24) else (r1 st mo l1 l2 l3 l4 l5 l6 l7 l8 hs od L own mark 24)) else (bif decide ((odI od) > mo) then (r0 st mo od L own mark 8) else (r1 st mo l1 l2 l3 l4 l5 l6 l7 l8 hs od L own mark 8))))) else (bif decide ((odI od) > mo) then (r0 st mo od L own mark 8) else (r1 st mo l1 l2 l3 l4 l5 l6 l7 l8 hs od L own mark 8))))) else (bif beyB (nv4 L) (1073741824 : Int) then (bif hs then (bif (nv0 L) == l1 then (bif (nv1 L) != (0 : Int) then (bif hs then (bif stB (c62 (nv5 L)) l6 (wI (st * wI (od + (1 : Int)))) then (bif decide ((odI od) > mo) then (r0 st mo od L own mark 30) else (r1 st mo l1 l2 l3 l4 l5 l6 l7 l8 hs od L own mark 30)) else (bif stB (c62 (nv6 L)) l7 (wI (st * wI (od + (1 : Int)))) then (bif decide ((odI od) > mo) then (r0 st mo od L own mark 30) else (r1 st mo l1 l2 l3 l4 l5 l6 l7 l8 hs od L own mark 30)) else (bif stB (c62 (nv7 L)) l8 (wI (st * wI (od + (1 : Int)))) then (bif decide ((odI od) > mo) then (r0 st mo od L own mark 30) else (r1 st mo l1 l2 l3 l4 l5 l6 l7 l8 hs od L own mark 30)) else (bif decide ((odI od) > mo) then (r0 st mo od L own mark 14) else (r1 st mo l1 l2 l3 l4 l5 l6 l7 l8 hs od L own mark 14))))) else (bif decide ((odI od) > mo) then (r0 st mo od L own mark 14) else (r1 st mo l1 l2 l3 l4 l5 l6 l7 l8 hs od L own mark 14))) else (bif hs then (bif stB (c62 (nv5 L)) l6 (wI (st * wI (od + (1 : Int)))) then (bif decide ((odI od) > mo) then (r0 st mo od L own mark 26) else (r1 st mo l1 l2 l3 l4 l5 l6 l7 l8 hs od L own mark 26)) else (bif stB (c62 (nv6 L)) l7 (wI (st * wI (od + (1 : Int)))) then (bif decide ((odI od) > mo) then (r0 st mo od L own mark 26) else (r1 st mo l1 l2 l3 l4 l5 l6 l7 l8 hs od L own mark 26)) else (bif stB (c62 (nv7 L)) l8 (wI (st * wI (od + (1 : Int)))) then (bif decide ((odI od) > mo) then (r0 st mo od L own mark 26) else (r1 st mo l1 l2 l3 l4 l5 l6 l7 l8 hs od L own mark 26)) else (bif decide ((odI od) > mo) then (r0 st mo od L own mark 10) else (r1 st mo l1 l2 l3 l4 l5 l6 l7 l8 hs od L own mark 10))))) else (bif decide ((odI od) > mo) then (r0 st mo od L own mark 10) else (r1 st mo l1 l2 l3 l4 l5 l6 l7 l8 hs od L own mark 10)))) else (bif (nv1 L) != (0 : Int) then (bif hs then (bif stB (c62 (nv5 L)) l6 (wI (st * wI (od + (1 : Int)))) then (bif decide ((odI od) > mo) then (r0 st mo od L own mark 28) else (r1 st mo l1 l2 l3 l4 l5 l6 l7 l8 hs od L own mark 28)) else (bif stB (c62 (nv6 L)) l7 (wI (st * wI (od + (1 : Int)))) then (bif decide ((odI od) > mo) then (r0 st mo od L own mark 28) else (r1 st mo l1 l2 l3 l4 l5 l6 l7 l8 hs od L own mark 28)) else (bif stB (c62 (nv7 L)) l8 (wI (st * wI (od + (1 : Int)))) then (bif decide ((odI od) > mo) then (r0 st mo od L own mark 28) else (r1 st mo l1 l2 l3 l4 l5 l6 l7 l8 hs od L own mark 28)) else (bif decide ((odI od) > mo) then (r0 st mo od L own mark 12) else (r1 st mo l1 l2 l3 l4 l5 l6 l7 l8 hs od L own mark 12))))) else (bif decide ((odI od) > mo) then (r0 st mo od L own mark 12) else (r1 st mo l1 l2 l3 l4 l5 l6 l7 l8 hs od L own mark 12))) else (bif hs then (bif stB (c62 (nv5 L)) l6 (wI (st * wI (od + (1 : Int)))) then (bif decide ((odI od) > mo) then (r0 st mo od L own mark 24) else (r1 st mo l1 l2 l3 l4 l5 l6 l7 l8 hs od L own mark 24)) else (bif stB (c62 (nv6 L)) l7 (wI (st * wI (od + (1 : Int)))) then (bif decide ((odI od) > mo) then (r0 st mo od L own mark 24) else (r1 st mo l1 l2 l3 l4 l5 l6 l7 l8 hs od L own mark 24)) else (bif stB (c62 (nv7 L)) l8 (wI (st * wI (od + (1 : Int)))) then (bif decide ((odI od) > mo) then (r0 st mo od L own mark 24) else (r1 st mo l1 l2 l3 l4 l5 l6 l7 l8 hs od L own mark 24)) else (bif decide ((odI od) > mo) then (r0 st mo od L own mark 8) else (r1 st mo l1 l2 l3 l4 l5 l6 l7 l8 hs od L own mark 8))))) else (bif decide ((odI od) > mo) then (r0 st mo od L own mark 8) else (r1 st mo l1 l2 l3 l4 l5 l6 l7 l8 hs od L own mark 8))))) else (bif (nv1 L) != (0 : Int) then (bif hs then (bif stB (c62 (nv5 L)) l6 (wI (st * wI (od + (1 : Int)))) then (bif decide ((odI od) > mo) then (r0 st mo od L own mark 28) else (r1 st mo l1 l2 l3 l4 l5 l6 l7 l8 hs od L own mark 28)) else (bif stB (c62 (nv6 L)) l7 (wI (st * wI (od + (1 : Int)))) then (bif decide ((odI od) > mo) then (r0 st mo od L own mark 28) else (r1 st mo l1 l2 l3 l4 l5 l6 l7 l8 hs od L own mark 28)) else (bif stB (c62 (nv7 L)) l8 (wI (st * wI (od + (1 : Int)))) then (bif decide ((odI od) > mo) then (r0 st mo od L own mark 28) else (r1 st mo l1 l2 l3 l4 l5 l6 l7 l8 hs od L own mark 28)) else (bif decide ((odI od) > mo) then (r0 st mo od L own mark 12) else (r1 st mo l1 l2 l3 l4 l5 l6 l7 l8 hs od L own mark 12))))) else (bif decide ((odI od) > mo) then (r0 st mo od L own mark 12) else (r1 st mo l1 l2 l3 l4 l5 l6 l7 l8 hs od L own mark 12))) else (bif hs then (bif stB (c62 (nv5 L)) l6 (wI (st * wI (od + (1 : Int)))) then (bif decide ((odI od) > mo) then (r0 st mo od L own mark 24) else (r1 st mo l1 l2 l3 l4 l5 l6 l7 l8 hs od L own mark 24)) else (bif stB (c62 (nv6 L)) l7 (wI (st * wI (od + (1 : Int)))) then (bif decide ((odI od) > mo) then (r0 st mo od L own mark 24) else (r1 st mo l1 l2 l3 l4 l5 l6 l7 l8 hs od L own mark 24)) else (bif stB (c62 (nv7 L)) l8 (wI (st * wI (od + (1 : Int)))) then (bif decide ((odI od) > mo) then (r0 st mo od L own mark 24) else (r1 st mo l1 l2 l3 l4 l5 l6 l7 l8 hs od L own mark 24)) else (bif decide ((odI od) > mo) then (r0 st mo od L own mark 8) else (r1 st mo l1 l2 l3 l4 l5 l6 l7 l8 hs od L own mark 8))))) else (bif decide ((odI od) > mo) then (r0 st mo od L own mark 8) else (r1 st mo l1 l2 l3 l4 l5 l6 l7 l8 hs od L own mark 8))))) else (bif beyB (nv5 L) (65536 : Int) then (bif hs then (bif (nv0 L) == l1 then (bif (nv1 L) != (0 : Int) then (bif hs then (bif stB (c62 (nv5 L)) l6 (wI (st * wI (od + (1 : Int)))) then (bif decide ((odI od) > mo) then (r0 st mo od L own mark 30) else (r1 st mo l1 l2 l3 l4 l5 l6 l7 l8 hs od L own mark 30)) else (bif stB (c62 (nv6 L)) l7 (wI (st * wI (od + (1 : Int)))) then (bif decide ((odI od) > mo) then (r0 st mo od L own mark 30) else (r1 st mo l1 l2 l3 l4 l5 l6 l7 l8 hs od L own mark 30)) else (bif stB (c62 (nv7 L)) l8 (wI (st * wI (od + (1 : Int)))) then (bif decide ((odI od) > mo) then (r0 st mo od L own mark 30) else (r1 st mo l1 l2 l3 l4 l5 l6 l7 l8 hs od L own mark 30)) else (bif decide ((odI od) > mo) then (r0 st mo od L own mark 14) else (r1 st mo l1 l2 l3 l4 l5 l6 l7 l8 hs od L own mark 14))))) else (bif decide ((odI od) > mo) then (r0 st mo od L own mark 14) else (r1 st mo l1 l2 l3 l4 l5 l6 l7 l8 hs od L own mark 14))) else (bif hs then (bif stB (c62 (nv5 L)) l6 (wI (st * wI (od + (1 : Int)))) then (bif decide ((odI od) > mo) then (r0 st mo od L own mark 26) else (r1 st mo l1 l2 l3 l4 l5 l6 l7 l8 hs od L own mark 26)) else (bif stB (c62 (nv6 L)) l7 (wI (st * wI (od + (1 : Int)))) then (bif decide ((odI od) > mo) then (r0 st mo od L own mark 26) else (r1 st mo l1 l2 l3 l4 l5 l6 l7 l8 hs od L own mark 26)) else (bif stB (c62 (nv7 L)) l8 (wI (st * wI (od + (1 : Int)))) then (bif decide ((odI od) > mo) then (r0 st mo od L own mark 26) else (r1 st mo l1 l2 l3 l4 l5 l6 l7 l8 hs od L own mark 26)) else (bif decide ((odI od) > mo) then (r0 st mo od L own mark 10) else (r1 st mo l1 l2 l3 l4 l5 l6 l7 l8 hs od L own mark 10))))) else (bif decide ((odI od) > mo) then (r0 st mo od L own mark 10) else (r1 st mo l1 l2 l3 l4 l5 l6 l7 l8 hs od L own mark 10)))) else (bif (nv1 L) != (0 : Int) then (bif hs then (bif stB (c62 (nv5 L)) l6 (wI (st * wI (od + (1 : Int)))) then (bif decide ((odI od) > mo) then (r0 st mo od L own mark 28) else (r1 st mo l1 l2 l3 l4 l5 l6 l7 l8 hs od L own mark 28)) else (bif stB (c62 (nv6 L)) l7 (wI (st * wI (od + (1 : Int)))) then (bif decide ((odI od) > mo) then (r0 st mo od L own mark 28) else (r1 st mo l1 l2 l3 l4 l5 l6 l7 l8 hs od L own mark 28)) else (bif stB (c62 (nv7 L)) l8 (wI (st * wI (od + (1 : Int)))) then (bif decide ((odI od) > mo) then (r0 st mo od L own mark 28) else (r1 st mo l1 l2 l3 l4 l5 l6 l7 l8 hs od L own mark 28)) else (bif decide ((odI od) > mo) then (r0 st mo od L own mark 12) else (r1 st mo l1 l2 l3 l4 l5 l6 l7 l8 hs od L own mark 12))))) else (bif decide ((odI od) > mo) then (r0 st mo od L own mark 12) else (r1 st mo l1 l2 l3 l4 l5 l6 l7 l8 hs od L own mark 12))) else (bif hs then (bif stB (c62 (nv5 L)) l6 (wI (st * wI (od + (1 : Int)))) then (bif decide ((odI od) > mo) then (r0 st mo od L own mark 24) else (r1 st mo l1 l2 l3 l4 l5 l6 l7 l8 hs od L own mark 24)) else (bif stB (c62 (nv6 L)) l7 (wI (st * wI (od + (1 : Int)))) then (bif decide ((odI od) > mo) then (r0 st mo od L own mark 24) else (r1 st mo l1 l2 l3 l4 l5 l6 l7 l8 hs od L own mark 24)) else (bif stB (c62 (nv7 L)) l8 (wI (st * wI (od + (1 : Int)))) then (bif decide ((odI od) > mo) then (r0 st mo od L own mark 24) else (r1 st mo l1 l2 l3 l4 l5 l6 l7 l8 hs od L own mark 24)) else (bif decide ((odI od) > mo) then (r0 st mo od L own mark 8) else (r1 st mo l1 l2 l3 l4 l5 l6 l7 l8 hs od L own mark 8))))) else (bif decide ((odI od) > mo) then (r0 st mo od L own mark 8) else (r1 st mo l1 l2 l3 l4 l5 l6 l7 l8 hs od L own mark 8))))) else (bif (nv1 L) != (0 : Int) then (bif hs then (bif stB (c62 (nv5 L)) l6 (wI (st * wI (od + (1 : Int)))) then (bif decide ((odI od) > mo) then (r0 st mo od L own mark 28) else (r1 st mo l1 l2 l3 l4 l5 l6 l7 l8 hs od L own mark 28)) else (bif stB (c62 (nv6 L)) l7 (wI (st * wI (od + (1 : Int)))) then (bif decide ((odI od) > mo) then (r0 st mo od L own mark 28) else (r1 st mo l1 l2 l3 l4 l5 l6 l7 l8 hs od L own mark 28)) else (bif stB (c62 (nv7 L)) l8 (wI (st * wI (od + (1 : Int)))) then (bif decide ((odI od) > mo) then (r0 st mo od L own mark 28) else (r1 st mo l1 l2 l3 l4 l5 l6 l7 l8 hs od L own mark 28)) else (bif decide ((odI od) > mo) then (r0 st mo od L own mark 12) else (r1 st mo l1 l2 l3 l4 l5 l6 l7 l8 hs od L own mark 12))))) else (bif decide ((odI od) > mo) then (r0 st mo od L own mark 12) else (r1 st mo l1 l2 l3 l4 l5 l6 l7 l8 hs od L own mark 12))) else (bif hs then (bif stB (c62 (nv5 L)) l6 (wI (st * wI (od + (1 : Int)))) then (bif decide ((odI od) > mo) then (r0 st mo od L own mark 24) else (r1 st mo l1 l2 l3 l4 l5 l6 l7 l8 hs od L own mark 24)) else (bif stB (c62 (nv6 L)) l7 (wI (st * wI (od + (1 : Int)))) then (bif decide ((odI od) > mo) then (r0 st mo od L own mark 24) else (r1 st mo l1 l2 l3 l4 l5 l6 l7 l8 hs od L own mark 24)) else (bif stB (c62 (nv7 L)) l8 (wI (st * wI (od + (1 : Int)))) then (bif decide ((odI od) > mo) then (r0 st mo od L own mark 24) else (r1 st mo l1 l2 l3 l4 l5 l6 l7 l8 hs od L own mark 24)) else (bif decide ((odI od) > mo) then (r0 st mo od L own mark 8) else (r1 st mo l1 l2 l3 l4 l5 l6 l7 l8 hs od L own mark 8))))) else (bif decide ((odI od) > mo) then (r0 st mo od L own mark 8) else (r1 st mo l1 l2 l3 l4 l5 l6 l7 l8 hs od L own mark 8))))) else (bif beyB (nv6 L) (65536 : Int) then (bif hs then (bif (nv0 L) == l1 then (bif (nv1 L) != (0 : Int) then (bif hs then (bif stB (c62 (nv5 L)) l6 (wI (st * wI (od + (1 : Int)))) then (bif decide ((odI od) > mo) then (r0 st mo od L own mark 30) else (r1 st mo l1 l2 l3 l4 l5 l6 l7 l8 hs od L own mark 30)) else (bif stB (c62 (nv6 L)) l7 (wI (st * wI (od + (1 : Int)))) then (bif decide ((odI od) > mo) then (r0 st mo od L own mark 30) else (r1 st mo l1 l2 l3 l4 l5 l6 l7 l8 hs od L own mark 30)) else (bif stB (c62 (nv7 L)) l8 (wI (st * wI (od + (1 : Int)))) then (bif decide ((odI od) > mo) then (r0 st mo od L own mark 30) else (r1 st mo l1 l2 l3 l4 l5 l6 l7 l8 hs od L own mark 30)) else (bif decide ((odI od) > mo) then (r0 st mo od L own mark 14) else (r1 st mo l1 l2 l3 l4 l5 l6 l7 l8 hs od L own mark 14))))) else (bif decide ((odI od) > mo) then (r0 st mo od L own mark 14) else (r1 st mo l1 l2 l3 l4 l5 l6 l7 l8 hs od L own mark 14))) else (bif hs then (bif stB (c62 (nv5 L)) l6 (wI (st * wI (od + (1 : Int)))) then (bif decide ((odI od) > mo) then (r0 st mo od L own mark 26) else (r1 st mo l1 l2 l3 l4 l5 l6 l7 l8 hs od L own mark 26)) else (bif stB (c62 (nv6 L)) l7 (wI (st * wI (od + (1 : Int)))) then (bif decide ((odI od) > mo) then (r0 st mo od L own mark 26) else (r1 st mo l1 l2 l3 l4 l5 l6 l7 l8 hs od L own mark 26)) else (bif stB (c62 (nv7 L)) l8 (wI (st * wI (od + (1 : Int)))) then (bif decide ((odI od) > mo) then (r0 st mo od L own mark 26) else (r1 st mo l1 l2 l3 l4 l5 l6 l7 l8 hs od L own mark 26)) else (bif decide ((odI od) > mo) then (r0 st mo od L own mark 10) else (r1 st mo l1 l2 l3 l4 l5 l6 l7 l8 hs od L own mark 10))))) else (bif decide ((odI od) > mo) then (r0 st mo od L own mark 10) else (r1 st mo l1 l2 l3 l4 l5 l6 l7 l8 hs od L own mark 10)))) else (bif (nv1 L) != (0 : Int) then (bif hs then (bif stB (c62 (nv5 L)) l6 (wI (st * wI (od + (1 : Int)))) then (bif decide ((odI od) > mo) then (r0 st mo od L own mark 28) else (r1 st mo l1 l2 l3 l4 l5 l6 l7 l8 hs od L own mark 28)) else (bif stB (c62 (nv6 L)) l7 (wI (st * wI (od + (1 : Int)))) then (bif decide ((odI od) > mo) then (r0 st mo od L own mark 28) else (r1 st mo l1 l2 l3 l4 l5 l6 l7 l8 hs od L own mark 28)) else (bif stB (c62 (nv7 L)) l8 (wI (st * wI (od + (1 : Int)))) then (bif decide ((odI od) > mo) then (r0 st mo od L own mark 28) else (r1 st mo l1 l2 l3 l4 l5 l6 l7 l8 hs od L own mark 28)) else (bif decide ((odI od) > mo) then (r0 st mo od L own mark 12) else (r1 st mo l1 l2 l3 l4 l5 l6 l7 l8 hs od L own mark 12))))) else (bif decide ((odI od) > mo) then (r0 st mo od L own mark 12) else (r1 st mo l1 l2 l3 l4 l5 l6 l7 l8 hs od L own mark 12))) else (bif hs then (bif stB (c62 (nv5 L)) l6 (wI (st * wI (od + (1 : Int)))) then (bif decide ((odI od) > mo) then (r0 st mo od L own mark 24) else (r1 st mo l1 l2 l3 l4 l5 l6 l7 l8 hs od L own mark 24)) else (bif stB (c62 (nv6 L)) l7 (wI (st * wI (od + (1 : Int)))) then (bif decide ((odI od) > mo) then (r0 st mo od L own mark 24) else (r1 st mo l1 l2 l3 l4 l5 l6 l7 l8 hs od L own mark 24)) else (bif stB (c62 (nv7 L)) l8 (wI (st * wI (od + (1 : Int)))) then (bif decide ((odI od) > mo) then (r0 st mo od L own mark 24) else (r1 st mo l1 l2 l3 l4 l5 l6 l7 l8 hs od L own mark 24)) else (bif decide ((odI od) > mo) then (r0 st mo od L own mark 8) else (r1 st mo l1 l2 l3 l4 l5 l6 l7 l8 hs od L own mark 8))))) else (bif decide ((odI od) > mo) then (r0 st mo od L own mark 8) else (r1 st mo l1 l2 l3 l4 l5 l6 l7 l8 hs od L own mark 8))))) else (bif (nv1 L) != (0 : Int) then (bif hs then (bif stB (c62 (nv5 L)) l6 (wI (st * wI (od + (1 : Int)))) then (bif decide ((odI od) > mo) then (r0 st mo od L own mark 28) else (r1 st mo l1 l2 l3 l4 l5 l6 l7 l8 hs od L own mark 28)) else (bif stB (c62 (nv6 L)) l7 (wI (st * wI (od + (1 : Int)))) then (bif decide ((odI od) > mo) then (r0 st mo od L own mark 28) else (r1 st mo l1 l2 l3 l4 l5 l6 l7 l8 hs od L own mark 28)) else (bif stB (c62 (nv7 L)) l8 (wI (st * wI (od + (1 : Int)))) then (bif decide ((odI od) > mo) then (r0 st mo od L own mark 28) else (r1 st mo l1 l2 l3 l4 l5 l6 l7 l8 hs od L own mark 28)) else (bif decide ((odI od) > mo) then (r0 st mo od L own mark 12) else (r1 st mo l1 l2 l3 l4 l5 l6 l7 l8 hs od L own mark 12))))) else (bif decide ((odI od) > mo) then (r0 st mo od L own mark 12) else (r1 st mo l1 l2 l3 l4 l5 l6 l7 l8 hs od L own mark 12))) else (bif hs then (bif stB (c62 (nv5 L)) l6 (wI (st * wI (od + (1 : Int)))) then (bif decide ((odI od) > mo) then (r0 st mo od L own mark 24) else (r1 st mo l1 l2 l3 l4 l5 l6 l7 l8 hs od L own mark 24)) else (bif stB (c62 (nv6 L)) l7 (wI (st * wI (od + (1 : Int)))) then (bif decide ((odI od) > mo) then (r0 st mo od L own mark 24) else (r1 st mo l1 l2 l3 l4 l5 l6 l7 l8 hs od L own mark 24)) else (bif stB (c62 (nv7 L)) l8 (wI (st * wI (od + (1 : Int)))) then (bif decide ((odI od) > mo) then (r0 st mo od L own mark 24) else (r1 st mo l1 l2 l3 l4 l5 l6 l7 l8 hs od L own mark 24)) else (bif decide ((odI od) > mo) then (r0 st mo od L own mark 8) else (r1 st mo l1 l2 l3 l4 l5 l6 l7 l8 hs od L own mark 8))))) else (bif decide ((odI od) > mo) then (r0 st mo od L own mark 8) else (r1 st mo l1 l2 l3 l4 l5 l6 l7 l8 hs od L own mark 8))))) else (bif hs then (bif (nv0 L) == l1 then (bif (nv1 L) != (0 : Int) then (bif beyB (nv7 L) (65536 : Int) then (bif hs then (bif stB (c62 (nv5 L)) l6 (wI (st * wI (od + (1 : Int)))) then (bif decide ((odI od) > mo) then (r0 st mo od L own mark 30) else (r1 st mo l1 l2 l3 l4 l5 l6 l7 l8 hs od L own mark 30)) else (bif stB (c62 (nv6 L)) l7 (wI (st * wI (od + (1 : Int)))) then (bif decide ((odI od) > mo) then (r0 st mo od L own mark 30) else (r1 st mo l1 l2 l3 l4 l5 l6 l7 l8 hs od L own mark 30)) else (bif stB (c62 (nv7 L)) l8 (wI (st * wI (od + (1 : Int)))) then (bif decide ((odI od) > mo) then (r0 st mo od L own mark 30) else (r1 st mo l1 l2 l3 l4 l5 l6 l7 l8 hs od L own mark 30)) else (bif decide ((odI od) > mo) then (r0 st mo od L own mark 14) else (r1 st mo l1 l2 l3 l4 l5 l6 l7 l8 hs od L own mark 14))))) else (bif decide ((odI od) > mo) then (r0 st mo od L own mark 14) else (r1 st mo l1 l2 l3 l4 l5 l6 l7 l8 hs od L own mark 14))) else (bif hs then (bif stB (c62 (nv5 L)) l6 (wI (st * wI (od + (1 : Int)))) then (bif decide ((odI od) > mo) then (r0 st mo od L own mark 22) else (r1 st mo l1 l2 l3 l4 l5 l6 l7 l8 hs od L own mark 22)) else (bif stB (c62 (nv6 L)) l7 (wI (st * wI (od + (1 : Int)))) then (bif decide ((odI od) > mo) then (r0 st mo od L own mark 22) else (r1 st mo l1 l2 l3 l4 l5 l6 l7 l8 hs od L own mark 22)) else (bif stB (c62 (nv7 L)) l8 (wI (st * wI (od + (1 : Int)))) then (bif decide ((odI od) > mo) then (r0 st mo od L own mark 22) else (r1 st mo l1 l2 l3 l4 l5 l6 l7 l8 hs od L own mark 22)) else (bif decide ((odI od) > mo) then (r0 st mo od L own mark 6) else (r1 st mo l1 l2 l3 l4 l5 l6 l7 l8 hs od L own mark 6))))) else (bif decide ((odI od) > mo) then (r0 st mo od L own mark 6) else (r1 st mo l1 l2 l3 l4 l5 l6 l7 l8 hs od L own mark 6)))) else (bif beyB (nv7 L) (65536 : Int) then (bif hs then (bif stB (c62 (nv5 L)) l6 (wI (st * wI (od + (1 : Int)))) then (bif decide ((odI od) > mo) then (r0 st mo od L own mark 26) else (r1 st mo l1 l2 l3 l4 l5 l6 l7 l8 hs od L own mark 26)) else (bif stB (c62 (nv6 L)) l7 (wI (st * wI (od + (1 : Int)))) then (bif decide ((odI od) > mo) then (r0 st mo od L own mark 26) else (r1 st mo l1 l2 l3 l4 l5 l6 l7 l8 hs od L own mark 26)) else (bif stB (c62 (nv7 L)) l8 (wI (st * wI (od + (1 : Int)))) then (bif decide ((odI od) > mo) then (r0 st mo od L own mark 26) else (r1 st mo l1 l2 l3 l4 l5 l6 l7 l8 hs od L own mark 26)) else (bif decide ((odI od) > mo) then (r0 st mo od L own mark 10) else (r1 st mo l1 l2 l3 l4 l5 l6 l7 l8 hs od L own mark 10))))) else (bif decide ((odI od) > mo) then (r0 st mo od L own mark 10) else (r1 st mo l1 l2 l3 l4 l5 l6 l7 l8 hs od L own mark 10))) else (bif hs then (bif stB (c62 (nv5 L)) l6 (wI (st * wI (od + (1 : Int)))) then (bif decide ((odI od) > mo) then (r0 st mo od L own mark 18) else (r1 st mo l1 l2 l3 l4 l5 l6 l7 l8 hs od L own mark 18)) else (bif stB (c62 (nv6 L)) l7 (wI (st * wI (od + (1 : Int)))) then (bif decide ((odI od) > mo) then (r0 st mo od L own mark 18) else (r1 st mo l1 l2 l3 l4 l5 l6 l7 l8 hs od L own mark 18)) else (bif stB (c62 (nv7 L)) l8 (wI (st * wI (od + (1 : Int)))) then (bif decide ((odI od) > mo) then (r0 st mo od L own mark 18) else (r1 st mo l1 l2 l3 l4 l5 l6 l7 l8 hs od L own mark 18)) else (bif decide ((odI od) > mo) then (r0 st mo od L own mark 2) else (r1 st mo l1 l2 l3 l4 l5 l6 l7 l8 hs od L own mark 2))))) else (bif decide ((odI od) > mo) then (r0 st mo od L own mark 2) else (r1 st mo l1 l2 l3 l4 l5 l6 l7 l8 hs od L own mark 2))))) else (bif (nv1 L) != (0 : Int) then (bif beyB (nv7 L) (65536 : Int) then (bif hs then (bif stB (c62 (nv5 L)) l6 (wI (st * wI (od + (1 : Int)))) then (bif decide ((odI od) > mo) then (r0 st mo od L own mark 28) else (r1 st mo l1 l2 l3 l4 l5 l6 l7 l8 hs od L own mark 28)) else (bif stB (c62 (nv6 L)) l7 (wI (st * wI (od + (1 : Int)))) then (bif decide ((odI od) > mo) then (r0 st mo od L own mark 28) else (r1 st mo l1 l2 l3 l4 l5 l6 l7 l8 hs od L own mark 28)) else (bif stB (c62 (nv7 L)) l8 (wI (st * wI (od + (1 : Int)))) then (bif decide ((odI od) > mo) then (r0 st mo od L own mark 28) else (r1 st mo l1 l2 l3 l4 l5 l6 l7 l8 hs od L own mark 28)) else (bif decide ((odI od) > mo) then (r0 st mo od L own mark 12) else (r1 st mo l1 l2 l3 l4 l5 l6 l7 l8 hs od L own mark 12))))) else (bif decide ((odI od) > mo) then (r0 st mo od L own mark 12) else (r1 st mo l1 l2 l3 l4 l5 l6 l7 l8 hs od L own mark 12))) else (bif hs then (bif stB (c62 (nv5 L)) l6 (wI (st * wI (od + (1 : Int)))) then (bif decide ((odI od) > mo) then (r0 st mo od L own mark 20) else (r1 st mo l1 l2 l3 l4 l5 l6 l7 l8 hs od L own mark 20)) else (bif stB (c62 (nv6 L)) l7 (wI (st * wI (od + (1 : Int)))) then (bif decide ((odI od) > mo) then (r0 st mo od L own mark 20) else (r1 st mo l1 l2 l3 l4 l5 l6 l7 l8 hs od L own mark 20)) else (bif stB (c62 (nv7 L)) l8 (wI (st * wI (od + (1 : Int)))) then (bif decide ((odI od) > mo) then (r0 st mo od L own mark 20) else (r1 st mo l1 l2 l3 l4 l5 l6 l7 l8 hs od L own mark 20)) else (bif decide ((odI od) > mo) then (r0 st mo od L own mark 4) else (r1 st mo l1 l2 l3 l4 l5 l6 l7 l8 hs od L own mark 4))))) else (bif decide ((odI od) > mo) then (r0 st mo od L own mark 4) else (r1 st mo l1 l2 l3 l4 l5 l6 l7 l8 hs od L own mark 4)))) else (bif beyB (nv7 L) (65536 : Int) then (bif hs then (bif stB (c62 (nv5 L)) l6 (wI (st * wI (od + (1 : Int)))) then (bif decide ((odI od) > mo) then (r0 st mo od L own mark 24) else (r1 st mo l1 l2 l3 l4 l5 l6 l7 l8 hs od L own mark 24)) else (bif stB (c62 (nv6 L)) l7 (wI (st * wI (od + (1 : Int)))) then (bif decide ((odI od) > mo) then (r0 st mo od L own mark 24) else (r1 st mo l1 l2 l3 l4 l5 l6 l7 l8 hs od L own mark 24)) else (bif stB (c62 (nv7 L)) l8 (wI (st * wI (od + (1 : Int)))) then (bif decide ((odI od) > mo) then (r0 st mo od L own mark 24) else (r1 st mo l1 l2 l3 l4 l5 l6 l7 l8 hs od L own mark 24)) else (bif decide ((odI od) > mo) then (r0 st mo od L own mark 8) else (r1 st mo l1 l2 l3 l4 l5 l6 l7 l8 hs od L own mark 8))))) else (bif decide ((odI od) > mo) then (r0 st mo od L own mark 8) else (r1 st mo l1 l2 l3 l4 l5 l6 l7 l8 hs od L own mark 8))) else (bif hs then (bif stB (c62 (nv5 L)) l6 (wI (st * wI (od + (1 : Int)))) then (bif decide ((odI od) > mo) then (r0 st mo od L own mark 16) else (r1 st mo l1 l2 l3 l4 l5 l6 l7 l8 hs od L own mark 16)) else (bif stB (c62 (nv6 L)) l7 (wI (st * wI (od + (1 : Int)))) then (bif decide ((odI od) > mo) then (r0 st mo od L own mark 16) else (r1 st mo l1 l2 l3 l4 l5 l6 l7 l8 hs od L own mark 16)) else (bif stB (c62 (nv7 L)) l8 (wI (st * wI (od + (1 : Int)))) then (bif decide ((odI od) > mo) then (r0 st mo od L own mark 16) else (r1 st mo l1 l2 l3 l4 l5 l6 l7 l8 hs od L own mark 16)) else some (.v (.tuple #[(.agg #[(I (nv0 L)), (I (nv1 L)), (I (nv2 L)), (I (nv3 L)), (I (nv4 L)), (I (nv5 L)), (I (nv6 L)), (I (nv7 L))]), (I 0)]), ⟨[[.v (I st), .v (I mo), .v (I (nv0 L)), .v (I (nv1 L)), .v (I (nv2 L)), .v (I (nv3 L)), .v (I (nv4 L)), .v (I (nv5 L)), .v (I (nv6 L)), .v (I (nv7 L)), .v (Bo true), .v (I 0)]], [true], [rN L own mark]⟩)))) else some (.v (.tuple #[(.agg #[(I (nv0 L)), (I (nv1 L)), (I (nv2 L)), (I (nv3 L)), (I (nv4 L)), (I (nv5 L)), (I (nv6 L)), (I (nv7 L))]), (I 0)]), ⟨[[.v (I st), .v (I mo), .v (I (nv0 L)), .v (I (nv1 L)), .v (I (nv2 L)), .v (I (nv3 L)), .v (I (nv4 L)), .v (I (nv5 L)), .v (I (nv6 L)), .v (I (nv7 L)), .v (Bo true), .v (I 0)]], [true], [rN L own mark]⟩))))) else (bif (nv1 L) != (0 : Int) then (bif beyB (nv7 L) (65536 : Int) then (bif hs then (bif stB (c62 (nv5 L)) l6 (wI (st * wI (od + (1 : Int)))) then (bif decide ((odI od) > mo) then (r0 st mo od L own mark 28) else (r1 st mo l1 l2 l3 l4 l5 l6 l7 l8 hs od L own mark 28)) else (bif stB (c62 (nv6 L)) l7 (wI (st * wI (od + (1 : Int)))) then (bif decide ((odI od) > mo) then (r0 st mo od L own mark 28) else (r1 st mo l1 l2 l3 l4 l5 l6 l7 l8 hs od L own mark 28)) else (bif stB (c62 (nv7 L)) l8 (wI (st * wI (od + (1 : Int)))) then (bif decide ((odI od) > mo) then (r0 st mo od L own mark 28) else (r1 st mo l1 l2 l3 l4 l5 l6 l7 l8 hs od L own mark 28)) else (bif decide ((odI od) > mo) then (r0 st mo od L own mark 12) else (r1 st mo l1 l2 l3 l4 l5 l6 l7 l8 hs od L own mark 12))))) else (bif decide ((odI od) > mo) then (r0 st mo od L own mark 12) else (r1 st mo l1 l2 l3 l4 l5 l6 l7 l8 hs od L own mark 12))) else (bif hs then (bif stB (c62 (nv5 L)) l6 (wI (st * wI (od + (1 : Int)))) then (bif decide ((odI od) > mo) then (r0 st mo od L own mark 20) else (r1 st mo l1 l2 l3 l4 l5 l6 l7 l8 hs od L own mark 20)) else (bif stB (c62 (nv6 L)) l7 (wI (st * wI (od + (1 : Int)))) then (bif decide ((odI od) > mo) then (r0 st mo od L own mark 20) else (r1 st mo l1 l2 l3 l4 l5 l6 l7 l8 hs od L own mark 20)) else (bif stB (c62 (nv7 L)) l8 (wI (st * wI (od + (1 : Int)))) then (bif decide ((odI od) > mo) then (r0 st mo od L own mark 20) else (r1 st mo l1 l2 l3 l4 l5 l6 l7 l8 hs od L own mark 20)) else (bif decide ((odI od) > mo) then (r0 st mo od L own mark 4) else (r1 st mo l1 l2 l3 l4 l5 l6 l7 l8 hs od L own mark 4))))) else (bif decide ((odI od) > mo) then (r0 st mo od L own mark 4) else (r1 st mo l1 l2 l3 l4 l5 l6 l7 l8 hs od L own mark 4)))) else (bif beyB (nv7 L) (65536 : Int) then (bif hs then (bif stB (c62 (nv5 L)) l6 (wI (st * wI (od + (1 : Int)))) then (bif decide ((odI od) > mo) then (r0 st mo od L own mark 24) else (r1 st mo l1 l2 l3 l4 l5 l6 l7 l8 hs od L own mark 24)) else (bif stB (c62 (nv6 L)) l7 (wI (st * wI (od + (1 : Int)))) then (bif decide ((odI od) > mo) then (r0 st mo od L own mark 24) else (r1 st mo l1 l2 l3 l4 l5 l6 l7 l8 hs od L own mark 24)) else (bif stB (c62 (nv7 L)) l8 (wI (st * wI (od + (1 : Int)))) then (bif decide ((odI od) > mo) then (r0 st mo od L own mark 24) else (r1 st mo l1 l2 l3 l4 l5 l6 l7 l8 hs od L own mark 24)) else (bif decide ((odI od) > mo) then (r0 st mo od L own mark 8) else (r1 st mo l1 l2 l3 l4 l5 l6 l7 l8 hs od L own mark 8))))) else (bif decide ((odI od) > mo) then (r0 st mo od L own mark 8) else (r1 st mo l1 l2 l3 l4 l5 l6 l7 l8 hs od L own mark 8))) else (bif hs then (bif stB (c62 (nv5 L)) l6 (wI (st * wI (od + (1 : Int)))) then (bif decide ((odI od) > mo) then (r0 st mo od L own mark 16) else (r1 st mo l1 l2 l3 l4 l5 l6 l7 l8 hs od L own mark 16)) else (bif stB (c62 (nv6 L)) l7 (wI (st * wI (od + (1 : Int)))) then (bif decide ((odI od) > mo) then (r0 st mo od L own mark 16) else (r1 st mo l1 l2 l3 l4 l5 l6 l7 l8 hs od L own mark 16)) else (bif stB (c62 (nv7 L)) l8 (wI (st * wI (od + (1 : Int)))) then (bif decide ((odI od) > mo) then (r0 st mo od L own mark 16) else (r1 st mo l1 l2 l3 l4 l5 l6 l7 l8 hs od L own mark 16)) else some (.v (.tuple #[(.agg #[(I (nv0 L)), (I (nv1 L)), (I (nv2 L)), (I (nv3 L)), (I (nv4 L)), (I (nv5 L)), (I (nv6 L)), (I (nv7 L))]), (I 0)]), ⟨[[.v (I st), .v (I mo), .v (I (nv0 L)), .v (I (nv1 L)), .v (I (nv2 L)), .v (I (nv3 L)), .v (I (nv4 L)), .v (I (nv5 L)), .v (I (nv6 L)), .v (I (nv7 L)), .v (Bo true), .v (I 0)]], [true], [rN L own mark]⟩)))) else some (.v (.tuple #[(.agg #[(I (nv0 L)), (I (nv1 L)), (I (nv2 L)), (I (nv3 L)), (I (nv4 L)), (I (nv5 L)), (I (nv6 L)), (I (nv7 L))]), (I 0)]), ⟨[[.v (I st), .v (I mo), .v (I (nv0 L)), .v (I (nv1 L)), .v (I (nv2 L)), .v (I (nv3 L)), .v (I (nv4 L)), .v (I (nv5 L)), .v (I (nv6 L)), .v (I (nv7 L)), .v (Bo true), .v (I 0)]], [true], [rN L own mark]⟩)))))))))) else none)) := by kernel_rfl
def gRcy (xs : List SV) (m : Mem) : Option (Bool × SV × Mem) :=
  match xs, m with
  | [.ptr 0 0, .row 0], ⟨[[.v (.int .i64 st), .v (.int .i64 mo), .v (.int .i64 l1), .v (.int .i64 l2), .v (.int .i64 l3), .v (.int .i64 l4), .v (.int .i64 l5), .v (.int .i64 l6), .v (.int .i64 l7), .v (.int .i64 l8), .v (.bool hs), .v (.int .i64 od)]], [true], [.live ⟨32, [.num .i64, .num .i64, .num .i64, .num .i64, .num .i64, .num .i64, .num .i64, .num .i64], L, own, mark⟩]⟩ => some (Nat.ble L.length 1000000, .v (.tuple #[.agg #[I (pk (faR L hs l1 l6 l7 l8 (wI (st * wI (od + 1))) == 0) (nv0 L) 0), I (pk (faR L hs l1 l6 l7 l8 (wI (st * wI (od + 1))) == 0) (nv1 L) 0), I (pk (faR L hs l1 l6 l7 l8 (wI (st * wI (od + 1))) == 0) (nv2 L) 0), I (pk (faR L hs l1 l6 l7 l8 (wI (st * wI (od + 1))) == 0) (nv3 L) 0), I (pk (faR L hs l1 l6 l7 l8 (wI (st * wI (od + 1))) == 0) (nv4 L) 0), I (pk (faR L hs l1 l6 l7 l8 (wI (st * wI (od + 1))) == 0) (nv5 L) 0), I (pk (faR L hs l1 l6 l7 l8 (wI (st * wI (od + 1))) == 0) (nv6 L) 0), I (pk (faR L hs l1 l6 l7 l8 (wI (st * wI (od + 1))) == 0) (nv7 L) 0)], I (faR L hs l1 l6 l7 l8 (wI (st * wI (od + 1))))]), ⟨[[.v (I st), .v (I mo), .v (I (pk (faR L hs l1 l6 l7 l8 (wI (st * wI (od + 1))) == 0) (nv0 L) (gN (decide (odI od > mo)) l1))), .v (I (pk (faR L hs l1 l6 l7 l8 (wI (st * wI (od + 1))) == 0) (nv1 L) (gN (decide (odI od > mo)) l2))), .v (I (pk (faR L hs l1 l6 l7 l8 (wI (st * wI (od + 1))) == 0) (nv2 L) (gN (decide (odI od > mo)) l3))), .v (I (pk (faR L hs l1 l6 l7 l8 (wI (st * wI (od + 1))) == 0) (nv3 L) (gN (decide (odI od > mo)) l4))), .v (I (pk (faR L hs l1 l6 l7 l8 (wI (st * wI (od + 1))) == 0) (nv4 L) (gN (decide (odI od > mo)) l5))), .v (I (pk (faR L hs l1 l6 l7 l8 (wI (st * wI (od + 1))) == 0) (nv5 L) (gN (decide (odI od > mo)) l6))), .v (I (pk (faR L hs l1 l6 l7 l8 (wI (st * wI (od + 1))) == 0) (nv6 L) (gN (decide (odI od > mo)) l7))), .v (I (pk (faR L hs l1 l6 l7 l8 (wI (st * wI (od + 1))) == 0) (nv7 L) (gN (decide (odI od > mo)) l8))), .v (Bo (bif (faR L hs l1 l6 l7 l8 (wI (st * wI (od + 1))) == 0) then true else gB' (decide (odI od > mo)) hs)), .v (I (pk (faR L hs l1 l6 l7 l8 (wI (st * wI (od + 1))) == 0) 0 (odI od)))]], [true], [rN L own mark]⟩)
  | _, _ => none
theorem gRcy_ok : ∀ xs m r m', gRcy xs m = some (true, r, m') → CallOk Try.prog 11 xs m r m' := by
  intro xs m r m' h
  unfold gRcy at h
  split at h
  · rename_i st mo l1 l2 l3 l4 l5 l6 l7 l8 hs od L own mark
    obtain ⟨h1, rfl, rfl⟩ := some_t2 h
    refine runOk (Λ := L0) Oks18 Try.func11 rfl (fun z _ _ => l0Ok' _ z) ?_
    refine (runRcy st mo l1 l2 l3 l4 l5 l6 l7 l8 hs od L own mark).trans ?_
    have h3 := Nat.le_of_ble_eq_true h1
    by_cases hl : (L.length : Int) = 0
    · unfold faR
      rw [hl]
      cases decide (odI od > mo) <;> rfl
    unfold faR jmR farB
    rw [beq_eq_false_iff_ne.2 hl, wI_id (n := (L.length : Int) - 1) (by omega), decide_eq_true (show (0 : Int) ≤ (L.length : Int) - 1 by omega), decide_eq_true (show (L.length : Int) - 1 < (L.length : Int) by omega)]
    simp only [Bool.and_self, cond_true, cond_false]
    clear hl h3 h h1
    generalize decide (odI od > mo) = c0
    generalize beyB (nv2 L) 1073741824 = c1
    generalize beyB (nv3 L) 1073741824 = c2
    generalize beyB (nv4 L) 1073741824 = c3
    generalize beyB (nv5 L) 65536 = c4
    generalize beyB (nv6 L) 65536 = c5
    generalize beyB (nv7 L) 65536 = c6
    generalize stB (c62 (nv5 L)) l6 (wI (st * wI (od + 1))) = c7
    generalize stB (c62 (nv6 L)) l7 (wI (st * wI (od + 1))) = c8
    generalize stB (c62 (nv7 L)) l8 (wI (st * wI (od + 1))) = c9
    generalize (nv0 L == l1) = d0
    generalize (nv1 L != 0) = d1
    cases hs
    · cases c0 <;> cases d0 <;> cases d1 <;> (cases c1 with | true => (show _ = _; kernel_rfl) | false => (cases c2 with | true => (show _ = _; kernel_rfl) | false => (cases c3 with | true => (show _ = _; kernel_rfl) | false => (cases c4 with | true => (show _ = _; kernel_rfl) | false => (cases c5 with | true => (show _ = _; kernel_rfl) | false => (cases c6 with | true => (show _ = _; kernel_rfl) | false => (show _ = _; kernel_rfl)))))))
    · cases c0 <;> cases d0 <;> cases d1 <;> (cases c1 with | true => (cases c7 with | true => (show _ = _; kernel_rfl) | false => (cases c8 with | true => (show _ = _; kernel_rfl) | false => (cases c9 with | true => (show _ = _; kernel_rfl) | false => (show _ = _; kernel_rfl)))) | false => (cases c2 with | true => (cases c7 with | true => (show _ = _; kernel_rfl) | false => (cases c8 with | true => (show _ = _; kernel_rfl) | false => (cases c9 with | true => (show _ = _; kernel_rfl) | false => (show _ = _; kernel_rfl)))) | false => (cases c3 with | true => (cases c7 with | true => (show _ = _; kernel_rfl) | false => (cases c8 with | true => (show _ = _; kernel_rfl) | false => (cases c9 with | true => (show _ = _; kernel_rfl) | false => (show _ = _; kernel_rfl)))) | false => (cases c4 with | true => (cases c7 with | true => (show _ = _; kernel_rfl) | false => (cases c8 with | true => (show _ = _; kernel_rfl) | false => (cases c9 with | true => (show _ = _; kernel_rfl) | false => (show _ = _; kernel_rfl)))) | false => (cases c5 with | true => (cases c7 with | true => (show _ = _; kernel_rfl) | false => (cases c8 with | true => (show _ = _; kernel_rfl) | false => (cases c9 with | true => (show _ = _; kernel_rfl) | false => (show _ = _; kernel_rfl)))) | false => (cases c6 with | true => (cases c7 with | true => (show _ = _; kernel_rfl) | false => (cases c8 with | true => (show _ = _; kernel_rfl) | false => (cases c9 with | true => (show _ = _; kernel_rfl) | false => (show _ = _; kernel_rfl)))) | false => (cases c7 with | true => (show _ = _; kernel_rfl) | false => (cases c8 with | true => (show _ = _; kernel_rfl) | false => (cases c9 with | true => (show _ = _; kernel_rfl) | false => (show _ = _; kernel_rfl))))))))))
  · cases h
noncomputable def Γs19 : Orc := addCl 11 gRcy Γs18
theorem Oks19 : Γs19.Ok Try.prog := addCl_ok Oks18 gRcy_ok
noncomputable def ΓSo : Orc := Γs19
theorem OkSo : ΓSo.Ok Try.prog := Oks19
end Go.Proofs.Ytaoembcepknlhaa

namespace Go.Proofs.Ytaoembcepknlhaa
open Go Go.Proofs Go.Sx
def wx15 (f : FuncId) : Bool := Nat.beq f 14 || wrS f
noncomputable def Γb15 : Orc := addVal 39 gMul64 ΓTl0
theorem Okb15 : Γb15.Ok Try.prog := addVal_ok OkTl0 gMul64_ok
noncomputable def Γx15 : Orc := execV Try.prog Γb15.call Γb15.rd Γb15.eqv wx15 30 8
theorem Okx15 : Γx15.Ok Try.prog := execV_ok mixed names (ext := Γb15.call) (rd := Γb15.rd) (eqv := Γb15.eqv) ⟨Okb15.call, Okb15.rd, Okb15.eqv⟩ 30 8
set_option maxRecDepth 100000 in
theorem runAwake15 : runG Γx15 (loopX Γx15 Try.prog 30 3) Try.prog Try.f7 [] M0 = some (.v (Bo true), M0) := by kernel_rfl
def gAwake15 (vs : List Value) : Option (Bool × Value) :=
  match vs with
  | [] => some (true, Bo true)
  | _ => none
theorem gAwake15_ok : ∀ vs r, gAwake15 vs = some (true, r) → ∀ m, CallOk Try.prog 7 (vs.map .v) m (.v r) m := by
  intro vs r h
  unfold gAwake15 at h
  split at h
  · obtain ⟨_, rfl⟩ := some_t h
    exact runV (vs := []) Okx15 Try.func7 rfl (fun z _ _ b hb => loopX_ok Okx15 mixed 30 3 b) runAwake15
  · cases h
end Go.Proofs.Ytaoembcepknlhaa

