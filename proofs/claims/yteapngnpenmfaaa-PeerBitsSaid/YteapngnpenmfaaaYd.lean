/-
  Contracts of peer, and of the document's; four laws of peer over values.
-/
import Derived.Test.YteapngnpenmfaaaYb
import Derived.Test.YteapngnpenmfaaaYc
namespace Go.Proofs.Yteapngnpenmfaaa
open Go Go.Proofs Go.Sx
set_option linter.unusedVariables false
/-! norm -/
/-! What peers tell: words, reports, commands. -/
def inB (n m : Int) : Bool := decide (n ≥ 0) && decide (n ≤ m)
def two (p s : Int) : Int := wI (p + wI (16 * s))
def sealT (s : ByteArray) : ByteArray := s ++ be 4 (sum32 s)
def chkE (s : ByteArray) (n : Int) : Int := if (s.size : Int) < n + 4 then 5 else if (s.size : Int) > n + 4 then 3 else if sealT (s.extract 0 n.toNat) == s then 0 else 4
def stR (c p s : Int) : Bool := inB c 1000000 && (inB p 3 && inB s 2)
def wordR (c p s w : Int) : Bool := stR c p s && inB w 15
def wordB (c p s w : Int) : ByteArray := sealT ((be 4 c ++ be 1 (two p s)) ++ be 1 w)
def wordT (c p s w : Int) : ByteArray := bif wordR c p s w then wordB c p s w else ⟨#[]⟩
def repR (c p s x y z u v f : Int) : Bool := (inB x 255 && (inB y 255 && (inB z 255 && inB f 255))) && ((inB u 4 && inB v 4) && stR c p s)
def repB (c p s x y z u v f : Int) : ByteArray := sealT ((((be 4 c ++ be 1 (two p s)) ++ ((be 1 x ++ be 1 y) ++ be 1 z)) ++ be 1 (two u v)) ++ be 1 f)
def repT (c p s x y z u v f : Int) : ByteArray := bif repR c p s x y z u v f then repB c p s x y z u v f else ⟨#[]⟩
def xorI (x y : Int) : Int := IntKind.i64.wrap (((BitVec.ofInt 64 x ^^^ BitVec.ofInt 64 y).toNat : Nat) : Int)
def comB (c : Int) : ByteArray := sealT (((be 1 c ++ be 1 (xorI c 85)) ++ be 1 (xorI c 170)) ++ be 1 (xorI c 255))
def comR (c : Int) : Bool := decide (1 ≤ c) && decide (c ≤ 3)
def comT (c : Int) : ByteArray := bif comR c then comB c else ⟨#[]⟩
theorem sealT_size (s : ByteArray) : (sealT s).size = s.size + 4 := by unfold sealT; rw [ByteArray.size_append, be_size]
theorem bif_ff (b : Bool) (X : Option (SV × Mem)) (h : b = false) : (bif b then some (SV.v (Bo false), M0) else X) = X := by rw [h]; rfl

set_option maxRecDepth 20000 in
theorem runUpTo (n m : Int) : runG ΓNb L0 Try.prog Try.f57 [.v (I n), .v (I m)] M0 = 
    (bif decide (n ≥ (0 : Int)) then some (.v (.bool (decide (n ≤ m))), ⟨[], [], []⟩) else some (.v (.bool false), ⟨[], [], []⟩)) := by kernel_rfl
def gUpTo (vs : List Value) : Option (Bool × Value) :=
  match vs with
  | [.int .i64 n, .int .i64 m] => some (true, Bo (inB n m))
  | _ => none
theorem gUpTo_ok : ∀ vs r, gUpTo vs = some (true, r) → ∀ m, CallOk Try.prog 57 (vs.map .v) m (.v r) m := by
  intro vs r h
  unfold gUpTo at h
  split at h
  · rename_i n m
    obtain ⟨h1, rfl⟩ := some_t h
    refine runV (vs := [I n, I m]) (Λ := L0) (m' := M0) OkNb Try.func57 rfl (fun z _ _ => l0Ok _ z) ?_
    exact (runUpTo n m).trans (by unfold inB; cases decide (n ≥ 0) <;> rfl)
  · cases h
noncomputable def ΓQ1 : Orc := addVal 57 gUpTo ΓNb
theorem OkQ1 : ΓQ1.Ok Try.prog := addVal_ok OkNb gUpTo_ok
set_option maxRecDepth 20000 in
theorem runWithin (n m : Int) : runG ΓQ1 L0 Try.prog Try.f70 [.v (I n), .v (I m)] M0 = 
    (bif decide (n ≥ (0 : Int)) then some (.v (.bool (decide (n ≤ m))), ⟨[], [], []⟩) else some (.v (.bool false), ⟨[], [], []⟩)) := by kernel_rfl
def gWithin (vs : List Value) : Option (Bool × Value) :=
  match vs with
  | [.int .i64 n, .int .i64 m] => some (true, Bo (inB n m))
  | _ => none
theorem gWithin_ok : ∀ vs r, gWithin vs = some (true, r) → ∀ m, CallOk Try.prog 70 (vs.map .v) m (.v r) m := by
  intro vs r h
  unfold gWithin at h
  split at h
  · rename_i n m
    obtain ⟨h1, rfl⟩ := some_t h
    refine runV (vs := [I n, I m]) (Λ := L0) (m' := M0) OkQ1 Try.func70 rfl (fun z _ _ => l0Ok _ z) ?_
    exact (runWithin n m).trans (by unfold inB; cases decide (n ≥ 0) <;> rfl)
  · cases h
noncomputable def ΓQ2 : Orc := addVal 70 gWithin ΓQ1
theorem OkQ2 : ΓQ2.Ok Try.prog := addVal_ok OkQ1 gWithin_ok
set_option maxRecDepth 20000 in
theorem runRState (c p s : Int) : runG ΓQ2 L0 Try.prog Try.f56 [.v (I c), .v (I p), .v (I s)] M0 = 
    (bif inB c (1000000 : Int) then (bif inB p (3 : Int) then some (.v (.bool (inB s (2 : Int))), ⟨[], [], []⟩) else some (.v (.bool false), ⟨[], [], []⟩)) else some (.v (.bool false), ⟨[], [], []⟩)) := by kernel_rfl
def gRState (vs : List Value) : Option (Bool × Value) :=
  match vs with
  | [.int .i64 c, .int .i64 p, .int .i64 s] => some (true, Bo (stR c p s))
  | _ => none
theorem gRState_ok : ∀ vs r, gRState vs = some (true, r) → ∀ m, CallOk Try.prog 56 (vs.map .v) m (.v r) m := by
  intro vs r h
  unfold gRState at h
  split at h
  · rename_i c p s
    obtain ⟨h1, rfl⟩ := some_t h
    refine runV (vs := [I c, I p, I s]) (Λ := L0) (m' := M0) OkQ2 Try.func56 rfl (fun z _ _ => l0Ok _ z) ?_
    exact (runRState c p s).trans (by unfold stR; cases inB c 1000000 <;> cases inB p 3 <;> rfl)
  · cases h
noncomputable def ΓQ3 : Orc := addVal 56 gRState ΓQ2
theorem OkQ3 : ΓQ3.Ok Try.prog := addVal_ok OkQ2 gRState_ok
set_option maxRecDepth 20000 in
theorem runCycB (n : Int) : runG ΓQ3 L0 Try.prog Try.f59 [.v (I n)] M0 = 
    some (.v (Value.string (be (4 : Nat) (IntKind.u64.wrap n))), ⟨[], [], []⟩) := by kernel_rfl
def gCycB (vs : List Value) : Option (Bool × Value) :=
  match vs with
  | [.int .i64 n] => some (true, S (be 4 n))
  | _ => none
theorem gCycB_ok : ∀ vs r, gCycB vs = some (true, r) → ∀ m, CallOk Try.prog 59 (vs.map .v) m (.v r) m := by
  intro vs r h
  unfold gCycB at h
  split at h
  · rename_i n
    obtain ⟨h1, rfl⟩ := some_t h
    refine runV (vs := [I n]) (Λ := L0) (m' := M0) OkQ3 Try.func59 rfl (fun z _ _ => l0Ok _ z) ?_
    exact (runCycB n).trans (by rw [be_u64_4]; rfl)
  · cases h
noncomputable def ΓQ4 : Orc := addVal 59 gCycB ΓQ3
theorem OkQ4 : ΓQ4.Ok Try.prog := addVal_ok OkQ3 gCycB_ok
set_option maxRecDepth 20000 in
theorem runOneB (n : Int) : runG ΓQ4 L0 Try.prog Try.f61 [.v (I n)] M0 = 
    some (.v (Value.string (be (1 : Nat) (IntKind.u64.wrap n))), ⟨[], [], []⟩) := by kernel_rfl
def gOneB (vs : List Value) : Option (Bool × Value) :=
  match vs with
  | [.int .i64 n] => some (true, S (be 1 n))
  | _ => none
theorem gOneB_ok : ∀ vs r, gOneB vs = some (true, r) → ∀ m, CallOk Try.prog 61 (vs.map .v) m (.v r) m := by
  intro vs r h
  unfold gOneB at h
  split at h
  · rename_i n
    obtain ⟨h1, rfl⟩ := some_t h
    refine runV (vs := [I n]) (Λ := L0) (m' := M0) OkQ4 Try.func61 rfl (fun z _ _ => l0Ok _ z) ?_
    exact (runOneB n).trans (by rw [be_u64_1]; rfl)
  · cases h
noncomputable def ΓQ5 : Orc := addVal 61 gOneB ΓQ4
theorem OkQ5 : ΓQ5.Ok Try.prog := addVal_ok OkQ4 gOneB_ok
set_option maxRecDepth 20000 in
theorem runTwoIn (p s : Int) : runG ΓQ5 L0 Try.prog Try.f60 [.v (I p), .v (I s)] M0 = 
    some (.v (Value.string (be (1 : Nat) (wI (p + wI ((16 : Int) * s))))), ⟨[], [], []⟩) := by kernel_rfl
def gTwoIn (vs : List Value) : Option (Bool × Value) :=
  match vs with
  | [.int .i64 p, .int .i64 s] => some (true, S (be 1 (two p s)))
  | _ => none
theorem gTwoIn_ok : ∀ vs r, gTwoIn vs = some (true, r) → ∀ m, CallOk Try.prog 60 (vs.map .v) m (.v r) m := by
  intro vs r h
  unfold gTwoIn at h
  split at h
  · rename_i p s
    obtain ⟨h1, rfl⟩ := some_t h
    refine runV (vs := [I p, I s]) (Λ := L0) (m' := M0) OkQ5 Try.func60 rfl (fun z _ _ => l0Ok _ z) ?_
    exact (runTwoIn p s).trans (rfl)
  · cases h
noncomputable def ΓQ6 : Orc := addVal 60 gTwoIn ΓQ5
theorem OkQ6 : ΓQ6.Ok Try.prog := addVal_ok OkQ5 gTwoIn_ok
set_option maxRecDepth 20000 in
theorem runTwoOf (b : Int) : runG ΓQ6 L0 Try.prog Try.f64 [.v (U8 b)] M0 = 
    some (.v (.tuple #[(.int .i64 (wI (b.tmod (16 : Int)))), (.int .i64 (wI (IntKind.u8.wrap (b.tdiv (16 : Int)))))]), ⟨[], [], []⟩) := by kernel_rfl
def gTwoOf (vs : List Value) : Option (Bool × Value) :=
  match vs with
  | [.int .u8 b] => some (true, .tuple #[I (wI (b.tmod 16)), I (wI (IntKind.u8.wrap (b.tdiv 16)))])
  | _ => none
theorem gTwoOf_ok : ∀ vs r, gTwoOf vs = some (true, r) → ∀ m, CallOk Try.prog 64 (vs.map .v) m (.v r) m := by
  intro vs r h
  unfold gTwoOf at h
  split at h
  · rename_i b
    obtain ⟨h1, rfl⟩ := some_t h
    refine runV (vs := [U8 b]) (Λ := L0) (m' := M0) OkQ6 Try.func64 rfl (fun z _ _ => l0Ok _ z) ?_
    exact (runTwoOf b).trans (rfl)
  · cases h
noncomputable def ΓQ7 : Orc := addVal 64 gTwoOf ΓQ6
theorem OkQ7 : ΓQ7.Ok Try.prog := addVal_ok OkQ6 gTwoOf_ok
set_option maxRecDepth 20000 in
theorem runSummed (s : ByteArray) : runG ΓQ7 L0 Try.prog Try.f58 [.v (S s)] M0 = 
    (bif szS s then (bif (s.size + (be (4 : Nat) (IntKind.u64.wrap (sum32 s))).size).ble (9223372036854775807) then some (.v (Value.string (s ++ be (4 : Nat) (IntKind.u64.wrap (sum32 s)))), ⟨[], [], []⟩) else none) else none) := by kernel_rfl
def gSummed (vs : List Value) : Option (Bool × Value) :=
  match vs with
  | [.string s] => some (Nat.ble s.size 1000000, S (sealT s))
  | _ => none
theorem gSummed_ok : ∀ vs r, gSummed vs = some (true, r) → ∀ m, CallOk Try.prog 58 (vs.map .v) m (.v r) m := by
  intro vs r h
  unfold gSummed at h
  split at h
  · rename_i s
    obtain ⟨h1, rfl⟩ := some_t h
    refine runV (vs := [S s]) (Λ := L0) (m' := M0) OkQ7 Try.func58 rfl (fun z _ _ => l0Ok _ z) ?_
    exact (runSummed s).trans (by
      have hz := Nat.le_of_ble_eq_true h1
      rw [szS_of (show s.size ≤ 9223372036854775807 by omega), be_u64_4, be_size, Nat.ble_eq_true_of_le (show s.size + 4 ≤ 9223372036854775807 by omega)]
      rfl)
  · cases h
noncomputable def ΓQ8 : Orc := addVal 58 gSummed ΓQ7
theorem OkQ8 : ΓQ8.Ok Try.prog := addVal_ok OkQ7 gSummed_ok
set_option maxRecDepth 20000 in
theorem runCheck (s : ByteArray) (n : Int) : runG ΓQ8 L0 Try.prog Try.f62 [.v (S s), .v (I n)] M0 = 
    (bif decide (↑s.size < wI (n + (4 : Int))) then some (.v (.int .i64 5), ⟨[], [], []⟩) else (bif decide (↑s.size > wI (n + (4 : Int))) then some (.v (.int .i64 3), ⟨[], [], []⟩) else (bif true && (decide ((0 : Int) ≤ n) && decide (n ≤ ↑s.size)) then (bif (s.extract (0 : Nat) n.toNat).size.ble (1000000) then (bif !(sealT (s.extract (0 : Nat) n.toNat)).toList == s.toList then some (.v (.int .i64 4), ⟨[], [], []⟩) else some (.v (.int .i64 0), ⟨[], [], []⟩)) else none) else none))) := by kernel_rfl
def gCheck (vs : List Value) : Option (Bool × Value) :=
  match vs with
  | [.string s, .int .i64 n] => some ((n == 4 || (n == 6 || n == 10)) && Nat.ble s.size 1000000, I (chkE s n))
  | _ => none
theorem gCheck_ok : ∀ vs r, gCheck vs = some (true, r) → ∀ m, CallOk Try.prog 62 (vs.map .v) m (.v r) m := by
  intro vs r h
  unfold gCheck at h
  split at h
  · rename_i s n
    obtain ⟨h1, rfl⟩ := some_t h
    refine runV (vs := [S s, I n]) (Λ := L0) (m' := M0) OkQ8 Try.func62 rfl (fun z _ _ => l0Ok _ z) ?_
    exact (runCheck s n).trans (by
      simp only [Bool.and_eq_true, Bool.or_eq_true, beq_iff_eq] at h1
      obtain ⟨h0, h1⟩ := h1
      have hz := Nat.le_of_ble_eq_true h1
      have hw : wI (n + 4) = n + 4 := wI_id (by omega)
      rw [hw]
      unfold chkE
      by_cases c1 : (s.size : Int) < n + 4
      · rw [decide_eq_true c1, if_pos c1]; rfl
      by_cases c2 : (s.size : Int) > n + 4
      · rw [decide_eq_false c1, decide_eq_true c2, if_neg c1, if_pos c2]; rfl
      rw [decide_eq_false c1, decide_eq_false c2, if_neg c1, if_neg c2, decide_eq_true (show 0 ≤ n by omega), decide_eq_true (show n ≤ (s.size : Int) by omega), Nat.ble_eq_true_of_le (show (s.extract 0 n.toNat).size ≤ 1000000 by rw [ByteArray.size_extract]; omega), beq_TS]
      cases sealT (s.extract 0 n.toNat) == s <;> rfl)
  · cases h
noncomputable def ΓQ9 : Orc := addVal 62 gCheck ΓQ8
theorem OkQ9 : ΓQ9.Ok Try.prog := addVal_ok OkQ8 gCheck_ok
set_option maxRecDepth 20000 in
theorem runCycle (s : ByteArray) : runG ΓQ9 L0 Try.prog Try.f63 [.v (S s)] M0 = 
    (bif true && (true && decide ((4 : Int) ≤ ↑s.size)) then (bif szS (s.extract (0 : Nat) (4 : Nat)) then some (.v (.int .i64 (wI ↑(numN (s.extract (0 : Nat) (4 : Nat))))), ⟨[], [], []⟩) else none) else none) := by kernel_rfl
def gCycle (vs : List Value) : Option (Bool × Value) :=
  match vs with
  | [.string s] => some (Nat.ble 4 s.size && Nat.ble s.size 1000000, I (wI ((numN (s.extract 0 4) : Nat) : Int)))
  | _ => none
theorem gCycle_ok : ∀ vs r, gCycle vs = some (true, r) → ∀ m, CallOk Try.prog 63 (vs.map .v) m (.v r) m := by
  intro vs r h
  unfold gCycle at h
  split at h
  · rename_i s
    obtain ⟨h1, rfl⟩ := some_t h
    refine runV (vs := [S s]) (Λ := L0) (m' := M0) OkQ9 Try.func63 rfl (fun z _ _ => l0Ok _ z) ?_
    exact (runCycle s).trans (by
      simp only [Bool.and_eq_true] at h1
      have h2 := Nat.le_of_ble_eq_true h1.1
      rw [decide_eq_true (show (4 : Int) ≤ (s.size : Int) by omega), szS_of (show (s.extract 0 4).size ≤ 9223372036854775807 by rw [ByteArray.size_extract]; omega)]
      rfl)
  · cases h
noncomputable def ΓQ10 : Orc := addVal 63 gCycle ΓQ9
theorem OkQ10 : ΓQ10.Ok Try.prog := addVal_ok OkQ9 gCycle_ok
set_option maxRecDepth 20000 in
theorem runPWord (c p s w : Int) : runG ΓQ10 L0 Try.prog Try.f28 [.v (.agg #[I c, I p, I s, I w])] M0 = 
    (bif !stR c p s then some (.v (Value.string { data := #[] : ByteArray }), ⟨[], [], []⟩) else (bif !inB w (15 : Int) then some (.v (Value.string { data := #[] : ByteArray }), ⟨[], [], []⟩) else some (.v (Value.string (sealT (be (4 : Nat) c ++ be (1 : Nat) (two p s) ++ be (1 : Nat) w))), ⟨[], [], []⟩))) := by kernel_rfl
def gPWord (vs : List Value) : Option (Bool × Value) :=
  match vs with
  | [.agg ⟨[.int .i64 c, .int .i64 p, .int .i64 s, .int .i64 w]⟩] => some (true, S (wordT c p s w))
  | _ => none
theorem gPWord_ok : ∀ vs r, gPWord vs = some (true, r) → ∀ m, CallOk Try.prog 28 (vs.map .v) m (.v r) m := by
  intro vs r h
  unfold gPWord at h
  split at h
  · rename_i c p s w
    obtain ⟨h1, rfl⟩ := some_t h
    refine runV (vs := [.agg #[I c, I p, I s, I w]]) (Λ := L0) (m' := M0) OkQ10 Try.func28 rfl (fun z _ _ => l0Ok _ z) ?_
    exact (runPWord c p s w).trans (by
      unfold wordT wordR
      cases stR c p s <;> cases inB w 15 <;> first | rfl | (simp only [ByteArray.size_append, be_size]; rfl))
  · cases h
noncomputable def ΓQ11 : Orc := addVal 28 gPWord ΓQ10
theorem OkQ11 : ΓQ11.Ok Try.prog := addVal_ok OkQ10 gPWord_ok
/-! A word's bytes, read. -/
def cyc (s : ByteArray) : Int := wI ((numN (s.extract 0 4) : Nat) : Int)
def low (s : ByteArray) (i : Int) : Int := wI ((strAt s i).tmod 16)
def high (s : ByteArray) (i : Int) : Int := wI (IntKind.u8.wrap ((strAt s i).tdiv 16))
def okI (b : Bool) (x : Int) : Int := bif b then x else 0
def wOk (s : ByteArray) : Bool := wordT (cyc s) (low s 4) (high s 4) (wI (strAt s 5)) == s
def wdE (s : ByteArray) : Int := bif chkE s 6 != 0 then chkE s 6 else bif wOk s then 0 else 3
def wdV (s : ByteArray) : List Value := [I (okI (wdE s == 0) (cyc s)), I (okI (wdE s == 0) (low s 4)), I (okI (wdE s == 0) (high s 4)), I (okI (wdE s == 0) (wI (strAt s 5)))]
theorem chk0 {s : ByteArray} {n : Int} (h : chkE s n = 0) : (s.size : Int) = n + 4 := by
  unfold chkE at h
  split at h
  · cases h
  · split at h
    · cases h
    · omega
theorem chk_cases (s : ByteArray) (n : Int) : chkE s n = 5 ∨ chkE s n = 3 ∨ chkE s n = 4 ∨ chkE s n = 0 := by
  unfold chkE
  split
  · exact .inl rfl
  · split
    · exact .inr (.inl rfl)
    · split
      · exact .inr (.inr (.inr rfl))
      · exact .inr (.inr (.inl rfl))
set_option maxRecDepth 20000 in
theorem runRWord (s : ByteArray) : runG ΓQ11 L0 Try.prog Try.f29 [.v (S s)] M0 = 
    (bif true && s.size.ble (1000000) then (bif chkE s (6 : Int) != (0 : Int) then some (.v (.tuple #[(.agg #[(.int .i64 0), (.int .i64 0), (.int .i64 0), (.int .i64 0)]), (.int .i64 (chkE s (6 : Int)))]), ⟨[], [], []⟩) else (bif Nat.ble (4) s.size && s.size.ble (1000000) then (bif true && decide ((5 : Int) < ↑s.size) then (bif true && decide ((4 : Int) < ↑s.size) then (bif !(wordT (wI ↑(numN (s.extract (0 : Nat) (4 : Nat)))) (wI ((strAt s (4 : Int)).tmod (16))) (wI (IntKind.u8.wrap ((strAt s (4 : Int)).tdiv (16)))) (wI (strAt s (5 : Int)))).toList == s.toList then some (.v (.tuple #[(.agg #[(.int .i64 0), (.int .i64 0), (.int .i64 0), (.int .i64 0)]), (.int .i64 3)]), ⟨[], [], []⟩) else some (.v (.tuple #[(.agg #[(.int .i64 (wI ↑(numN (s.extract (0 : Nat) (4 : Nat))))), (.int .i64 (wI ((strAt s (4 : Int)).tmod (16)))), (.int .i64 (wI (IntKind.u8.wrap ((strAt s (4 : Int)).tdiv (16))))), (.int .i64 (wI (strAt s (5 : Int))))]), (.int .i64 0)]), ⟨[], [], []⟩)) else none) else none) else none)) else none) := by kernel_rfl
def gRWord (vs : List Value) : Option (Bool × Value) :=
  match vs with
  | [.string s] => some (Nat.ble s.size 1000000, .tuple #[.agg #[I (okI (wdE s == 0) (cyc s)), I (okI (wdE s == 0) (low s 4)), I (okI (wdE s == 0) (high s 4)), I (okI (wdE s == 0) (wI (strAt s 5)))], I (wdE s)])
  | _ => none
theorem gRWord_ok : ∀ vs r, gRWord vs = some (true, r) → ∀ m, CallOk Try.prog 29 (vs.map .v) m (.v r) m := by
  intro vs r h
  unfold gRWord at h
  split at h
  · rename_i s
    obtain ⟨h1, rfl⟩ := some_t h
    refine runV (vs := [S s]) (Λ := L0) (m' := M0) OkQ11 Try.func29 rfl (fun z _ _ => l0Ok _ z) ?_
    exact (runRWord s).trans (by
      rw [h1]
      unfold wdE
      rcases chk_cases s 6 with he | he | he | he
      · rw [he]; rfl
      · rw [he]; rfl
      · rw [he]; rfl
      · have hs := chk0 he
        rw [he, Nat.ble_eq_true_of_le (show 4 ≤ s.size by omega), decide_eq_true (show (5 : Int) < (s.size : Int) by omega), decide_eq_true (show (4 : Int) < (s.size : Int) by omega)]
        unfold wOk cyc low high
        rw [← beq_TS]
        cases (wordT (wI ((numN (s.extract 0 4) : Nat) : Int)) (wI ((strAt s 4).tmod 16)) (wI (IntKind.u8.wrap ((strAt s 4).tdiv 16))) (wI (strAt s 5))).toList == s.toList <;> rfl)
  · cases h
noncomputable def ΓQ12 : Orc := addVal 29 gRWord ΓQ11
theorem OkQ12 : ΓQ12.Ok Try.prog := addVal_ok OkQ11 gRWord_ok
noncomputable def ΓQa : Orc := ΓQ12
theorem OkQa : ΓQa.Ok Try.prog := OkQ12
end Go.Proofs.Yteapngnpenmfaaa

namespace Go.Proofs.Yteapngnpenmfaaa
open Go Go.Proofs Go.Sx
set_option linter.unusedVariables false
/-! norm -/
/-! The document's words, reports, commands; the program's reports and commands. -/
theorem be_u32_4 (x : Int) : be 4 (IntKind.u32.wrap x) = be 4 x := by
  have e : ∀ j : Int, IntKind.u32.wrap j = j % 4294967296 := fun j => by rw [← wr_eq true]; rfl
  have h0 : x % 4294967296 / 256 ^ 0 % 256 = x / 256 ^ 0 % 256 := by omega
  have h1 : x % 4294967296 / 256 ^ 1 % 256 = x / 256 ^ 1 % 256 := by omega
  have h2 : x % 4294967296 / 256 ^ 2 % 256 = x / 256 ^ 2 % 256 := by omega
  have h3 : x % 4294967296 / 256 ^ 3 % 256 = x / 256 ^ 3 % 256 := by omega
  show strOfNums [_ / 256 ^ 3 % 256, _ / 256 ^ 2 % 256, _ / 256 ^ 1 % 256, _ / 256 ^ 0 % 256] = strOfNums [_ / 256 ^ 3 % 256, _ / 256 ^ 2 % 256, _ / 256 ^ 1 % 256, _ / 256 ^ 0 % 256]
  rw [e, h0, h1, h2, h3]
theorem byteAt32 (x : Int) (j k : Nat) (h : (2 : Int) ^ min (Int.toNat (8 * k : Nat)) 32 = 256 ^ k) (hj : j = 8 * k) : IntKind.u8.wrap (x.fdiv (2 ^ min (Int.toNat (j : Nat)) 32)) = x / 256 ^ k % 256 := by
  subst hj
  rw [h, Int.fdiv_eq_ediv_of_nonneg _ (Int.le_of_lt (Int.pow_pos (by decide))), ← wr_eq true]
  rfl
theorem be4_32 (x : Int) : strOfNums [IntKind.u8.wrap (x.fdiv (2 ^ min (Int.toNat 24) 32)), IntKind.u8.wrap (x.fdiv (2 ^ min (Int.toNat 16) 32)), IntKind.u8.wrap (x.fdiv (2 ^ min (Int.toNat 8) 32)), IntKind.u8.wrap x] = be 4 x := by
  have e1 := byteAt32 x 8 1 (by decide) rfl
  have e2 := byteAt32 x 16 2 (by decide) rfl
  have e3 := byteAt32 x 24 3 (by decide) rfl
  rw [show ((8 : Nat) : Int) = 8 from rfl] at e1
  rw [show ((16 : Nat) : Int) = 16 from rfl] at e2
  rw [show ((24 : Nat) : Int) = 24 from rfl] at e3
  have e0 : IntKind.u8.wrap x = x / 256 ^ 0 % 256 := by
    rw [← wr_eq true]
    simp only [wr]
    omega
  rw [e0, e1, e2, e3]; rfl
theorem u8_be1 (x : Int) : strOfNums [IntKind.u8.wrap x] = be 1 x := by
  have e0 : IntKind.u8.wrap x = x / 256 ^ 0 % 256 := by
    rw [← wr_eq true]
    simp only [wr]
    omega
  rw [e0]; rfl
theorem nums_cons (x : Int) (l : List Int) : strOfNums (x :: l) = strOfNums [x] ++ strOfNums l := by
  rw [← nums_app]; rfl

set_option maxRecDepth 20000 in
theorem runRRW (c p s w : Int) : runG ΓQa L0 Try.prog Try.f42 [.v (.agg #[I c, I p, I s, I w])] M0 = 
    (bif inB c (1000000 : Int) then (bif inB p (3 : Int) then (bif inB s (2 : Int) then some (.v (Bo (inB w (15 : Int))), M0) else some (.v (Bo false), M0)) else some (.v (Bo false), M0)) else some (.v (Bo false), M0)) := by kernel_rfl
def gRRW (vs : List Value) : Option (Bool × Value) :=
  match vs with
  | [.agg ⟨[.int .i64 c, .int .i64 p, .int .i64 s, .int .i64 w]⟩] => some (true, Bo (wordR c p s w))
  | _ => none
theorem gRRW_ok : ∀ vs r, gRRW vs = some (true, r) → ∀ m, CallOk Try.prog 42 (vs.map .v) m (.v r) m := by
  intro vs r h
  unfold gRRW at h
  split at h
  · rename_i c p s w
    obtain ⟨h1, rfl⟩ := some_t h
    refine runV (vs := [.agg #[I c, I p, I s, I w]]) (Λ := L0) (m' := M0) OkQa Try.func42 rfl (fun z _ _ => l0Ok _ z) ?_
    exact (runRRW c p s w).trans (by unfold wordR stR; cases inB c 1000000 <;> cases inB p 3 <;> cases inB s 2 <;> rfl)
  · cases h
noncomputable def ΓR1 : Orc := addVal 42 gRRW ΓQa
theorem OkR1 : ΓR1.Ok Try.prog := addVal_ok OkQa gRRW_ok
set_option maxRecDepth 20000 in
theorem runRRR (c p s x y z u v f : Int) : runG ΓR1 L0 Try.prog Try.f43 [.v (.agg #[I c, I p, I s, I x, I y, I z, I u, I v, I f])] M0 = 
    (bif inB c (1000000 : Int) then (bif inB p (3 : Int) then (bif inB s (2 : Int) then (bif inB x (255 : Int) then (bif inB y (255 : Int) then (bif inB z (255 : Int) then (bif inB u (4 : Int) then (bif inB v (4 : Int) then some (.v (Bo (inB f (255 : Int))), M0) else some (.v (Bo false), M0)) else some (.v (Bo false), M0)) else some (.v (Bo false), M0)) else some (.v (Bo false), M0)) else some (.v (Bo false), M0)) else some (.v (Bo false), M0)) else some (.v (Bo false), M0)) else some (.v (Bo false), M0)) := by kernel_rfl
def gRRR (vs : List Value) : Option (Bool × Value) :=
  match vs with
  | [.agg ⟨[.int .i64 c, .int .i64 p, .int .i64 s, .int .i64 x, .int .i64 y, .int .i64 z, .int .i64 u, .int .i64 v, .int .i64 f]⟩] => some (true, Bo (repR c p s x y z u v f))
  | _ => none
theorem gRRR_ok : ∀ vs r, gRRR vs = some (true, r) → ∀ m, CallOk Try.prog 43 (vs.map .v) m (.v r) m := by
  intro vs r h
  unfold gRRR at h
  split at h
  · rename_i c p s x y z u v f
    obtain ⟨h1, rfl⟩ := some_t h
    refine runV (vs := [.agg #[I c, I p, I s, I x, I y, I z, I u, I v, I f]]) (Λ := L0) (m' := M0) OkR1 Try.func43 rfl (fun z _ _ => l0Ok _ z) ?_
    exact (runRRR c p s x y z u v f).trans (by
      simp only [bif_t]
      unfold repR stR
      congr 4
      ac_rfl)
  · cases h
noncomputable def ΓR2 : Orc := addVal 43 gRRR ΓR1
theorem OkR2 : ΓR2.Ok Try.prog := addVal_ok OkR1 gRRR_ok
set_option maxRecDepth 20000 in
theorem runPRR (c p s x y z u v f : Int) : runG ΓR2 L0 Try.prog Try.f69 [.v (.agg #[I c, I p, I s, I x, I y, I z, I u, I v, I f])] M0 = 
    (bif !inB x (255 : Int) then some (.v (Bo false), M0) else (bif !inB y (255 : Int) then some (.v (Bo false), M0) else (bif !inB z (255 : Int) then some (.v (Bo false), M0) else (bif !inB f (255 : Int) then some (.v (Bo false), M0) else (bif !inB u (4 : Int) then some (.v (Bo false), M0) else (bif !inB v (4 : Int) then some (.v (Bo false), M0) else some (.v (Bo (stR c p s)), M0))))))) := by kernel_rfl
def gPRR (vs : List Value) : Option (Bool × Value) :=
  match vs with
  | [.agg ⟨[.int .i64 c, .int .i64 p, .int .i64 s, .int .i64 x, .int .i64 y, .int .i64 z, .int .i64 u, .int .i64 v, .int .i64 f]⟩] => some (true, Bo (repR c p s x y z u v f))
  | _ => none
theorem gPRR_ok : ∀ vs r, gPRR vs = some (true, r) → ∀ m, CallOk Try.prog 69 (vs.map .v) m (.v r) m := by
  intro vs r h
  unfold gPRR at h
  split at h
  · rename_i c p s x y z u v f
    obtain ⟨h1, rfl⟩ := some_t h
    refine runV (vs := [.agg #[I c, I p, I s, I x, I y, I z, I u, I v, I f]]) (Λ := L0) (m' := M0) OkR2 Try.func69 rfl (fun z _ _ => l0Ok _ z) ?_
    exact (runPRR c p s x y z u v f).trans (by
      simp only [bif_f, Bool.not_not]
      unfold repR stR
      congr 4
      ac_rfl)
  · cases h
noncomputable def ΓR3 : Orc := addVal 69 gPRR ΓR2
theorem OkR3 : ΓR3.Ok Try.prog := addVal_ok OkR2 gPRR_ok
set_option maxRecDepth 20000 in
theorem runFour (n : Int) : runG ΓR3 L0 Try.prog Try.f68 [.v (U32 n)] M0 = 
    some (.v (S (strOfNums (numsOf [[Dat.n (IntKind.u8.wrap (n.fdiv (16777216 : Int)))], [Dat.n (IntKind.u8.wrap (n.fdiv (65536 : Int)))], [Dat.n (IntKind.u8.wrap (n.fdiv (256 : Int)))], [Dat.n (IntKind.u8.wrap n)]]))), M0) := by kernel_rfl
def gFour (vs : List Value) : Option (Bool × Value) :=
  match vs with
  | [.int .u32 n] => some (true, S (be 4 n))
  | _ => none
theorem gFour_ok : ∀ vs r, gFour vs = some (true, r) → ∀ m, CallOk Try.prog 68 (vs.map .v) m (.v r) m := by
  intro vs r h
  unfold gFour at h
  split at h
  · rename_i n
    obtain ⟨h1, rfl⟩ := some_t h
    refine runV (vs := [U32 n]) (Λ := L0) (m' := M0) OkR3 Try.func68 rfl (fun z _ _ => l0Ok _ z) ?_
    exact (runFour n).trans (by rw [← be4_32 n]; rfl)
  · cases h
noncomputable def ΓR4 : Orc := addVal 68 gFour ΓR3
theorem OkR4 : ΓR4.Ok Try.prog := addVal_ok OkR3 gFour_ok
set_option maxRecDepth 20000 in
theorem runSealed (s : ByteArray) : runG ΓR4 L0 Try.prog Try.f67 [.v (S s)] M0 = 
    (bif szS s then (bif (s.size + (be (4 : Nat) (sum32 s)).size).ble (9223372036854775807) then some (.v (S (s ++ be (4 : Nat) (sum32 s))), M0) else none) else none) := by kernel_rfl
def gSealed (vs : List Value) : Option (Bool × Value) :=
  match vs with
  | [.string s] => some (Nat.ble s.size 1000000, S (sealT s))
  | _ => none
theorem gSealed_ok : ∀ vs r, gSealed vs = some (true, r) → ∀ m, CallOk Try.prog 67 (vs.map .v) m (.v r) m := by
  intro vs r h
  unfold gSealed at h
  split at h
  · rename_i s
    obtain ⟨h1, rfl⟩ := some_t h
    refine runV (vs := [S s]) (Λ := L0) (m' := M0) OkR4 Try.func67 rfl (fun z _ _ => l0Ok _ z) ?_
    exact (runSealed s).trans (by
      have hz := Nat.le_of_ble_eq_true h1
      rw [szS_of (show s.size ≤ 9223372036854775807 by omega), be_size, Nat.ble_eq_true_of_le (show s.size + 4 ≤ 9223372036854775807 by omega)]
      rfl)
  · cases h
noncomputable def ΓR5 : Orc := addVal 67 gSealed ΓR4
theorem OkR5 : ΓR5.Ok Try.prog := addVal_ok OkR4 gSealed_ok
set_option maxRecDepth 20000 in
theorem runOpen (s : ByteArray) (n : Int) : runG ΓR5 L0 Try.prog Try.f65 [.v (S s), .v (I n)] M0 = 
    (bif decide (↑s.size < wI (n + (4 : Int))) then some (.v (I 5), M0) else (bif decide (↑s.size > wI (n + (4 : Int))) then some (.v (I 3), M0) else (bif true && (decide ((0 : Int) ≤ n) && decide (n ≤ ↑s.size)) then (bif (s.extract (0 : Nat) n.toNat).size.ble (1000000) then (bif !(sealT (s.extract (0 : Nat) n.toNat)).toList == s.toList then some (.v (I 4), M0) else some (.v (I 0), M0)) else none) else none))) := by kernel_rfl
def gOpen (vs : List Value) : Option (Bool × Value) :=
  match vs with
  | [.string s, .int .i64 n] => some ((n == 4 || (n == 6 || n == 10)) && Nat.ble s.size 1000000, I (chkE s n))
  | _ => none
theorem gOpen_ok : ∀ vs r, gOpen vs = some (true, r) → ∀ m, CallOk Try.prog 65 (vs.map .v) m (.v r) m := by
  intro vs r h
  unfold gOpen at h
  split at h
  · rename_i s n
    obtain ⟨h1, rfl⟩ := some_t h
    refine runV (vs := [S s, I n]) (Λ := L0) (m' := M0) OkR5 Try.func65 rfl (fun z _ _ => l0Ok _ z) ?_
    exact (runOpen s n).trans (by
      simp only [Bool.and_eq_true, Bool.or_eq_true, beq_iff_eq] at h1
      obtain ⟨h0, h1⟩ := h1
      have hz := Nat.le_of_ble_eq_true h1
      have hw : wI (n + 4) = n + 4 := wI_id (by omega)
      rw [hw]
      unfold chkE
      by_cases c1 : (s.size : Int) < n + 4
      · rw [decide_eq_true c1, if_pos c1]; rfl
      by_cases c2 : (s.size : Int) > n + 4
      · rw [decide_eq_false c1, decide_eq_true c2, if_neg c1, if_pos c2]; rfl
      rw [decide_eq_false c1, decide_eq_false c2, if_neg c1, if_neg c2, decide_eq_true (show 0 ≤ n by omega), decide_eq_true (show n ≤ (s.size : Int) by omega), Nat.ble_eq_true_of_le (show (s.extract 0 n.toNat).size ≤ 1000000 by rw [ByteArray.size_extract]; omega), beq_TS]
      cases sealT (s.extract 0 n.toNat) == s <;> rfl)
  · cases h
noncomputable def ΓR6 : Orc := addVal 65 gOpen ΓR5
theorem OkR6 : ΓR6.Ok Try.prog := addVal_ok OkR5 gOpen_ok
set_option maxRecDepth 20000 in
theorem runNum07 (s : ByteArray) : runG ΓR6 L0 Try.prog Try.f66 [.v (S s)] M0 = 
    (bif true && decide ((0 : Int) < ↑s.size) then (bif true && decide ((1 : Int) < ↑s.size) then (bif true && decide ((2 : Int) < ↑s.size) then (bif true && decide ((3 : Int) < ↑s.size) then some (.v (I (wI (wI (wI (wI (wI (strAt s (0 : Int)) * (16777216 : Int)) + wI (wI (strAt s (1 : Int)) * (65536 : Int))) + wI (wI (strAt s (2 : Int)) * (256 : Int))) + wI (strAt s (3 : Int))))), M0) else none) else none) else none) else none) := by kernel_rfl
def gNum07 (vs : List Value) : Option (Bool × Value) :=
  match vs with
  | [.string s] => some (Nat.ble 4 s.size && Nat.ble s.size 1000000, I (cyc s))
  | _ => none
theorem gNum07_ok : ∀ vs r, gNum07 vs = some (true, r) → ∀ m, CallOk Try.prog 66 (vs.map .v) m (.v r) m := by
  intro vs r h
  unfold gNum07 at h
  split at h
  · rename_i s
    obtain ⟨h1, rfl⟩ := some_t h
    refine runV (vs := [S s]) (Λ := L0) (m' := M0) OkR6 Try.func66 rfl (fun z _ _ => l0Ok _ z) ?_
    exact (runNum07 s).trans (by
      simp only [Bool.and_eq_true] at h1
      have h2 := Nat.le_of_ble_eq_true h1.1
      have hn := num4 (s := s) (i := 0) (by omega)
      have r0 := strAt_range s 0
      have r1 := strAt_range s 1
      have r2 := strAt_range s 2
      have r3 := strAt_range s 3
      rw [show (0 + 4 : Nat) = 4 from rfl, show (0 + 1 : Nat) = 1 from rfl, show (0 + 2 : Nat) = 2 from rfl, show (0 + 3 : Nat) = 3 from rfl] at hn
      have q0 : ((0 : Nat) : Int) = 0 := rfl
      have q1 : ((1 : Nat) : Int) = 1 := rfl
      have q2 : ((2 : Nat) : Int) = 2 := rfl
      have q3 : ((3 : Nat) : Int) = 3 := rfl
      rw [q0] at r0 hn
      rw [q1] at r1 hn
      rw [q2] at r2 hn
      rw [q3] at r3 hn
      unfold cyc
      rw [hn]
      generalize strAt s 0 = y0 at *
      generalize strAt s 1 = y1 at *
      generalize strAt s 2 = y2 at *
      generalize strAt s 3 = y3 at *
      rw [wI_id (n := y0) (by omega), wI_id (n := y1) (by omega), wI_id (n := y2) (by omega), wI_id (n := y3) (by omega), wI_id (n := y0 * 16777216) (by omega), wI_id (n := y1 * 65536) (by omega), wI_id (n := y2 * 256) (by omega), wI_id (n := y0 * 16777216 + y1 * 65536) (by omega), wI_id (n := y0 * 16777216 + y1 * 65536 + y2 * 256) (by omega), decide_eq_true (show (0 : Int) < (s.size : Int) by omega), decide_eq_true (show (1 : Int) < (s.size : Int) by omega), decide_eq_true (show (2 : Int) < (s.size : Int) by omega), decide_eq_true (show (3 : Int) < (s.size : Int) by omega)]
      rfl)
  · cases h
noncomputable def ΓR7 : Orc := addVal 66 gNum07 ΓR6
theorem OkR7 : ΓR7.Ok Try.prog := addVal_ok OkR6 gNum07_ok
set_option maxRecDepth 20000 in
theorem runLikeW (c p s w : Int) : runG ΓR7 L0 Try.prog Try.f32 [.v (.agg #[I c, I p, I s, I w])] M0 = 
    some (.v (.agg #[(I c), (I p), (I s), (I w)]), M0) := by kernel_rfl
def gLikeW (vs : List Value) : Option (Bool × Value) :=
  match vs with
  | [.agg ⟨[.int .i64 c, .int .i64 p, .int .i64 s, .int .i64 w]⟩] => some (true, .agg #[I c, I p, I s, I w])
  | _ => none
theorem gLikeW_ok : ∀ vs r, gLikeW vs = some (true, r) → ∀ m, CallOk Try.prog 32 (vs.map .v) m (.v r) m := by
  intro vs r h
  unfold gLikeW at h
  split at h
  · rename_i c p s w
    obtain ⟨h1, rfl⟩ := some_t h
    refine runV (vs := [.agg #[I c, I p, I s, I w]]) (Λ := L0) (m' := M0) OkR7 Try.func32 rfl (fun z _ _ => l0Ok _ z) ?_
    exact (runLikeW c p s w).trans (rfl)
  · cases h
noncomputable def ΓR8 : Orc := addVal 32 gLikeW ΓR7
theorem OkR8 : ΓR8.Ok Try.prog := addVal_ok OkR7 gLikeW_ok
set_option maxRecDepth 20000 in
theorem runLikeR (c p s x y z u v f : Int) : runG ΓR8 L0 Try.prog Try.f37 [.v (.agg #[I c, I p, I s, I x, I y, I z, I u, I v, I f])] M0 = 
    some (.v (.agg #[(I c), (I p), (I s), (I x), (I y), (I z), (I u), (I v), (I f)]), M0) := by kernel_rfl
def gLikeR (vs : List Value) : Option (Bool × Value) :=
  match vs with
  | [.agg ⟨[.int .i64 c, .int .i64 p, .int .i64 s, .int .i64 x, .int .i64 y, .int .i64 z, .int .i64 u, .int .i64 v, .int .i64 f]⟩] => some (true, .agg #[I c, I p, I s, I x, I y, I z, I u, I v, I f])
  | _ => none
theorem gLikeR_ok : ∀ vs r, gLikeR vs = some (true, r) → ∀ m, CallOk Try.prog 37 (vs.map .v) m (.v r) m := by
  intro vs r h
  unfold gLikeR at h
  split at h
  · rename_i c p s x y z u v f
    obtain ⟨h1, rfl⟩ := some_t h
    refine runV (vs := [.agg #[I c, I p, I s, I x, I y, I z, I u, I v, I f]]) (Λ := L0) (m' := M0) OkR8 Try.func37 rfl (fun z _ _ => l0Ok _ z) ?_
    exact (runLikeR c p s x y z u v f).trans (rfl)
  · cases h
noncomputable def ΓR9 : Orc := addVal 37 gLikeR ΓR8
theorem OkR9 : ΓR9.Ok Try.prog := addVal_ok OkR8 gLikeR_ok
set_option maxRecDepth 20000 in
theorem runRPW (c p s w : Int) : runG ΓR9 L0 Try.prog Try.f31 [.v (.agg #[I c, I p, I s, I w])] M0 = 
    (bif !wordR c p s w then some (.v (S { data := #[] : ByteArray }), M0) else some (.v (S (sealT (be (4 : Nat) (IntKind.u32.wrap c) ++ strOfNums [IntKind.u8.wrap (wI (p + wI ((16 : Int) * s))), IntKind.u8.wrap w]))), M0)) := by kernel_rfl
def gRPW (vs : List Value) : Option (Bool × Value) :=
  match vs with
  | [.agg ⟨[.int .i64 c, .int .i64 p, .int .i64 s, .int .i64 w]⟩] => some (true, S (wordT c p s w))
  | _ => none
theorem gRPW_ok : ∀ vs r, gRPW vs = some (true, r) → ∀ m, CallOk Try.prog 31 (vs.map .v) m (.v r) m := by
  intro vs r h
  unfold gRPW at h
  split at h
  · rename_i c p s w
    obtain ⟨h1, rfl⟩ := some_t h
    refine runV (vs := [.agg #[I c, I p, I s, I w]]) (Λ := L0) (m' := M0) OkR9 Try.func31 rfl (fun z _ _ => l0Ok _ z) ?_
    exact (runRPW c p s w).trans (by
      unfold wordT wordB
      cases wordR c p s w with
      | false => rfl
      | true =>
        rw [app_assoc, be_u32_4, nums_cons, u8_be1, u8_be1]
        rfl)
  · cases h
noncomputable def ΓR10 : Orc := addVal 31 gRPW ΓR9
theorem OkR10 : ΓR10.Ok Try.prog := addVal_ok OkR9 gRPW_ok
set_option maxRecDepth 20000 in
theorem runPRep (c p s x y z u v f : Int) : runG ΓR10 L0 Try.prog Try.f33 [.v (.agg #[I c, I p, I s, I x, I y, I z, I u, I v, I f])] M0 = 
    (bif !repR c p s x y z u v f then some (.v (S { data := #[] : ByteArray }), M0) else some (.v (S (sealT (be (4 : Nat) c ++ be (1 : Nat) (two p s) ++ (be (1 : Nat) x ++ be (1 : Nat) y ++ be (1 : Nat) z) ++ be (1 : Nat) (two u v) ++ be (1 : Nat) f))), M0)) := by kernel_rfl
def gPRep (vs : List Value) : Option (Bool × Value) :=
  match vs with
  | [.agg ⟨[.int .i64 c, .int .i64 p, .int .i64 s, .int .i64 x, .int .i64 y, .int .i64 z, .int .i64 u, .int .i64 v, .int .i64 f]⟩] => some (true, S (repT c p s x y z u v f))
  | _ => none
theorem gPRep_ok : ∀ vs r, gPRep vs = some (true, r) → ∀ m, CallOk Try.prog 33 (vs.map .v) m (.v r) m := by
  intro vs r h
  unfold gPRep at h
  split at h
  · rename_i c p s x y z u v f
    obtain ⟨h1, rfl⟩ := some_t h
    refine runV (vs := [.agg #[I c, I p, I s, I x, I y, I z, I u, I v, I f]]) (Λ := L0) (m' := M0) OkR10 Try.func33 rfl (fun z _ _ => l0Ok _ z) ?_
    exact (runPRep c p s x y z u v f).trans (by
      unfold repT repB
      cases repR c p s x y z u v f with
      | false => rfl
      | true =>
        rfl)
  · cases h
noncomputable def ΓR11 : Orc := addVal 33 gPRep ΓR10
theorem OkR11 : ΓR11.Ok Try.prog := addVal_ok OkR10 gPRep_ok
set_option maxRecDepth 20000 in
theorem runRPRep (c p s x y z u v f : Int) : runG ΓR11 L0 Try.prog Try.f36 [.v (.agg #[I c, I p, I s, I x, I y, I z, I u, I v, I f])] M0 = 
    (bif !repR c p s x y z u v f then some (.v (S { data := #[] : ByteArray }), M0) else some (.v (S (sealT (be (4 : Nat) (IntKind.u32.wrap c) ++ strOfNums [IntKind.u8.wrap (wI (p + wI ((16 : Int) * s))), IntKind.u8.wrap x, IntKind.u8.wrap y, IntKind.u8.wrap z, IntKind.u8.wrap (wI (u + wI ((16 : Int) * v))), IntKind.u8.wrap f]))), M0)) := by kernel_rfl
def gRPRep (vs : List Value) : Option (Bool × Value) :=
  match vs with
  | [.agg ⟨[.int .i64 c, .int .i64 p, .int .i64 s, .int .i64 x, .int .i64 y, .int .i64 z, .int .i64 u, .int .i64 v, .int .i64 f]⟩] => some (true, S (repT c p s x y z u v f))
  | _ => none
theorem gRPRep_ok : ∀ vs r, gRPRep vs = some (true, r) → ∀ m, CallOk Try.prog 36 (vs.map .v) m (.v r) m := by
  intro vs r h
  unfold gRPRep at h
  split at h
  · rename_i c p s x y z u v f
    obtain ⟨h1, rfl⟩ := some_t h
    refine runV (vs := [.agg #[I c, I p, I s, I x, I y, I z, I u, I v, I f]]) (Λ := L0) (m' := M0) OkR11 Try.func36 rfl (fun z _ _ => l0Ok _ z) ?_
    exact (runRPRep c p s x y z u v f).trans (by
      unfold repT repB
      cases repR c p s x y z u v f with
      | false => rfl
      | true =>
        simp only [app_assoc]
        rw [be_u32_4, nums_cons, nums_cons (IntKind.u8.wrap x), nums_cons (IntKind.u8.wrap y), nums_cons (IntKind.u8.wrap z), nums_cons (IntKind.u8.wrap (wI (u + wI (16 * v)))), u8_be1, u8_be1, u8_be1, u8_be1, u8_be1, u8_be1]
        rfl)
  · cases h
noncomputable def ΓR12 : Orc := addVal 36 gRPRep ΓR11
theorem OkR12 : ΓR12.Ok Try.prog := addVal_ok OkR11 gRPRep_ok
set_option maxRecDepth 20000 in
theorem runPCom (c : Int) : runG ΓR12 L0 Try.prog Try.f38 [.v (I c)] M0 = 
    (bif decide (c < (1 : Int)) then some (.v (S { data := #[] : ByteArray }), M0) else (bif decide (c > (3 : Int)) then some (.v (S { data := #[] : ByteArray }), M0) else some (.v (S (sealT (be (1 : Nat) c ++ be (1 : Nat) (wI ↑(BitVec.ofInt (64 : Nat) c ^^^ BitVec.ofInt (64 : Nat) (85 : Int)).toNat) ++ be (1 : Nat) (wI ↑(BitVec.ofInt (64 : Nat) c ^^^ BitVec.ofInt (64 : Nat) (170 : Int)).toNat) ++ be (1 : Nat) (wI ↑(BitVec.ofInt (64 : Nat) c ^^^ BitVec.ofInt (64 : Nat) (255 : Int)).toNat)))), M0))) := by kernel_rfl
def gPCom (vs : List Value) : Option (Bool × Value) :=
  match vs with
  | [.int .i64 c] => some (true, S (comT c))
  | _ => none
theorem gPCom_ok : ∀ vs r, gPCom vs = some (true, r) → ∀ m, CallOk Try.prog 38 (vs.map .v) m (.v r) m := by
  intro vs r h
  unfold gPCom at h
  split at h
  · rename_i c
    obtain ⟨h1, rfl⟩ := some_t h
    refine runV (vs := [I c]) (Λ := L0) (m' := M0) OkR12 Try.func38 rfl (fun z _ _ => l0Ok _ z) ?_
    exact (runPCom c).trans (by
      unfold comT comR
      by_cases c1 : c < 1
      · rw [decide_eq_true c1, decide_eq_false (show ¬ 1 ≤ c by omega)]; rfl
      by_cases c2 : c > 3
      · rw [decide_eq_false c1, decide_eq_true c2, decide_eq_true (show 1 ≤ c by omega), decide_eq_false (show ¬ c ≤ 3 by omega)]; rfl
      have hc : c = 1 ∨ c = 2 ∨ c = 3 := by omega
      unfold comB
      rcases hc with rfl | rfl | rfl
      · rfl
      · rfl
      · rfl)
  · cases h
noncomputable def ΓR13 : Orc := addVal 38 gPCom ΓR12
theorem OkR13 : ΓR13.Ok Try.prog := addVal_ok OkR12 gPCom_ok
set_option maxRecDepth 20000 in
theorem runRPCom (c : Int) : runG ΓR13 L0 Try.prog Try.f41 [.v (I c)] M0 = 
    (bif decide (c < (1 : Int)) then some (.v (S { data := #[] : ByteArray }), M0) else (bif decide (c > (3 : Int)) then some (.v (S { data := #[] : ByteArray }), M0) else some (.v (S (sealT (strOfNums (numsOf [[Dat.n (IntKind.u8.wrap c)], [Dat.n (IntKind.u8.wrap ↑(BitVec.ofInt (8 : Nat) (IntKind.u8.wrap c) ^^^ BitVec.ofInt (8 : Nat) (85 : Int)).toNat)], [Dat.n (IntKind.u8.wrap ↑(BitVec.ofInt (8 : Nat) (IntKind.u8.wrap c) ^^^ BitVec.ofInt (8 : Nat) (170 : Int)).toNat)], [Dat.n (IntKind.u8.wrap ↑(BitVec.ofInt (8 : Nat) (IntKind.u8.wrap c) ^^^ BitVec.ofInt (8 : Nat) (255 : Int)).toNat)]])))), M0))) := by kernel_rfl
def gRPCom (vs : List Value) : Option (Bool × Value) :=
  match vs with
  | [.int .i64 c] => some (true, S (comT c))
  | _ => none
theorem gRPCom_ok : ∀ vs r, gRPCom vs = some (true, r) → ∀ m, CallOk Try.prog 41 (vs.map .v) m (.v r) m := by
  intro vs r h
  unfold gRPCom at h
  split at h
  · rename_i c
    obtain ⟨h1, rfl⟩ := some_t h
    refine runV (vs := [I c]) (Λ := L0) (m' := M0) OkR13 Try.func41 rfl (fun z _ _ => l0Ok _ z) ?_
    exact (runRPCom c).trans (by
      unfold comT comR
      by_cases c1 : c < 1
      · rw [decide_eq_true c1, decide_eq_false (show ¬ 1 ≤ c by omega)]; rfl
      by_cases c2 : c > 3
      · rw [decide_eq_false c1, decide_eq_true c2, decide_eq_true (show 1 ≤ c by omega), decide_eq_false (show ¬ c ≤ 3 by omega)]; rfl
      have hc : c = 1 ∨ c = 2 ∨ c = 3 := by omega
      unfold comB
      rcases hc with rfl | rfl | rfl
      · simp only [app_assoc]
        rfl
      · simp only [app_assoc]
        rfl
      · simp only [app_assoc]
        rfl)
  · cases h
noncomputable def ΓR14 : Orc := addVal 41 gRPCom ΓR13
theorem OkR14 : ΓR14.Ok Try.prog := addVal_ok OkR13 gRPCom_ok
noncomputable def ΓRa : Orc := ΓR14
theorem OkRa : ΓRa.Ok Try.prog := OkR14
end Go.Proofs.Yteapngnpenmfaaa

namespace Go.Proofs.Yteapngnpenmfaaa
open Go Go.Proofs Go.Sx
set_option linter.unusedVariables false
/-! norm -/
def rOk (s : ByteArray) : Bool := repT (cyc s) (low s 4) (high s 4) (wI (strAt s 5)) (wI (strAt s 6)) (wI (strAt s 7)) (low s 8) (high s 8) (wI (strAt s 9)) == s
def rpE (s : ByteArray) : Int := bif chkE s 10 != 0 then chkE s 10 else bif rOk s then 0 else 3
def cOk (s : ByteArray) : Bool := comT (wI (strAt s 0)) == s
def coE (s : ByteArray) : Int := bif chkE s 4 != 0 then chkE s 4 else bif cOk s then 0 else 3
/-! Bytes of which a sum holds are printed as they were, where what they tell may be. -/
theorem strAt_one {s : ByteArray} {i : Nat} (h : i + 1 ≤ s.size) : be 1 (strAt s (i : Int)) = s.extract i (i + 1) := by
  have h2 : ∃ x r, (L s).drop i = x :: r := by
    have : 1 ≤ ((L s).drop i).length := by rw [List.length_drop, L_len]; omega
    match hq : (L s).drop i, this with
    | x :: r, _ => exact ⟨x, r, rfl⟩
  obtain ⟨x, r, h2⟩ := h2
  have hx : strAt s (i : Int) = (x.toNat : Int) := by
    rw [strAt_L, show (L s)[i]? = ((L s).drop i)[0]? by rw [List.getElem?_drop]; rfl, h2]
    rfl
  have := byte_lt x
  rw [← L_inj, L_ext, h2, L_be1, hx, byte_of x _ (by omega), show i + 1 - i = 1 by omega]
  rfl
theorem wI_byte (s : ByteArray) (i : Nat) : wI (strAt s (i : Int)) = strAt s (i : Int) := by
  have := strAt_range s i
  exact wI_id (by omega)
theorem low_eq (s : ByteArray) (i : Nat) : low s (i : Int) = strAt s (i : Int) % 16 := by
  have := strAt_range s i
  unfold low
  rw [Int.tmod_eq_emod_of_nonneg this.1, wI_id (by omega)]
theorem high_eq (s : ByteArray) (i : Nat) : high s (i : Int) = strAt s (i : Int) / 16 := by
  have := strAt_range s i
  have e : ∀ j : Int, IntKind.u8.wrap j = j % 256 := fun j => by rw [← wr_eq true]; rfl
  unfold high
  rw [Int.tdiv_eq_ediv_of_nonneg this.1, e, wI_id (by omega)]
  omega
theorem two_eq (s : ByteArray) (i : Nat) : two (low s (i : Int)) (high s (i : Int)) = strAt s (i : Int) := by
  have := strAt_range s i
  rw [low_eq, high_eq]
  unfold two
  rw [wI_id (n := 16 * (strAt s (i : Int) / 16)) (by omega), wI_id (by omega)]
  omega
theorem cyc_be {s : ByteArray} (h : 4 ≤ s.size) : be 4 (cyc s) = s.extract 0 4 := by
  have hn := num4 (s := s) (i := 0) (by omega)
  have r0 := strAt_range s 0
  have r1 := strAt_range s 1
  have r2 := strAt_range s 2
  have r3 := strAt_range s 3
  rw [show (0 + 4 : Nat) = 4 from rfl, show (0 + 1 : Nat) = 1 from rfl, show (0 + 2 : Nat) = 2 from rfl, show (0 + 3 : Nat) = 3 from rfl] at hn
  unfold cyc
  rw [wI_id (by rw [hn]; omega)]
  exact be_num4 (by rw [ByteArray.size_extract]; omega) _ (by rw [hn]; omega)
theorem chk_sum {s : ByteArray} {n : Nat} (h : chkE s (n : Int) = 0) : sealT (s.extract 0 n) = s := by
  unfold chkE at h
  split at h
  · cases h
  · split at h
    · cases h
    · split at h
      · rename_i hb
        rw [Int.toNat_natCast] at hb
        exact (beq_S _ _).1 hb
      · cases h
theorem ne_nil {s : ByteArray} (h : 0 < s.size) : ((⟨#[]⟩ : ByteArray) == s) = false := by
  rw [← Bool.not_eq_true, beq_S]
  rintro rfl
  exact absurd h (Nat.lt_irrefl 0)
theorem word_ok {s : ByteArray} (h : chkE s 6 = 0) : wOk s = wordR (cyc s) (low s 4) (high s 4) (wI (strAt s 5)) := by
  have hs := chk0 h
  have hb : wordB (cyc s) (low s 4) (high s 4) (wI (strAt s 5)) = s := by
    unfold wordB
    have t4 := two_eq s 4
    have b4 := strAt_one (s := s) (i := 4) (by omega)
    have b5 := strAt_one (s := s) (i := 5) (by omega)
    have w5 := wI_byte s 5
    rw [show ((4 : Nat) : Int) = 4 from rfl] at t4 b4
    rw [show ((5 : Nat) : Int) = 5 from rfl] at b5 w5
    rw [cyc_be (by omega), t4, b4, w5, b5, ext_join (by omega) (by omega), ext_join (by omega) (by omega)]
    exact chk_sum (n := 6) h
  unfold wOk wordT
  cases wordR (cyc s) (low s 4) (high s 4) (wI (strAt s 5)) with
  | false => exact ne_nil (by omega)
  | true => exact (beq_S _ _).2 hb
theorem rep_ok {s : ByteArray} (h : chkE s 10 = 0) : rOk s = repR (cyc s) (low s 4) (high s 4) (wI (strAt s 5)) (wI (strAt s 6)) (wI (strAt s 7)) (low s 8) (high s 8) (wI (strAt s 9)) := by
  have hs := chk0 h
  have hb : repB (cyc s) (low s 4) (high s 4) (wI (strAt s 5)) (wI (strAt s 6)) (wI (strAt s 7)) (low s 8) (high s 8) (wI (strAt s 9)) = s := by
    unfold repB
    have t4 := two_eq s 4
    have t8 := two_eq s 8
    have b4 := strAt_one (s := s) (i := 4) (by omega)
    have b5 := strAt_one (s := s) (i := 5) (by omega)
    have b6 := strAt_one (s := s) (i := 6) (by omega)
    have b7 := strAt_one (s := s) (i := 7) (by omega)
    have b8 := strAt_one (s := s) (i := 8) (by omega)
    have b9 := strAt_one (s := s) (i := 9) (by omega)
    have w5 := wI_byte s 5
    have w6 := wI_byte s 6
    have w7 := wI_byte s 7
    have w9 := wI_byte s 9
    rw [show ((4 : Nat) : Int) = 4 from rfl] at t4 b4
    rw [show ((5 : Nat) : Int) = 5 from rfl] at b5 w5
    rw [show ((6 : Nat) : Int) = 6 from rfl] at b6 w6
    rw [show ((7 : Nat) : Int) = 7 from rfl] at b7 w7
    rw [show ((8 : Nat) : Int) = 8 from rfl] at b8 t8
    rw [show ((9 : Nat) : Int) = 9 from rfl] at b9 w9
    rw [cyc_be (by omega), t4, t8, b4, w5, b5, w6, b6, w7, b7, b8, w9, b9, ext_join (by omega) (by omega), ext_join (by omega) (by omega), ext_join (by omega) (by omega), ext_join (by omega) (by omega), ext_join (by omega) (by omega), ext_join (by omega) (by omega)]
    exact chk_sum (n := 10) h
  unfold rOk repT
  cases repR (cyc s) (low s 4) (high s 4) (wI (strAt s 5)) (wI (strAt s 6)) (wI (strAt s 7)) (low s 8) (high s 8) (wI (strAt s 9)) with
  | false => exact ne_nil (by omega)
  | true => exact (beq_S _ _).2 hb
theorem low' {s : ByteArray} {i : Nat} : wI ((wI (strAt s (i : Int))).tmod 16) = low s (i : Int) := by unfold low; rw [wI_byte]

set_option maxRecDepth 20000 in
theorem runRRWord (s : ByteArray) : runG ΓRa L0 Try.prog Try.f30 [.v (S s)] M0 = 
    (bif true && s.size.ble (1000000) then (bif chkE s (6 : Int) != (0 : Int) then some (.v (.tuple #[(.agg #[(I 0), (I 0), (I 0), (I 0)]), (I (chkE s (6 : Int)))]), M0) else (bif Nat.ble (4) s.size && s.size.ble (1000000) then (bif true && decide ((4 : Int) < ↑s.size) then (bif true && decide ((4 : Int) < ↑s.size) then (bif true && decide ((5 : Int) < ↑s.size) then (bif !wordR (cyc s) ((wI (strAt s (4 : Int))).tmod (16 : Int)) (wI ((wI (strAt s (4 : Int))).tdiv (16 : Int))) (wI (strAt s (5 : Int))) then some (.v (.tuple #[(.agg #[(I 0), (I 0), (I 0), (I 0)]), (I 3)]), M0) else some (.v (.tuple #[(.agg #[(I (cyc s)), (I ((wI (strAt s (4 : Int))).tmod (16 : Int))), (I (wI ((wI (strAt s (4 : Int))).tdiv (16 : Int)))), (I (wI (strAt s (5 : Int))))]), (I 0)]), M0)) else none) else none) else none) else none)) else none) := by kernel_rfl
def gRRWord (vs : List Value) : Option (Bool × Value) :=
  match vs with
  | [.string s] => some (Nat.ble s.size 1000000, .tuple #[.agg #[I (okI (wdE s == 0) (cyc s)), I (okI (wdE s == 0) (low s 4)), I (okI (wdE s == 0) (high s 4)), I (okI (wdE s == 0) (wI (strAt s 5)))], I (wdE s)])
  | _ => none
theorem gRRWord_ok : ∀ vs r, gRRWord vs = some (true, r) → ∀ m, CallOk Try.prog 30 (vs.map .v) m (.v r) m := by
  intro vs r h
  unfold gRRWord at h
  split at h
  · rename_i s
    obtain ⟨h1, rfl⟩ := some_t h
    refine runV (vs := [S s]) (Λ := L0) (m' := M0) OkRa Try.func30 rfl (fun z _ _ => l0Ok _ z) ?_
    exact (runRRWord s).trans (by
      rw [h1]
      unfold wdE
      rcases chk_cases s 6 with he | he | he | he
      · rw [he]; rfl
      · rw [he]; rfl
      · rw [he]; rfl
      · have hs := chk0 he
        have hl4 := low_eq s 4
        have hh4 := high_eq s 4
        have r4 := strAt_range s 4
        have q4 := wI_byte s 4
        rw [show ((4 : Nat) : Int) = 4 from rfl] at hl4 hh4 r4 q4
        rw [he, Nat.ble_eq_true_of_le (show 4 ≤ s.size by omega), decide_eq_true (show (5 : Int) < (s.size : Int) by omega), decide_eq_true (show (4 : Int) < (s.size : Int) by omega), word_ok he, q4, Int.tmod_eq_emod_of_nonneg r4.1, Int.tdiv_eq_ediv_of_nonneg r4.1, wI_id (n := strAt s 4 / 16) (by omega), ← hl4, ← hh4]
        cases wordR (cyc s) (low s 4) (high s 4) (wI (strAt s 5)) <;> rfl)
  · cases h
noncomputable def ΓT1 : Orc := addVal 30 gRRWord ΓRa
theorem OkT1 : ΓT1.Ok Try.prog := addVal_ok OkRa gRRWord_ok
set_option maxRecDepth 20000 in
theorem runRRep (s : ByteArray) : runG ΓT1 L0 Try.prog Try.f34 [.v (S s)] M0 = 
    (bif true && s.size.ble (1000000) then (bif chkE s (10 : Int) != (0 : Int) then some (.v (.tuple #[(.agg #[(I 0), (I 0), (I 0), (I 0), (I 0), (I 0), (I 0), (I 0), (I 0)]), (I (chkE s (10 : Int)))]), M0) else (bif Nat.ble (4) s.size && s.size.ble (1000000) then (bif true && decide ((5 : Int) < ↑s.size) then (bif true && decide ((6 : Int) < ↑s.size) then (bif true && decide ((7 : Int) < ↑s.size) then (bif true && decide ((9 : Int) < ↑s.size) then (bif true && decide ((4 : Int) < ↑s.size) then (bif true && decide ((8 : Int) < ↑s.size) then (bif !(repT (wI ↑(numN (s.extract (0 : Nat) (4 : Nat)))) (wI ((strAt s (4 : Int)).tmod (16))) (wI (IntKind.u8.wrap ((strAt s (4 : Int)).tdiv (16)))) (wI (strAt s (5 : Int))) (wI (strAt s (6 : Int))) (wI (strAt s (7 : Int))) (wI ((strAt s (8 : Int)).tmod (16))) (wI (IntKind.u8.wrap ((strAt s (8 : Int)).tdiv (16)))) (wI (strAt s (9 : Int)))).toList == s.toList then some (.v (.tuple #[(.agg #[(I 0), (I 0), (I 0), (I 0), (I 0), (I 0), (I 0), (I 0), (I 0)]), (I 3)]), M0) else some (.v (.tuple #[(.agg #[(I (wI ↑(numN (s.extract (0 : Nat) (4 : Nat))))), (I (wI ((strAt s (4 : Int)).tmod (16)))), (I (wI (IntKind.u8.wrap ((strAt s (4 : Int)).tdiv (16))))), (I (wI (strAt s (5 : Int)))), (I (wI (strAt s (6 : Int)))), (I (wI (strAt s (7 : Int)))), (I (wI ((strAt s (8 : Int)).tmod (16)))), (I (wI (IntKind.u8.wrap ((strAt s (8 : Int)).tdiv (16))))), (I (wI (strAt s (9 : Int))))]), (I 0)]), M0)) else none) else none) else none) else none) else none) else none) else none)) else none) := by kernel_rfl
def gRRep (vs : List Value) : Option (Bool × Value) :=
  match vs with
  | [.string s] => some (Nat.ble s.size 1000000, .tuple #[.agg #[I (okI (rpE s == 0) (cyc s)), I (okI (rpE s == 0) (low s 4)), I (okI (rpE s == 0) (high s 4)), I (okI (rpE s == 0) (wI (strAt s 5))), I (okI (rpE s == 0) (wI (strAt s 6))), I (okI (rpE s == 0) (wI (strAt s 7))), I (okI (rpE s == 0) (low s 8)), I (okI (rpE s == 0) (high s 8)), I (okI (rpE s == 0) (wI (strAt s 9)))], I (rpE s)])
  | _ => none
theorem gRRep_ok : ∀ vs r, gRRep vs = some (true, r) → ∀ m, CallOk Try.prog 34 (vs.map .v) m (.v r) m := by
  intro vs r h
  unfold gRRep at h
  split at h
  · rename_i s
    obtain ⟨h1, rfl⟩ := some_t h
    refine runV (vs := [S s]) (Λ := L0) (m' := M0) OkT1 Try.func34 rfl (fun z _ _ => l0Ok _ z) ?_
    exact (runRRep s).trans (by
      rw [h1]
      unfold rpE
      rcases chk_cases s 10 with he | he | he | he
      · rw [he]; rfl
      · rw [he]; rfl
      · rw [he]; rfl
      · have hs := chk0 he
        have hl4 := low_eq s 4
        have hh4 := high_eq s 4
        have r4 := strAt_range s 4
        have q4 := wI_byte s 4
        rw [show ((4 : Nat) : Int) = 4 from rfl] at hl4 hh4 r4 q4
        rw [he, Nat.ble_eq_true_of_le (show 4 ≤ s.size by omega)]
        simp only [decide_eq_true (show (5 : Int) < (s.size : Int) by omega), decide_eq_true (show (4 : Int) < (s.size : Int) by omega), decide_eq_true (show (6 : Int) < (s.size : Int) by omega), decide_eq_true (show (7 : Int) < (s.size : Int) by omega), decide_eq_true (show (8 : Int) < (s.size : Int) by omega), decide_eq_true (show (9 : Int) < (s.size : Int) by omega)]
        unfold rOk cyc low high
        rw [← beq_TS]
        generalize ((repT (wI ((numN (s.extract 0 4) : Nat) : Int)) (wI ((strAt s 4).tmod 16)) (wI (IntKind.u8.wrap ((strAt s 4).tdiv 16))) (wI (strAt s 5)) (wI (strAt s 6)) (wI (strAt s 7)) (wI ((strAt s 8).tmod 16)) (wI (IntKind.u8.wrap ((strAt s 8).tdiv 16))) (wI (strAt s 9))).toList == s.toList) = bb
        cases bb <;> rfl)
  · cases h
noncomputable def ΓT2 : Orc := addVal 34 gRRep ΓT1
theorem OkT2 : ΓT2.Ok Try.prog := addVal_ok OkT1 gRRep_ok
set_option maxRecDepth 20000 in
theorem runRRRep (s : ByteArray) : runG ΓT2 L0 Try.prog Try.f35 [.v (S s)] M0 = 
    (bif true && s.size.ble (1000000) then (bif chkE s (10 : Int) != (0 : Int) then some (.v (.tuple #[(.agg #[(I 0), (I 0), (I 0), (I 0), (I 0), (I 0), (I 0), (I 0), (I 0)]), (I (chkE s (10 : Int)))]), M0) else (bif Nat.ble (4) s.size && s.size.ble (1000000) then (bif true && decide ((4 : Int) < ↑s.size) then (bif true && decide ((4 : Int) < ↑s.size) then (bif true && decide ((5 : Int) < ↑s.size) then (bif true && decide ((6 : Int) < ↑s.size) then (bif true && decide ((7 : Int) < ↑s.size) then (bif true && decide ((8 : Int) < ↑s.size) then (bif true && decide ((8 : Int) < ↑s.size) then (bif true && decide ((9 : Int) < ↑s.size) then (bif !repR (cyc s) ((wI (strAt s (4 : Int))).tmod (16 : Int)) (wI ((wI (strAt s (4 : Int))).tdiv (16 : Int))) (wI (strAt s (5 : Int))) (wI (strAt s (6 : Int))) (wI (strAt s (7 : Int))) ((wI (strAt s (8 : Int))).tmod (16 : Int)) (wI ((wI (strAt s (8 : Int))).tdiv (16 : Int))) (wI (strAt s (9 : Int))) then some (.v (.tuple #[(.agg #[(I 0), (I 0), (I 0), (I 0), (I 0), (I 0), (I 0), (I 0), (I 0)]), (I 3)]), M0) else some (.v (.tuple #[(.agg #[(I (cyc s)), (I ((wI (strAt s (4 : Int))).tmod (16 : Int))), (I (wI ((wI (strAt s (4 : Int))).tdiv (16 : Int)))), (I (wI (strAt s (5 : Int)))), (I (wI (strAt s (6 : Int)))), (I (wI (strAt s (7 : Int)))), (I ((wI (strAt s (8 : Int))).tmod (16 : Int))), (I (wI ((wI (strAt s (8 : Int))).tdiv (16 : Int)))), (I (wI (strAt s (9 : Int))))]), (I 0)]), M0)) else none) else none) else none) else none) else none) else none) else none) else none) else none)) else none) := by kernel_rfl
def gRRRep (vs : List Value) : Option (Bool × Value) :=
  match vs with
  | [.string s] => some (Nat.ble s.size 1000000, .tuple #[.agg #[I (okI (rpE s == 0) (cyc s)), I (okI (rpE s == 0) (low s 4)), I (okI (rpE s == 0) (high s 4)), I (okI (rpE s == 0) (wI (strAt s 5))), I (okI (rpE s == 0) (wI (strAt s 6))), I (okI (rpE s == 0) (wI (strAt s 7))), I (okI (rpE s == 0) (low s 8)), I (okI (rpE s == 0) (high s 8)), I (okI (rpE s == 0) (wI (strAt s 9)))], I (rpE s)])
  | _ => none
theorem gRRRep_ok : ∀ vs r, gRRRep vs = some (true, r) → ∀ m, CallOk Try.prog 35 (vs.map .v) m (.v r) m := by
  intro vs r h
  unfold gRRRep at h
  split at h
  · rename_i s
    obtain ⟨h1, rfl⟩ := some_t h
    refine runV (vs := [S s]) (Λ := L0) (m' := M0) OkT2 Try.func35 rfl (fun z _ _ => l0Ok _ z) ?_
    exact (runRRRep s).trans (by
      rw [h1]
      unfold rpE
      rcases chk_cases s 10 with he | he | he | he
      · rw [he]; rfl
      · rw [he]; rfl
      · rw [he]; rfl
      · have hs := chk0 he
        have hl4 := low_eq s 4
        have hh4 := high_eq s 4
        have r4 := strAt_range s 4
        have q4 := wI_byte s 4
        rw [show ((4 : Nat) : Int) = 4 from rfl] at hl4 hh4 r4 q4
        have hl8 := low_eq s 8
        have hh8 := high_eq s 8
        have r8 := strAt_range s 8
        have q8 := wI_byte s 8
        rw [show ((8 : Nat) : Int) = 8 from rfl] at hl8 hh8 r8 q8
        rw [he, Nat.ble_eq_true_of_le (show 4 ≤ s.size by omega)]
        simp only [decide_eq_true (show (5 : Int) < (s.size : Int) by omega), decide_eq_true (show (4 : Int) < (s.size : Int) by omega), decide_eq_true (show (6 : Int) < (s.size : Int) by omega), decide_eq_true (show (7 : Int) < (s.size : Int) by omega), decide_eq_true (show (8 : Int) < (s.size : Int) by omega), decide_eq_true (show (9 : Int) < (s.size : Int) by omega)]
        rw [rep_ok he, q4, q8, Int.tmod_eq_emod_of_nonneg r4.1, Int.tdiv_eq_ediv_of_nonneg r4.1, Int.tmod_eq_emod_of_nonneg r8.1, Int.tdiv_eq_ediv_of_nonneg r8.1, wI_id (n := strAt s 4 / 16) (by omega), wI_id (n := strAt s 8 / 16) (by omega), ← hl4, ← hh4, ← hl8, ← hh8]
        cases repR (cyc s) (low s 4) (high s 4) (wI (strAt s 5)) (wI (strAt s 6)) (wI (strAt s 7)) (low s 8) (high s 8) (wI (strAt s 9)) <;> rfl)
  · cases h
noncomputable def ΓT3 : Orc := addVal 35 gRRRep ΓT2
theorem OkT3 : ΓT3.Ok Try.prog := addVal_ok OkT2 gRRRep_ok
set_option maxRecDepth 20000 in
theorem runRCom (s : ByteArray) : runG ΓT3 L0 Try.prog Try.f39 [.v (S s)] M0 = 
    (bif true && s.size.ble (1000000) then (bif chkE s (4 : Int) != (0 : Int) then some (.v (.tuple #[(I 0), (I (chkE s (4 : Int)))]), M0) else (bif true && decide ((0 : Int) < ↑s.size) then (bif !(comT (wI (strAt s (0 : Int)))).toList == s.toList then some (.v (.tuple #[(I 0), (I 3)]), M0) else some (.v (.tuple #[(I (wI (strAt s (0 : Int)))), (I 0)]), M0)) else none)) else none) := by kernel_rfl
def gRCom (vs : List Value) : Option (Bool × Value) :=
  match vs with
  | [.string s] => some (Nat.ble s.size 1000000, .tuple #[I (okI (coE s == 0) (wI (strAt s 0))), I (coE s)])
  | _ => none
theorem gRCom_ok : ∀ vs r, gRCom vs = some (true, r) → ∀ m, CallOk Try.prog 39 (vs.map .v) m (.v r) m := by
  intro vs r h
  unfold gRCom at h
  split at h
  · rename_i s
    obtain ⟨h1, rfl⟩ := some_t h
    refine runV (vs := [S s]) (Λ := L0) (m' := M0) OkT3 Try.func39 rfl (fun z _ _ => l0Ok _ z) ?_
    exact (runRCom s).trans (by
      rw [h1]
      unfold coE
      rcases chk_cases s 4 with he | he | he | he
      · rw [he]; rfl
      · rw [he]; rfl
      · rw [he]; rfl
      · have hs := chk0 he
        rw [he, decide_eq_true (show (0 : Int) < (s.size : Int) by omega)]
        unfold cOk
        rw [← beq_TS]
        cases (comT (wI (strAt s 0))).toList == s.toList <;> rfl)
  · cases h
noncomputable def ΓT4 : Orc := addVal 39 gRCom ΓT3
theorem OkT4 : ΓT4.Ok Try.prog := addVal_ok OkT3 gRCom_ok
set_option maxRecDepth 20000 in
theorem runRRCom (s : ByteArray) : runG ΓT4 L0 Try.prog Try.f40 [.v (S s)] M0 = 
    (bif true && s.size.ble (1000000) then (bif chkE s (4 : Int) != (0 : Int) then some (.v (.tuple #[(I 0), (I (chkE s (4 : Int)))]), M0) else (bif true && decide ((0 : Int) < ↑s.size) then (bif !(comT (wI (strAt s (0 : Int)))).toList == s.toList then some (.v (.tuple #[(I 0), (I 3)]), M0) else (bif true && decide ((0 : Int) < ↑s.size) then some (.v (.tuple #[(I (wI (strAt s (0 : Int)))), (I 0)]), M0) else none)) else none)) else none) := by kernel_rfl
def gRRCom (vs : List Value) : Option (Bool × Value) :=
  match vs with
  | [.string s] => some (Nat.ble s.size 1000000, .tuple #[I (okI (coE s == 0) (wI (strAt s 0))), I (coE s)])
  | _ => none
theorem gRRCom_ok : ∀ vs r, gRRCom vs = some (true, r) → ∀ m, CallOk Try.prog 40 (vs.map .v) m (.v r) m := by
  intro vs r h
  unfold gRRCom at h
  split at h
  · rename_i s
    obtain ⟨h1, rfl⟩ := some_t h
    refine runV (vs := [S s]) (Λ := L0) (m' := M0) OkT4 Try.func40 rfl (fun z _ _ => l0Ok _ z) ?_
    exact (runRRCom s).trans (by
      rw [h1]
      unfold coE
      rcases chk_cases s 4 with he | he | he | he
      · rw [he]; rfl
      · rw [he]; rfl
      · rw [he]; rfl
      · have hs := chk0 he
        rw [he, decide_eq_true (show (0 : Int) < (s.size : Int) by omega)]
        unfold cOk
        rw [← beq_TS]
        cases (comT (wI (strAt s 0))).toList == s.toList <;> rfl)
  · cases h
noncomputable def ΓT5 : Orc := addVal 40 gRRCom ΓT4
theorem OkT5 : ΓT5.Ok Try.prog := addVal_ok OkT4 gRRCom_ok
noncomputable def ΓTa : Orc := ΓT5
theorem OkTa : ΓTa.Ok Try.prog := OkT5
end Go.Proofs.Yteapngnpenmfaaa

namespace Go.Proofs.Yteapngnpenmfaaa
open Go Go.Proofs Go.Sx
noncomputable def Γx7 : Orc := exec Try.prog ΓJa.call ΓJa.rd ΓJa.eqv (fun _ => false) 30 6
theorem Okx7 : Γx7.Ok Try.prog := exec_ok mixed names (ext := ΓJa.call) (rd := ΓJa.rd) (eqv := ΓJa.eqv) ⟨OkJa.call, OkJa.rd, OkJa.eqv⟩ 30 6
set_option maxRecDepth 100000 in
theorem runAwake7 : runG Γx7 (loopX Γx7 Try.prog 30 2) Try.prog Try.f27 [] M0 = some (.v (Bo true), M0) := by kernel_rfl
def gAwake7 (vs : List Value) : Option (Bool × Value) :=
  match vs with
  | [] => some (true, Bo true)
  | _ => none
theorem gAwake7_ok : ∀ vs r, gAwake7 vs = some (true, r) → ∀ m, CallOk Try.prog 27 (vs.map .v) m (.v r) m := by
  intro vs r h
  unfold gAwake7 at h
  split at h
  · obtain ⟨_, rfl⟩ := some_t h
    exact runV (vs := []) Okx7 Try.func27 rfl (fun z _ _ b hb => loopX_ok Okx7 mixed 30 2 b) runAwake7
  · cases h
noncomputable def ΓP : Orc := addVal 27 gAwake7 ΓTa
theorem OkP : ΓP.Ok Try.prog := addVal_ok OkTa gAwake7_ok
end Go.Proofs.Yteapngnpenmfaaa

namespace Go.Proofs.Yteapngnpenmfaaa
open Go Go.Proofs Go.Sx
set_option linter.unusedVariables false
/-! norm -/
/-! The laws of peer, over values. -/
theorem seal_chk {b : ByteArray} {n : Nat} (h : b.size = n) : chkE (sealT b) (n : Int) = 0 ∧ (sealT b).size = n + 4 ∧ (sealT b).extract 0 n = b := by
  have hs := sealT_size b
  have he : (sealT b).extract 0 n = b := by
    unfold sealT
    rw [ext_app0 (by omega), ← h, ext_all]
  refine ⟨?_, by omega, he⟩
  unfold chkE
  rw [if_neg (by omega), if_neg (by omega), Int.toNat_natCast, he]
  exact if_pos ((beq_S _ _).2 rfl)
theorem L_seal (b : ByteArray) : L (sealT b) = L b ++ L (be 4 (sum32 b)) := by unfold sealT; rw [L_app]
theorem bytesAt {s : ByteArray} {l r : List UInt8} {i : Nat} {x : Int} (h : L s = l ++ r) (hx : l[i]? = some (UInt8.ofNat (x % 256).toNat)) : strAt s (i : Int) = x % 256 := by
  have hi : i < l.length := (List.getElem?_eq_some_iff.1 hx).1
  rw [strAt_L, h, List.getElem?_append_left hi, hx]
  exact toNat_ofI (by omega) (by omega)
theorem inB_iff {n m : Int} : inB n m = true ↔ 0 ≤ n ∧ n ≤ m := by
  unfold inB
  rw [Bool.and_eq_true, decide_eq_true_eq, decide_eq_true_eq]
theorem low_of {s : ByteArray} {i : Nat} {p w : Int} (h : strAt s (i : Int) = two p w % 256) (h0 : 0 ≤ p) (h1 : p ≤ 15) (h2 : 0 ≤ w) (h3 : w ≤ 15) : low s (i : Int) = p ∧ high s (i : Int) = w := by
  have e : two p w = p + 16 * w := by unfold two; rw [wI_id (n := 16 * w) (by omega), wI_id (by omega)]
  rw [low_eq, high_eq, h, e]
  omega
theorem word_L (c p w x : Int) : ∃ t, L (wordB c p w x) = [UInt8.ofNat (c / 256 ^ 3 % 256).toNat, UInt8.ofNat (c / 256 ^ 2 % 256).toNat, UInt8.ofNat (c / 256 ^ 1 % 256).toNat, UInt8.ofNat (c / 256 ^ 0 % 256).toNat, UInt8.ofNat (two p w / 256 ^ 0 % 256).toNat, UInt8.ofNat (x / 256 ^ 0 % 256).toNat] ++ t :=
  ⟨_, by unfold wordB; rw [L_seal, L_app, L_app]; rfl⟩
theorem cyc_of {s : ByteArray} {c : Int} {l : List UInt8} (h : L s = [UInt8.ofNat (c / 256 ^ 3 % 256).toNat, UInt8.ofNat (c / 256 ^ 2 % 256).toNat, UInt8.ofNat (c / 256 ^ 1 % 256).toNat, UInt8.ofNat (c / 256 ^ 0 % 256).toNat] ++ l) (h0 : 0 ≤ c) (h1 : c ≤ 1000000) : cyc s = c := by
  have : s.extract 0 4 = be 4 c := by
    rw [← L_inj, L_ext, h]
    rfl
  unfold cyc
  rw [this, num_be4, wI_id (by omega)]
  omega
theorem div0 (x : Int) : x / 256 ^ 0 % 256 = x % 256 := by omega
theorem word_rd {c p w x : Int} (h : wordR c p w x = true) : wordT c p w x = wordB c p w x ∧ (wordB c p w x).size = 10 ∧ wdE (wordB c p w x) = 0 ∧ cyc (wordB c p w x) = c ∧ low (wordB c p w x) 4 = p ∧ high (wordB c p w x) 4 = w ∧ wI (strAt (wordB c p w x) 5) = x := by
  have hT : wordT c p w x = wordB c p w x := by unfold wordT; rw [h]; rfl
  have h' := h
  unfold wordR stR at h'
  simp only [Bool.and_eq_true, inB_iff] at h'
  obtain ⟨t, hl⟩ := word_L c p w x
  obtain ⟨k1, k2, k3⟩ := seal_chk (b := (be 4 c ++ be 1 (two p w)) ++ be 1 x) (n := 6) (by simp only [ByteArray.size_append, be_size])
  have k1 : chkE (wordB c p w x) 6 = 0 := k1
  have k2 : (wordB c p w x).size = 10 := k2
  have e1 : cyc (wordB c p w x) = c := cyc_of (l := UInt8.ofNat (two p w / 256 ^ 0 % 256).toNat :: UInt8.ofNat (x / 256 ^ 0 % 256).toNat :: t) (by rw [hl]; rfl) h'.1.1.1 h'.1.1.2
  have s4 : strAt (wordB c p w x) ((4 : Nat) : Int) = two p w % 256 := bytesAt hl (by rw [← div0 (two p w)]; rfl)
  have s5 : strAt (wordB c p w x) ((5 : Nat) : Int) = x % 256 := bytesAt hl (by rw [← div0 (x)]; rfl)
  obtain ⟨e2, e3⟩ := low_of s4 (by omega) (by omega) (by omega) (by omega)
  have e4 : wI (strAt (wordB c p w x) ((5 : Nat) : Int)) = x := by rw [wI_byte, s5]; omega
  have e2 : low (wordB c p w x) 4 = p := e2
  have e3 : high (wordB c p w x) 4 = w := e3
  have e4 : wI (strAt (wordB c p w x) 5) = x := e4
  refine ⟨hT, k2, ?_, e1, e2, e3, e4⟩
  have hw : wOk (wordB c p w x) = true := by unfold wOk; rw [e1, e2, e3, e4, hT]; exact (beq_S _ _).2 rfl
  unfold wdE
  rw [k1, hw]
  rfl
theorem wd_ok {s : ByteArray} (h : wdE s = 0) : wordT (cyc s) (low s 4) (high s 4) (wI (strAt s 5)) = s ∧ chkE s 6 = 0 := by
  unfold wdE at h
  cases hb : chkE s 6 != 0 with
  | true =>
    rw [hb] at h
    have h : chkE s 6 = 0 := h
    rw [h] at hb
    cases hb
  | false =>
    rw [hb] at h
    cases hw : wOk s with
    | false => rw [hw] at h; cases h
    | true => exact ⟨(beq_S _ _).1 hw, by simpa using hb⟩
theorem tailW (s : ByteArray) : (bif wdE s != (0 : Int) then some (SV.v (Bo true), M0) else some (SV.v (Bo ((wordT (okI (wdE s == (0 : Int)) (cyc s)) (okI (wdE s == (0 : Int)) (low s (4 : Int))) (okI (wdE s == (0 : Int)) (high s (4 : Int))) (okI (wdE s == (0 : Int)) (wI (strAt s (5 : Int))))).toList == s.toList)), M0)) = some (SV.v (Bo true), M0) := by
  by_cases h : wdE s = 0
  · rw [h, beq_self_eq_true]
    unfold okI
    simp only [cond_true]
    rw [(wd_ok h).1, beq_self_eq_true]
    rfl
  · rw [bne_iff_ne.2 h]; rfl
theorem treePeerWords (c p w x : Int) (s : ByteArray) : runG ΓP L0 Try.prog Try.f8 [.v (.agg #[I c, I p, I w, I x]), .v (S s)] M0 = 
    (bif decide ((↑s.size : Int) > (100 : Int)) then some (.v (Bo true), M0) else (bif (wordT c p w x).size.ble (1000000) then (bif s.size.ble (1000000) then (bif s.size.ble (1000000) then (bif (wordT c p w x).toList == (wordT c p w x).toList then (bif (wordT c p w x).toList == { data := #[] : ByteArray }.toList then (bif okI (wdE s == (0 : Int)) (cyc s) == okI (wdE s == (0 : Int)) (cyc s) && (okI (wdE s == (0 : Int)) (low s (4 : Int)) == okI (wdE s == (0 : Int)) (low s (4 : Int)) && (okI (wdE s == (0 : Int)) (high s (4 : Int)) == okI (wdE s == (0 : Int)) (high s (4 : Int)) && (okI (wdE s == (0 : Int)) (wI (strAt s (5 : Int))) == okI (wdE s == (0 : Int)) (wI (strAt s (5 : Int))) && true))) then (bif wdE s == wdE s then (bif wdE s != (0 : Int) then some (.v (Bo true), M0) else some (.v (Bo ((wordT (okI (wdE s == (0 : Int)) (cyc s)) (okI (wdE s == (0 : Int)) (low s (4 : Int))) (okI (wdE s == (0 : Int)) (high s (4 : Int))) (okI (wdE s == (0 : Int)) (wI (strAt s (5 : Int))))).toList == s.toList)), M0)) else some (.v (Bo false), M0)) else some (.v (Bo false), M0)) else (bif okI (wdE (wordT c p w x) == (0 : Int)) (cyc (wordT c p w x)) == c && (okI (wdE (wordT c p w x) == (0 : Int)) (low (wordT c p w x) (4 : Int)) == p && (okI (wdE (wordT c p w x) == (0 : Int)) (high (wordT c p w x) (4 : Int)) == w && (okI (wdE (wordT c p w x) == (0 : Int)) (wI (strAt (wordT c p w x) (5 : Int))) == x && true))) then (bif wdE (wordT c p w x) == (0 : Int) then (bif okI (wdE s == (0 : Int)) (cyc s) == okI (wdE s == (0 : Int)) (cyc s) && (okI (wdE s == (0 : Int)) (low s (4 : Int)) == okI (wdE s == (0 : Int)) (low s (4 : Int)) && (okI (wdE s == (0 : Int)) (high s (4 : Int)) == okI (wdE s == (0 : Int)) (high s (4 : Int)) && (okI (wdE s == (0 : Int)) (wI (strAt s (5 : Int))) == okI (wdE s == (0 : Int)) (wI (strAt s (5 : Int))) && true))) then (bif wdE s == wdE s then (bif wdE s != (0 : Int) then some (.v (Bo true), M0) else some (.v (Bo ((wordT (okI (wdE s == (0 : Int)) (cyc s)) (okI (wdE s == (0 : Int)) (low s (4 : Int))) (okI (wdE s == (0 : Int)) (high s (4 : Int))) (okI (wdE s == (0 : Int)) (wI (strAt s (5 : Int))))).toList == s.toList)), M0)) else some (.v (Bo false), M0)) else some (.v (Bo false), M0)) else some (.v (Bo false), M0)) else some (.v (Bo false), M0))) else some (.v (Bo false), M0)) else none) else none) else none)) := by kernel_rfl
theorem peerWords (c p w x : Int) (s : ByteArray) : runG ΓP L0 Try.prog Try.f8 [.v (.agg #[I c, I p, I w, I x]), .v (S s)] M0 = some (.v (.bool true), M0) := by
  rw [treePeerWords]
  by_cases h0 : (s.size : Int) > 100
  · rw [decide_eq_true h0]; rfl
  rw [decide_eq_false h0, Nat.ble_eq_true_of_le (show s.size ≤ 1000000 by omega)]
  simp only [beq_self_eq_true, Bool.and_self, cond_true, cond_false, tailW]
  cases hr : wordR c p w x with
  | false =>
    have : wordT c p w x = ⟨#[]⟩ := by unfold wordT; rw [hr]; rfl
    rw [this, beq_self_eq_true]
    rfl
  | true =>
    obtain ⟨e0, e1, e2, e3, e4, e5, e6⟩ := word_rd hr
    have hn : ((wordB c p w x).toList == (⟨#[]⟩ : ByteArray).toList) = false := by
      rw [beq_TS, ← Bool.not_eq_true, beq_S]
      intro he
      rw [he] at e1
      cases e1
    rw [e0, e2, e3, e4, e5, e6, hn, Nat.ble_eq_true_of_le (show (wordB c p w x).size ≤ 1000000 by omega), beq_self_eq_true]
    unfold okI
    simp only [cond_true, beq_self_eq_true, Bool.and_self]
    rfl
theorem rep_L (c p w x y z u v f : Int) : ∃ t, L (repB c p w x y z u v f) = [UInt8.ofNat (c / 256 ^ 3 % 256).toNat, UInt8.ofNat (c / 256 ^ 2 % 256).toNat, UInt8.ofNat (c / 256 ^ 1 % 256).toNat, UInt8.ofNat (c / 256 ^ 0 % 256).toNat, UInt8.ofNat (two p w / 256 ^ 0 % 256).toNat, UInt8.ofNat (x / 256 ^ 0 % 256).toNat, UInt8.ofNat (y / 256 ^ 0 % 256).toNat, UInt8.ofNat (z / 256 ^ 0 % 256).toNat, UInt8.ofNat (two u v / 256 ^ 0 % 256).toNat, UInt8.ofNat (f / 256 ^ 0 % 256).toNat] ++ t :=
  ⟨_, by unfold repB; rw [L_seal, L_app, L_app, L_app, L_app, L_app, L_app]; rfl⟩
theorem rep_rd {c p w x y z u v f : Int} (h : repR c p w x y z u v f = true) : repT c p w x y z u v f = repB c p w x y z u v f ∧ (repB c p w x y z u v f).size = 14 ∧ rpE (repB c p w x y z u v f) = 0 ∧ cyc (repB c p w x y z u v f) = c ∧ low (repB c p w x y z u v f) 4 = p ∧ high (repB c p w x y z u v f) 4 = w ∧ wI (strAt (repB c p w x y z u v f) 5) = x ∧ wI (strAt (repB c p w x y z u v f) 6) = y ∧ wI (strAt (repB c p w x y z u v f) 7) = z ∧ low (repB c p w x y z u v f) 8 = u ∧ high (repB c p w x y z u v f) 8 = v ∧ wI (strAt (repB c p w x y z u v f) 9) = f := by
  have hT : repT c p w x y z u v f = repB c p w x y z u v f := by unfold repT; rw [h]; rfl
  have h' := h
  unfold repR stR at h'
  simp only [Bool.and_eq_true, inB_iff] at h'
  obtain ⟨t, hl⟩ := rep_L c p w x y z u v f
  obtain ⟨k1, k2, k3⟩ := seal_chk (b := (((be 4 c ++ be 1 (two p w)) ++ ((be 1 x ++ be 1 y) ++ be 1 z)) ++ be 1 (two u v)) ++ be 1 f) (n := 10) (by simp only [ByteArray.size_append, be_size])
  have k1 : chkE (repB c p w x y z u v f) 10 = 0 := k1
  have k2 : (repB c p w x y z u v f).size = 14 := k2
  generalize hB : repB c p w x y z u v f = B at *
  have e1 : cyc B = c := by
    refine cyc_of (l := _) (by rw [hl]; rfl) h'.2.2.1.1 h'.2.2.1.2
  have s4 : strAt B ((4 : Nat) : Int) = two p w % 256 := bytesAt hl (by rw [← div0 (two p w)]; rfl)
  have s5 : strAt B ((5 : Nat) : Int) = x % 256 := bytesAt hl (by rw [← div0 (x)]; rfl)
  have s6 : strAt B ((6 : Nat) : Int) = y % 256 := bytesAt hl (by rw [← div0 (y)]; rfl)
  have s7 : strAt B ((7 : Nat) : Int) = z % 256 := bytesAt hl (by rw [← div0 (z)]; rfl)
  have s8 : strAt B ((8 : Nat) : Int) = two u v % 256 := bytesAt hl (by rw [← div0 (two u v)]; rfl)
  have s9 : strAt B ((9 : Nat) : Int) = f % 256 := bytesAt hl (by rw [← div0 (f)]; rfl)
  obtain ⟨e2, e3⟩ := low_of s4 (by omega) (by omega) (by omega) (by omega)
  obtain ⟨e7, e8⟩ := low_of s8 (by omega) (by omega) (by omega) (by omega)
  have e4 : wI (strAt B ((5 : Nat) : Int)) = x := by rw [wI_byte, s5]; omega
  have e5 : wI (strAt B ((6 : Nat) : Int)) = y := by rw [wI_byte, s6]; omega
  have e6 : wI (strAt B ((7 : Nat) : Int)) = z := by rw [wI_byte, s7]; omega
  have e9 : wI (strAt B ((9 : Nat) : Int)) = f := by rw [wI_byte, s9]; omega
  have e2 : low B 4 = p := e2
  have e3 : high B 4 = w := e3
  have e4 : wI (strAt B 5) = x := e4
  have e5 : wI (strAt B 6) = y := e5
  have e6 : wI (strAt B 7) = z := e6
  have e7 : low B 8 = u := e7
  have e8 : high B 8 = v := e8
  have e9 : wI (strAt B 9) = f := e9
  refine ⟨hT, k2, ?_, e1, e2, e3, e4, e5, e6, e7, e8, e9⟩
  have hw : rOk B = true := by unfold rOk; rw [e1, e2, e3, e4, e5, e6, e7, e8, e9, hT]; exact (beq_S _ _).2 rfl
  unfold rpE
  rw [k1, hw]
  rfl
theorem rp_ok {s : ByteArray} (h : rpE s = 0) : repT (cyc s) (low s 4) (high s 4) (wI (strAt s 5)) (wI (strAt s 6)) (wI (strAt s 7)) (low s 8) (high s 8) (wI (strAt s 9)) = s ∧ chkE s 10 = 0 := by
  unfold rpE at h
  cases hb : chkE s 10 != 0 with
  | true =>
    rw [hb] at h
    have h : chkE s 10 = 0 := h
    rw [h] at hb
    cases hb
  | false =>
    rw [hb] at h
    cases hw : rOk s with
    | false => rw [hw] at h; cases h
    | true => exact ⟨(beq_S _ _).1 hw, by simpa using hb⟩
theorem tailR (s : ByteArray) : (bif rpE s != (0 : Int) then some (SV.v (Bo true), M0) else some (SV.v (Bo ((repT (okI (rpE s == (0 : Int)) (cyc s)) (okI (rpE s == (0 : Int)) (low s (4 : Int))) (okI (rpE s == (0 : Int)) (high s (4 : Int))) (okI (rpE s == (0 : Int)) (wI (strAt s (5 : Int)))) (okI (rpE s == (0 : Int)) (wI (strAt s (6 : Int)))) (okI (rpE s == (0 : Int)) (wI (strAt s (7 : Int)))) (okI (rpE s == (0 : Int)) (low s (8 : Int))) (okI (rpE s == (0 : Int)) (high s (8 : Int))) (okI (rpE s == (0 : Int)) (wI (strAt s (9 : Int))))).toList == s.toList)), M0)) = some (SV.v (Bo true), M0) := by
  by_cases h : rpE s = 0
  · rw [h, beq_self_eq_true]
    unfold okI
    simp only [cond_true]
    rw [(rp_ok h).1, beq_self_eq_true]
    rfl
  · rw [bne_iff_ne.2 h]; rfl
theorem treePeerReports (c p w x y z u v f : Int) (s : ByteArray) : runG ΓP L0 Try.prog Try.f9 [.v (.agg #[I c, I p, I w, I x, I y, I z, I u, I v, I f]), .v (S s)] M0 = 
    (bif decide ((↑s.size : Int) > (100 : Int)) then some (.v (Bo true), M0) else (bif (repT c p w x y z u v f).size.ble (1000000) then (bif s.size.ble (1000000) then (bif s.size.ble (1000000) then (bif (repT c p w x y z u v f).toList == (repT c p w x y z u v f).toList then (bif (repT c p w x y z u v f).toList == { data := #[] : ByteArray }.toList then (bif okI (rpE s == (0 : Int)) (cyc s) == okI (rpE s == (0 : Int)) (cyc s) && (okI (rpE s == (0 : Int)) (low s (4 : Int)) == okI (rpE s == (0 : Int)) (low s (4 : Int)) && (okI (rpE s == (0 : Int)) (high s (4 : Int)) == okI (rpE s == (0 : Int)) (high s (4 : Int)) && (okI (rpE s == (0 : Int)) (wI (strAt s (5 : Int))) == okI (rpE s == (0 : Int)) (wI (strAt s (5 : Int))) && (okI (rpE s == (0 : Int)) (wI (strAt s (6 : Int))) == okI (rpE s == (0 : Int)) (wI (strAt s (6 : Int))) && (okI (rpE s == (0 : Int)) (wI (strAt s (7 : Int))) == okI (rpE s == (0 : Int)) (wI (strAt s (7 : Int))) && (okI (rpE s == (0 : Int)) (low s (8 : Int)) == okI (rpE s == (0 : Int)) (low s (8 : Int)) && (okI (rpE s == (0 : Int)) (high s (8 : Int)) == okI (rpE s == (0 : Int)) (high s (8 : Int)) && true) && (okI (rpE s == (0 : Int)) (wI (strAt s (9 : Int))) == okI (rpE s == (0 : Int)) (wI (strAt s (9 : Int))) && true))))))) then (bif rpE s == rpE s then (bif rpE s != (0 : Int) then some (.v (Bo true), M0) else some (.v (Bo ((repT (okI (rpE s == (0 : Int)) (cyc s)) (okI (rpE s == (0 : Int)) (low s (4 : Int))) (okI (rpE s == (0 : Int)) (high s (4 : Int))) (okI (rpE s == (0 : Int)) (wI (strAt s (5 : Int)))) (okI (rpE s == (0 : Int)) (wI (strAt s (6 : Int)))) (okI (rpE s == (0 : Int)) (wI (strAt s (7 : Int)))) (okI (rpE s == (0 : Int)) (low s (8 : Int))) (okI (rpE s == (0 : Int)) (high s (8 : Int))) (okI (rpE s == (0 : Int)) (wI (strAt s (9 : Int))))).toList == s.toList)), M0)) else some (.v (Bo false), M0)) else some (.v (Bo false), M0)) else (bif okI (rpE (repT c p w x y z u v f) == (0 : Int)) (cyc (repT c p w x y z u v f)) == c && (okI (rpE (repT c p w x y z u v f) == (0 : Int)) (low (repT c p w x y z u v f) (4 : Int)) == p && (okI (rpE (repT c p w x y z u v f) == (0 : Int)) (high (repT c p w x y z u v f) (4 : Int)) == w && (okI (rpE (repT c p w x y z u v f) == (0 : Int)) (wI (strAt (repT c p w x y z u v f) (5 : Int))) == x && (okI (rpE (repT c p w x y z u v f) == (0 : Int)) (wI (strAt (repT c p w x y z u v f) (6 : Int))) == y && (okI (rpE (repT c p w x y z u v f) == (0 : Int)) (wI (strAt (repT c p w x y z u v f) (7 : Int))) == z && (okI (rpE (repT c p w x y z u v f) == (0 : Int)) (low (repT c p w x y z u v f) (8 : Int)) == u && (okI (rpE (repT c p w x y z u v f) == (0 : Int)) (high (repT c p w x y z u v f) (8 : Int)) == v && true) && (okI (rpE (repT c p w x y z u v f) == (0 : Int)) (wI (strAt (repT c p w x y z u v f) (9 : Int))) == f && true))))))) then (bif rpE (repT c p w x y z u v f) == (0 : Int) then (bif okI (rpE s == (0 : Int)) (cyc s) == okI (rpE s == (0 : Int)) (cyc s) && (okI (rpE s == (0 : Int)) (low s (4 : Int)) == okI (rpE s == (0 : Int)) (low s (4 : Int)) && (okI (rpE s == (0 : Int)) (high s (4 : Int)) == okI (rpE s == (0 : Int)) (high s (4 : Int)) && (okI (rpE s == (0 : Int)) (wI (strAt s (5 : Int))) == okI (rpE s == (0 : Int)) (wI (strAt s (5 : Int))) && (okI (rpE s == (0 : Int)) (wI (strAt s (6 : Int))) == okI (rpE s == (0 : Int)) (wI (strAt s (6 : Int))) && (okI (rpE s == (0 : Int)) (wI (strAt s (7 : Int))) == okI (rpE s == (0 : Int)) (wI (strAt s (7 : Int))) && (okI (rpE s == (0 : Int)) (low s (8 : Int)) == okI (rpE s == (0 : Int)) (low s (8 : Int)) && (okI (rpE s == (0 : Int)) (high s (8 : Int)) == okI (rpE s == (0 : Int)) (high s (8 : Int)) && true) && (okI (rpE s == (0 : Int)) (wI (strAt s (9 : Int))) == okI (rpE s == (0 : Int)) (wI (strAt s (9 : Int))) && true))))))) then (bif rpE s == rpE s then (bif rpE s != (0 : Int) then some (.v (Bo true), M0) else some (.v (Bo ((repT (okI (rpE s == (0 : Int)) (cyc s)) (okI (rpE s == (0 : Int)) (low s (4 : Int))) (okI (rpE s == (0 : Int)) (high s (4 : Int))) (okI (rpE s == (0 : Int)) (wI (strAt s (5 : Int)))) (okI (rpE s == (0 : Int)) (wI (strAt s (6 : Int)))) (okI (rpE s == (0 : Int)) (wI (strAt s (7 : Int)))) (okI (rpE s == (0 : Int)) (low s (8 : Int))) (okI (rpE s == (0 : Int)) (high s (8 : Int))) (okI (rpE s == (0 : Int)) (wI (strAt s (9 : Int))))).toList == s.toList)), M0)) else some (.v (Bo false), M0)) else some (.v (Bo false), M0)) else some (.v (Bo false), M0)) else some (.v (Bo false), M0))) else some (.v (Bo false), M0)) else none) else none) else none)) := by kernel_rfl
theorem peerReports (c p w x y z u v f : Int) (s : ByteArray) : runG ΓP L0 Try.prog Try.f9 [.v (.agg #[I c, I p, I w, I x, I y, I z, I u, I v, I f]), .v (S s)] M0 = some (.v (.bool true), M0) := by
  rw [treePeerReports]
  by_cases h0 : (s.size : Int) > 100
  · rw [decide_eq_true h0]; rfl
  rw [decide_eq_false h0, Nat.ble_eq_true_of_le (show s.size ≤ 1000000 by omega)]
  simp only [beq_self_eq_true, Bool.and_self, cond_true, cond_false, tailR]
  cases hr : repR c p w x y z u v f with
  | false =>
    have : repT c p w x y z u v f = ⟨#[]⟩ := by unfold repT; rw [hr]; rfl
    rw [this, beq_self_eq_true]
    rfl
  | true =>
    obtain ⟨e0, e1, e2, e3, e4, e5, e6, e7, e8, e9, ea, eb⟩ := rep_rd hr
    have hn : ((repB c p w x y z u v f).toList == (⟨#[]⟩ : ByteArray).toList) = false := by
      rw [beq_TS, ← Bool.not_eq_true, beq_S]
      intro he
      rw [he] at e1
      cases e1
    rw [e0, e2, e3, e4, e5, e6, e7, e8, e9, ea, eb, hn, Nat.ble_eq_true_of_le (show (repB c p w x y z u v f).size ≤ 1000000 by omega), beq_self_eq_true]
    unfold okI
    simp only [cond_true, beq_self_eq_true, Bool.and_self]
    rfl
theorem com_L (c : Int) : ∃ t, L (comB c) = [UInt8.ofNat (c / 256 ^ 0 % 256).toNat] ++ t :=
  ⟨_, by unfold comB; rw [L_seal, L_app, L_app, L_app]; rfl⟩
theorem com_rd {c : Int} (h : comR c = true) : comT c = comB c ∧ (comB c).size = 8 ∧ coE (comB c) = 0 ∧ wI (strAt (comB c) 0) = c := by
  have hT : comT c = comB c := by unfold comT; rw [h]; rfl
  have h' := h
  unfold comR at h'
  simp only [Bool.and_eq_true, decide_eq_true_eq] at h'
  obtain ⟨t, hl⟩ := com_L c
  obtain ⟨k1, k2, k3⟩ := seal_chk (b := ((be 1 c ++ be 1 (xorI c 85)) ++ be 1 (xorI c 170)) ++ be 1 (xorI c 255)) (n := 4) (by simp only [ByteArray.size_append, be_size])
  have k1 : chkE (comB c) 4 = 0 := k1
  have k2 : (comB c).size = 8 := k2
  have s0 : strAt (comB c) ((0 : Nat) : Int) = c % 256 := bytesAt hl (by rw [← div0 (c)]; rfl)
  have e0 : wI (strAt (comB c) ((0 : Nat) : Int)) = c := by rw [wI_byte, s0]; omega
  have e0 : wI (strAt (comB c) 0) = c := e0
  refine ⟨hT, k2, ?_, e0⟩
  have hw : cOk (comB c) = true := by unfold cOk; rw [e0, hT]; exact (beq_S _ _).2 rfl
  unfold coE
  rw [k1, hw]
  rfl
theorem co_ok {s : ByteArray} (h : coE s = 0) : comT (wI (strAt s 0)) = s ∧ chkE s 4 = 0 := by
  unfold coE at h
  cases hb : chkE s 4 != 0 with
  | true =>
    rw [hb] at h
    have h : chkE s 4 = 0 := h
    rw [h] at hb
    cases hb
  | false =>
    rw [hb] at h
    cases hw : cOk s with
    | false => rw [hw] at h; cases h
    | true => exact ⟨(beq_S _ _).1 hw, by simpa using hb⟩
theorem tailC (s : ByteArray) : (bif coE s != (0 : Int) then some (SV.v (Bo true), M0) else some (SV.v (Bo ((comT (okI (coE s == (0 : Int)) (wI (strAt s (0 : Int))))).toList == s.toList)), M0)) = some (SV.v (Bo true), M0) := by
  by_cases h : coE s = 0
  · rw [h, beq_self_eq_true]
    unfold okI
    simp only [cond_true]
    rw [(co_ok h).1, beq_self_eq_true]
    rfl
  · rw [bne_iff_ne.2 h]; rfl
theorem treePeerCommands (c : Int) (s : ByteArray) : runG ΓP L0 Try.prog Try.f10 [.v (I c), .v (S s)] M0 = 
    (bif decide ((↑s.size : Int) > (100 : Int)) then some (.v (Bo true), M0) else (bif (comT c).size.ble (1000000) then (bif s.size.ble (1000000) then (bif s.size.ble (1000000) then (bif (comT c).toList == (comT c).toList then (bif (comT c).toList == { data := #[] : ByteArray }.toList then (bif okI (coE s == (0 : Int)) (wI (strAt s (0 : Int))) == okI (coE s == (0 : Int)) (wI (strAt s (0 : Int))) then (bif coE s == coE s then (bif coE s != (0 : Int) then some (.v (Bo true), M0) else some (.v (Bo ((comT (okI (coE s == (0 : Int)) (wI (strAt s (0 : Int))))).toList == s.toList)), M0)) else some (.v (Bo false), M0)) else some (.v (Bo false), M0)) else (bif okI (coE (comT c) == (0 : Int)) (wI (strAt (comT c) (0 : Int))) == c then (bif coE (comT c) == (0 : Int) then (bif okI (coE s == (0 : Int)) (wI (strAt s (0 : Int))) == okI (coE s == (0 : Int)) (wI (strAt s (0 : Int))) then (bif coE s == coE s then (bif coE s != (0 : Int) then some (.v (Bo true), M0) else some (.v (Bo ((comT (okI (coE s == (0 : Int)) (wI (strAt s (0 : Int))))).toList == s.toList)), M0)) else some (.v (Bo false), M0)) else some (.v (Bo false), M0)) else some (.v (Bo false), M0)) else some (.v (Bo false), M0))) else some (.v (Bo false), M0)) else none) else none) else none)) := by kernel_rfl
theorem peerCommands (c : Int) (s : ByteArray) : runG ΓP L0 Try.prog Try.f10 [.v (I c), .v (S s)] M0 = some (.v (.bool true), M0) := by
  rw [treePeerCommands]
  by_cases h0 : (s.size : Int) > 100
  · rw [decide_eq_true h0]; rfl
  rw [decide_eq_false h0, Nat.ble_eq_true_of_le (show s.size ≤ 1000000 by omega)]
  simp only [beq_self_eq_true, cond_true, cond_false, tailC]
  cases hr : comR c with
  | false =>
    have : comT c = ⟨#[]⟩ := by unfold comT; rw [hr]; rfl
    rw [this, beq_self_eq_true]
    rfl
  | true =>
    obtain ⟨e0, e1, e2, e3⟩ := com_rd hr
    have hn : ((comB c).toList == (⟨#[]⟩ : ByteArray).toList) = false := by
      rw [beq_TS, ← Bool.not_eq_true, beq_S]
      intro he
      rw [he] at e1
      cases e1
    rw [e0, e2, e3, hn, Nat.ble_eq_true_of_le (show (comB c).size ≤ 1000000 by omega), beq_self_eq_true]
    unfold okI
    simp only [cond_true, beq_self_eq_true]
    rfl
theorem treePeerApart (s : ByteArray) (k : Int) : runG ΓP L0 Try.prog Try.f12 [.v (S s), .v (I k)] M0 = 
    (bif decide ((↑s.size : Int) > (100 : Int)) then some (.v (Bo true), M0) else (bif s.size.ble (1000000) then (bif s.size.ble (1000000) then (bif s.size.ble (1000000) then (bif (([[Dat.n (wdE s)], [Dat.n (rpE s)], [Dat.n (coE s)]].getD (0 : Nat) []).headD (Dat.n (0 : Int))).toI == (0 : Int) then (bif (([[Dat.n (wdE s)], [Dat.n (rpE s)], [Dat.n (coE s)]].getD (1 : Nat) []).headD (Dat.n (0 : Int))).toI == (0 : Int) then (bif (([[Dat.n (wdE s)], [Dat.n (rpE s)], [Dat.n (coE s)]].getD (2 : Nat) []).headD (Dat.n (0 : Int))).toI == (0 : Int) then (bif (↑s.size : Int) == (0 : Int) then some (.v (Bo false), M0) else (bif IntKind.u64.wrap (↑s.size : Int) == (0 : Int) then none else (bif true && (decide ((0 : Int) ≤ wI ((IntKind.u64.wrap k).tmod (IntKind.u64.wrap (↑s.size : Int)))) && decide (wI ((IntKind.u64.wrap k).tmod (IntKind.u64.wrap (↑s.size : Int))) ≤ (↑s.size : Int))) then (bif (s.extract (0 : Nat) (wI ((IntKind.u64.wrap k).tmod (IntKind.u64.wrap (↑s.size : Int)))).toNat).size.ble (1000000) then (bif (s.extract (0 : Nat) (wI ((IntKind.u64.wrap k).tmod (IntKind.u64.wrap (↑s.size : Int)))).toNat).size.ble (1000000) then (bif (s.extract (0 : Nat) (wI ((IntKind.u64.wrap k).tmod (IntKind.u64.wrap (↑s.size : Int)))).toNat).size.ble (1000000) then some (.v (Bo false), M0) else none) else none) else none) else none))) else (bif (↑s.size : Int) == (0 : Int) then some (.v (Bo false), M0) else (bif IntKind.u64.wrap (↑s.size : Int) == (0 : Int) then none else (bif true && (decide ((0 : Int) ≤ wI ((IntKind.u64.wrap k).tmod (IntKind.u64.wrap (↑s.size : Int)))) && decide (wI ((IntKind.u64.wrap k).tmod (IntKind.u64.wrap (↑s.size : Int))) ≤ (↑s.size : Int))) then (bif (s.extract (0 : Nat) (wI ((IntKind.u64.wrap k).tmod (IntKind.u64.wrap (↑s.size : Int)))).toNat).size.ble (1000000) then (bif (s.extract (0 : Nat) (wI ((IntKind.u64.wrap k).tmod (IntKind.u64.wrap (↑s.size : Int)))).toNat).size.ble (1000000) then (bif (s.extract (0 : Nat) (wI ((IntKind.u64.wrap k).tmod (IntKind.u64.wrap (↑s.size : Int)))).toNat).size.ble (1000000) then some (.v (Bo false), M0) else none) else none) else none) else none)))) else (bif (([[Dat.n (wdE s)], [Dat.n (rpE s)], [Dat.n (coE s)]].getD (2 : Nat) []).headD (Dat.n (0 : Int))).toI == (0 : Int) then (bif (↑s.size : Int) == (0 : Int) then some (.v (Bo false), M0) else (bif IntKind.u64.wrap (↑s.size : Int) == (0 : Int) then none else (bif true && (decide ((0 : Int) ≤ wI ((IntKind.u64.wrap k).tmod (IntKind.u64.wrap (↑s.size : Int)))) && decide (wI ((IntKind.u64.wrap k).tmod (IntKind.u64.wrap (↑s.size : Int))) ≤ (↑s.size : Int))) then (bif (s.extract (0 : Nat) (wI ((IntKind.u64.wrap k).tmod (IntKind.u64.wrap (↑s.size : Int)))).toNat).size.ble (1000000) then (bif (s.extract (0 : Nat) (wI ((IntKind.u64.wrap k).tmod (IntKind.u64.wrap (↑s.size : Int)))).toNat).size.ble (1000000) then (bif (s.extract (0 : Nat) (wI ((IntKind.u64.wrap k).tmod (IntKind.u64.wrap (↑s.size : Int)))).toNat).size.ble (1000000) then some (.v (Bo false), M0) else none) else none) else none) else none))) else (bif (↑s.size : Int) == (0 : Int) then some (.v (Bo false), M0) else (bif IntKind.u64.wrap (↑s.size : Int) == (0 : Int) then none else (bif true && (decide ((0 : Int) ≤ wI ((IntKind.u64.wrap k).tmod (IntKind.u64.wrap (↑s.size : Int)))) && decide (wI ((IntKind.u64.wrap k).tmod (IntKind.u64.wrap (↑s.size : Int))) ≤ (↑s.size : Int))) then (bif (s.extract (0 : Nat) (wI ((IntKind.u64.wrap k).tmod (IntKind.u64.wrap (↑s.size : Int)))).toNat).size.ble (1000000) then (bif (s.extract (0 : Nat) (wI ((IntKind.u64.wrap k).tmod (IntKind.u64.wrap (↑s.size : Int)))).toNat).size.ble (1000000) then (bif (s.extract (0 : Nat) (wI ((IntKind.u64.wrap k).tmod (IntKind.u64.wrap (↑s.size : Int)))).toNat).size.ble (1000000) then (bif wdE s != (0 : Int) then (bif rpE s != (0 : Int) then (bif coE s != (0 : Int) then some (.v (Bo true), M0) else some (.v (Bo (coE (s.extract (0 : Nat) (wI ((IntKind.u64.wrap k).tmod (IntKind.u64.wrap (↑s.size : Int)))).toNat) == (5 : Int))), M0)) else (bif rpE (s.extract (0 : Nat) (wI ((IntKind.u64.wrap k).tmod (IntKind.u64.wrap (↑s.size : Int)))).toNat) == (5 : Int) then (bif coE s != (0 : Int) then some (.v (Bo true), M0) else some (.v (Bo (coE (s.extract (0 : Nat) (wI ((IntKind.u64.wrap k).tmod (IntKind.u64.wrap (↑s.size : Int)))).toNat) == (5 : Int))), M0)) else some (.v (Bo false), M0))) else (bif wdE (s.extract (0 : Nat) (wI ((IntKind.u64.wrap k).tmod (IntKind.u64.wrap (↑s.size : Int)))).toNat) == (5 : Int) then (bif rpE s != (0 : Int) then (bif coE s != (0 : Int) then some (.v (Bo true), M0) else some (.v (Bo (coE (s.extract (0 : Nat) (wI ((IntKind.u64.wrap k).tmod (IntKind.u64.wrap (↑s.size : Int)))).toNat) == (5 : Int))), M0)) else (bif rpE (s.extract (0 : Nat) (wI ((IntKind.u64.wrap k).tmod (IntKind.u64.wrap (↑s.size : Int)))).toNat) == (5 : Int) then (bif coE s != (0 : Int) then some (.v (Bo true), M0) else some (.v (Bo (coE (s.extract (0 : Nat) (wI ((IntKind.u64.wrap k).tmod (IntKind.u64.wrap (↑s.size : Int)))).toNat) == (5 : Int))), M0)) else some (.v (Bo false), M0))) else some (.v (Bo false), M0))) else none) else none) else none) else none))))) else (bif (([[Dat.n (wdE s)], [Dat.n (rpE s)], [Dat.n (coE s)]].getD (1 : Nat) []).headD (Dat.n (0 : Int))).toI == (0 : Int) then (bif (([[Dat.n (wdE s)], [Dat.n (rpE s)], [Dat.n (coE s)]].getD (2 : Nat) []).headD (Dat.n (0 : Int))).toI == (0 : Int) then (bif (↑s.size : Int) == (0 : Int) then some (.v (Bo false), M0) else (bif IntKind.u64.wrap (↑s.size : Int) == (0 : Int) then none else (bif true && (decide ((0 : Int) ≤ wI ((IntKind.u64.wrap k).tmod (IntKind.u64.wrap (↑s.size : Int)))) && decide (wI ((IntKind.u64.wrap k).tmod (IntKind.u64.wrap (↑s.size : Int))) ≤ (↑s.size : Int))) then (bif (s.extract (0 : Nat) (wI ((IntKind.u64.wrap k).tmod (IntKind.u64.wrap (↑s.size : Int)))).toNat).size.ble (1000000) then (bif (s.extract (0 : Nat) (wI ((IntKind.u64.wrap k).tmod (IntKind.u64.wrap (↑s.size : Int)))).toNat).size.ble (1000000) then (bif (s.extract (0 : Nat) (wI ((IntKind.u64.wrap k).tmod (IntKind.u64.wrap (↑s.size : Int)))).toNat).size.ble (1000000) then some (.v (Bo false), M0) else none) else none) else none) else none))) else (bif (↑s.size : Int) == (0 : Int) then some (.v (Bo false), M0) else (bif IntKind.u64.wrap (↑s.size : Int) == (0 : Int) then none else (bif true && (decide ((0 : Int) ≤ wI ((IntKind.u64.wrap k).tmod (IntKind.u64.wrap (↑s.size : Int)))) && decide (wI ((IntKind.u64.wrap k).tmod (IntKind.u64.wrap (↑s.size : Int))) ≤ (↑s.size : Int))) then (bif (s.extract (0 : Nat) (wI ((IntKind.u64.wrap k).tmod (IntKind.u64.wrap (↑s.size : Int)))).toNat).size.ble (1000000) then (bif (s.extract (0 : Nat) (wI ((IntKind.u64.wrap k).tmod (IntKind.u64.wrap (↑s.size : Int)))).toNat).size.ble (1000000) then (bif (s.extract (0 : Nat) (wI ((IntKind.u64.wrap k).tmod (IntKind.u64.wrap (↑s.size : Int)))).toNat).size.ble (1000000) then (bif wdE s != (0 : Int) then (bif rpE s != (0 : Int) then (bif coE s != (0 : Int) then some (.v (Bo true), M0) else some (.v (Bo (coE (s.extract (0 : Nat) (wI ((IntKind.u64.wrap k).tmod (IntKind.u64.wrap (↑s.size : Int)))).toNat) == (5 : Int))), M0)) else (bif rpE (s.extract (0 : Nat) (wI ((IntKind.u64.wrap k).tmod (IntKind.u64.wrap (↑s.size : Int)))).toNat) == (5 : Int) then (bif coE s != (0 : Int) then some (.v (Bo true), M0) else some (.v (Bo (coE (s.extract (0 : Nat) (wI ((IntKind.u64.wrap k).tmod (IntKind.u64.wrap (↑s.size : Int)))).toNat) == (5 : Int))), M0)) else some (.v (Bo false), M0))) else (bif wdE (s.extract (0 : Nat) (wI ((IntKind.u64.wrap k).tmod (IntKind.u64.wrap (↑s.size : Int)))).toNat) == (5 : Int) then (bif rpE s != (0 : Int) then (bif coE s != (0 : Int) then some (.v (Bo true), M0) else some (.v (Bo (coE (s.extract (0 : Nat) (wI ((IntKind.u64.wrap k).tmod (IntKind.u64.wrap (↑s.size : Int)))).toNat) == (5 : Int))), M0)) else (bif rpE (s.extract (0 : Nat) (wI ((IntKind.u64.wrap k).tmod (IntKind.u64.wrap (↑s.size : Int)))).toNat) == (5 : Int) then (bif coE s != (0 : Int) then some (.v (Bo true), M0) else some (.v (Bo (coE (s.extract (0 : Nat) (wI ((IntKind.u64.wrap k).tmod (IntKind.u64.wrap (↑s.size : Int)))).toNat) == (5 : Int))), M0)) else some (.v (Bo false), M0))) else some (.v (Bo false), M0))) else none) else none) else none) else none)))) else (bif (([[Dat.n (wdE s)], [Dat.n (rpE s)], [Dat.n (coE s)]].getD (2 : Nat) []).headD (Dat.n (0 : Int))).toI == (0 : Int) then (bif (↑s.size : Int) == (0 : Int) then some (.v (Bo false), M0) else (bif IntKind.u64.wrap (↑s.size : Int) == (0 : Int) then none else (bif true && (decide ((0 : Int) ≤ wI ((IntKind.u64.wrap k).tmod (IntKind.u64.wrap (↑s.size : Int)))) && decide (wI ((IntKind.u64.wrap k).tmod (IntKind.u64.wrap (↑s.size : Int))) ≤ (↑s.size : Int))) then (bif (s.extract (0 : Nat) (wI ((IntKind.u64.wrap k).tmod (IntKind.u64.wrap (↑s.size : Int)))).toNat).size.ble (1000000) then (bif (s.extract (0 : Nat) (wI ((IntKind.u64.wrap k).tmod (IntKind.u64.wrap (↑s.size : Int)))).toNat).size.ble (1000000) then (bif (s.extract (0 : Nat) (wI ((IntKind.u64.wrap k).tmod (IntKind.u64.wrap (↑s.size : Int)))).toNat).size.ble (1000000) then (bif wdE s != (0 : Int) then (bif rpE s != (0 : Int) then (bif coE s != (0 : Int) then some (.v (Bo true), M0) else some (.v (Bo (coE (s.extract (0 : Nat) (wI ((IntKind.u64.wrap k).tmod (IntKind.u64.wrap (↑s.size : Int)))).toNat) == (5 : Int))), M0)) else (bif rpE (s.extract (0 : Nat) (wI ((IntKind.u64.wrap k).tmod (IntKind.u64.wrap (↑s.size : Int)))).toNat) == (5 : Int) then (bif coE s != (0 : Int) then some (.v (Bo true), M0) else some (.v (Bo (coE (s.extract (0 : Nat) (wI ((IntKind.u64.wrap k).tmod (IntKind.u64.wrap (↑s.size : Int)))).toNat) == (5 : Int))), M0)) else some (.v (Bo false), M0))) else (bif wdE (s.extract (0 : Nat) (wI ((IntKind.u64.wrap k).tmod (IntKind.u64.wrap (↑s.size : Int)))).toNat) == (5 : Int) then (bif rpE s != (0 : Int) then (bif coE s != (0 : Int) then some (.v (Bo true), M0) else some (.v (Bo (coE (s.extract (0 : Nat) (wI ((IntKind.u64.wrap k).tmod (IntKind.u64.wrap (↑s.size : Int)))).toNat) == (5 : Int))), M0)) else (bif rpE (s.extract (0 : Nat) (wI ((IntKind.u64.wrap k).tmod (IntKind.u64.wrap (↑s.size : Int)))).toNat) == (5 : Int) then (bif coE s != (0 : Int) then some (.v (Bo true), M0) else some (.v (Bo (coE (s.extract (0 : Nat) (wI ((IntKind.u64.wrap k).tmod (IntKind.u64.wrap (↑s.size : Int)))).toNat) == (5 : Int))), M0)) else some (.v (Bo false), M0))) else some (.v (Bo false), M0))) else none) else none) else none) else none))) else some (.v (Bo true), M0)))) else none) else none) else none)) := by kernel_rfl
theorem chk_short {s : ByteArray} {n : Int} (h : (s.size : Int) < n + 4) : chkE s n = 5 := by unfold chkE; rw [if_pos h]
theorem chk_bne {s : ByteArray} {n : Int} (h : (s.size : Int) ≠ n + 4) : chkE s n ≠ 0 := fun he => h (chk0 he)
theorem wdE_short {s : ByteArray} (h : s.size < 10) : wdE s = 5 := by
  unfold wdE; rw [chk_short (by omega)]; rfl
theorem rpE_short {s : ByteArray} (h : s.size < 14) : rpE s = 5 := by
  unfold rpE; rw [chk_short (by omega)]; rfl
theorem coE_short {s : ByteArray} (h : s.size < 8) : coE s = 5 := by
  unfold coE; rw [chk_short (by omega)]; rfl
theorem cut_at (s : ByteArray) (k : Int) (h0 : 0 < s.size) (h : s.size ≤ 100) : ∃ j : Nat, j < s.size ∧ wI ((IntKind.u64.wrap k).tmod (IntKind.u64.wrap (s.size : Int))) = (j : Int) := by
  have e : IntKind.u64.wrap (s.size : Int) = (s.size : Int) := by rw [be_u64]; omega
  have h1 : 0 ≤ IntKind.u64.wrap k := by rw [be_u64]; omega
  rw [e, Int.tmod_eq_emod_of_nonneg h1]
  have h2 := Int.emod_nonneg (IntKind.u64.wrap k) (show (s.size : Int) ≠ 0 by omega)
  have h3 := Int.emod_lt_of_pos (IntKind.u64.wrap k) (show (0 : Int) < (s.size : Int) by omega)
  rw [wI_id (by omega)]
  exact ⟨(IntKind.u64.wrap k % (s.size : Int)).toNat, by omega, by omega⟩
theorem peerApart (s : ByteArray) (k : Int) : runG ΓP L0 Try.prog Try.f12 [.v (S s), .v (I k)] M0 = some (.v (.bool true), M0) := by
  rw [treePeerApart]
  by_cases h0 : (s.size : Int) > 100
  · rw [decide_eq_true h0]; rfl
  have t0 : ((([[Dat.n (wdE s)], [Dat.n (rpE s)], [Dat.n (coE s)]] : List (List Dat)).getD (0 : Nat) []).headD (Dat.n (0 : Int))).toI = wdE s := rfl
  have t1 : ((([[Dat.n (wdE s)], [Dat.n (rpE s)], [Dat.n (coE s)]] : List (List Dat)).getD (1 : Nat) []).headD (Dat.n (0 : Int))).toI = rpE s := rfl
  have t2 : ((([[Dat.n (wdE s)], [Dat.n (rpE s)], [Dat.n (coE s)]] : List (List Dat)).getD (2 : Nat) []).headD (Dat.n (0 : Int))).toI = coE s := rfl
  rw [decide_eq_false h0, Nat.ble_eq_true_of_le (show s.size ≤ 1000000 by omega)]
  simp only [t0, t1, t2, cond_true, cond_false, Bool.true_and]
  have a1 : wdE s = 0 → s.size = 10 := fun h => by have := chk0 (wd_ok h).2; omega
  have b1 : rpE s = 0 → s.size = 14 := fun h => by have := chk0 (rp_ok h).2; omega
  have c1 : coE s = 0 → s.size = 8 := fun h => by have := chk0 (co_ok h).2; omega
  by_cases hz : s.size = 0
  · rw [beq_eq_false_iff_ne.2 (fun h => by have := a1 h; omega), beq_eq_false_iff_ne.2 (fun h => by have := b1 h; omega), beq_eq_false_iff_ne.2 (fun h => by have := c1 h; omega)]
    rfl
  obtain ⟨j, hj, hm⟩ := cut_at s k (by omega) (by omega)
  have e : IntKind.u64.wrap (s.size : Int) = (s.size : Int) := by rw [be_u64]; omega
  have hx : (s.extract 0 j).size = j := by rw [ByteArray.size_extract]; omega
  rw [hm, e]
  simp only [Int.toNat_natCast, beq_eq_false_iff_ne.2 (show (s.size : Int) ≠ 0 by omega), decide_eq_true (show (0 : Int) ≤ (j : Int) by omega), decide_eq_true (show (j : Int) ≤ (s.size : Int) by omega), Nat.ble_eq_true_of_le (show (s.extract 0 j).size ≤ 1000000 by omega), cond_true, cond_false, Bool.and_self]
  by_cases ha : wdE s = 0
  · have := a1 ha
    rw [ha, beq_eq_false_iff_ne.2 (fun h : rpE s = 0 => by have := b1 h; omega), beq_eq_false_iff_ne.2 (fun h : coE s = 0 => by have := c1 h; omega), wdE_short (by omega)]
    simp [bne, beq_eq_false_iff_ne.2 (fun h : rpE s = 0 => by have := b1 h; omega), beq_eq_false_iff_ne.2 (fun h : coE s = 0 => by have := c1 h; omega)]
    rfl
  by_cases hb : rpE s = 0
  · have := b1 hb
    rw [hb, beq_eq_false_iff_ne.2 ha, beq_eq_false_iff_ne.2 (fun h : coE s = 0 => by have := c1 h; omega), rpE_short (by omega)]
    simp [bne, beq_eq_false_iff_ne.2 ha, beq_eq_false_iff_ne.2 (fun h : coE s = 0 => by have := c1 h; omega)]
    rfl
  by_cases hc : coE s = 0
  · have := c1 hc
    rw [hc, beq_eq_false_iff_ne.2 ha, beq_eq_false_iff_ne.2 hb, coE_short (by omega)]
    simp [bne, beq_eq_false_iff_ne.2 ha, beq_eq_false_iff_ne.2 hb]
    rfl
  rw [beq_eq_false_iff_ne.2 ha, beq_eq_false_iff_ne.2 hb, beq_eq_false_iff_ne.2 hc]
  rfl
end Go.Proofs.Yteapngnpenmfaaa

