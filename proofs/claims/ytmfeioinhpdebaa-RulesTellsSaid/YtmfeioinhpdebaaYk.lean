/-
  Of any rules which one is wrong first, and phases, are the document's: a law of rules over values; a copy of a row that may have nothing in it.
-/
import Derived.Test.YtmfeioinhpdebaaYe
import Derived.Test.YtmfeioinhpdebaaYd
namespace Go.Proofs.Ytmfeioinhpdebaa
open Go Go.Proofs Go.Sx
set_option linter.unusedVariables false
/-! norm -/
/-! cast -/
/-! rep [CK.sl 39 [CK0.num IntKind.i64, CK0.num IntKind.i64], .num .i64, .num .i64, .num .i64, .num .i64] => kPh -/
/-! rep (dropT (0 : Nat) (L.getD k.toNat [])) => (L.getD k.toNat []) -/
/-! rep (dropT (0 : Nat) (L2.getD k.toNat [])) => (L2.getD k.toNat []) -/
/-! rep (dropT (0 : Nat) (L.getD i.toNat [])) => (L.getD i.toNat []) -/
/-! rep (dropT (0 : Nat) (M.getD k.toNat [])) => (M.getD k.toNat []) -/
/-! repp (List.brecOn.go (motive := fun x => Nat → List Dat → List (List Dat)) M List.set._f).1 k.toNat ==> M.set k.toNat -/
/-! rep (((L.getD i.toNat []).headD (Dat.n (0 : Int))).toL) => (phA L i) -/
/-! rep ((L.getD i.toNat []).headD (Dat.n (0 : Int))).toL => (phA L i) -/
/-! rep (((L.getD i.toNat []).tail.headD (Dat.n (0 : Int))).toI) => (phG L i) -/
/-! rep ((L.getD i.toNat []).tail.headD (Dat.n (0 : Int))).toI => (phG L i) -/
/-! rep (((L.getD i.toNat []).tail.tail.headD (Dat.n (0 : Int))).toI) => (phV L i) -/
/-! rep ((L.getD i.toNat []).tail.tail.headD (Dat.n (0 : Int))).toI => (phV L i) -/
/-! rep (((L.getD i.toNat []).tail.tail.tail.headD (Dat.n (0 : Int))).toI) => (phM L i) -/
/-! rep ((L.getD i.toNat []).tail.tail.tail.headD (Dat.n (0 : Int))).toI => (phM L i) -/
/-! rep (((L.getD i.toNat []).tail.tail.tail.tail.headD (Dat.n (0 : Int))).toI) => (phU L i) -/
/-! rep ((L.getD i.toNat []).tail.tail.tail.tail.headD (Dat.n (0 : Int))).toI => (phU L i) -/
/-! rep (((L2.getD i.toNat []).headD (Dat.n (0 : Int))).toL) => (phA L2 i) -/
/-! rep ((L2.getD i.toNat []).headD (Dat.n (0 : Int))).toL => (phA L2 i) -/
/-! rep (((L2.getD i.toNat []).tail.headD (Dat.n (0 : Int))).toI) => (phG L2 i) -/
/-! rep ((L2.getD i.toNat []).tail.headD (Dat.n (0 : Int))).toI => (phG L2 i) -/
/-! rep (((L2.getD i.toNat []).tail.tail.headD (Dat.n (0 : Int))).toI) => (phV L2 i) -/
/-! rep ((L2.getD i.toNat []).tail.tail.headD (Dat.n (0 : Int))).toI => (phV L2 i) -/
/-! rep (((L2.getD i.toNat []).tail.tail.tail.headD (Dat.n (0 : Int))).toI) => (phM L2 i) -/
/-! rep ((L2.getD i.toNat []).tail.tail.tail.headD (Dat.n (0 : Int))).toI => (phM L2 i) -/
/-! rep (((L2.getD i.toNat []).tail.tail.tail.tail.headD (Dat.n (0 : Int))).toI) => (phU L2 i) -/
/-! rep ((L2.getD i.toNat []).tail.tail.tail.tail.headD (Dat.n (0 : Int))).toI => (phU L2 i) -/
/-! rep (((M.getD i.toNat []).headD (Dat.n (0 : Int))).toL) => (phA M i) -/
/-! rep ((M.getD i.toNat []).headD (Dat.n (0 : Int))).toL => (phA M i) -/
/-! rep (((M.getD i.toNat []).tail.headD (Dat.n (0 : Int))).toI) => (phG M i) -/
/-! rep ((M.getD i.toNat []).tail.headD (Dat.n (0 : Int))).toI => (phG M i) -/
/-! rep (((M.getD i.toNat []).tail.tail.headD (Dat.n (0 : Int))).toI) => (phV M i) -/
/-! rep ((M.getD i.toNat []).tail.tail.headD (Dat.n (0 : Int))).toI => (phV M i) -/
/-! rep (((M.getD i.toNat []).tail.tail.tail.headD (Dat.n (0 : Int))).toI) => (phM M i) -/
/-! rep ((M.getD i.toNat []).tail.tail.tail.headD (Dat.n (0 : Int))).toI => (phM M i) -/
/-! rep (((M.getD i.toNat []).tail.tail.tail.tail.headD (Dat.n (0 : Int))).toI) => (phU M i) -/
/-! rep ((M.getD i.toNat []).tail.tail.tail.tail.headD (Dat.n (0 : Int))).toI => (phU M i) -/
/-! rep (((L.getD k.toNat []).headD (Dat.n (0 : Int))).toL) => (phA L k) -/
/-! rep ((L.getD k.toNat []).headD (Dat.n (0 : Int))).toL => (phA L k) -/
/-! rep (((L.getD k.toNat []).tail.headD (Dat.n (0 : Int))).toI) => (phG L k) -/
/-! rep ((L.getD k.toNat []).tail.headD (Dat.n (0 : Int))).toI => (phG L k) -/
/-! rep (((L.getD k.toNat []).tail.tail.headD (Dat.n (0 : Int))).toI) => (phV L k) -/
/-! rep ((L.getD k.toNat []).tail.tail.headD (Dat.n (0 : Int))).toI => (phV L k) -/
/-! rep (((L.getD k.toNat []).tail.tail.tail.headD (Dat.n (0 : Int))).toI) => (phM L k) -/
/-! rep ((L.getD k.toNat []).tail.tail.tail.headD (Dat.n (0 : Int))).toI => (phM L k) -/
/-! rep (((L.getD k.toNat []).tail.tail.tail.tail.headD (Dat.n (0 : Int))).toI) => (phU L k) -/
/-! rep ((L.getD k.toNat []).tail.tail.tail.tail.headD (Dat.n (0 : Int))).toI => (phU L k) -/
/-! rep (((L2.getD k.toNat []).headD (Dat.n (0 : Int))).toL) => (phA L2 k) -/
/-! rep ((L2.getD k.toNat []).headD (Dat.n (0 : Int))).toL => (phA L2 k) -/
/-! rep (((L2.getD k.toNat []).tail.headD (Dat.n (0 : Int))).toI) => (phG L2 k) -/
/-! rep ((L2.getD k.toNat []).tail.headD (Dat.n (0 : Int))).toI => (phG L2 k) -/
/-! rep (((L2.getD k.toNat []).tail.tail.headD (Dat.n (0 : Int))).toI) => (phV L2 k) -/
/-! rep ((L2.getD k.toNat []).tail.tail.headD (Dat.n (0 : Int))).toI => (phV L2 k) -/
/-! rep (((L2.getD k.toNat []).tail.tail.tail.headD (Dat.n (0 : Int))).toI) => (phM L2 k) -/
/-! rep ((L2.getD k.toNat []).tail.tail.tail.headD (Dat.n (0 : Int))).toI => (phM L2 k) -/
/-! rep (((L2.getD k.toNat []).tail.tail.tail.tail.headD (Dat.n (0 : Int))).toI) => (phU L2 k) -/
/-! rep ((L2.getD k.toNat []).tail.tail.tail.tail.headD (Dat.n (0 : Int))).toI => (phU L2 k) -/
/-! rep (((M.getD k.toNat []).headD (Dat.n (0 : Int))).toL) => (phA M k) -/
/-! rep ((M.getD k.toNat []).headD (Dat.n (0 : Int))).toL => (phA M k) -/
/-! rep (((M.getD k.toNat []).tail.headD (Dat.n (0 : Int))).toI) => (phG M k) -/
/-! rep ((M.getD k.toNat []).tail.headD (Dat.n (0 : Int))).toI => (phG M k) -/
/-! rep (((M.getD k.toNat []).tail.tail.headD (Dat.n (0 : Int))).toI) => (phV M k) -/
/-! rep ((M.getD k.toNat []).tail.tail.headD (Dat.n (0 : Int))).toI => (phV M k) -/
/-! rep (((M.getD k.toNat []).tail.tail.tail.headD (Dat.n (0 : Int))).toI) => (phM M k) -/
/-! rep ((M.getD k.toNat []).tail.tail.tail.headD (Dat.n (0 : Int))).toI => (phM M k) -/
/-! rep (((M.getD k.toNat []).tail.tail.tail.tail.headD (Dat.n (0 : Int))).toI) => (phU M k) -/
/-! rep ((M.getD k.toNat []).tail.tail.tail.tail.headD (Dat.n (0 : Int))).toI => (phU M k) -/
/-! rep (dropT (0 : Nat) (L.getD p.toNat [])) => (L.getD p.toNat []) -/
/-! rep ((L.getD p.toNat []).headD (Dat.n (0 : Int))).toL => (phA L p) -/
/-! rep ((L.getD p.toNat []).tail.headD (Dat.n (0 : Int))).toI => (phG L p) -/
/-! rep ((L.getD p.toNat []).tail.tail.headD (Dat.n (0 : Int))).toI => (phV L p) -/
/-! rep ((L.getD p.toNat []).tail.tail.tail.headD (Dat.n (0 : Int))).toI => (phM L p) -/
/-! rep ((L.getD p.toNat []).tail.tail.tail.tail.headD (Dat.n (0 : Int))).toI => (phU L p) -/
noncomputable def Γt0 : Orc := { ΓNi with av := true }
theorem Okt0 : Γt0.Ok Try.prog := ⟨OkNi.call, OkNi.rd, OkNi.eqv⟩
/-! A copy of a row that may have nothing in it: that one may be none, or lead somewhere. -/
set_option maxRecDepth 20000 in
theorem runCz (own mark : Bool) : runG Γt0 L0 Try.prog Try.f72 [.v (.slice none 0 0)] ⟨[], [], [rP [] own mark]⟩ = some (.row 1, ⟨[], [], [rP [] own mark, rP [] true false]⟩) := by kernel_rfl
set_option maxRecDepth 20000 in
theorem runCy (ad : Addr) (own mark : Bool) : runG Γt0 L0 Try.prog Try.f72 [.v (.slice (some ad) 0 0)] ⟨[], [], [rP [] own mark]⟩ = some (.row 1, ⟨[], [], [rP [] own mark, rP [] true false]⟩) := by kernel_rfl
set_option maxRecDepth 20000 in
theorem runCx (b o c : Nat) (own mark : Bool) : runG Γt0 L0 Try.prog Try.f72 [.v (.slice (some ⟨b, o, none⟩) 0 (Nat.succ c))] ⟨[], [], [rP [] own mark]⟩ = some (.row 1, ⟨[], [], [rP [] own mark, rP [] true false]⟩) := by kernel_rfl
set_option maxRecDepth 20000 in
theorem runCn (L : List (List Dat)) (own : Bool) (mark : Bool) : runG Γt0 L0 Try.prog Try.f72 [.row 0] ⟨[], [], [rP L own mark]⟩ = 
    (bif Nat.blt (0 : Nat) L.length then (bif decide (((0 : Nat) + L.length) * (16 : Nat) ≤ (140737488355328 : Nat) ∧ (0 : Nat) + L.length ≤ (9223372036854775807 : Nat)) then some (.row 1, ⟨[], [], [.live ⟨39, [.num .i64, .num .i64], L, own, mark⟩, .live ⟨39, [.num .i64, .num .i64], L, true, false⟩]⟩) else none) else none) := by kernel_rfl

def gCl2 (xs : List SV) (m : Mem) : Option (Bool × SV × Mem) :=
  match xs, m with
  | [.row 0], ⟨[], [], [.live ⟨39, [.num .i64, .num .i64], L, own, mark⟩]⟩ => some (Nat.ble L.length 1000000, .row 1, ⟨[], [], [rP L own mark, rP L true false]⟩)
  | _, _ => none
theorem gCl2_ok : ∀ xs m r m', gCl2 xs m = some (true, r, m') → CallOk Try.prog 72 xs m r m' := by
  intro xs m r m' h
  unfold gCl2 at h
  split at h
  · rename_i L own mark
    obtain ⟨h1, rfl, rfl⟩ := some_t2 h
    have h2 := Nat.le_of_ble_eq_true h1
    cases L with
    | cons l L =>
      refine runOk (Λ := L0) Okt0 Try.func72 rfl (fun z _ _ => l0Ok' _ z) ?_
      refine (runCn (l :: L) own mark).trans ?_
      rw [decide_eq_true (show (0 + (l :: L).length) * 16 ≤ 140737488355328 ∧ 0 + (l :: L).length ≤ 9223372036854775807 by omega)]
      rfl
    | nil =>
      have kz : CallOk Try.prog 72 [.v (.slice none 0 0)] ⟨[], [], [rP [] own mark]⟩ (.row 1) ⟨[], [], [rP [] own mark, rP [] true false]⟩ := runOk (Λ := L0) Okt0 Try.func72 rfl (fun z _ _ => l0Ok' _ z) (runCz own mark)
      have ky : ∀ ad, CallOk Try.prog 72 [.v (.slice (some ad) 0 0)] ⟨[], [], [rP [] own mark]⟩ (.row 1) ⟨[], [], [rP [] own mark, rP [] true false]⟩ := fun ad => runOk (Λ := L0) Okt0 Try.func72 rfl (fun z _ _ => l0Ok' _ z) (runCy ad own mark)
      have kx : ∀ b o c, CallOk Try.prog 72 [.v (.slice (some ⟨b, o, none⟩) 0 (Nat.succ c))] ⟨[], [], [rP [] own mark]⟩ (.row 1) ⟨[], [], [rP [] own mark, rP [] true false]⟩ := fun b o c => runOk (Λ := L0) Okt0 Try.func72 rfl (fun z _ _ => l0Ok' _ z) (runCx b o c own mark)
      intro z V vs hl hM hA
      match vs, hA with
      | [u], hA =>
        obtain ⟨u0, hu0, hok⟩ := hM.rows 0 ⟨39, [.num .i64, .num .i64], [], own, mark⟩ rfl
        have hu : u = u0 := hA.1.2.1 u0 hu0
        obtain ⟨L0', _, hlk, hrd⟩ := hok.get hM.stay_lt
        have e0 : L0' = [] := by
          cases L0' with
          | nil => rfl
          | cons a b => exact hlk.elim
        subst e0
        rcases hrd with ⟨⟨a, h5⟩, _⟩ | ⟨b, o, cap, h5, _⟩
        · cases a with
          | none => exact kz z V [u] hl hM ⟨hu.trans h5, trivial⟩
          | some ad => exact ky ad z V [u] hl hM ⟨hu.trans h5, trivial⟩
        · cases cap with
          | zero => exact ky _ z V [u] hl hM ⟨hu.trans h5, trivial⟩
          | succ c => exact kx b o c z V [u] hl hM ⟨hu.trans h5, trivial⟩
  · cases h
noncomputable def Γt1 : Orc := addCl 72 gCl2 Γt0
theorem Okt1 : Γt1.Ok Try.prog := addCl_ok Okt0 gCl2_ok
set_option maxRecDepth 20000 in
theorem runCp2 (g : Int) (v : Int) (m : Int) (u : Int) (L : List (List Dat)) (own : Bool) (mark : Bool) : runG Γt1 L0 Try.prog Try.f49 [.ag [.row 0, .v (I g), .v (I v), .v (I m), .v (I u)]] ⟨[], [], [rP L own mark]⟩ = 
    (bif L.length.ble (1000000) then some (.ag [.row 1, .v (I g), .v (I v), .v (I m), .v (I u)], ⟨[], [], [.live ⟨39, [.num .i64, .num .i64], L, own, mark⟩, .live ⟨39, [.num .i64, .num .i64], L, true, false⟩]⟩) else none) := by kernel_rfl
def gCp2 (xs : List SV) (m : Mem) : Option (Bool × SV × Mem) :=
  match xs, m with
  | [.ag [.row 0, .v (.int .i64 g), .v (.int .i64 v), .v (.int .i64 m), .v (.int .i64 u)]], ⟨[], [], [.live ⟨39, [.num .i64, .num .i64], L, own, mark⟩]⟩ => some (Nat.ble L.length 1000000, .ag [.row 1, .v (I g), .v (I v), .v (I m), .v (I u)], ⟨[], [], [rP L own mark, rP L true false]⟩)
  | _, _ => none
theorem gCp2_ok : ∀ xs m r m', gCp2 xs m = some (true, r, m') → CallOk Try.prog 49 xs m r m' := by
  intro xs m r m' h
  unfold gCp2 at h
  split at h
  · rename_i g v m u L own mark
    obtain ⟨h1, rfl, rfl⟩ := some_t2 h
    refine runOk (Λ := L0) Okt1 Try.func49 rfl (fun z _ _ => l0Ok' _ z) ?_
    refine (runCp2 g v m u L own mark).trans ?_
    rw [h1]
    rfl
  · cases h
noncomputable def Γt2 : Orc := addCl 49 gCp2 Γt1
theorem Okt2 : Γt2.Ok Try.prog := addCl_ok Okt1 gCp2_ok
set_option maxRecDepth 20000 in
theorem runPr2 (r1 : Int) (r2 : Int) (r3 : Int) (r4 : Int) (r5 : Int) (r6 : Int) (r7 : Int) (r8 : Int) (p : Int) (L : List (List Dat)) (own : Bool) (mark : Bool) : runG Γt2 L0 Try.prog Try.f18 [.ag [.row 0, .v (I r1), .v (I r2), .v (I r3), .v (I r4), .v (I r5), .v (I r6), .v (I r7), .v (I r8)], .v (I p)] ⟨[], [], [rH L own mark]⟩ = 
    (bif decide (p < (0 : Int)) then some (.v (.tuple #[(.agg #[(Value.slice none (0 : Nat) (0 : Nat)), (I 0), (I 0), (I 0), (I 0)]), (Bo false)]), ⟨[], [], [.live ⟨30, kPh, L, own, mark⟩]⟩) else (bif decide (p ≥ (L.length : Int)) then some (.v (.tuple #[(.agg #[(Value.slice none (0 : Nat) (0 : Nat)), (I 0), (I 0), (I 0), (I 0)]), (Bo false)]), ⟨[], [], [.live ⟨30, kPh, L, own, mark⟩]⟩) else (bif decide ((0 : Int) ≤ p) && decide (p < (L.length : Int)) then (bif (phA L p).length.ble (1000000) then some (.tup [.ag [.row 1, .v (I ((phG L p))), .v (I ((phV L p))), .v (I ((phM L p))), .v (I ((phU L p)))], .one (.v (Bo true))], ⟨[], [], [.live ⟨30, kPh, L, own, mark⟩, .live ⟨39, [.num .i64, .num .i64], (phA L p), true, false⟩]⟩) else none) else none))) := by kernel_rfl
def gPr2 (xs : List SV) (m : Mem) : Option (Bool × SV × Mem) :=
  match xs, m with
  | [.ag [.row 0, .v (.int .i64 r1), .v (.int .i64 r2), .v (.int .i64 r3), .v (.int .i64 r4), .v (.int .i64 r5), .v (.int .i64 r6), .v (.int .i64 r7), .v (.int .i64 r8)], .v (.int .i64 p)], ⟨[], [], [.live ⟨30, [.sl 39 [.num .i64, .num .i64], .num .i64, .num .i64, .num .i64, .num .i64], L, own, mark⟩]⟩ => some (phOk L && (decide (0 ≤ p) && decide (p < (L.length : Int))), .tup [.ag [.row 1, .v (I (phG L p)), .v (I (phV L p)), .v (I (phM L p)), .v (I (phU L p))], .one (.v (Bo true))], ⟨[], [], [rH L own mark, rP (phA L p) true false]⟩)
  | _, _ => none
theorem gPr2_ok : ∀ xs m r m', gPr2 xs m = some (true, r, m') → CallOk Try.prog 18 xs m r m' := by
  intro xs m r m' h
  unfold gPr2 at h
  split at h
  · rename_i r1 r2 r3 r4 r5 r6 r7 r8 p L own mark
    obtain ⟨h1, rfl, rfl⟩ := some_t2 h
    refine runOk (Λ := L0) Okt2 Try.func18 rfl (fun z _ _ => l0Ok' _ z) ?_
    refine (runPr2 r1 r2 r3 r4 r5 r6 r7 r8 p L own mark).trans ?_
    simp only [Bool.and_eq_true, decide_eq_true_eq] at h1
    obtain ⟨h1, h3, h4⟩ := h1
    rw [decide_eq_false (show ¬ p < 0 by omega), decide_eq_false (show ¬ p ≥ (L.length : Int) by omega), decide_eq_true h3, decide_eq_true h4, (phOk_get h1 h3 h4).2]
    rfl
  · cases h
noncomputable def Γt3 : Orc := addCl 18 gPr2 Γt2
theorem Okt3 : Γt3.Ok Try.prog := addCl_ok Okt2 gPr2_ok
noncomputable def ΓTA : Orc := Γt3
theorem OkTA : ΓTA.Ok Try.prog := Okt3
def gPr0 (xs : List SV) (m : Mem) : Option (Bool × Value) :=
  match xs, m with
  | [.ag [.row 0, .v (.int .i64 r1), .v (.int .i64 r2), .v (.int .i64 r3), .v (.int .i64 r4), .v (.int .i64 r5), .v (.int .i64 r6), .v (.int .i64 r7), .v (.int .i64 r8)], .v (.int .i64 p)], ⟨[], [], [.live ⟨30, [.sl 39 [.num .i64, .num .i64], .num .i64, .num .i64, .num .i64, .num .i64], L, own, mark⟩]⟩ => some (!(decide (0 ≤ p) && decide (p < (L.length : Int))), .tuple #[.agg #[.slice none 0 0, I 0, I 0, I 0, I 0], Bo false])
  | _, _ => none
theorem gPr0_ok : ∀ xs m r, gPr0 xs m = some (true, r) → CallOk Try.prog 18 xs m (.v r) m := by
  intro xs m r h
  unfold gPr0 at h
  split at h
  · rename_i r1 r2 r3 r4 r5 r6 r7 r8 p L own mark
    obtain ⟨h1, rfl⟩ := some_t h
    refine runOk (Λ := L0) Okt2 Try.func18 rfl (fun z _ _ => l0Ok' _ z) ?_
    refine (runPr2 r1 r2 r3 r4 r5 r6 r7 r8 p L own mark).trans ?_
    by_cases a : p < 0
    · rw [decide_eq_true a]; rfl
    · by_cases b : p ≥ (L.length : Int)
      · rw [decide_eq_false a, decide_eq_true b]; rfl
      · rw [decide_eq_true (show 0 ≤ p by omega), decide_eq_true (show p < (L.length : Int) by omega)] at h1
        cases h1
  · cases h
noncomputable def ΓTB : Orc := { Γt3 with rd := (addRd 18 gPr0 Γt3).rd }
theorem OkTB : ΓTB.Ok Try.prog := ⟨Okt3.call, (addRd_ok Okt3 gPr0_ok).rd, Okt3.eqv⟩
set_option maxRecDepth 20000 in
theorem treeTlA (r1 : Int) (r2 : Int) (r3 : Int) (r4 : Int) (r5 : Int) (r6 : Int) (r7 : Int) (r8 : Int) (p : Int) (L : List (List Dat)) : runG ΓTA L0 Try.prog Try.f3 [.ag [.row 0, .v (I r1), .v (I r2), .v (I r3), .v (I r4), .v (I r5), .v (I r6), .v (I r7), .v (I r8)], .v (I p)] ⟨[], [], [rH L false false]⟩ = 
    (bif L.length.ble (9223372036854775807) then (bif !fewB L then some (.v (Bo true), ⟨[], [], [.live ⟨30, kPh, L, false, false⟩]⟩) else (bif phOk L then (bif phOk L && (decide ((0 : Int) ≤ p) && decide (p < (L.length : Int))) then (bif decide (p ≥ (0 : Int)) then (bif wrR L r1 r2 r3 r4 r5 r6 r7 r8 == (0 : Int) then (bif phOk L then (bif wrB L r1 r2 r3 r4 r5 r6 r7 r8 != wrR L r1 r2 r3 r4 r5 r6 r7 r8 then some (.v (Bo false), ⟨[], [], [.live ⟨30, kPh, L, false, false⟩]⟩) else (bif phOk L then (bif !(wrB L r1 r2 r3 r4 r5 r6 r7 r8 == (0 : Int)) == (wrR L r1 r2 r3 r4 r5 r6 r7 r8 == (0 : Int)) then some (.v (Bo false), ⟨[], [], [.live ⟨30, kPh, L, false, false⟩]⟩) else (bif !true == decide (p < (L.length : Int)) then some (.v (Bo false), ⟨[], [], [.live ⟨30, kPh, L, false, false⟩]⟩) else (bif phOk L then (bif (bif !wrB L r1 r2 r3 r4 r5 r6 r7 r8 == (0 : Int) then (0 : Int) else wI (wI (r1 + r2) + (2 : Int))) != wI (wI (r1 + r2) + (2 : Int)) then some (.v (Bo false), ⟨[], [], [.live ⟨30, kPh, L, false, false⟩]⟩) else (bif !decide (p < (L.length : Int)) then none else (bif decide ((0 : Int) ≤ p) && decide (p < (L.length : Int)) then (bif (phA L p).length.ble (1000000) then (bif smP (phA L p) (phG L p) (phV L p) (phM L p) (phU L p) (phA L p) (phG L p) (phV L p) (phM L p) (phU L p) then (bif (phA L p).length.ble (1000000) then (bif (phA L p).length.ble (1000000) then some (.v (Bo (rpB (phA L p) (phG L p) (phV L p) (phM L p) (phU L p) == rpR (phA L p) (phG L p) (phV L p) (phM L p) (phU L p))), ⟨[], [], [.live ⟨30, kPh, L, false, false⟩]⟩) else none) else none) else some (.v (Bo false), ⟨[], [], [.live ⟨30, kPh, L, false, false⟩]⟩)) else none) else none))) else none))) else none)) else none) else (bif phOk L then (bif wrB L r1 r2 r3 r4 r5 r6 r7 r8 != wrR L r1 r2 r3 r4 r5 r6 r7 r8 then some (.v (Bo false), ⟨[], [], [.live ⟨30, kPh, L, false, false⟩]⟩) else (bif phOk L then (bif !(wrB L r1 r2 r3 r4 r5 r6 r7 r8 == (0 : Int)) == (wrR L r1 r2 r3 r4 r5 r6 r7 r8 == (0 : Int)) then some (.v (Bo false), ⟨[], [], [.live ⟨30, kPh, L, false, false⟩]⟩) else (bif !true == decide (p < (L.length : Int)) then some (.v (Bo false), ⟨[], [], [.live ⟨30, kPh, L, false, false⟩]⟩) else (bif phOk L then (bif (bif !wrB L r1 r2 r3 r4 r5 r6 r7 r8 == (0 : Int) then (0 : Int) else wI (wI (r1 + r2) + (2 : Int))) != (0 : Int) then some (.v (Bo false), ⟨[], [], [.live ⟨30, kPh, L, false, false⟩]⟩) else (bif !decide (p < (L.length : Int)) then none else (bif decide ((0 : Int) ≤ p) && decide (p < (L.length : Int)) then (bif (phA L p).length.ble (1000000) then (bif smP (phA L p) (phG L p) (phV L p) (phM L p) (phU L p) (phA L p) (phG L p) (phV L p) (phM L p) (phU L p) then (bif (phA L p).length.ble (1000000) then (bif (phA L p).length.ble (1000000) then some (.v (Bo (rpB (phA L p) (phG L p) (phV L p) (phM L p) (phU L p) == rpR (phA L p) (phG L p) (phV L p) (phM L p) (phU L p))), ⟨[], [], [.live ⟨30, kPh, L, false, false⟩]⟩) else none) else none) else some (.v (Bo false), ⟨[], [], [.live ⟨30, kPh, L, false, false⟩]⟩)) else none) else none))) else none))) else none)) else none)) else (bif wrR L r1 r2 r3 r4 r5 r6 r7 r8 == (0 : Int) then (bif phOk L then (bif wrB L r1 r2 r3 r4 r5 r6 r7 r8 != wrR L r1 r2 r3 r4 r5 r6 r7 r8 then some (.v (Bo false), ⟨[], [], [.live ⟨30, kPh, L, false, false⟩]⟩) else (bif phOk L then (bif !(wrB L r1 r2 r3 r4 r5 r6 r7 r8 == (0 : Int)) == (wrR L r1 r2 r3 r4 r5 r6 r7 r8 == (0 : Int)) then some (.v (Bo false), ⟨[], [], [.live ⟨30, kPh, L, false, false⟩]⟩) else some (.v (Bo false), ⟨[], [], [.live ⟨30, kPh, L, false, false⟩]⟩)) else none)) else none) else (bif phOk L then (bif wrB L r1 r2 r3 r4 r5 r6 r7 r8 != wrR L r1 r2 r3 r4 r5 r6 r7 r8 then some (.v (Bo false), ⟨[], [], [.live ⟨30, kPh, L, false, false⟩]⟩) else (bif phOk L then (bif !(wrB L r1 r2 r3 r4 r5 r6 r7 r8 == (0 : Int)) == (wrR L r1 r2 r3 r4 r5 r6 r7 r8 == (0 : Int)) then some (.v (Bo false), ⟨[], [], [.live ⟨30, kPh, L, false, false⟩]⟩) else some (.v (Bo false), ⟨[], [], [.live ⟨30, kPh, L, false, false⟩]⟩)) else none)) else none))) else none) else none)) else none) := by kernel_rfl
set_option maxRecDepth 20000 in
theorem treeTlB (r1 : Int) (r2 : Int) (r3 : Int) (r4 : Int) (r5 : Int) (r6 : Int) (r7 : Int) (r8 : Int) (p : Int) (L : List (List Dat)) : runG ΓTB L0 Try.prog Try.f3 [.ag [.row 0, .v (I r1), .v (I r2), .v (I r3), .v (I r4), .v (I r5), .v (I r6), .v (I r7), .v (I r8)], .v (I p)] ⟨[], [], [rH L false false]⟩ = 
    (bif L.length.ble (9223372036854775807) then (bif !fewB L then some (.v (Bo true), ⟨[], [], [.live ⟨30, kPh, L, false, false⟩]⟩) else (bif phOk L then (bif !(decide ((0 : Int) ≤ p) && decide (p < (L.length : Int))) then (bif decide (p ≥ (0 : Int)) then (bif wrR L r1 r2 r3 r4 r5 r6 r7 r8 == (0 : Int) then (bif phOk L then (bif wrB L r1 r2 r3 r4 r5 r6 r7 r8 != wrR L r1 r2 r3 r4 r5 r6 r7 r8 then some (.v (Bo false), ⟨[], [], [.live ⟨30, kPh, L, false, false⟩]⟩) else (bif phOk L then (bif !(wrB L r1 r2 r3 r4 r5 r6 r7 r8 == (0 : Int)) == (wrR L r1 r2 r3 r4 r5 r6 r7 r8 == (0 : Int)) then some (.v (Bo false), ⟨[], [], [.live ⟨30, kPh, L, false, false⟩]⟩) else (bif !false == decide (p < (L.length : Int)) then some (.v (Bo false), ⟨[], [], [.live ⟨30, kPh, L, false, false⟩]⟩) else (bif phOk L then (bif (bif !wrB L r1 r2 r3 r4 r5 r6 r7 r8 == (0 : Int) then (0 : Int) else wI (wI (r1 + r2) + (2 : Int))) != wI (wI (r1 + r2) + (2 : Int)) then some (.v (Bo false), ⟨[], [], [.live ⟨30, kPh, L, false, false⟩]⟩) else (bif !decide (p < (L.length : Int)) then some (.v (Bo true), ⟨[], [], [.live ⟨30, kPh, L, false, false⟩]⟩) else (bif decide ((0 : Int) ≤ p) && decide (p < (L.length : Int)) then none else none))) else none))) else none)) else none) else (bif phOk L then (bif wrB L r1 r2 r3 r4 r5 r6 r7 r8 != wrR L r1 r2 r3 r4 r5 r6 r7 r8 then some (.v (Bo false), ⟨[], [], [.live ⟨30, kPh, L, false, false⟩]⟩) else (bif phOk L then (bif !(wrB L r1 r2 r3 r4 r5 r6 r7 r8 == (0 : Int)) == (wrR L r1 r2 r3 r4 r5 r6 r7 r8 == (0 : Int)) then some (.v (Bo false), ⟨[], [], [.live ⟨30, kPh, L, false, false⟩]⟩) else (bif !false == decide (p < (L.length : Int)) then some (.v (Bo false), ⟨[], [], [.live ⟨30, kPh, L, false, false⟩]⟩) else (bif phOk L then (bif (bif !wrB L r1 r2 r3 r4 r5 r6 r7 r8 == (0 : Int) then (0 : Int) else wI (wI (r1 + r2) + (2 : Int))) != (0 : Int) then some (.v (Bo false), ⟨[], [], [.live ⟨30, kPh, L, false, false⟩]⟩) else (bif !decide (p < (L.length : Int)) then some (.v (Bo true), ⟨[], [], [.live ⟨30, kPh, L, false, false⟩]⟩) else (bif decide ((0 : Int) ≤ p) && decide (p < (L.length : Int)) then none else none))) else none))) else none)) else none)) else (bif wrR L r1 r2 r3 r4 r5 r6 r7 r8 == (0 : Int) then (bif phOk L then (bif wrB L r1 r2 r3 r4 r5 r6 r7 r8 != wrR L r1 r2 r3 r4 r5 r6 r7 r8 then some (.v (Bo false), ⟨[], [], [.live ⟨30, kPh, L, false, false⟩]⟩) else (bif phOk L then (bif !(wrB L r1 r2 r3 r4 r5 r6 r7 r8 == (0 : Int)) == (wrR L r1 r2 r3 r4 r5 r6 r7 r8 == (0 : Int)) then some (.v (Bo false), ⟨[], [], [.live ⟨30, kPh, L, false, false⟩]⟩) else (bif phOk L then (bif (bif !wrB L r1 r2 r3 r4 r5 r6 r7 r8 == (0 : Int) then (0 : Int) else wI (wI (r1 + r2) + (2 : Int))) != wI (wI (r1 + r2) + (2 : Int)) then some (.v (Bo false), ⟨[], [], [.live ⟨30, kPh, L, false, false⟩]⟩) else some (.v (Bo true), ⟨[], [], [.live ⟨30, kPh, L, false, false⟩]⟩)) else none)) else none)) else none) else (bif phOk L then (bif wrB L r1 r2 r3 r4 r5 r6 r7 r8 != wrR L r1 r2 r3 r4 r5 r6 r7 r8 then some (.v (Bo false), ⟨[], [], [.live ⟨30, kPh, L, false, false⟩]⟩) else (bif phOk L then (bif !(wrB L r1 r2 r3 r4 r5 r6 r7 r8 == (0 : Int)) == (wrR L r1 r2 r3 r4 r5 r6 r7 r8 == (0 : Int)) then some (.v (Bo false), ⟨[], [], [.live ⟨30, kPh, L, false, false⟩]⟩) else (bif phOk L then (bif (bif !wrB L r1 r2 r3 r4 r5 r6 r7 r8 == (0 : Int) then (0 : Int) else wI (wI (r1 + r2) + (2 : Int))) != (0 : Int) then some (.v (Bo false), ⟨[], [], [.live ⟨30, kPh, L, false, false⟩]⟩) else some (.v (Bo true), ⟨[], [], [.live ⟨30, kPh, L, false, false⟩]⟩)) else none)) else none)) else none))) else none) else none)) else none) := by kernel_rfl
noncomputable def ΓR4 : Orc := Γt3
theorem OkR4 : ΓR4.Ok Try.prog := Okt3
end Go.Proofs.Ytmfeioinhpdebaa

namespace Go.Proofs.Ytmfeioinhpdebaa
open Go Go.Proofs Go.Sx
set_option linter.unusedVariables false
theorem anyN_not2 {p : Int → Bool} : ∀ (m : Nat) (k : Int), (∀ i, p i = false) → anyN p m k = false
  | 0, _, _ => rfl
  | m + 1, k, h => by
    show (p k || anyN p m (k + 1)) = false
    rw [h k, anyN_not2 m (k + 1) h]
    rfl
theorem smP_rf2 (A : List (List Dat)) (g v m u : Int) : smP A g v m u A g v m u = true := by
  have same : sameB A A = true := by
    unfold sameB
    rw [beq_self_eq_true, anyN_not2]
    · rfl
    · intro i
      unfold neP
      simp
  unfold smP
  rw [same, beq_self_eq_true, beq_self_eq_true, beq_self_eq_true, beq_self_eq_true]
  rfl
theorem rp_eq (L : List (List Dat)) (k : Int) : rpB (phA L k) (phG L k) (phV L k) (phM L k) (phU L k) = rpR (phA L k) (phG L k) (phV L k) (phM L k) (phU L k) := by
  have := bphRB L k
  unfold bphR bphB at this
  exact (Bool.not_inj this).symm
theorem rulesTells (r1 r2 r3 r4 r5 r6 r7 r8 p : Int) (L : List (List Dat)) (hw : ∀ o ∈ L, WfN kPh o) (hl : L.length ≤ 9223372036854775807) : ∃ Γ : Orc, Γ.Ok Try.prog ∧ runG Γ L0 Try.prog Try.f3 [.ag [.row 0, .v (I r1), .v (I r2), .v (I r3), .v (I r4), .v (I r5), .v (I r6), .v (I r7), .v (I r8)], .v (I p)] ⟨[], [], [rH L false false]⟩ = some (.v (Bo true), ⟨[], [], [rH L false false]⟩) := by
  by_cases hp : 0 ≤ p ∧ p < (L.length : Int)
  · refine ⟨ΓTA, OkTA, (treeTlA r1 r2 r3 r4 r5 r6 r7 r8 p L).trans ?_⟩
    rw [Nat.ble_eq_true_of_le hl]
    cases hf : fewB L
    · rfl
    obtain ⟨hk, _⟩ := few_ok hf hw
    rw [hk, wrRB, decide_eq_true hp.1, decide_eq_true hp.2, (phOk_get hk hp.1 hp.2).2, smP_rf2, rp_eq]
    simp only [beq_self_eq_true, bne_self_eq_false, Bool.and_self, Bool.not_true, cond_true, cond_false]
    cases hz : wrB L r1 r2 r3 r4 r5 r6 r7 r8 == 0
    · simp only [Bool.not_false, cond_true, cond_false, bne_self_eq_false]
    · simp only [Bool.not_true, cond_true, cond_false, bne_self_eq_false]
  · refine ⟨ΓTB, OkTB, (treeTlB r1 r2 r3 r4 r5 r6 r7 r8 p L).trans ?_⟩
    rw [Nat.ble_eq_true_of_le hl]
    cases hf : fewB L
    · rfl
    obtain ⟨hk, _⟩ := few_ok hf hw
    rw [hk, wrRB]
    have e : (!(decide (0 ≤ p) && decide (p < (L.length : Int)))) = true := by
      by_cases a : 0 ≤ p
      · rw [decide_eq_false (show ¬ p < (L.length : Int) from fun b => hp ⟨a, b⟩), Bool.and_false]; rfl
      · rw [decide_eq_false a]; rfl
    rw [e]
    simp only [beq_self_eq_true, bne_self_eq_false, Bool.not_true, cond_true, cond_false]
    by_cases a : p ≥ 0
    · rw [decide_eq_true a, decide_eq_false (show ¬ p < (L.length : Int) from fun b => hp ⟨a, b⟩)]
      cases hz : wrB L r1 r2 r3 r4 r5 r6 r7 r8 == 0
      · simp only [Bool.not_false, Bool.not_true, cond_true, cond_false, bne_self_eq_false, beq_self_eq_true]
      · simp only [Bool.not_false, Bool.not_true, cond_true, cond_false, bne_self_eq_false, beq_self_eq_true]
    · rw [decide_eq_false a]
      cases hz : wrB L r1 r2 r3 r4 r5 r6 r7 r8 == 0
      · simp only [Bool.not_false, cond_true, cond_false, bne_self_eq_false]
      · simp only [Bool.not_true, cond_true, cond_false, bne_self_eq_false]
theorem rulesTellsLaw (l0 : List TD) (a1 : Int) (w0 : WfT kR l0) (u1 : (Lit.int .i64 a1).wf = true) : ∃ Γ Λ m', Γ.Ok Try.prog ∧ (∀ z : Base, z.L.length = 0 → z.U.length = 1 → ∀ b ∈ loopsOf (Try.f3.body.getD .skip), LoopOk Λ Try.prog z b) ∧ runG Γ Λ Try.prog Try.f3 (inArgs [.ag (tkIn kR l0), .v (.int .i64 a1)] 0) (inMem [.ag (tkIn kR l0), .v (.int .i64 a1)]) = some (.v (.bool true), m') := by
  obtain ⟨L, r1, r2, r3, r4, r5, r6, r7, r8, rfl, ⟨hw, hl⟩, _⟩ := rul_is w0
  obtain ⟨Γ, hΓ, h⟩ := rulesTells r1 r2 r3 r4 r5 r6 r7 r8 a1 L hw hl
  exact ⟨Γ, L0, _, hΓ, fun z _ _ => l0Ok' _ z, h⟩
end Go.Proofs.Ytmfeioinhpdebaa

