/-
  Contracts of bit, and of the document's; that the document's answers are the program's.
-/
import Derived.Test.YtikekoabadhmiaaGreatYn
import Derived.Test.YtikekoabadhmiaaGreatYo
namespace Go.Proofs.YtikekoabadhmiaaGreat
open Go Go.Proofs Go.Sx
set_option linter.unusedVariables false
/-! norm -/
/-! cast -/
/-! rep [CK.sl 51 [CK0.num IntKind.i64, CK0.num IntKind.i64], .num .i64, .num .i64, .num .i64, .num .i64] => kPh -/
/-! rep (dropT (0 : Nat) (L.getD k.toNat [])) => (L.getD k.toNat []) -/
/-! rep (dropT (0 : Nat) (L2.getD k.toNat [])) => (L2.getD k.toNat []) -/
/-! rep (dropT (0 : Nat) (L.getD i.toNat [])) => (L.getD i.toNat []) -/
/-! rep (dropT (0 : Nat) (M.getD k.toNat [])) => (M.getD k.toNat []) -/
/-! repp (List.brecOn.go (motive := fun x => Nat → List Dat → List (List Dat)) M List.set._f).1 k.toNat ==> M.set k.toNat -/
/-! rep (((L.getD i.toNat []).headD (Dat.n (0 : Int))).toL) => (phA L i) -/
/-! rep ((L.getD i.toNat []).headD (Dat.n (0 : Int))).toL => (phA L i) -/
/-! rep (((L.getD i.toNat []).tail.headD (Dat.n (0 : Int))).toI) => (phG L i) -/
/-! rep ((L.getD i.toNat []).tail.headD (Dat.n (0 : Int))).toI => (phG L i) -/
/-! rep (((L.getD i.toNat []).tail.tail.headD (Dat.n (0 : Int))).toI) => (phV L i) -/
/-! rep ((L.getD i.toNat []).tail.tail.headD (Dat.n (0 : Int))).toI => (phV L i) -/
/-! rep (((L.getD i.toNat []).tail.tail.tail.headD (Dat.n (0 : Int))).toI) => (phM L i) -/
/-! rep ((L.getD i.toNat []).tail.tail.tail.headD (Dat.n (0 : Int))).toI => (phM L i) -/
/-! rep (((L.getD i.toNat []).tail.tail.tail.tail.headD (Dat.n (0 : Int))).toI) => (phU L i) -/
/-! rep ((L.getD i.toNat []).tail.tail.tail.tail.headD (Dat.n (0 : Int))).toI => (phU L i) -/
/-! rep (((L2.getD i.toNat []).headD (Dat.n (0 : Int))).toL) => (phA L2 i) -/
/-! rep ((L2.getD i.toNat []).headD (Dat.n (0 : Int))).toL => (phA L2 i) -/
/-! rep (((L2.getD i.toNat []).tail.headD (Dat.n (0 : Int))).toI) => (phG L2 i) -/
/-! rep ((L2.getD i.toNat []).tail.headD (Dat.n (0 : Int))).toI => (phG L2 i) -/
/-! rep (((L2.getD i.toNat []).tail.tail.headD (Dat.n (0 : Int))).toI) => (phV L2 i) -/
/-! rep ((L2.getD i.toNat []).tail.tail.headD (Dat.n (0 : Int))).toI => (phV L2 i) -/
/-! rep (((L2.getD i.toNat []).tail.tail.tail.headD (Dat.n (0 : Int))).toI) => (phM L2 i) -/
/-! rep ((L2.getD i.toNat []).tail.tail.tail.headD (Dat.n (0 : Int))).toI => (phM L2 i) -/
/-! rep (((L2.getD i.toNat []).tail.tail.tail.tail.headD (Dat.n (0 : Int))).toI) => (phU L2 i) -/
/-! rep ((L2.getD i.toNat []).tail.tail.tail.tail.headD (Dat.n (0 : Int))).toI => (phU L2 i) -/
/-! rep (((M.getD i.toNat []).headD (Dat.n (0 : Int))).toL) => (phA M i) -/
/-! rep ((M.getD i.toNat []).headD (Dat.n (0 : Int))).toL => (phA M i) -/
/-! rep (((M.getD i.toNat []).tail.headD (Dat.n (0 : Int))).toI) => (phG M i) -/
/-! rep ((M.getD i.toNat []).tail.headD (Dat.n (0 : Int))).toI => (phG M i) -/
/-! rep (((M.getD i.toNat []).tail.tail.headD (Dat.n (0 : Int))).toI) => (phV M i) -/
/-! rep ((M.getD i.toNat []).tail.tail.headD (Dat.n (0 : Int))).toI => (phV M i) -/
/-! rep (((M.getD i.toNat []).tail.tail.tail.headD (Dat.n (0 : Int))).toI) => (phM M i) -/
/-! rep ((M.getD i.toNat []).tail.tail.tail.headD (Dat.n (0 : Int))).toI => (phM M i) -/
/-! rep (((M.getD i.toNat []).tail.tail.tail.tail.headD (Dat.n (0 : Int))).toI) => (phU M i) -/
/-! rep ((M.getD i.toNat []).tail.tail.tail.tail.headD (Dat.n (0 : Int))).toI => (phU M i) -/
/-! rep (((L.getD k.toNat []).headD (Dat.n (0 : Int))).toL) => (phA L k) -/
/-! rep ((L.getD k.toNat []).headD (Dat.n (0 : Int))).toL => (phA L k) -/
/-! rep (((L.getD k.toNat []).tail.headD (Dat.n (0 : Int))).toI) => (phG L k) -/
/-! rep ((L.getD k.toNat []).tail.headD (Dat.n (0 : Int))).toI => (phG L k) -/
/-! rep (((L.getD k.toNat []).tail.tail.headD (Dat.n (0 : Int))).toI) => (phV L k) -/
/-! rep ((L.getD k.toNat []).tail.tail.headD (Dat.n (0 : Int))).toI => (phV L k) -/
/-! rep (((L.getD k.toNat []).tail.tail.tail.headD (Dat.n (0 : Int))).toI) => (phM L k) -/
/-! rep ((L.getD k.toNat []).tail.tail.tail.headD (Dat.n (0 : Int))).toI => (phM L k) -/
/-! rep (((L.getD k.toNat []).tail.tail.tail.tail.headD (Dat.n (0 : Int))).toI) => (phU L k) -/
/-! rep ((L.getD k.toNat []).tail.tail.tail.tail.headD (Dat.n (0 : Int))).toI => (phU L k) -/
/-! rep (((L2.getD k.toNat []).headD (Dat.n (0 : Int))).toL) => (phA L2 k) -/
/-! rep ((L2.getD k.toNat []).headD (Dat.n (0 : Int))).toL => (phA L2 k) -/
/-! rep (((L2.getD k.toNat []).tail.headD (Dat.n (0 : Int))).toI) => (phG L2 k) -/
/-! rep ((L2.getD k.toNat []).tail.headD (Dat.n (0 : Int))).toI => (phG L2 k) -/
/-! rep (((L2.getD k.toNat []).tail.tail.headD (Dat.n (0 : Int))).toI) => (phV L2 k) -/
/-! rep ((L2.getD k.toNat []).tail.tail.headD (Dat.n (0 : Int))).toI => (phV L2 k) -/
/-! rep (((L2.getD k.toNat []).tail.tail.tail.headD (Dat.n (0 : Int))).toI) => (phM L2 k) -/
/-! rep ((L2.getD k.toNat []).tail.tail.tail.headD (Dat.n (0 : Int))).toI => (phM L2 k) -/
/-! rep (((L2.getD k.toNat []).tail.tail.tail.tail.headD (Dat.n (0 : Int))).toI) => (phU L2 k) -/
/-! rep ((L2.getD k.toNat []).tail.tail.tail.tail.headD (Dat.n (0 : Int))).toI => (phU L2 k) -/
/-! rep (((M.getD k.toNat []).headD (Dat.n (0 : Int))).toL) => (phA M k) -/
/-! rep ((M.getD k.toNat []).headD (Dat.n (0 : Int))).toL => (phA M k) -/
/-! rep (((M.getD k.toNat []).tail.headD (Dat.n (0 : Int))).toI) => (phG M k) -/
/-! rep ((M.getD k.toNat []).tail.headD (Dat.n (0 : Int))).toI => (phG M k) -/
/-! rep (((M.getD k.toNat []).tail.tail.headD (Dat.n (0 : Int))).toI) => (phV M k) -/
/-! rep ((M.getD k.toNat []).tail.tail.headD (Dat.n (0 : Int))).toI => (phV M k) -/
/-! rep (((M.getD k.toNat []).tail.tail.tail.headD (Dat.n (0 : Int))).toI) => (phM M k) -/
/-! rep ((M.getD k.toNat []).tail.tail.tail.headD (Dat.n (0 : Int))).toI => (phM M k) -/
/-! rep (((M.getD k.toNat []).tail.tail.tail.tail.headD (Dat.n (0 : Int))).toI) => (phU M k) -/
/-! rep ((M.getD k.toNat []).tail.tail.tail.tail.headD (Dat.n (0 : Int))).toI => (phU M k) -/
/-! rex Bool\.rec \(\(fun _ => \[\]\) \(\)\) \(\(fun _ => phsP sgn \(by1 \(dt \(4 : Nat\) s\)\) \(dt \(22 : Nat\) s\)\) \(\)\) \(rfE s == \(0 : Int\)\) ==> rfL s -/
/-! rex wI \(\(BitVec\.ofInt \(64 : Nat\) (\w+|\(f\.fdiv \(\d+ : Int\)\)) &&& BitVec\.ofInt \(64 : Nat\) \((\d+) : Int\)\)\.toNat : Int\) ==> aN \2 \1 -/
/-- Some of a number's bits. -/
def aN (m p : Int) : Int := wI (((BitVec.ofInt 64 p &&& BitVec.ofInt 64 m).toNat : Nat) : Int)
noncomputable def Γsm : Orc := exec Tryz.prog ΓDo.call ΓDo.rd ΓDo.eqv (fun _ => false) 30 6
theorem Oksm : Γsm.Ok Tryz.prog := exec_ok mixed names (ext := ΓDo.call) (rd := ΓDo.rd) (eqv := ΓDo.eqv) ⟨OkDo.call, OkDo.rd, OkDo.eqv⟩ 30 6

set_option maxRecDepth 100000 in
theorem runBsu : runG Γsm (loopX Γsm Tryz.prog 30 3) Tryz.prog Tryz.f19 [] M0 = some (.v (Bo true), M0) := by kernel_rfl
def gBsu (vs : List Value) : Option (Bool × Value) :=
  match vs with
  | [] => some (true, Bo true)
  | _ => none
theorem gBsu_ok : ∀ vs r, gBsu vs = some (true, r) → ∀ m, CallOk Tryz.prog 19 (vs.map .v) m (.v r) m := by
  intro vs r h
  unfold gBsu at h
  split at h
  · obtain ⟨_, rfl⟩ := some_t h
    exact runV (vs := []) Oksm Tryz.func19 rfl (fun z _ _ b hb => loopX_ok Oksm mixed 30 3 b) runBsu
  · cases h
noncomputable def Γb1 : Orc := addVal 19 gBsu ΓRU
theorem Okb1 : Γb1.Ok Tryz.prog := addVal_ok OkRU gBsu_ok
set_option maxRecDepth 100000 in
theorem runBnu : runG Γsm (loopX Γsm Tryz.prog 30 3) Tryz.prog Tryz.f20 [] M0 = some (.v (Bo true), M0) := by kernel_rfl
def gBnu (vs : List Value) : Option (Bool × Value) :=
  match vs with
  | [] => some (true, Bo true)
  | _ => none
theorem gBnu_ok : ∀ vs r, gBnu vs = some (true, r) → ∀ m, CallOk Tryz.prog 20 (vs.map .v) m (.v r) m := by
  intro vs r h
  unfold gBnu at h
  split at h
  · obtain ⟨_, rfl⟩ := some_t h
    exact runV (vs := []) Oksm Tryz.func20 rfl (fun z _ _ b hb => loopX_ok Oksm mixed 30 3 b) runBnu
  · cases h
noncomputable def Γb2 : Orc := addVal 20 gBnu Γb1
theorem Okb2 : Γb2.Ok Tryz.prog := addVal_ok Okb1 gBnu_ok
theorem gRr0_at (s : ByteArray) (h1 : Nat.ble s.size 1000000 = true) (he : (rrE s == 0) = false) : gRr0 [.v (.string s)] ⟨[], [], []⟩ = some (true, .v (.tuple #[(.agg #[(Value.slice none (0 : Nat) (0 : Nat)), (I 0), (I 0), (I 0), (I 0), (I 0), (I 0), (I 0), (I 0)]), I (rrE s)]), M0) := by
  unfold gRr0
  simp only [h1, he, Bool.not_false, Bool.and_self]
theorem gRr1_at (s : ByteArray) (h1 : Nat.ble s.size 1000000 = true) (he : (rrE s == 0) = true) : gRr1 [.v (.string s)] ⟨[], [], []⟩ = some (true, .tup [.ag [.row 0, .v (I (by1 (dt 5 s) : Int)), .v (I (by1 (dt 6 s) : Int)), .v (I (by1 (dt 7 s) : Int)), .v (I (num4s (dt 10 s) : Int)), .v (I (num4s (dt 14 s) : Int)), .v (I (by1 (dt 8 s) : Int)), .v (I (num4s (dt 18 s) : Int)), .v (I (by1 (dt 9 s) : Int))], .one (.v (I 0))], ⟨[], [], [rH (phsP idI (by1 (dt 4 s)) (dt 22 s)) true false]⟩) := by
  unfold gRr1
  simp only [h1, he, Bool.and_self]
def gRrU (xs : List SV) (m : Mem) : Option (Bool × SV × Mem) :=
  match xs, m with
  | [.v (.string s)], ⟨[], [], []⟩ => some (Nat.ble s.size 1000000, .tup [.ag [.row 0, .v (I (rf1 s)), .v (I (rf2 s)), .v (I (rf3 s)), .v (I (rf4 s)), .v (I (rf5 s)), .v (I (rf6 s)), .v (I (rf7 s)), .v (I (rf8 s))], .one (.v (I (rfE s)))], ⟨[], [], [rH (rfL s) true false]⟩)
  | _, _ => none
theorem gRrU_ok : ∀ xs m r m', gRrU xs m = some (true, r, m') → CallOk Tryz.prog 10 xs m r m' := by
  intro xs m r m' h
  unfold gRrU at h
  split at h
  · rename_i s
    obtain ⟨h1, rfl, rfl⟩ := some_t2 h
    unfold rfL rf1 rf2 rf3 rf4 rf5 rf6 rf7 rf8
    cases he : rfE s == 0
    · simp only [cond_false]
      rw [rf_rr] at he ⊢
      exact CallOk.nilRow (vs := [I 0, I 0, I 0, I 0, I 0, I 0, I 0, I 0]) (x := I (rrE s)) 49 kPh (by decide) (gRr0_ok _ _ _ _ (gRr0_at s h1 he))
    · have e0 : rfE s = 0 := eq_of_beq he
      obtain ⟨s1, s2, s3, s4⟩ := rf_same e0
      simp only [cond_true]
      rw [e0, s1, s2, s3, s4]
      rw [rf_rr] at he
      exact gRr1_ok _ _ _ _ (gRr1_at s h1 he)
  · cases h
noncomputable def ΓbR : Orc := addCl 10 gRrU Γb2
theorem OkbR : ΓbR.Ok Tryz.prog := addCl_ok Okb2 gRrU_ok
noncomputable def ΓbT : Orc := { ΓbR with av := true }
theorem OkbT : ΓbT.Ok Tryz.prog := ⟨OkbR.call, OkbR.rd, OkbR.eqv⟩
set_option maxRecDepth 20000 in
theorem runBte (s : ByteArray) (p : Int) : runG ΓbT L0 Tryz.prog Tryz.f8 [.v (S s), .v (I p)] M0 = 
    (bif s.size.ble (1000000) then (bif rfE s != (0 : Int) then (bif aN 1 p != (0 : Int) then (bif aN 2 p != (0 : Int) then some (.tup [.ag [.row 0, .v (I (rf1 s)), .v (I (rf2 s)), .v (I (rf3 s)), .v (I (rf4 s)), .v (I (rf5 s)), .v (I (rf6 s)), .v (I (rf7 s)), .v (I (rf8 s))], .one (.v (I 7))], ⟨[], [], [.live ⟨49, kPh, rfL s, true, false⟩]⟩) else some (.tup [.ag [.row 0, .v (I (rf1 s)), .v (I (rf2 s)), .v (I (rf3 s)), .v (I (rf4 s)), .v (I (rf5 s)), .v (I (rf6 s)), .v (I (rf7 s)), .v (I (rf8 s))], .one (.v (I 3))], ⟨[], [], [.live ⟨49, kPh, rfL s, true, false⟩]⟩)) else (bif aN 2 p != (0 : Int) then some (.tup [.ag [.row 0, .v (I (rf1 s)), .v (I (rf2 s)), .v (I (rf3 s)), .v (I (rf4 s)), .v (I (rf5 s)), .v (I (rf6 s)), .v (I (rf7 s)), .v (I (rf8 s))], .one (.v (I 5))], ⟨[], [], [.live ⟨49, kPh, rfL s, true, false⟩]⟩) else some (.tup [.ag [.row 0, .v (I (rf1 s)), .v (I (rf2 s)), .v (I (rf3 s)), .v (I (rf4 s)), .v (I (rf5 s)), .v (I (rf6 s)), .v (I (rf7 s)), .v (I (rf8 s))], .one (.v (I 1))], ⟨[], [], [.live ⟨49, kPh, rfL s, true, false⟩]⟩))) else (bif aN 1 p != (0 : Int) then (bif aN 2 p != (0 : Int) then some (.tup [.ag [.row 0, .v (I (rf1 s)), .v (I (rf2 s)), .v (I (rf3 s)), .v (I (rf4 s)), .v (I (rf5 s)), .v (I (rf6 s)), .v (I (rf7 s)), .v (I (rf8 s))], .one (.v (I 6))], ⟨[], [], [.live ⟨49, kPh, rfL s, true, false⟩]⟩) else some (.tup [.ag [.row 0, .v (I (rf1 s)), .v (I (rf2 s)), .v (I (rf3 s)), .v (I (rf4 s)), .v (I (rf5 s)), .v (I (rf6 s)), .v (I (rf7 s)), .v (I (rf8 s))], .one (.v (I 2))], ⟨[], [], [.live ⟨49, kPh, rfL s, true, false⟩]⟩)) else (bif aN 2 p != (0 : Int) then some (.tup [.ag [.row 0, .v (I (rf1 s)), .v (I (rf2 s)), .v (I (rf3 s)), .v (I (rf4 s)), .v (I (rf5 s)), .v (I (rf6 s)), .v (I (rf7 s)), .v (I (rf8 s))], .one (.v (I 4))], ⟨[], [], [.live ⟨49, kPh, rfL s, true, false⟩]⟩) else some (.tup [.ag [.row 0, .v (I (rf1 s)), .v (I (rf2 s)), .v (I (rf3 s)), .v (I (rf4 s)), .v (I (rf5 s)), .v (I (rf6 s)), .v (I (rf7 s)), .v (I (rf8 s))], .one (.v (I 0))], ⟨[], [], [.live ⟨49, kPh, rfL s, true, false⟩]⟩)))) else none) := by kernel_rfl
set_option maxRecDepth 20000 in
theorem runBtr (s : ByteArray) (p : Int) : runG ΓbT L0 Tryz.prog Tryz.f9 [.v (S s), .v (I p)] M0 = 
    (bif s.size.ble (1000000) then (bif rfE s != (0 : Int) then (bif aN 1 p == (1 : Int) then (bif aN 2 p == (2 : Int) then some (.tup [.ag [.row 0, .v (I (rf1 s)), .v (I (rf2 s)), .v (I (rf3 s)), .v (I (rf4 s)), .v (I (rf5 s)), .v (I (rf6 s)), .v (I (rf7 s)), .v (I (rf8 s))], .one (.v (I 7))], ⟨[], [], [.live ⟨49, kPh, rfL s, true, false⟩]⟩) else some (.tup [.ag [.row 0, .v (I (rf1 s)), .v (I (rf2 s)), .v (I (rf3 s)), .v (I (rf4 s)), .v (I (rf5 s)), .v (I (rf6 s)), .v (I (rf7 s)), .v (I (rf8 s))], .one (.v (I 3))], ⟨[], [], [.live ⟨49, kPh, rfL s, true, false⟩]⟩)) else (bif aN 2 p == (2 : Int) then some (.tup [.ag [.row 0, .v (I (rf1 s)), .v (I (rf2 s)), .v (I (rf3 s)), .v (I (rf4 s)), .v (I (rf5 s)), .v (I (rf6 s)), .v (I (rf7 s)), .v (I (rf8 s))], .one (.v (I 5))], ⟨[], [], [.live ⟨49, kPh, rfL s, true, false⟩]⟩) else some (.tup [.ag [.row 0, .v (I (rf1 s)), .v (I (rf2 s)), .v (I (rf3 s)), .v (I (rf4 s)), .v (I (rf5 s)), .v (I (rf6 s)), .v (I (rf7 s)), .v (I (rf8 s))], .one (.v (I 1))], ⟨[], [], [.live ⟨49, kPh, rfL s, true, false⟩]⟩))) else (bif aN 1 p == (1 : Int) then (bif aN 2 p == (2 : Int) then some (.tup [.ag [.row 0, .v (I (rf1 s)), .v (I (rf2 s)), .v (I (rf3 s)), .v (I (rf4 s)), .v (I (rf5 s)), .v (I (rf6 s)), .v (I (rf7 s)), .v (I (rf8 s))], .one (.v (I 6))], ⟨[], [], [.live ⟨49, kPh, rfL s, true, false⟩]⟩) else some (.tup [.ag [.row 0, .v (I (rf1 s)), .v (I (rf2 s)), .v (I (rf3 s)), .v (I (rf4 s)), .v (I (rf5 s)), .v (I (rf6 s)), .v (I (rf7 s)), .v (I (rf8 s))], .one (.v (I 2))], ⟨[], [], [.live ⟨49, kPh, rfL s, true, false⟩]⟩)) else (bif aN 2 p == (2 : Int) then some (.tup [.ag [.row 0, .v (I (rf1 s)), .v (I (rf2 s)), .v (I (rf3 s)), .v (I (rf4 s)), .v (I (rf5 s)), .v (I (rf6 s)), .v (I (rf7 s)), .v (I (rf8 s))], .one (.v (I 4))], ⟨[], [], [.live ⟨49, kPh, rfL s, true, false⟩]⟩) else some (.tup [.ag [.row 0, .v (I (rf1 s)), .v (I (rf2 s)), .v (I (rf3 s)), .v (I (rf4 s)), .v (I (rf5 s)), .v (I (rf6 s)), .v (I (rf7 s)), .v (I (rf8 s))], .one (.v (I 0))], ⟨[], [], [.live ⟨49, kPh, rfL s, true, false⟩]⟩)))) else none) := by kernel_rfl
theorem aN_nat {m p : Int} (hm : 0 ≤ m ∧ m < 256) : aN m p = (((p % 18446744073709551616).toNat &&& m.toNat : Nat) : Int) := by
  have hb : (BitVec.ofInt 64 p &&& BitVec.ofInt 64 m).toNat = (p % 18446744073709551616).toNat &&& m.toNat := by
    rw [BitVec.toNat_and, BitVec.toNat_ofInt, BitVec.toNat_ofInt]
    congr 1
    rw [show ((2 ^ 64 : Nat) : Int) = 18446744073709551616 from rfl, Int.emod_eq_of_lt hm.1 (by omega)]
  unfold aN
  rw [hb]
  have hl : (p % 18446744073709551616).toNat &&& m.toNat ≤ m.toNat := Nat.and_le_right
  exact wI_id (by omega)
theorem and3 (x : Nat) : x &&& 3 = x % 4 := Nat.and_two_pow_sub_one_eq_mod x 2
theorem aN3 (p : Int) : aN 3 p = p % 4 := by
  rw [aN_nat (by decide)]
  show ((((p % 18446744073709551616).toNat &&& 3 : Nat)) : Int) = _
  rw [and3]
  omega
theorem and_low (x m : Nat) (h : m &&& 3 = m) : x &&& m = x % 4 &&& m := by
  rw [← and3, Nat.and_assoc, Nat.and_comm 3 m, h]
theorem aN_low {m : Int} (p : Int) (hm : 0 ≤ m ∧ m < 256) (h : m.toNat &&& 3 = m.toNat) : aN m p = ((((p % 4).toNat &&& m.toNat) : Nat) : Int) := by
  rw [aN_nat hm, and_low _ _ h]
  congr 2
  omega
/-- The bits of a port. -/
def pb1 (p : Int) : Bool := p % 4 % 2 == 1
def pb2 (p : Int) : Bool := decide (p % 4 ≥ 2)
theorem port_bits (p : Int) : (aN 1 p != 0) = pb1 p ∧ (aN 2 p != 0) = pb2 p ∧ (aN 1 p == 1) = pb1 p ∧ (aN 2 p == 2) = pb2 p := by
  rw [aN_low p (by decide) (by decide), aN_low p (by decide) (by decide)]
  unfold pb1 pb2
  have : p % 4 = 0 ∨ p % 4 = 1 ∨ p % 4 = 2 ∨ p % 4 = 3 := by omega
  rcases this with h | h | h | h <;> rw [h] <;> decide
def fT (s : ByteArray) (p : Int) : Int := (bif rfE s != 0 then 1 else 0) + (bif pb1 p then 2 else 0) + (bif pb2 p then 4 else 0)
def gBte (xs : List SV) (m : Mem) : Option (Bool × SV × Mem) :=
  match xs, m with
  | [.v (.string s), .v (.int .i64 p)], ⟨[], [], []⟩ => some (Nat.ble s.size 1000000, .tup [.ag [.row 0, .v (I (rf1 s)), .v (I (rf2 s)), .v (I (rf3 s)), .v (I (rf4 s)), .v (I (rf5 s)), .v (I (rf6 s)), .v (I (rf7 s)), .v (I (rf8 s))], .one (.v (I (fT s p)))], ⟨[], [], [rH (rfL s) true false]⟩)
  | _, _ => none
theorem gBte_ok : ∀ xs m r m', gBte xs m = some (true, r, m') → CallOk Tryz.prog 8 xs m r m' := by
  intro xs m r m' h
  unfold gBte at h
  split at h
  · rename_i s p
    obtain ⟨h1, rfl, rfl⟩ := some_t2 h
    refine runOk (Λ := L0) OkbT Tryz.func8 rfl (fun z _ _ => l0Ok' _ z) ?_
    refine (runBte s p).trans ?_
    obtain ⟨p1, p2, p3, p4⟩ := port_bits p
    rw [h1]
    simp only [p1, p2]
    unfold fT
    cases rfE s != 0 <;> cases pb1 p <;> cases pb2 p <;> rfl
  · cases h
def gBtr (xs : List SV) (m : Mem) : Option (Bool × SV × Mem) :=
  match xs, m with
  | [.v (.string s), .v (.int .i64 p)], ⟨[], [], []⟩ => some (Nat.ble s.size 1000000, .tup [.ag [.row 0, .v (I (rf1 s)), .v (I (rf2 s)), .v (I (rf3 s)), .v (I (rf4 s)), .v (I (rf5 s)), .v (I (rf6 s)), .v (I (rf7 s)), .v (I (rf8 s))], .one (.v (I (fT s p)))], ⟨[], [], [rH (rfL s) true false]⟩)
  | _, _ => none
theorem gBtr_ok : ∀ xs m r m', gBtr xs m = some (true, r, m') → CallOk Tryz.prog 9 xs m r m' := by
  intro xs m r m' h
  unfold gBtr at h
  split at h
  · rename_i s p
    obtain ⟨h1, rfl, rfl⟩ := some_t2 h
    refine runOk (Λ := L0) OkbT Tryz.func9 rfl (fun z _ _ => l0Ok' _ z) ?_
    refine (runBtr s p).trans ?_
    obtain ⟨p1, p2, p3, p4⟩ := port_bits p
    rw [h1]
    simp only [p3, p4]
    unfold fT
    cases rfE s != 0 <;> cases pb1 p <;> cases pb2 p <;> rfl
  · cases h
noncomputable def ΓbU : Orc := addCl 8 gBte (addCl 9 gBtr ΓbT)
theorem OkbU : ΓbU.Ok Tryz.prog := addCl_ok (addCl_ok OkbT gBtr_ok) gBte_ok
set_option maxRecDepth 20000 in
theorem runBnm (f : Int) : runG ΓbU L0 Tryz.prog Tryz.f13 [.v (I f)] M0 = 
    (bif aN 1 f != (0 : Int) then (bif aN 2 f != (0 : Int) then (bif aN 4 f != (0 : Int) then (bif aN 8 f != (0 : Int) then (bif aN 16 f != (0 : Int) then some (.row 0, ⟨[], [], [.live ⟨9, [.str], [[.s ({ data := #[114, 117, 108, 101, 115] : ByteArray })], [.s ({ data := #[112, 111, 119, 101, 114] : ByteArray })], [.s ({ data := #[108, 105, 110, 101] : ByteArray })], [.s ({ data := #[115, 117, 109, 115] : ByteArray })], [.s ({ data := #[110, 117, 109, 98, 101, 114, 115] : ByteArray })]], true, false⟩]⟩) else some (.row 0, ⟨[], [], [.live ⟨9, [.str], [[.s ({ data := #[114, 117, 108, 101, 115] : ByteArray })], [.s ({ data := #[112, 111, 119, 101, 114] : ByteArray })], [.s ({ data := #[108, 105, 110, 101] : ByteArray })], [.s ({ data := #[115, 117, 109, 115] : ByteArray })]], true, false⟩]⟩)) else (bif aN 16 f != (0 : Int) then some (.row 0, ⟨[], [], [.live ⟨9, [.str], [[.s ({ data := #[114, 117, 108, 101, 115] : ByteArray })], [.s ({ data := #[112, 111, 119, 101, 114] : ByteArray })], [.s ({ data := #[108, 105, 110, 101] : ByteArray })], [.s ({ data := #[110, 117, 109, 98, 101, 114, 115] : ByteArray })]], true, false⟩]⟩) else some (.row 0, ⟨[], [], [.live ⟨9, [.str], [[.s ({ data := #[114, 117, 108, 101, 115] : ByteArray })], [.s ({ data := #[112, 111, 119, 101, 114] : ByteArray })], [.s ({ data := #[108, 105, 110, 101] : ByteArray })]], true, false⟩]⟩))) else (bif aN 8 f != (0 : Int) then (bif aN 16 f != (0 : Int) then some (.row 0, ⟨[], [], [.live ⟨9, [.str], [[.s ({ data := #[114, 117, 108, 101, 115] : ByteArray })], [.s ({ data := #[112, 111, 119, 101, 114] : ByteArray })], [.s ({ data := #[115, 117, 109, 115] : ByteArray })], [.s ({ data := #[110, 117, 109, 98, 101, 114, 115] : ByteArray })]], true, false⟩]⟩) else some (.row 0, ⟨[], [], [.live ⟨9, [.str], [[.s ({ data := #[114, 117, 108, 101, 115] : ByteArray })], [.s ({ data := #[112, 111, 119, 101, 114] : ByteArray })], [.s ({ data := #[115, 117, 109, 115] : ByteArray })]], true, false⟩]⟩)) else (bif aN 16 f != (0 : Int) then some (.row 0, ⟨[], [], [.live ⟨9, [.str], [[.s ({ data := #[114, 117, 108, 101, 115] : ByteArray })], [.s ({ data := #[112, 111, 119, 101, 114] : ByteArray })], [.s ({ data := #[110, 117, 109, 98, 101, 114, 115] : ByteArray })]], true, false⟩]⟩) else some (.row 0, ⟨[], [], [.live ⟨9, [.str], [[.s ({ data := #[114, 117, 108, 101, 115] : ByteArray })], [.s ({ data := #[112, 111, 119, 101, 114] : ByteArray })]], true, false⟩]⟩)))) else (bif aN 4 f != (0 : Int) then (bif aN 8 f != (0 : Int) then (bif aN 16 f != (0 : Int) then some (.row 0, ⟨[], [], [.live ⟨9, [.str], [[.s ({ data := #[114, 117, 108, 101, 115] : ByteArray })], [.s ({ data := #[108, 105, 110, 101] : ByteArray })], [.s ({ data := #[115, 117, 109, 115] : ByteArray })], [.s ({ data := #[110, 117, 109, 98, 101, 114, 115] : ByteArray })]], true, false⟩]⟩) else some (.row 0, ⟨[], [], [.live ⟨9, [.str], [[.s ({ data := #[114, 117, 108, 101, 115] : ByteArray })], [.s ({ data := #[108, 105, 110, 101] : ByteArray })], [.s ({ data := #[115, 117, 109, 115] : ByteArray })]], true, false⟩]⟩)) else (bif aN 16 f != (0 : Int) then some (.row 0, ⟨[], [], [.live ⟨9, [.str], [[.s ({ data := #[114, 117, 108, 101, 115] : ByteArray })], [.s ({ data := #[108, 105, 110, 101] : ByteArray })], [.s ({ data := #[110, 117, 109, 98, 101, 114, 115] : ByteArray })]], true, false⟩]⟩) else some (.row 0, ⟨[], [], [.live ⟨9, [.str], [[.s ({ data := #[114, 117, 108, 101, 115] : ByteArray })], [.s ({ data := #[108, 105, 110, 101] : ByteArray })]], true, false⟩]⟩))) else (bif aN 8 f != (0 : Int) then (bif aN 16 f != (0 : Int) then some (.row 0, ⟨[], [], [.live ⟨9, [.str], [[.s ({ data := #[114, 117, 108, 101, 115] : ByteArray })], [.s ({ data := #[115, 117, 109, 115] : ByteArray })], [.s ({ data := #[110, 117, 109, 98, 101, 114, 115] : ByteArray })]], true, false⟩]⟩) else some (.row 0, ⟨[], [], [.live ⟨9, [.str], [[.s ({ data := #[114, 117, 108, 101, 115] : ByteArray })], [.s ({ data := #[115, 117, 109, 115] : ByteArray })]], true, false⟩]⟩)) else (bif aN 16 f != (0 : Int) then some (.row 0, ⟨[], [], [.live ⟨9, [.str], [[.s ({ data := #[114, 117, 108, 101, 115] : ByteArray })], [.s ({ data := #[110, 117, 109, 98, 101, 114, 115] : ByteArray })]], true, false⟩]⟩) else some (.row 0, ⟨[], [], [.live ⟨9, [.str], [[.s ({ data := #[114, 117, 108, 101, 115] : ByteArray })]], true, false⟩]⟩))))) else (bif aN 2 f != (0 : Int) then (bif aN 4 f != (0 : Int) then (bif aN 8 f != (0 : Int) then (bif aN 16 f != (0 : Int) then some (.row 0, ⟨[], [], [.live ⟨9, [.str], [[.s ({ data := #[112, 111, 119, 101, 114] : ByteArray })], [.s ({ data := #[108, 105, 110, 101] : ByteArray })], [.s ({ data := #[115, 117, 109, 115] : ByteArray })], [.s ({ data := #[110, 117, 109, 98, 101, 114, 115] : ByteArray })]], true, false⟩]⟩) else some (.row 0, ⟨[], [], [.live ⟨9, [.str], [[.s ({ data := #[112, 111, 119, 101, 114] : ByteArray })], [.s ({ data := #[108, 105, 110, 101] : ByteArray })], [.s ({ data := #[115, 117, 109, 115] : ByteArray })]], true, false⟩]⟩)) else (bif aN 16 f != (0 : Int) then some (.row 0, ⟨[], [], [.live ⟨9, [.str], [[.s ({ data := #[112, 111, 119, 101, 114] : ByteArray })], [.s ({ data := #[108, 105, 110, 101] : ByteArray })], [.s ({ data := #[110, 117, 109, 98, 101, 114, 115] : ByteArray })]], true, false⟩]⟩) else some (.row 0, ⟨[], [], [.live ⟨9, [.str], [[.s ({ data := #[112, 111, 119, 101, 114] : ByteArray })], [.s ({ data := #[108, 105, 110, 101] : ByteArray })]], true, false⟩]⟩))) else (bif aN 8 f != (0 : Int) then (bif aN 16 f != (0 : Int) then some (.row 0, ⟨[], [], [.live ⟨9, [.str], [[.s ({ data := #[112, 111, 119, 101, 114] : ByteArray })], [.s ({ data := #[115, 117, 109, 115] : ByteArray })], [.s ({ data := #[110, 117, 109, 98, 101, 114, 115] : ByteArray })]], true, false⟩]⟩) else some (.row 0, ⟨[], [], [.live ⟨9, [.str], [[.s ({ data := #[112, 111, 119, 101, 114] : ByteArray })], [.s ({ data := #[115, 117, 109, 115] : ByteArray })]], true, false⟩]⟩)) else (bif aN 16 f != (0 : Int) then some (.row 0, ⟨[], [], [.live ⟨9, [.str], [[.s ({ data := #[112, 111, 119, 101, 114] : ByteArray })], [.s ({ data := #[110, 117, 109, 98, 101, 114, 115] : ByteArray })]], true, false⟩]⟩) else some (.row 0, ⟨[], [], [.live ⟨9, [.str], [[.s ({ data := #[112, 111, 119, 101, 114] : ByteArray })]], true, false⟩]⟩)))) else (bif aN 4 f != (0 : Int) then (bif aN 8 f != (0 : Int) then (bif aN 16 f != (0 : Int) then some (.row 0, ⟨[], [], [.live ⟨9, [.str], [[.s ({ data := #[108, 105, 110, 101] : ByteArray })], [.s ({ data := #[115, 117, 109, 115] : ByteArray })], [.s ({ data := #[110, 117, 109, 98, 101, 114, 115] : ByteArray })]], true, false⟩]⟩) else some (.row 0, ⟨[], [], [.live ⟨9, [.str], [[.s ({ data := #[108, 105, 110, 101] : ByteArray })], [.s ({ data := #[115, 117, 109, 115] : ByteArray })]], true, false⟩]⟩)) else (bif aN 16 f != (0 : Int) then some (.row 0, ⟨[], [], [.live ⟨9, [.str], [[.s ({ data := #[108, 105, 110, 101] : ByteArray })], [.s ({ data := #[110, 117, 109, 98, 101, 114, 115] : ByteArray })]], true, false⟩]⟩) else some (.row 0, ⟨[], [], [.live ⟨9, [.str], [[.s ({ data := #[108, 105, 110, 101] : ByteArray })]], true, false⟩]⟩))) else (bif aN 8 f != (0 : Int) then (bif aN 16 f != (0 : Int) then some (.row 0, ⟨[], [], [.live ⟨9, [.str], [[.s ({ data := #[115, 117, 109, 115] : ByteArray })], [.s ({ data := #[110, 117, 109, 98, 101, 114, 115] : ByteArray })]], true, false⟩]⟩) else some (.row 0, ⟨[], [], [.live ⟨9, [.str], [[.s ({ data := #[115, 117, 109, 115] : ByteArray })]], true, false⟩]⟩)) else (bif aN 16 f != (0 : Int) then some (.row 0, ⟨[], [], [.live ⟨9, [.str], [[.s ({ data := #[110, 117, 109, 98, 101, 114, 115] : ByteArray })]], true, false⟩]⟩) else some (.row 0, ⟨[], [], [.live ⟨9, [.str], [], true, false⟩]⟩)))))) := by kernel_rfl
set_option maxRecDepth 20000 in
theorem runBnr (f : Int) : runG ΓbU L0 Tryz.prog Tryz.f14 [.v (I f)] M0 = 
    (bif aN 1 (f.fdiv (1 : Int)) == (1 : Int) then (bif aN 1 (f.fdiv (2 : Int)) == (1 : Int) then (bif aN 1 (f.fdiv (4 : Int)) == (1 : Int) then (bif aN 1 (f.fdiv (8 : Int)) == (1 : Int) then (bif aN 1 (f.fdiv (16 : Int)) == (1 : Int) then some (.row 0, ⟨[], [], [.live ⟨9, [.str], [[.s ({ data := #[114, 117, 108, 101, 115] : ByteArray })], [.s ({ data := #[112, 111, 119, 101, 114] : ByteArray })], [.s ({ data := #[108, 105, 110, 101] : ByteArray })], [.s ({ data := #[115, 117, 109, 115] : ByteArray })], [.s ({ data := #[110, 117, 109, 98, 101, 114, 115] : ByteArray })]], true, false⟩]⟩) else some (.row 0, ⟨[], [], [.live ⟨9, [.str], [[.s ({ data := #[114, 117, 108, 101, 115] : ByteArray })], [.s ({ data := #[112, 111, 119, 101, 114] : ByteArray })], [.s ({ data := #[108, 105, 110, 101] : ByteArray })], [.s ({ data := #[115, 117, 109, 115] : ByteArray })]], true, false⟩]⟩)) else (bif aN 1 (f.fdiv (16 : Int)) == (1 : Int) then some (.row 0, ⟨[], [], [.live ⟨9, [.str], [[.s ({ data := #[114, 117, 108, 101, 115] : ByteArray })], [.s ({ data := #[112, 111, 119, 101, 114] : ByteArray })], [.s ({ data := #[108, 105, 110, 101] : ByteArray })], [.s ({ data := #[110, 117, 109, 98, 101, 114, 115] : ByteArray })]], true, false⟩]⟩) else some (.row 0, ⟨[], [], [.live ⟨9, [.str], [[.s ({ data := #[114, 117, 108, 101, 115] : ByteArray })], [.s ({ data := #[112, 111, 119, 101, 114] : ByteArray })], [.s ({ data := #[108, 105, 110, 101] : ByteArray })]], true, false⟩]⟩))) else (bif aN 1 (f.fdiv (8 : Int)) == (1 : Int) then (bif aN 1 (f.fdiv (16 : Int)) == (1 : Int) then some (.row 0, ⟨[], [], [.live ⟨9, [.str], [[.s ({ data := #[114, 117, 108, 101, 115] : ByteArray })], [.s ({ data := #[112, 111, 119, 101, 114] : ByteArray })], [.s ({ data := #[115, 117, 109, 115] : ByteArray })], [.s ({ data := #[110, 117, 109, 98, 101, 114, 115] : ByteArray })]], true, false⟩]⟩) else some (.row 0, ⟨[], [], [.live ⟨9, [.str], [[.s ({ data := #[114, 117, 108, 101, 115] : ByteArray })], [.s ({ data := #[112, 111, 119, 101, 114] : ByteArray })], [.s ({ data := #[115, 117, 109, 115] : ByteArray })]], true, false⟩]⟩)) else (bif aN 1 (f.fdiv (16 : Int)) == (1 : Int) then some (.row 0, ⟨[], [], [.live ⟨9, [.str], [[.s ({ data := #[114, 117, 108, 101, 115] : ByteArray })], [.s ({ data := #[112, 111, 119, 101, 114] : ByteArray })], [.s ({ data := #[110, 117, 109, 98, 101, 114, 115] : ByteArray })]], true, false⟩]⟩) else some (.row 0, ⟨[], [], [.live ⟨9, [.str], [[.s ({ data := #[114, 117, 108, 101, 115] : ByteArray })], [.s ({ data := #[112, 111, 119, 101, 114] : ByteArray })]], true, false⟩]⟩)))) else (bif aN 1 (f.fdiv (4 : Int)) == (1 : Int) then (bif aN 1 (f.fdiv (8 : Int)) == (1 : Int) then (bif aN 1 (f.fdiv (16 : Int)) == (1 : Int) then some (.row 0, ⟨[], [], [.live ⟨9, [.str], [[.s ({ data := #[114, 117, 108, 101, 115] : ByteArray })], [.s ({ data := #[108, 105, 110, 101] : ByteArray })], [.s ({ data := #[115, 117, 109, 115] : ByteArray })], [.s ({ data := #[110, 117, 109, 98, 101, 114, 115] : ByteArray })]], true, false⟩]⟩) else some (.row 0, ⟨[], [], [.live ⟨9, [.str], [[.s ({ data := #[114, 117, 108, 101, 115] : ByteArray })], [.s ({ data := #[108, 105, 110, 101] : ByteArray })], [.s ({ data := #[115, 117, 109, 115] : ByteArray })]], true, false⟩]⟩)) else (bif aN 1 (f.fdiv (16 : Int)) == (1 : Int) then some (.row 0, ⟨[], [], [.live ⟨9, [.str], [[.s ({ data := #[114, 117, 108, 101, 115] : ByteArray })], [.s ({ data := #[108, 105, 110, 101] : ByteArray })], [.s ({ data := #[110, 117, 109, 98, 101, 114, 115] : ByteArray })]], true, false⟩]⟩) else some (.row 0, ⟨[], [], [.live ⟨9, [.str], [[.s ({ data := #[114, 117, 108, 101, 115] : ByteArray })], [.s ({ data := #[108, 105, 110, 101] : ByteArray })]], true, false⟩]⟩))) else (bif aN 1 (f.fdiv (8 : Int)) == (1 : Int) then (bif aN 1 (f.fdiv (16 : Int)) == (1 : Int) then some (.row 0, ⟨[], [], [.live ⟨9, [.str], [[.s ({ data := #[114, 117, 108, 101, 115] : ByteArray })], [.s ({ data := #[115, 117, 109, 115] : ByteArray })], [.s ({ data := #[110, 117, 109, 98, 101, 114, 115] : ByteArray })]], true, false⟩]⟩) else some (.row 0, ⟨[], [], [.live ⟨9, [.str], [[.s ({ data := #[114, 117, 108, 101, 115] : ByteArray })], [.s ({ data := #[115, 117, 109, 115] : ByteArray })]], true, false⟩]⟩)) else (bif aN 1 (f.fdiv (16 : Int)) == (1 : Int) then some (.row 0, ⟨[], [], [.live ⟨9, [.str], [[.s ({ data := #[114, 117, 108, 101, 115] : ByteArray })], [.s ({ data := #[110, 117, 109, 98, 101, 114, 115] : ByteArray })]], true, false⟩]⟩) else some (.row 0, ⟨[], [], [.live ⟨9, [.str], [[.s ({ data := #[114, 117, 108, 101, 115] : ByteArray })]], true, false⟩]⟩))))) else (bif aN 1 (f.fdiv (2 : Int)) == (1 : Int) then (bif aN 1 (f.fdiv (4 : Int)) == (1 : Int) then (bif aN 1 (f.fdiv (8 : Int)) == (1 : Int) then (bif aN 1 (f.fdiv (16 : Int)) == (1 : Int) then some (.row 0, ⟨[], [], [.live ⟨9, [.str], [[.s ({ data := #[112, 111, 119, 101, 114] : ByteArray })], [.s ({ data := #[108, 105, 110, 101] : ByteArray })], [.s ({ data := #[115, 117, 109, 115] : ByteArray })], [.s ({ data := #[110, 117, 109, 98, 101, 114, 115] : ByteArray })]], true, false⟩]⟩) else some (.row 0, ⟨[], [], [.live ⟨9, [.str], [[.s ({ data := #[112, 111, 119, 101, 114] : ByteArray })], [.s ({ data := #[108, 105, 110, 101] : ByteArray })], [.s ({ data := #[115, 117, 109, 115] : ByteArray })]], true, false⟩]⟩)) else (bif aN 1 (f.fdiv (16 : Int)) == (1 : Int) then some (.row 0, ⟨[], [], [.live ⟨9, [.str], [[.s ({ data := #[112, 111, 119, 101, 114] : ByteArray })], [.s ({ data := #[108, 105, 110, 101] : ByteArray })], [.s ({ data := #[110, 117, 109, 98, 101, 114, 115] : ByteArray })]], true, false⟩]⟩) else some (.row 0, ⟨[], [], [.live ⟨9, [.str], [[.s ({ data := #[112, 111, 119, 101, 114] : ByteArray })], [.s ({ data := #[108, 105, 110, 101] : ByteArray })]], true, false⟩]⟩))) else (bif aN 1 (f.fdiv (8 : Int)) == (1 : Int) then (bif aN 1 (f.fdiv (16 : Int)) == (1 : Int) then some (.row 0, ⟨[], [], [.live ⟨9, [.str], [[.s ({ data := #[112, 111, 119, 101, 114] : ByteArray })], [.s ({ data := #[115, 117, 109, 115] : ByteArray })], [.s ({ data := #[110, 117, 109, 98, 101, 114, 115] : ByteArray })]], true, false⟩]⟩) else some (.row 0, ⟨[], [], [.live ⟨9, [.str], [[.s ({ data := #[112, 111, 119, 101, 114] : ByteArray })], [.s ({ data := #[115, 117, 109, 115] : ByteArray })]], true, false⟩]⟩)) else (bif aN 1 (f.fdiv (16 : Int)) == (1 : Int) then some (.row 0, ⟨[], [], [.live ⟨9, [.str], [[.s ({ data := #[112, 111, 119, 101, 114] : ByteArray })], [.s ({ data := #[110, 117, 109, 98, 101, 114, 115] : ByteArray })]], true, false⟩]⟩) else some (.row 0, ⟨[], [], [.live ⟨9, [.str], [[.s ({ data := #[112, 111, 119, 101, 114] : ByteArray })]], true, false⟩]⟩)))) else (bif aN 1 (f.fdiv (4 : Int)) == (1 : Int) then (bif aN 1 (f.fdiv (8 : Int)) == (1 : Int) then (bif aN 1 (f.fdiv (16 : Int)) == (1 : Int) then some (.row 0, ⟨[], [], [.live ⟨9, [.str], [[.s ({ data := #[108, 105, 110, 101] : ByteArray })], [.s ({ data := #[115, 117, 109, 115] : ByteArray })], [.s ({ data := #[110, 117, 109, 98, 101, 114, 115] : ByteArray })]], true, false⟩]⟩) else some (.row 0, ⟨[], [], [.live ⟨9, [.str], [[.s ({ data := #[108, 105, 110, 101] : ByteArray })], [.s ({ data := #[115, 117, 109, 115] : ByteArray })]], true, false⟩]⟩)) else (bif aN 1 (f.fdiv (16 : Int)) == (1 : Int) then some (.row 0, ⟨[], [], [.live ⟨9, [.str], [[.s ({ data := #[108, 105, 110, 101] : ByteArray })], [.s ({ data := #[110, 117, 109, 98, 101, 114, 115] : ByteArray })]], true, false⟩]⟩) else some (.row 0, ⟨[], [], [.live ⟨9, [.str], [[.s ({ data := #[108, 105, 110, 101] : ByteArray })]], true, false⟩]⟩))) else (bif aN 1 (f.fdiv (8 : Int)) == (1 : Int) then (bif aN 1 (f.fdiv (16 : Int)) == (1 : Int) then some (.row 0, ⟨[], [], [.live ⟨9, [.str], [[.s ({ data := #[115, 117, 109, 115] : ByteArray })], [.s ({ data := #[110, 117, 109, 98, 101, 114, 115] : ByteArray })]], true, false⟩]⟩) else some (.row 0, ⟨[], [], [.live ⟨9, [.str], [[.s ({ data := #[115, 117, 109, 115] : ByteArray })]], true, false⟩]⟩)) else (bif aN 1 (f.fdiv (16 : Int)) == (1 : Int) then some (.row 0, ⟨[], [], [.live ⟨9, [.str], [[.s ({ data := #[110, 117, 109, 98, 101, 114, 115] : ByteArray })]], true, false⟩]⟩) else some (.row 0, ⟨[], [], [.live ⟨9, [.str], [], true, false⟩]⟩)))))) := by kernel_rfl
def fbit (i : Nat) (f : Int) : Bool := ((f % 32).toNat).testBit i
theorem and31 (x : Nat) : x &&& 31 = x % 32 := Nat.and_two_pow_sub_one_eq_mod x 5
theorem aN_low5 {m : Int} (p : Int) (hm : 0 ≤ m ∧ m < 256) (h : m.toNat &&& 31 = m.toNat) : aN m p = ((((p % 32).toNat &&& m.toNat) : Nat) : Int) := by
  rw [aN_nat hm]
  have e : (p % 18446744073709551616).toNat &&& m.toNat = (p % 18446744073709551616).toNat % 32 &&& m.toNat := by
    rw [← and31, Nat.and_assoc, Nat.and_comm 31 m.toNat, h]
  rw [e]
  congr 2
  omega
theorem five_bits : ∀ q : Nat, q < 32 → (((q &&& 1 : Nat) : Int) != 0) = q.testBit 0 ∧ (((q &&& 2 : Nat) : Int) != 0) = q.testBit 1 ∧ (((q &&& 4 : Nat) : Int) != 0) = q.testBit 2 ∧ (((q &&& 8 : Nat) : Int) != 0) = q.testBit 3 ∧ (((q &&& 16 : Nat) : Int) != 0) = q.testBit 4 := by decide
theorem name_bits (f : Int) : (aN 1 f != 0) = fbit 0 f ∧ (aN 2 f != 0) = fbit 1 f ∧ (aN 4 f != 0) = fbit 2 f ∧ (aN 8 f != 0) = fbit 3 f ∧ (aN 16 f != 0) = fbit 4 f := by
  rw [aN_low5 f (by decide) (by decide), aN_low5 f (by decide) (by decide), aN_low5 f (by decide) (by decide), aN_low5 f (by decide) (by decide), aN_low5 f (by decide) (by decide)]
  exact five_bits (f % 32).toNat (by omega)
theorem aN1 (x : Int) : aN 1 x = x % 2 := by
  rw [aN_low x (by decide) (by decide)]
  have : x % 4 = 0 ∨ x % 4 = 1 ∨ x % 4 = 2 ∨ x % 4 = 3 := by omega
  rcases this with h | h | h | h <;> rw [h]
  · show (0 : Int) = _; omega
  · show (1 : Int) = _; omega
  · show (0 : Int) = _; omega
  · show (1 : Int) = _; omega
theorem five_bits2 : ∀ q : Nat, q < 32 → (((q : Int) % 2) == 1) = q.testBit 0 ∧ (((q : Int) / 2 % 2) == 1) = q.testBit 1 ∧ (((q : Int) / 4 % 2) == 1) = q.testBit 2 ∧ (((q : Int) / 8 % 2) == 1) = q.testBit 3 ∧ (((q : Int) / 16 % 2) == 1) = q.testBit 4 := by decide
theorem name_bits2 (f : Int) : (aN 1 (f.fdiv 1) == 1) = fbit 0 f ∧ (aN 1 (f.fdiv 2) == 1) = fbit 1 f ∧ (aN 1 (f.fdiv 4) == 1) = fbit 2 f ∧ (aN 1 (f.fdiv 8) == 1) = fbit 3 f ∧ (aN 1 (f.fdiv 16) == 1) = fbit 4 f := by
  have h := five_bits2 (f % 32).toNat (by omega)
  have hq : (((f % 32).toNat : Nat) : Int) = f % 32 := by omega
  rw [hq] at h
  rw [Int.fdiv_eq_ediv_of_nonneg _ (by decide), Int.fdiv_eq_ediv_of_nonneg _ (by decide), Int.fdiv_eq_ediv_of_nonneg _ (by decide), Int.fdiv_eq_ediv_of_nonneg _ (by decide), Int.fdiv_eq_ediv_of_nonneg _ (by decide), aN1, aN1, aN1, aN1, aN1]
  rw [show f / 1 % 2 = f % 32 % 2 by omega, show f / 2 % 2 = f % 32 / 2 % 2 by omega, show f / 4 % 2 = f % 32 / 4 % 2 by omega, show f / 8 % 2 = f % 32 / 8 % 2 by omega, show f / 16 % 2 = f % 32 / 16 % 2 by omega]
  exact h
/-- What is wrong, in words. -/
def nmL (f : Int) : List (List Dat) := (bif fbit 0 f then [[Dat.s ⟨#[114, 117, 108, 101, 115]⟩]] else []) ++ ((bif fbit 1 f then [[Dat.s ⟨#[112, 111, 119, 101, 114]⟩]] else []) ++ ((bif fbit 2 f then [[Dat.s ⟨#[108, 105, 110, 101]⟩]] else []) ++ ((bif fbit 3 f then [[Dat.s ⟨#[115, 117, 109, 115]⟩]] else []) ++ ((bif fbit 4 f then [[Dat.s ⟨#[110, 117, 109, 98, 101, 114, 115]⟩]] else [])))))
def gBnm (xs : List SV) (m : Mem) : Option (Bool × SV × Mem) :=
  match xs, m with
  | [.v (.int .i64 f)], ⟨[], [], []⟩ => some (true, .row 0, ⟨[], [], [.live ⟨9, [.str], nmL f, true, false⟩]⟩)
  | _, _ => none
theorem gBnm_ok : ∀ xs m r m', gBnm xs m = some (true, r, m') → CallOk Tryz.prog 13 xs m r m' := by
  intro xs m r m' h
  unfold gBnm at h
  split at h
  · rename_i f
    obtain ⟨h1, rfl, rfl⟩ := some_t2 h
    refine runOk (Λ := L0) OkbU Tryz.func13 rfl (fun z _ _ => l0Ok' _ z) ?_
    refine (runBnm f).trans ?_
    obtain ⟨p1, p2, p3, p4, p5⟩ := name_bits f
    simp only [p1, p2, p3, p4, p5]
    unfold nmL
    cases fbit 0 f <;> cases fbit 1 f <;> cases fbit 2 f <;> cases fbit 3 f <;> cases fbit 4 f <;> rfl
  · cases h
def gBnr (xs : List SV) (m : Mem) : Option (Bool × SV × Mem) :=
  match xs, m with
  | [.v (.int .i64 f)], ⟨[], [], []⟩ => some (true, .row 0, ⟨[], [], [.live ⟨9, [.str], nmL f, true, false⟩]⟩)
  | _, _ => none
theorem gBnr_ok : ∀ xs m r m', gBnr xs m = some (true, r, m') → CallOk Tryz.prog 14 xs m r m' := by
  intro xs m r m' h
  unfold gBnr at h
  split at h
  · rename_i f
    obtain ⟨h1, rfl, rfl⟩ := some_t2 h
    refine runOk (Λ := L0) OkbU Tryz.func14 rfl (fun z _ _ => l0Ok' _ z) ?_
    refine (runBnr f).trans ?_
    obtain ⟨p1, p2, p3, p4, p5⟩ := name_bits2 f
    simp only [p1, p2, p3, p4, p5]
    unfold nmL
    cases fbit 0 f <;> cases fbit 1 f <;> cases fbit 2 f <;> cases fbit 3 f <;> cases fbit 4 f <;> rfl
  · cases h
noncomputable def ΓbV : Orc := addCl 13 gBnm (addCl 14 gBnr ΓbU)
theorem OkbV : ΓbV.Ok Tryz.prog := addCl_ok (addCl_ok OkbU gBnr_ok) gBnm_ok
set_option maxRecDepth 20000 in
theorem runBhe (f : Int) : runG ΓbV L0 Tryz.prog Tryz.f12 [.v (I f)] M0 = 
    some (.v (Bo (f == (0 : Int))), M0) := by kernel_rfl
def gBhe (vs : List Value) : Option (Bool × Value) :=
  match vs with
  | [.int .i64 f] => some (true, Bo (f == 0))
  | _ => none
theorem gBhe_ok : ∀ vs r, gBhe vs = some (true, r) → ∀ m, CallOk Tryz.prog 12 (vs.map .v) m (.v r) m := by
  intro vs r h
  unfold gBhe at h
  split at h
  · rename_i f
    obtain ⟨h1, rfl⟩ := some_t h
    refine runV (vs := [I f]) (Λ := L0) (m' := M0) OkbV Tryz.func12 rfl (fun z _ _ => l0Ok' _ z) ?_
    exact (runBhe f).trans (rfl)
  · cases h
noncomputable def Γb3 : Orc := addVal 12 gBhe ΓbV
theorem Okb3 : Γb3.Ok Tryz.prog := addVal_ok OkbV gBhe_ok
/-- Rules of nothing. -/
def zerR (L : List (List Dat)) (r1 r2 r3 r4 r5 r6 r7 r8 : Int) : Bool := (L.length : Int) == 0 && (r1 == 0 && (r2 == 0 && (r3 == 0 && (r4 == 0 && (r5 == 0 && (r6 == 0 && (r7 == 0 && (r8 == 0))))))))
set_option maxRecDepth 20000 in
theorem runSmz (r1 : Int) (r2 : Int) (r3 : Int) (r4 : Int) (r5 : Int) (r6 : Int) (r7 : Int) (r8 : Int) (L : List (List Dat)) (own : Bool) (mark : Bool) : runG Γb3 L0 Tryz.prog Tryz.f11 [.ag [.row 0, .v (I r1), .v (I r2), .v (I r3), .v (I r4), .v (I r5), .v (I r6), .v (I r7), .v (I r8)], .v (.agg #[(Value.slice none (0 : Nat) (0 : Nat)), (I 0), (I 0), (I 0), (I 0), (I 0), (I 0), (I 0), (I 0)])] ⟨[], [], [rH L own mark]⟩ = 
    (bif (L.length : Int) != (0 : Int) then some (.v (Bo false), ⟨[], [], [.live ⟨49, kPh, L, own, mark⟩]⟩) else (bif r1 != (0 : Int) then some (.v (Bo false), ⟨[], [], [.live ⟨49, kPh, L, own, mark⟩]⟩) else (bif r2 != (0 : Int) then some (.v (Bo false), ⟨[], [], [.live ⟨49, kPh, L, own, mark⟩]⟩) else (bif r3 != (0 : Int) then some (.v (Bo false), ⟨[], [], [.live ⟨49, kPh, L, own, mark⟩]⟩) else (bif r4 != (0 : Int) then some (.v (Bo false), ⟨[], [], [.live ⟨49, kPh, L, own, mark⟩]⟩) else (bif r5 != (0 : Int) then some (.v (Bo false), ⟨[], [], [.live ⟨49, kPh, L, own, mark⟩]⟩) else (bif r6 != (0 : Int) then some (.v (Bo false), ⟨[], [], [.live ⟨49, kPh, L, own, mark⟩]⟩) else (bif r7 != (0 : Int) then some (.v (Bo false), ⟨[], [], [.live ⟨49, kPh, L, own, mark⟩]⟩) else (bif r8 != (0 : Int) then some (.v (Bo false), ⟨[], [], [.live ⟨49, kPh, L, own, mark⟩]⟩) else (bif decide ((0 : Int) < (L.length : Int)) then (same ((bif true && decide ((0 : Int) < (L.length : Int)) then (same (none) (none)) else none)) (none)) else some (.v (Bo true), ⟨[], [], [.live ⟨49, kPh, L, own, mark⟩]⟩))))))))))) := by kernel_rfl
def gSmz (xs : List SV) (m : Mem) : Option (Bool × Value) :=
  match xs, m with
  | [.ag [.row 0, .v (.int .i64 r1), .v (.int .i64 r2), .v (.int .i64 r3), .v (.int .i64 r4), .v (.int .i64 r5), .v (.int .i64 r6), .v (.int .i64 r7), .v (.int .i64 r8)], .v (.agg ⟨[.slice none 0 0, .int .i64 0, .int .i64 0, .int .i64 0, .int .i64 0, .int .i64 0, .int .i64 0, .int .i64 0, .int .i64 0]⟩)], ⟨[], [], [.live ⟨49, [.sl 51 [.num .i64, .num .i64], .num .i64, .num .i64, .num .i64, .num .i64], L, own, mark⟩]⟩ => some (true, Bo (zerR L r1 r2 r3 r4 r5 r6 r7 r8))
  | _, _ => none
theorem gSmz_ok : ∀ xs m r, gSmz xs m = some (true, r) → CallOk Tryz.prog 11 xs m (.v r) m := by
  intro xs m r h
  unfold gSmz at h
  split at h
  · rename_i r1 r2 r3 r4 r5 r6 r7 r8 L own mark
    obtain ⟨h1, rfl⟩ := some_t h
    refine runOk (Λ := L0) Okb3 Tryz.func11 rfl (fun z _ _ => l0Ok' _ z) ?_
    refine (runSmz r1 r2 r3 r4 r5 r6 r7 r8 L own mark).trans ?_
    unfold zerR
    by_cases he : (L.length : Int) = 0
    · rw [he]
      simp only [bne]
      (cases r1 == 0 <;> first | rfl | (cases r2 == 0 <;> first | rfl | (cases r3 == 0 <;> first | rfl | (cases r4 == 0 <;> first | rfl | (cases r5 == 0 <;> first | rfl | (cases r6 == 0 <;> first | rfl | (cases r7 == 0 <;> first | rfl | (cases r8 == 0 <;> first | rfl | rfl))))))))
    · rw [show ((L.length : Int) == 0) = false from beq_eq_false_iff_ne.2 he, show ((L.length : Int) != 0) = true from bne_iff_ne.2 he]
      rfl
  · cases h
noncomputable def Γb4 : Orc := addRd 11 gSmz Γb3
theorem Okb4 : Γb4.Ok Tryz.prog := addRd_ok Okb3 gSmz_ok
noncomputable def ΓBt : Orc := Γb4
theorem OkBt : ΓBt.Ok Tryz.prog := Okb4
end Go.Proofs.YtikekoabadhmiaaGreat

namespace Go.Proofs.YtikekoabadhmiaaGreat
open Go Go.Proofs Go.Sx
set_option linter.unusedVariables false
def wx23 (f : FuncId) : Bool := wr13 f || Nat.beq f 8 || Nat.beq f 13
noncomputable def Γx23 : Orc := execV Tryz.prog ΓBt.call ΓBt.rd ΓBt.eqv wx23 30 6
theorem Okx23 : Γx23.Ok Tryz.prog := execV_ok mixed names (ext := ΓBt.call) (rd := ΓBt.rd) (eqv := ΓBt.eqv) ⟨OkBt.call, OkBt.rd, OkBt.eqv⟩ 30 6
set_option maxRecDepth 100000 in
theorem runAwake23 : runG Γx23 (loopX Γx23 Tryz.prog 30 3) Tryz.prog Tryz.f7 [] M0 = some (.v (Bo true), M0) := by kernel_rfl
def gAwake23 (vs : List Value) : Option (Bool × Value) :=
  match vs with
  | [] => some (true, Bo true)
  | _ => none
theorem gAwake23_ok : ∀ vs r, gAwake23 vs = some (true, r) → ∀ m, CallOk Tryz.prog 7 (vs.map .v) m (.v r) m := by
  intro vs r h
  unfold gAwake23 at h
  split at h
  · obtain ⟨_, rfl⟩ := some_t h
    exact runV (vs := []) Okx23 Tryz.func7 rfl (fun z _ _ b hb => loopX_ok Okx23 mixed 30 3 b) runAwake23
  · cases h
noncomputable def ΓA23 : Orc := addVal 7 gAwake23 ΓBt
theorem OkA23 : ΓA23.Ok Tryz.prog := addVal_ok OkBt gAwake23_ok
noncomputable def ΓS23 : Orc := { ΓA23 with av := true }
theorem OkS23 : ΓS23.Ok Tryz.prog := ⟨OkA23.call, OkA23.rd, OkA23.eqv⟩
end Go.Proofs.YtikekoabadhmiaaGreat

