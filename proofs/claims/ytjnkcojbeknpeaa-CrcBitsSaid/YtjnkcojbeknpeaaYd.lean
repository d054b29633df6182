/-
  Contracts of tables: New, Row16, Row32, Sum16, Sum32, Made; awake. No condition.
-/
import Derived.Test.YtjnkcojbeknpeaaYc
import Derived.Test.YtjnkcojbeknpeaaYb
namespace Go.Proofs.Ytjnkcojbeknpeaa
open Go Go.Proofs Go.Sx

/-! Tables. -/
def inRow (i : Int) : Bool := decide (i ≥ 0) && decide (i < 256)
theorem run25 (i : Int) : run Γa L0 Try.prog Try.f25 [I i] = bif decide (i ≥ 0) then some (.bool (decide (i < 256))) else some (.bool false) := by kernel_rfl
theorem loops25 : loopsOf (Try.f25.body.getD .skip) = [] := by kernel_rfl
def t4 (f : FuncId) (vs : List Value) : Option (Bool × Value) :=
  match Nat.beq f 25, vs with
  | true, [.int .i64 i] => some (true, .bool (inRow i))
  | _, _ => none
theorem t4_ok : ∀ f vs r, t4 f vs = some (true, r) → CallOk Try.prog f (vs.map .v) (.v r) := by
  intro f vs r h
  unfold t4 at h
  split at h
  · rename_i i hf
    injection h with h
    injection h with h1 h2
    subst h2
    obtain rfl := Nat.eq_of_beq_eq_true hf
    refine callOk_of_runV (Λ := L0) Oka mixed names Try.func25 rfl (fun w => no_loop (fn := Try.f25) loops25 ⟨w, []⟩) ?_
    show run Γa L0 Try.prog Try.f25 [I i] = _
    rw [run25]
    unfold inRow
    cases decide (i ≥ 0) <;> rfl
  · cases h
theorem run28m : runE Γa L0 Try.prog Try.f28 [.ptr made 3] = some (.v (I 1), [made]) := by kernel_rfl
theorem run28n : runE Γa L0 Try.prog Try.f28 [.ptr new 3] = some (.v (I 0), [new]) := by kernel_rfl
theorem loops28 : loopsOf (Try.f28.body.getD .skip) = [] := by kernel_rfl
def mk1 (cs : List Value) : Int := bif doneB cs then 1 else 0
/-- Load of a table's number; New. -/
def tX (f : FuncId) (args : List Arg) : Option (Bool × Res × List (List Value)) :=
  match Nat.beq f 28, args with
  | true, [.ptr cs 3] => some (isTab cs, .v (I (mk1 cs)), [cs])
  | _, _ => none
theorem tX_ok : ∀ f vs r outs, tX f vs = some (true, r, outs) → EffOk Try.prog f vs r outs := by
  intro f vs r outs h
  unfold tX at h
  split at h
  · rename_i cs hf
    injection h with h
    injection h with h1 h
    injection h with h2 h3
    subst h2 h3
    obtain rfl := Nat.eq_of_beq_eq_true hf
    unfold mk1
    rcases isTab_cases h1 with ⟨hd, rfl⟩ | ⟨hd, rfl⟩
    · rw [hd]
      exact effOk_of_run (Λ := L0) Oka mixed names Try.func28 rfl (no_loop (fn := Try.f28) loops28) run28m
    · rw [hd]
      exact effOk_of_run (Λ := L0) Oka mixed names Try.func28 rfl (no_loop (fn := Try.f28) loops28) run28n
  · cases h
def Γb : Orc := addX tX (addC (tabV t4) (addO tO Γa))
theorem Okb : Γb.Ok Try.prog := addX_ok (addC_ok (addO_ok Oka tO_ok) (tabV_ok t4_ok)) tX_ok
theorem run20m : runE Γb L0 Try.prog Try.f20 [.ptr made 0] = some (.v (I 1), [made]) := by kernel_rfl
theorem run20n : runE Γb L0 Try.prog Try.f20 [.ptr new 0] = some (.v (I 0), [new]) := by kernel_rfl
theorem run15 : runE Γb L0 Try.prog Try.f15 [] = some (.ptr new, []) := by kernel_rfl
theorem run16m (i : Int) : runE Γb L0 Try.prog Try.f16 [.ptr made 0, .v (I i)] = bif !inRow i then some (.v (U16 0), [made]) else (bif decide (0 ≤ i) && decide (i < 256) then some (.v (U16 (tab16.getD i.toNat 0)), [made]) else none) := by kernel_rfl
theorem run16n (i : Int) : runE Γb L0 Try.prog Try.f16 [.ptr new 0, .v (I i)] = bif !inRow i then some (.v (U16 0), [new]) else (bif decide (0 ≤ i) && decide (i < 256) then some (.v (U16 (tab16.getD i.toNat 0)), [made]) else none) := by kernel_rfl
theorem run17m (i : Int) : runE Γb L0 Try.prog Try.f17 [.ptr made 0, .v (I i)] = bif !inRow i then some (.v (U32 0), [made]) else (bif decide (0 ≤ i) && decide (i < 256) then some (.v (U32 (tab32.getD i.toNat 0)), [made]) else none) := by kernel_rfl
theorem run17n (i : Int) : runE Γb L0 Try.prog Try.f17 [.ptr new 0, .v (I i)] = bif !inRow i then some (.v (U32 0), [new]) else (bif decide (0 ≤ i) && decide (i < 256) then some (.v (U32 (tab32.getD i.toNat 0)), [made]) else none) := by kernel_rfl
end Go.Proofs.Ytjnkcojbeknpeaa

namespace Go.Proofs.Ytjnkcojbeknpeaa
open Go Go.Proofs Go.Sx

/-! A table's sums. -/
def ix16 (s : ByteArray) (x i : Int) : Int := IntKind.u8.wrap (((BitVec.ofInt 8 (IntKind.u8.wrap (Int.fdiv x (2 ^ min (Int.toNat 8) 16))) ^^^ BitVec.ofInt 8 (strAt s i)).toNat : Nat) : Int)
def ix32 (s : ByteArray) (x i : Int) : Int := IntKind.u8.wrap (((BitVec.ofInt 8 (IntKind.u8.wrap x) ^^^ BitVec.ofInt 8 (strAt s i)).toNat : Nat) : Int)
def y16 (s : ByteArray) (x i : Int) : Int := IntKind.u16.wrap (((BitVec.ofInt 16 (IntKind.u16.wrap (x * 2 ^ min (Int.toNat 8) 16)) ^^^ BitVec.ofInt 16 (tab16.getD (ix16 s x i).toNat 0)).toNat : Nat) : Int)
def y32 (s : ByteArray) (x i : Int) : Int := IntKind.u32.wrap (((BitVec.ofInt 32 (Int.fdiv x (2 ^ min (Int.toNat 8) 32)) ^^^ BitVec.ofInt 32 (tab32.getD (ix32 s x i).toNat 0)).toNat : Nat) : Int)
def inT (i : Int) : Bool := decide (0 ≤ i) && decide (i < 256)
theorem wrap8 (n : Nat) : IntKind.u8.wrap (n : Int) = ((n % 256 : Nat) : Int) := by
  rw [← wr_eq true]; simp only [wr]; omega
theorem tab16_get {i : Nat} (h : i < 256) : tab16.getD i 0 = ((N16 (i * 256) : Nat) : Int) := by
  simp [tab16, List.getD, h]
theorem tab32_get {i : Nat} (h : i < 256) : tab32.getD i 0 = ((N32 i : Nat) : Int) := by
  simp [tab32, List.getD, h]
theorem gt16 (s : ByteArray) (n k : Nat) (b : UInt8) (hn : n < 65536) (hb : s.data[k]? = some b) : inT (ix16 s n k) = true ∧ y16 s n k = ((p16 n b : Nat) : Int) := by
  have h := byte_lt b
  have e1 : ix16 s n k = (((n / 256) ^^^ b.toNat : Nat) : Int) := by
    unfold ix16
    rw [strAt_some hb]
    have e : Int.fdiv (n : Int) (2 ^ min (Int.toNat 8) 16) = ((n / 256 : Nat) : Int) := by
      rw [show min (Int.toNat 8) 16 = 8 from rfl, Int.fdiv_eq_ediv_of_nonneg _ (by decide)]; omega
    rw [e, wrap8 (n / 256), Nat.mod_eq_of_lt (show n / 256 < 256 by omega), xorB 8 _ _ (by show _ < 256; omega) h, wrap8]
    rw [Nat.mod_eq_of_lt (xor_lt 8 (by show _ < 256; omega) h)]
    rfl
  have h1 : ((n / 256) ^^^ b.toNat) < 256 := Nat.xor_lt_two_pow (n := 8) (by show _ < 256; omega) h
  refine ⟨by rw [e1]; unfold inT; rw [decide_eq_true (by omega), decide_eq_true (by omega)]; rfl, ?_⟩
  unfold y16
  have e2 : (n : Int) * 2 ^ min (Int.toNat 8) 16 = ((n * 256 : Nat) : Int) := by
    rw [show min (Int.toNat 8) 16 = 8 from rfl]; omega
  have e3 : N16 ((n / 256 ^^^ b.toNat) * 256) < 65536 := N16_lt (by omega)
  rw [e1, Int.toNat_natCast, tab16_get h1, e2, wrap16 (n * 256), xorB 16 _ _ (by show _ < 65536; omega) e3, wrap16, Nat.mod_eq_of_lt (xor_lt 16 (by show _ < 65536; omega) e3), p16_row b hn]
  rfl
theorem gt32 (s : ByteArray) (n k : Nat) (b : UInt8) (hn : n < 4294967296) (hb : s.data[k]? = some b) : inT (ix32 s n k) = true ∧ y32 s n k = ((p32 n b : Nat) : Int) := by
  have h := byte_lt b
  have e1 : ix32 s n k = (((n % 256) ^^^ b.toNat : Nat) : Int) := by
    unfold ix32
    rw [strAt_some hb]
    rw [wrap8 n, xorB 8 _ _ (by show _ < 256; omega) h, wrap8]
    rw [Nat.mod_eq_of_lt (xor_lt 8 (by show _ < 256; omega) h)]
    rfl
  have h1 : ((n % 256) ^^^ b.toNat) < 256 := Nat.xor_lt_two_pow (n := 8) (by show _ < 256; omega) h
  refine ⟨by rw [e1]; unfold inT; rw [decide_eq_true (by omega), decide_eq_true (by omega)]; rfl, ?_⟩
  unfold y32
  have e2 : Int.fdiv (n : Int) (2 ^ min (Int.toNat 8) 32) = ((n / 256 : Nat) : Int) := by
    rw [show min (Int.toNat 8) 32 = 8 from rfl, Int.fdiv_eq_ediv_of_nonneg _ (by decide)]; omega
  have e3 : N32 (n % 256 ^^^ b.toNat) < 2 ^ 32 := by rw [two32]; exact N32_lt (by omega)
  rw [e1, Int.toNat_natCast, tab32_get h1, e2, xorB 32 _ _ (by rw [two32]; omega) e3, wrap32, Nat.mod_eq_of_lt (by rw [← two32]; exact xor_lt 32 (by rw [two32]; omega) e3), p32_row n b]
  rfl

def k21 : List Bool := maskOf 37 [0, 1, 5, 16, 17]
def x21 : List Bool := maskOf 37 [5]
noncomputable def body21 : Code := loopAt (Try.f21.body.getD .skip) 0
noncomputable def body22 : Code := loopAt (Try.f22.body.getD .skip) 0
theorem loops21 : loopsOf (Try.f21.body.getD .skip) = [body21] := by kernel_rfl
theorem loops22 : loopsOf (Try.f22.body.getD .skip) = [body22] := by kernel_rfl
theorem loops21a : loopsOf body21 = [] := by kernel_rfl
theorem loops22a : loopsOf body22 = [] := by kernel_rfl
def MT : Mem := ⟨[made.map .v], [true], []⟩
def K21 (e : Ex) (st : St) : Option (Ex × St) := some (e, cutG x21 st)
def H21 (s : ByteArray) (x i : Int) : St := mk k21 [.ptr 0 0, .v (Z s), .v (U16 x), .v (I (s.size : Int)), .v (I i)] MT
def H22 (s : ByteArray) (x i : Int) : St := mk k21 [.ptr 0 0, .v (Z s), .v (U32 x), .v (I (s.size : Int)), .v (I i)] MT
theorem step21 (s : ByteArray) (k : Nat) (x i : Int) : evLoop Γb Try.prog L0 (cutG k21) body21 (k + 1) (H21 s x i) K21 =
    bif decide (i < (s.size : Int)) then (bif decide (0 ≤ i) && decide (i < (s.size : Int)) then (bif inT (ix16 s x i) then evLoop Γb Try.prog L0 (cutG k21) body21 k (H21 s (y16 s x i) (wI (i + 1))) K21 else none) else none)
    else some (.exit 0, mk x21 [.v (U16 x)] MT) := by kernel_rfl
theorem step22 (s : ByteArray) (k : Nat) (x i : Int) : evLoop Γb Try.prog L0 (cutG k21) body22 (k + 1) (H22 s x i) K21 =
    bif decide (i < (s.size : Int)) then (bif decide (0 ≤ i) && decide (i < (s.size : Int)) then (bif inT (ix32 s x i) then evLoop Γb Try.prog L0 (cutG k21) body22 k (H22 s (y32 s x i) (wI (i + 1))) K21 else none) else none)
    else some (.exit 0, mk x21 [.v (U32 x)] MT) := by kernel_rfl
def isMadeS (cs : List SV) : Bool :=
  match allV cs with
  | some vs => eqL vs made
  | none => false
theorem isMadeS_eq {cs : List SV} (h : isMadeS cs = true) : cs = made.map .v := by
  unfold isMadeS at h
  split at h
  · rename_i vs hv
    rw [allV_eq _ _ hv, eqL_eq h]
  · cases h
def G21 (vals : List SV) (m : Mem) : Option (Bool × Ex × St) :=
  match vals, m with
  | [.ptr 0 0, .v (.string s), .v (.int .u16 x), .v (.int .i64 n), .v (.int .i64 i)], ⟨[cs], [true], []⟩ => some (n == (s.size : Int) && (i == 0 && (in16 x && (szS s && isMadeS cs))), .exit 0, mk x21 [.v (U16 (R16 x s))] MT)
  | _, _ => none
def G22 (vals : List SV) (m : Mem) : Option (Bool × Ex × St) :=
  match vals, m with
  | [.ptr 0 0, .v (.string s), .v (.int .u32 x), .v (.int .i64 n), .v (.int .i64 i)], ⟨[cs], [true], []⟩ => some (n == (s.size : Int) && (i == 0 && (in32 x && (szS s && isMadeS cs))), .exit 0, mk x21 [.v (U32 (R32 x s))] MT)
  | _, _ => none
noncomputable def Λ21 : LoopOrc := fun _ st => viaK k21 G21 st
noncomputable def Λ22 : LoopOrc := fun _ st => viaK k21 G22 st
theorem loopOk21 (w0 : Base) : LoopOk Λ21 Try.prog w0 body21 := by
  refine loop_okK (Λ := L0) (kx := fun _ => x21) Okb mixed (fun b hb => by rw [loops21a] at hb; cases hb) (G := G21) (fun _ => rfl) ?_
  intro vals m e st' h
  unfold G21 at h
  split at h
  · rename_i s x l i cs
    injection h with h
    injection h with h1 h
    injection h with h2 h3
    subst h2 h3
    simp only [Bool.and_eq_true, beq_iff_eq] at h1
    obtain ⟨rfl, rfl, h1, h4, h5⟩ := h1
    obtain rfl := isMadeS_eq h5
    obtain ⟨n, rfl, hn⟩ := in16_nat h1
    exact ⟨s.size + 1, overS s (Nat.le_of_ble_eq_true h4) (fun k x i => evLoop Γb Try.prog L0 (cutG k21) body21 k (H21 s x i) K21) (fun x => some (.exit 0, mk x21 [.v (U16 x)] MT)) (fun x i => inT (ix16 s x i)) (fun x i => y16 s x i) p16 65536 (fun n b => p16_lt b) (gt16 s) (step21 s) s.size 0 n (by omega) hn⟩
  · cases h
theorem loopOk22 (w0 : Base) : LoopOk Λ22 Try.prog w0 body22 := by
  refine loop_okK (Λ := L0) (kx := fun _ => x21) Okb mixed (fun b hb => by rw [loops22a] at hb; cases hb) (G := G22) (fun _ => rfl) ?_
  intro vals m e st' h
  unfold G22 at h
  split at h
  · rename_i s x l i cs
    injection h with h
    injection h with h1 h
    injection h with h2 h3
    subst h2 h3
    simp only [Bool.and_eq_true, beq_iff_eq] at h1
    obtain ⟨rfl, rfl, h1, h4, h5⟩ := h1
    obtain rfl := isMadeS_eq h5
    obtain ⟨n, rfl, hn⟩ := in32_nat h1
    exact ⟨s.size + 1, overS s (Nat.le_of_ble_eq_true h4) (fun k x i => evLoop Γb Try.prog L0 (cutG k21) body22 k (H22 s x i) K21) (fun x => some (.exit 0, mk x21 [.v (U32 x)] MT)) (fun x i => inT (ix32 s x i)) (fun x i => y32 s x i) p32 4294967296 (fun n b => p32_lt b) (gt32 s) (step22 s) s.size 0 n (by omega) hn⟩
  · cases h
theorem run21m (s : ByteArray) : runE Γb Λ21 Try.prog Try.f21 [.ptr made 0, .v (Z s)] = bif (s.size : Int) == (s.size : Int) && ((0 : Int) == 0 && (in16 65535 && (szS s && true))) then some (.v (U16 (R16 65535 s)), [made]) else none := by kernel_rfl
theorem run21n (s : ByteArray) : runE Γb Λ21 Try.prog Try.f21 [.ptr new 0, .v (Z s)] = bif (s.size : Int) == (s.size : Int) && ((0 : Int) == 0 && (in16 65535 && (szS s && true))) then some (.v (U16 (R16 65535 s)), [made]) else none := by kernel_rfl
theorem run22m (s : ByteArray) : runE Γb Λ22 Try.prog Try.f22 [.ptr made 0, .v (Z s)] = bif (s.size : Int) == (s.size : Int) && ((0 : Int) == 0 && (in32 4294967295 && (szS s && true))) then some (.v (U32 (V32 s)), [made]) else none := by kernel_rfl
theorem run22n (s : ByteArray) : runE Γb Λ22 Try.prog Try.f22 [.ptr new 0, .v (Z s)] = bif (s.size : Int) == (s.size : Int) && ((0 : Int) == 0 && (in32 4294967295 && (szS s && true))) then some (.v (U32 (V32 s)), [made]) else none := by kernel_rfl
theorem loops16 : loopsOf (Try.f16.body.getD .skip) = [] := by kernel_rfl
theorem loops17 : loopsOf (Try.f17.body.getD .skip) = [] := by kernel_rfl
theorem loops20 : loopsOf (Try.f20.body.getD .skip) = [] := by kernel_rfl
theorem loops15 : loopsOf (Try.f15.body.getD .skip) = [] := by kernel_rfl
theorem inT_of {i : Int} (h : inRow i = true) : (decide (0 ≤ i) && decide (i < 256)) = true := h
def r16 (i : Int) : Int := bif inRow i then tab16.getD i.toNat 0 else 0
def r32 (i : Int) : Int := bif inRow i then tab32.getD i.toNat 0 else 0
/-- Calls of tables. -/
def tY (f : FuncId) (args : List Arg) : Option (Bool × Res × List (List Value)) :=
  match f, args with
  | 15, [] => some (true, .ptr new, [])
  | 16, [.ptr cs 0, .v (.int .i64 i)] => some (isTab cs && (doneB cs || inRow i), .v (U16 (r16 i)), [made])
  | 17, [.ptr cs 0, .v (.int .i64 i)] => some (isTab cs && (doneB cs || inRow i), .v (U32 (r32 i)), [made])
  | 20, [.ptr cs 0] => some (isTab cs, .v (I (mk1 cs)), [cs])
  | 21, [.ptr cs 0, .v (.string s)] => some (isTab cs && szS s, .v (U16 (R16 65535 s)), [made])
  | 22, [.ptr cs 0, .v (.string s)] => some (isTab cs && szS s, .v (U32 (V32 s)), [made])
  | _, _ => none
theorem tY_ok : ∀ f vs r outs, tY f vs = some (true, r, outs) → EffOk Try.prog f vs r outs := by
  intro f vs r outs h
  unfold tY at h
  split at h
  · injection h with h
    injection h with h1 h
    injection h with h2 h3
    subst h2 h3
    exact effOk_of_run (Λ := L0) Okb mixed names Try.func15 rfl (no_loop (fn := Try.f15) loops15) run15
  · rename_i cs i
    injection h with h
    injection h with h1 h
    injection h with h2 h3
    subst h2 h3
    simp only [Bool.and_eq_true, Bool.or_eq_true] at h1
    rcases isTab_cases h1.1 with ⟨hd, rfl⟩ | ⟨hd, rfl⟩
    · refine effOk_of_run (Λ := L0) Okb mixed names Try.func16 rfl (no_loop (fn := Try.f16) loops16) ?_
      show runE Γb L0 Try.prog Try.f16 [.ptr made 0, .v (I i)] = _
      rw [run16m]
      unfold r16
      cases hi : inRow i
      · rfl
      · rw [inT_of hi]; rfl
    · have hi : inRow i = true := by
        rcases h1.2 with h2 | h2
        · rw [hd] at h2; cases h2
        · exact h2
      refine effOk_of_run (Λ := L0) Okb mixed names Try.func16 rfl (no_loop (fn := Try.f16) loops16) ?_
      show runE Γb L0 Try.prog Try.f16 [.ptr new 0, .v (I i)] = _
      rw [run16n]
      unfold r16
      rw [inT_of hi, hi]; rfl
  · rename_i cs i
    injection h with h
    injection h with h1 h
    injection h with h2 h3
    subst h2 h3
    simp only [Bool.and_eq_true, Bool.or_eq_true] at h1
    rcases isTab_cases h1.1 with ⟨hd, rfl⟩ | ⟨hd, rfl⟩
    · refine effOk_of_run (Λ := L0) Okb mixed names Try.func17 rfl (no_loop (fn := Try.f17) loops17) ?_
      show runE Γb L0 Try.prog Try.f17 [.ptr made 0, .v (I i)] = _
      rw [run17m]
      unfold r32
      cases hi : inRow i
      · rfl
      · rw [inT_of hi]; rfl
    · have hi : inRow i = true := by
        rcases h1.2 with h2 | h2
        · rw [hd] at h2; cases h2
        · exact h2
      refine effOk_of_run (Λ := L0) Okb mixed names Try.func17 rfl (no_loop (fn := Try.f17) loops17) ?_
      show runE Γb L0 Try.prog Try.f17 [.ptr new 0, .v (I i)] = _
      rw [run17n]
      unfold r32
      rw [inT_of hi, hi]; rfl
  · rename_i cs
    injection h with h
    injection h with h1 h
    injection h with h2 h3
    subst h2 h3
    unfold mk1
    rcases isTab_cases h1 with ⟨hd, rfl⟩ | ⟨hd, rfl⟩
    · rw [hd]
      exact effOk_of_run (Λ := L0) Okb mixed names Try.func20 rfl (no_loop (fn := Try.f20) loops20) run20m
    · rw [hd]
      exact effOk_of_run (Λ := L0) Okb mixed names Try.func20 rfl (no_loop (fn := Try.f20) loops20) run20n
  · rename_i cs s
    injection h with h
    injection h with h1 h
    injection h with h2 h3
    subst h2 h3
    simp only [Bool.and_eq_true] at h1
    rcases isTab_cases h1.1 with ⟨hd, rfl⟩ | ⟨hd, rfl⟩
    · refine effOk_of_run (Λ := Λ21) Okb mixed names Try.func21 rfl (one_loop (fn := Try.f21) loops21 loopOk21) ?_
      show runE Γb Λ21 Try.prog Try.f21 [.ptr made 0, .v (Z s)] = _
      rw [run21m, h1.2, beq_self_eq_true]; rfl
    · refine effOk_of_run (Λ := Λ21) Okb mixed names Try.func21 rfl (one_loop (fn := Try.f21) loops21 loopOk21) ?_
      show runE Γb Λ21 Try.prog Try.f21 [.ptr new 0, .v (Z s)] = _
      rw [run21n, h1.2, beq_self_eq_true]; rfl
  · rename_i cs s
    injection h with h
    injection h with h1 h
    injection h with h2 h3
    subst h2 h3
    simp only [Bool.and_eq_true] at h1
    rcases isTab_cases h1.1 with ⟨hd, rfl⟩ | ⟨hd, rfl⟩
    · refine effOk_of_run (Λ := Λ22) Okb mixed names Try.func22 rfl (one_loop (fn := Try.f22) loops22 loopOk22) ?_
      show runE Γb Λ22 Try.prog Try.f22 [.ptr made 0, .v (Z s)] = _
      rw [run22m, h1.2, beq_self_eq_true]; rfl
    · refine effOk_of_run (Λ := Λ22) Okb mixed names Try.func22 rfl (one_loop (fn := Try.f22) loops22 loopOk22) ?_
      show runE Γb Λ22 Try.prog Try.f22 [.ptr new 0, .v (Z s)] = _
      rw [run22n, h1.2, beq_self_eq_true]; rfl
  · cases h
end Go.Proofs.Ytjnkcojbeknpeaa

namespace Go.Proofs.Ytjnkcojbeknpeaa
open Go Go.Proofs Go.Sx
def concOf (Γ : Orc) : Orc := { Γ with conc := true }
theorem conc_ok {Γ : Orc} {P : Program} (h : Γ.Ok P) : (concOf Γ).Ok P := ⟨h.call, h.rd, h.eff, h.once, h.eqv⟩
/-! Tables that are none. -/
theorem run16z (i : Int) : run Γb L0 Try.prog Try.f16 [.pointer none, I i] = some (U16 0) := by kernel_rfl
theorem run17z (i : Int) : run Γb L0 Try.prog Try.f17 [.pointer none, I i] = some (U32 0) := by kernel_rfl
theorem run20z : run Γb L0 Try.prog Try.f20 [.pointer none] = some (I 0) := by kernel_rfl
theorem run21z (s : ByteArray) : run Γb Λ21 Try.prog Try.f21 [.pointer none, Z s] = some (U16 0) := by kernel_rfl
theorem run22z (s : ByteArray) : run Γb Λ22 Try.prog Try.f22 [.pointer none, Z s] = some (U32 0) := by kernel_rfl
def t5 (f : FuncId) (vs : List Value) : Option (Bool × Value) :=
  match f, vs with
  | 16, [.pointer none, .int .i64 _] => some (true, U16 0)
  | 17, [.pointer none, .int .i64 _] => some (true, U32 0)
  | 20, [.pointer none] => some (true, I 0)
  | 21, [.pointer none, .string _] => some (true, U16 0)
  | 22, [.pointer none, .string _] => some (true, U32 0)
  | _, _ => none
theorem t5_ok : ∀ f vs r, t5 f vs = some (true, r) → CallOk Try.prog f (vs.map .v) (.v r) := by
  intro f vs r h
  unfold t5 at h
  split at h
  · rename_i i
    injection h with h
    injection h with _ h
    subst h
    exact callOk_of_runV (Λ := L0) Okb mixed names Try.func16 rfl (fun w => no_loop (fn := Try.f16) loops16 ⟨w, []⟩) (run16z i)
  · rename_i i
    injection h with h
    injection h with _ h
    subst h
    exact callOk_of_runV (Λ := L0) Okb mixed names Try.func17 rfl (fun w => no_loop (fn := Try.f17) loops17 ⟨w, []⟩) (run17z i)
  · injection h with h
    injection h with _ h
    subst h
    exact callOk_of_runV (Λ := L0) Okb mixed names Try.func20 rfl (fun w => no_loop (fn := Try.f20) loops20 ⟨w, []⟩) run20z
  · rename_i s
    injection h with h
    injection h with _ h
    subst h
    exact callOk_of_runV (Λ := Λ21) Okb mixed names Try.func21 rfl (fun w => one_loop (fn := Try.f21) loops21 loopOk21 ⟨w, []⟩) (run21z s)
  · rename_i s
    injection h with h
    injection h with _ h
    subst h
    exact callOk_of_runV (Λ := Λ22) Okb mixed names Try.func22 rfl (fun w => one_loop (fn := Try.f22) loops22 loopOk22 ⟨w, []⟩) (run22z s)
  · cases h
def Γc : Orc := addX tY (addC (tabV t5) Γb)
theorem Okc : Γc.Ok Try.prog := addX_ok (addC_ok Okb (tabV_ok t5_ok)) tY_ok
/-- The answers that the document fixes. -/
theorem run9 : run (concOf Γc) L0 Try.prog Try.f9 [] = some (.bool true) := by kernel_rfl
theorem loops9 : loopsOf (Try.f9.body.getD .skip) = [] := by kernel_rfl
def t6 (f : FuncId) (vs : List Value) : Option (Bool × Value) :=
  match Nat.beq f 9, vs with
  | true, [] => some (true, .bool true)
  | _, _ => none
theorem t6_ok : ∀ f vs r, t6 f vs = some (true, r) → CallOk Try.prog f (vs.map .v) (.v r) := by
  intro f vs r h
  unfold t6 at h
  split at h
  · rename_i hf
    injection h with h
    injection h with _ h
    subst h
    obtain rfl := Nat.eq_of_beq_eq_true hf
    exact callOk_of_runV (Λ := L0) (conc_ok Okc) mixed names Try.func9 rfl (fun w => no_loop (fn := Try.f9) loops9 ⟨w, []⟩) run9
  · cases h
def Γd : Orc := addC (tabV t6) Γc
theorem Okd : Γd.Ok Try.prog := addC_ok Okc (tabV_ok t6_ok)
end Go.Proofs.Ytjnkcojbeknpeaa

