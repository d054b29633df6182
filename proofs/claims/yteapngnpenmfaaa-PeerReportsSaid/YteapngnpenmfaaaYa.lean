/-
  What is known of this program: the atomics, names; contracts of count, crc and frame.
-/
import Derived.Test.YteapngnpenmfaaaSx
import Derived.Test.YteapngnpenmfaaaProg
import Derived.Lib.Strings
import Derived.Lib.Walk
import Derived.Lib.BufferWrite
import Derived.Lib.UnsafeStr
import Derived.Laws.MakeOwn
import Derived.WalkKit
import Derived.Laws.Strings
namespace Go.Proofs.Yteapngnpenmfaaa
open Go Go.Proofs Go.Sx Go.RowKit
theorem mixed : Try.prog.follows .mixedOrders = true := by kernel_rfl
theorem names : namesOk Try.prog = true := by kernel_rfl
def noC : FuncId → List SV → Mem → Option (Bool × SV × Mem) := fun _ _ _ => none
def noR : FuncId → List SV → Mem → Option (Bool × Value) := fun _ _ _ => none
def M0 : Mem := ⟨[], [], []⟩
def I (x : Int) : Value := .int .i64 x
def S (s : ByteArray) : Value := .string s
def Bo (b : Bool) : Value := .bool b
def U8 (x : Int) : Value := .int .u8 x
def U16 (x : Int) : Value := .int .u16 x
def U32 (x : Int) : Value := .int .u32 x
theorem xLoad64 : Ext Try.prog 87 (Extern.Atomic.loadT (.int .i64)) := ⟨fun args w => run_callFunc_extern Try.func87 (by kernel_rfl) (by kernel_rfl) (by kernel_rfl) (by kernel_rfl) args w⟩
def rLoad64 : FuncId → List SV → Mem → Option (Bool × Value) := loadE 87 .i64
theorem rLoad64_ok : ∀ f xs m r, rLoad64 f xs m = some (true, r) → CallOk Try.prog f xs m (.v r) m := loadE_ok xLoad64
theorem xCas64 : Ext Try.prog 88 (Extern.Atomic.casT (.int .i64)) := ⟨fun args w => run_callFunc_extern Try.func88 (by kernel_rfl) (by kernel_rfl) (by kernel_rfl) (by kernel_rfl) args w⟩
def cCas64 : FuncId → List SV → Mem → Option (Bool × SV × Mem) := casE 88 .i64
theorem cCas64_ok : ∀ f xs m r m', cCas64 f xs m = some (true, r, m') → CallOk Try.prog f xs m r m' := casE_ok xCas64
set_option maxHeartbeats 4000000 in
set_option maxRecDepth 100000 in
/-- A text's copy has the same bytes: a new row, which is frozen; nothing else turns. -/
theorem copied (s : ByteArray) (w : World) (hs : s.size ≤ 281474976710656) :
    Calls Try.prog 75 #[.string s] w fun e w' => e = .returned (.string s) ∧ Kp w w' := by
  have fr : ∀ {w w' : World}, Below w.heap.size w w' → Kp w w' := fun h => ⟨h, fun p hp => h.frozen hp⟩
  by_cases h0 : s.size = 0
  · obtain rfl : s = ⟨#[]⟩ := ByteArray.ext (Array.eq_empty_of_size_eq_zero h0)
    go_enter Try.func75, Try.ntmps75
    go_wp2
    go_ret
    exact ⟨rfl, fr (Below.refl _ _)⟩
  · obtain ⟨ti, hti, tz, ts, tb⟩ : ∃ i, Try.prog.info? 5 = some i ∧ i.zero = some (.int .u8 0) ∧ i.size = 1 ∧ i.bytes = 1 := ⟨_, rfl, rfl, rfl, rfl⟩
    have one : (Try.prog.info? 5).map (·.size) = some 1 := by rw [hti]; simp [ts]
    have cells1 : Try.prog.cellsOf 5 = 1 := by simp [Program.cellsOf, hti, ts]
    generalize hM : madeCells (Value.int .u8 0).cells (((s.size : Nat) : Int).toNat * ti.size) = M
    have sizeM : M.size = s.size := by rw [← hM, size_madeCells, ts]; simp
    have making : ∀ W : World, (Instr.makeSlice 80 (.int .i64 (s.size : Int)) (.int .i64 (s.size : Int))).run Try.prog W = .ok (.slice (some ⟨W.heap.size, 0, none⟩) s.size s.size) (W.alloc (.cells M 5)) := by
      intro W
      have := run_make (P := Try.prog) W 80 5 ti (.int .u8 0) Try.underlying80 hti tz .i64 .i64 (s.size : Int) (s.size : Int) (by omega) (by omega) (by rw [tb]; omega) (by omega)
      rw [hM] at this
      simpa using this
    have copying := Lib.run_copy_row_string (P := Try.prog) (w.alloc (.cells M 5)) 80 9 3 5 w.heap.size 0 s.size s.size s M 5 Try.underlying80 one (heap_alloc_new w _) (Nat.le_refl _) (by omega)
    generalize hY : (M.toList.take 0 ++ Lib.byteCells s.data.toList ++ M.toList.drop (0 + s.size)).toArray = Y at copying
    have listY : Y.toList = Lib.byteCells s.data.toList := by
      rw [← hY, List.toList_toArray, List.take_zero, List.nil_append, List.drop_of_length_le (by rw [Array.length_toList]; omega), List.append_nil]
    have sizeY : Y.size = s.size := by rw [← Array.length_toList, listY, Lib.byteCells_length, ← Lib.size_eq]
    have there : ((w.alloc (.cells M 5)).setRow w.heap.size Y).heap[w.heap.size]? = some (.cells Y 5 (0, 0)) := setRow_heap _ _ M _ 5 (0, 0) (heap_alloc_new w _)
    have some1 : s.data.toList ≠ [] := fun e => h0 (by rw [Lib.size_eq, e]; rfl)
    have sharing := Lib.run_unsafeString_row (P := Try.prog) ((w.alloc (.cells M 5)).setRow w.heap.size Y) 128 3 9 5 Try.underlying128 cells1 w.heap.size Y.size (by unfold World.shape?; rw [there]) s.data.toList some1 (by rw [← Lib.size_eq]; omega) (by rw [← Lib.size_eq]; omega)
      (fun j x hx => Lib.cells_of_row there Y.size j _ (by rw [List.take_of_length_le (by rw [Array.length_toList]; exact Nat.le_refl _), listY]; simp [Lib.byteCells, hx]))
    rw [← Lib.size_eq] at sharing
    clear hM hY
    go_enter Try.func75, Try.ntmps75
    go_wp2
    go_ret
    have b1 : Below w.heap.size w (w.alloc (.cells M 5)) := (Below.refl _ w).alloc (Nat.le_refl _) _
    have b2 : Below w.heap.size (w.alloc (.cells M 5)) ((w.alloc (.cells M 5)).setRow w.heap.size Y) := ⟨rfl, rfl, rfl, by simp, fun k hk => setRow_other _ _ _ _ (by omega)⟩
    exact ⟨rfl, fr (Lib.below_freeze (b1.trans b2) (p := ⟨w.heap.size, 0, none⟩) (Nat.le_refl _) _)⟩
/-- A text's copy. -/
def gClone (vs : List Value) : Option (Bool × Value) :=
  match vs with
  | [.string s] => some (Nat.ble s.size 281474976710656, S s)
  | _ => none
theorem gClone_ok : ∀ vs r, gClone vs = some (true, r) → ∀ m, CallOk Try.prog 75 (vs.map .v) m (.v r) m := by
  intro vs r h
  unfold gClone at h
  split at h
  · rename_i s
    obtain ⟨h1, rfl⟩ := some_t h
    exact callV Try.prog fun w => .inr ⟨callFunc_enter Try.func75 rfl (names_of names Try.func75 rfl) w, copied s w (Nat.le_of_ble_eq_true h1)⟩
  · cases h
def vClone : FuncId → List Value → Option (Bool × Value) := tabOneV 75 gClone
theorem vClone_ok : TabOk Try.prog vClone := tabOneV_ok gClone_ok
/-- Structs that are compared. -/
def good : List TypeId :=
  38 ::
  23 ::
  48 ::
  60 ::
  52 ::
  64 ::
  []
/-- Calls that others wait for, in a region that draws its order. -/
def makers (f : FuncId) : Bool :=
  Nat.beq f 47 ||
  Nat.beq f 25 ||
  false
theorem goodOk : good.all (eqTypeOk Try.prog) = true := by kernel_rfl
noncomputable def ΓA : Orc := addR (tabV vClone) { call := cCas64, eqv := eqvOf Try.prog good, rd := rLoad64, unr := 8, wr := makers }
theorem OkA : ΓA.Ok Try.prog := addR_tab ⟨cCas64_ok, rLoad64_ok, fun t xs ys r h w op x y hop => eqvOf_ok goodOk t xs ys r h w op x y hop⟩ vClone_ok
theorem runOk {Γ : Orc} {Λ : LoopOrc} (hΓ : Γ.Ok Try.prog) {f : FuncId} {fn : Func} {c : Code} (hf : Try.prog.funcs[f]? = some fn) (hb : fn.body = some c) {xs : List SV} {m m' : Mem} {r : SV}
    (hL : ∀ z, z.L.length = m.blk.length → z.U.length = m.rows.length → ∀ b ∈ loopsOf c, LoopOk Λ Try.prog z b) (h : runG Γ Λ Try.prog fn xs m = some (r, m')) : CallOk Try.prog f xs m r m' := callOk_of_run hΓ mixed names hf hb hL h
/-- A call of values alone, by its run. -/
theorem runV {Γ : Orc} {Λ : LoopOrc} (hΓ : Γ.Ok Try.prog) {f : FuncId} {fn : Func} {c : Code} (hf : Try.prog.funcs[f]? = some fn) (hb : fn.body = some c) {vs : List Value} {r : Value} {m' : Mem}
    (hL : ∀ z : Base, z.L.length = 0 → z.U.length = 0 → ∀ b ∈ loopsOf c, LoopOk Λ Try.prog z b) (h : runG Γ Λ Try.prog fn (vs.map .v) M0 = some (.v r, m')) : ∀ m, CallOk Try.prog f (vs.map .v) m (.v r) m := valOk hΓ mixed names hf hb hL h
end Go.Proofs.Yteapngnpenmfaaa

namespace Go.Proofs.Yteapngnpenmfaaa
open Go Go.Proofs Go.Sx
/-! Counters: a block of two numbers, the most and the value. -/
def MC (a b : Int) : Mem := ⟨[[.v (I a), .v (I b)]], [true], []⟩
def clampI (x y : Int) : Int := if (if y < x then y else x) > 0 then (if y < x then y else x) else 0
def wI (n : Int) : Int := IntKind.i64.wrap n
theorem wrapI (n : Int) : IntKind.i64.wrap n = if n % 18446744073709551616 ≥ 9223372036854775808 then n % 18446744073709551616 - 18446744073709551616 else n % 18446744073709551616 := by
  rw [← wr_eq true .i64 n]
  simp only [wr]
  split <;> simp_all <;> omega
theorem wI_id {n : Int} (h : -9223372036854775808 ≤ n ∧ n < 9223372036854775808) : wI n = n := by
  unfold wI
  rw [wrapI]
  split <;> omega
def gLoad (xs : List SV) (m : Mem) : Option (Bool × Value) :=
  match xs, m with
  | [.ptr 0 1], ⟨[[.v (.int .i64 _), .v (.int .i64 b)]], [true], []⟩ => some (true, I b)
  | _, _ => none
theorem gLoad_ok : ∀ xs m r, gLoad xs m = some (true, r) → CallOk Try.prog 80 xs m (.v r) m := by
  intro xs m r h
  unfold gLoad at h
  split at h
  · rename_i a b
    obtain ⟨_, rfl⟩ := some_t h
    refine runOk (Λ := L0) OkA Try.func80 rfl (fun z _ _ => noLoops (by kernel_rfl) z) ?_
    kernel_rfl
  · cases h
noncomputable def ΓC1 : Orc := addRd 80 gLoad ΓA
theorem OkC1 : ΓC1.Ok Try.prog := addRd_ok OkA gLoad_ok
def gClamp (vs : List Value) : Option (Bool × Value) :=
  match vs with
  | [.int .i64 x, .int .i64 y] => some (true, I (clampI x y))
  | _ => none
theorem gClamp_ok : ∀ vs r, gClamp vs = some (true, r) → ∀ m, CallOk Try.prog 71 (vs.map .v) m (.v r) m := by
  intro vs r h
  unfold gClamp at h
  split at h
  · rename_i x y
    obtain ⟨_, rfl⟩ := some_t h
    refine runV (Λ := L0) (m' := M0) OkC1 Try.func71 rfl (fun z _ _ => noLoops (by kernel_rfl) z) ?_
    kernel_rfl
  · cases h
noncomputable def ΓC2 : Orc := addVal 71 gClamp ΓC1
theorem OkC2 : ΓC2.Ok Try.prog := addVal_ok OkC1 gClamp_ok
noncomputable def ΓC3 : Orc := ΓC2
theorem OkC3 : ΓC3.Ok Try.prog := OkC2
def gCas (xs : List SV) (m : Mem) : Option (Bool × SV × Mem) :=
  match xs, m with
  | [.ptr 0 1, .v (.int .i64 x), .v (.int .i64 y)], ⟨[[.v (.int .i64 a), .v (.int .i64 b)]], [true], []⟩ => some (true, .v (Bo (b == x)), MC a (bif b == x then y else b))
  | _, _ => none
theorem gCas_ok : ∀ xs m r m', gCas xs m = some (true, r, m') → CallOk Try.prog 82 xs m r m' := by
  intro xs m r m' h
  unfold gCas at h
  split at h
  · rename_i x y a b
    obtain ⟨_, rfl, rfl⟩ := some_t2 h
    refine runOk (Λ := L0) OkC3 Try.func82 rfl (fun z _ _ => noLoops (by kernel_rfl) z) ?_
    kernel_rfl
  · cases h
noncomputable def ΓC4 : Orc := addCl 82 gCas ΓC3
theorem OkC4 : ΓC4.Ok Try.prog := addCl_ok OkC3 gCas_ok
def gRaised (xs : List SV) (m : Mem) : Option (Bool × Value) :=
  match xs, m with
  | [.ptr 0 0, .v (.int .i64 v), .v (.int .i64 n)], ⟨[[.v (.int .i64 a), .v (.int .i64 _)]], [true], []⟩ => some (true, I (wI (v + clampI n (wI (a - v)))))
  | _, _ => none
theorem gRaised_ok : ∀ xs m r, gRaised xs m = some (true, r) → CallOk Try.prog 81 xs m (.v r) m := by
  intro xs m r h
  unfold gRaised at h
  split at h
  · rename_i v n a b
    obtain ⟨_, rfl⟩ := some_t h
    refine runOk (Λ := L0) OkC4 Try.func81 rfl (fun z _ _ => noLoops (by kernel_rfl) z) ?_
    kernel_rfl
  · cases h
noncomputable def ΓC5 : Orc := addRd 81 gRaised ΓC4
theorem OkC5 : ΓC5.Ok Try.prog := addRd_ok OkC4 gRaised_ok
/-- A counter's value behind a call of Add. -/
def addN' (a v n : Int) : Int := wI (v + clampI n (wI (a - v)))
def kAdd : List Bool := maskOf 24 [0, 1]
def kAddx : List Bool := maskOf 24 [4]
noncomputable def bodyAdd : Code := loopAt (Try.f74.body.getD .skip) 0
theorem loopsAdd : loopsOf (Try.f74.body.getD .skip) = [bodyAdd] := by kernel_rfl
theorem loopsAdd0 : loopsOf bodyAdd = [] := by kernel_rfl
theorem stepAdd (a v n : Int) (k : Nat) : evLoop ΓC5 Try.prog L0 (cutC 1 0 kAdd) bodyAdd (k + 1) (mk kAdd [.ptr 0 0, .v (I n)] (MC a v)) (fun e st => some (e, cutC 1 0 kAddx st)) =
    bif v == v then some (.ret, mk kAddx [.v (I (addN' a v n))] (MC a (bif v == v then addN' a v n else v))) else
      evLoop ΓC5 Try.prog L0 (cutC 1 0 kAdd) bodyAdd k (mk kAdd [.ptr 0 0, .v (I n)] (MC a (bif v == v then addN' a v n else v))) (fun e st => some (e, cutC 1 0 kAddx st)) := by kernel_rfl
def GAdd (vals : List SV) (m : Mem) : Option (Bool × Ex × St) :=
  match vals, m with
  | [.ptr 0 0, .v (.int .i64 n)], ⟨[[.v (.int .i64 a), .v (.int .i64 v)]], [true], []⟩ => some (true, .ret, mk kAddx [.v (I (addN' a v n))] (MC a (addN' a v n)))
  | _, _ => none
noncomputable def ΛAdd : LoopOrc := fun _ st => viaC 1 0 kAdd GAdd st
theorem loopOkAdd (z : Base) (h1 : z.L.length = 1) (h2 : z.U.length = 0) : LoopOk ΛAdd Try.prog z bodyAdd := by
  refine loop_okC (Λ := L0) (kx := fun _ => kAddx) OkC5 mixed h1 h2 (fun b hb => by rw [loopsAdd0] at hb; cases hb) (G := GAdd) (fun _ => rfl) ?_
  intro vals m e st' h
  unfold GAdd at h
  split at h
  · rename_i n a v
    obtain ⟨_, rfl, rfl⟩ := some_t2 h
    refine ⟨1, (stepAdd a v n 0).trans ?_⟩
    simp only [beq_self_eq_true, cond_true]
  · cases h
def gAdd (xs : List SV) (m : Mem) : Option (Bool × SV × Mem) :=
  match xs, m with
  | [.ptr 0 0, .v (.int .i64 n)], ⟨[[.v (.int .i64 a), .v (.int .i64 v)]], [true], []⟩ => some (true, .v (I (addN' a v n)), MC a (addN' a v n))
  | _, _ => none
theorem gAdd_ok : ∀ xs m r m', gAdd xs m = some (true, r, m') → CallOk Try.prog 74 xs m r m' := by
  intro xs m r m' h
  unfold gAdd at h
  split at h
  · rename_i n a v
    obtain ⟨_, rfl, rfl⟩ := some_t2 h
    refine runOk (Λ := ΛAdd) OkC5 Try.func74 rfl (fun z h1 h2 => oneLoop (c := Try.f74.body.getD .skip) loopsAdd (loopOkAdd z h1 h2)) ?_
    kernel_rfl
  · cases h
noncomputable def ΓC6 : Orc := addCl 74 gAdd ΓC5
theorem OkC6 : ΓC6.Ok Try.prog := addCl_ok OkC5 gAdd_ok
def gNew (xs : List SV) (m : Mem) : Option (Bool × SV × Mem) :=
  match xs, m with
  | [.v (.int .i64 n)], ⟨[], [], []⟩ => some (true, .ptr 0 0, MC (clampI n 1000000) 0)
  | _, _ => none
theorem gNew_ok : ∀ xs m r m', gNew xs m = some (true, r, m') → CallOk Try.prog 50 xs m r m' := by
  intro xs m r m' h
  unfold gNew at h
  split at h
  · rename_i n
    obtain ⟨_, rfl, rfl⟩ := some_t2 h
    refine runOk (Λ := L0) OkC6 Try.func50 rfl (fun z _ _ => noLoops (by kernel_rfl) z) ?_
    kernel_rfl
  · cases h
noncomputable def ΓC : Orc := addCl 50 gNew ΓC6
theorem OkC : ΓC.Ok Try.prog := addCl_ok OkC6 gNew_ok
end Go.Proofs.Yteapngnpenmfaaa

namespace Go.Proofs.Yteapngnpenmfaaa
open Go Go.Proofs Go.Sx
/-! One step of a sum, and eight. -/
def n16 (n : Nat) : Nat := bif Nat.ble 32768 n then Nat.xor (2 * n % 65536) 4129 else 2 * n % 65536
def n32 (n : Nat) : Nat := bif Nat.beq (n % 2) 1 then Nat.xor (n / 2) 3988292384 else n / 2
def it (f : Nat → Nat) : Nat → Nat → Nat
  | 0, n => n
  | k + 1, n => it f k (f n)
def N16 (n : Nat) : Nat := it n16 8 n
def N32 (n : Nat) : Nat := it n32 8 n

theorem xor_lt {a b : Nat} (k : Nat) (ha : a < 2 ^ k) (hb : b < 2 ^ k) : Nat.xor a b < 2 ^ k := Nat.xor_lt_two_pow ha hb
theorem n16_lt (n : Nat) : n16 n < 65536 := by
  unfold n16
  cases Nat.ble 32768 n
  · exact Nat.mod_lt _ (by decide)
  · exact xor_lt 16 (Nat.mod_lt _ (by decide)) (by decide)
theorem n32_lt {n : Nat} (h : n < 4294967296) : n32 n < 4294967296 := by
  unfold n32
  cases Nat.beq (n % 2) 1
  · show n / 2 < _; omega
  · exact xor_lt 32 (by have : (2:Nat) ^ 32 = 4294967296 := by decide
                        omega) (by decide)
theorem it_lt {f : Nat → Nat} {m : Nat} (hf : ∀ n, n < m → f n < m) : ∀ (k n : Nat), n < m → it f k n < m
  | 0, _, h => h
  | k + 1, n, h => it_lt hf k (f n) (hf n h)
theorem N16_lt {n : Nat} (h : n < 65536) : N16 n < 65536 := it_lt (fun n _ => n16_lt n) 8 n h
theorem N32_lt {n : Nat} (h : n < 4294967296) : N32 n < 4294967296 := it_lt (fun _ => n32_lt) 8 n h

theorem wrap16 (n : Nat) : IntKind.u16.wrap (n : Int) = ((n % 65536 : Nat) : Int) := by
  rw [← wr_eq true]; simp only [wr]; omega
theorem wrap32 (n : Nat) : IntKind.u32.wrap (n : Int) = ((n % 4294967296 : Nat) : Int) := by
  rw [← wr_eq true]; simp only [wr]; omega
theorem xorB (w a b : Nat) (ha : a < 2 ^ w) (hb : b < 2 ^ w) : (((BitVec.ofInt w (a : Int) ^^^ BitVec.ofInt w (b : Int)).toNat : Nat) : Int) = ((Nat.xor a b : Nat) : Int) := by
  rw [BitVec.toNat_xor, BitVec.ofInt_natCast, BitVec.ofInt_natCast, BitVec.toNat_ofNat, BitVec.toNat_ofNat, Nat.mod_eq_of_lt ha, Nat.mod_eq_of_lt hb]
  rfl
theorem andB (w a b : Nat) (ha : a < 2 ^ w) (hb : b < 2 ^ w) : (((BitVec.ofInt w (a : Int) &&& BitVec.ofInt w (b : Int)).toNat : Nat) : Int) = ((Nat.land a b : Nat) : Int) := by
  rw [BitVec.toNat_and, BitVec.ofInt_natCast, BitVec.ofInt_natCast, BitVec.toNat_ofNat, BitVec.toNat_ofNat, Nat.mod_eq_of_lt ha, Nat.mod_eq_of_lt hb]
  rfl

/-- What eight rounds come to. -/
theorem eight {α : Type} (E : Nat → Int → Int → Option α) (F : Int → Option α) (c : Int → Bool) (A B : Int → Int) (f : Nat → Nat) (m : Nat) (hf : ∀ n, n < m → f n < m) (hc : ∀ n : Nat, n < m → (bif c (n : Int) then A (n : Int) else B (n : Int)) = ((f n : Nat) : Int))
    (hE : ∀ k x i, E (k + 1) x i = bif decide (i < (8 : Int)) then (bif c x then E k (A x) (wI (i + 1)) else E k (B x) (wI (i + 1))) else F x) :
    ∀ (j n : Nat), j ≤ 8 → n < m → E (j + 1) (n : Int) ((8 - j : Nat) : Int) = F ((it f j n : Nat) : Int) := by
  intro j
  induction j with
  | zero =>
    intro n _ _
    rw [hE]
    rfl
  | succ j ih =>
    intro n hj hn
    rw [hE, show decide (((8 - (j + 1) : Nat) : Int) < 8) = true from decide_eq_true (by omega), wI_id (by omega), show ((8 - (j + 1) : Nat) : Int) + 1 = ((8 - j : Nat) : Int) by omega]
    have hx := hc n hn
    have h2 : (bif c (n : Int) then E (j + 1) (A n) ((8 - j : Nat) : Int) else E (j + 1) (B n) ((8 - j : Nat) : Int)) = E (j + 1) (bif c (n : Int) then A (n : Int) else B (n : Int)) ((8 - j : Nat) : Int) := by
      cases c (n : Int) <;> rfl
    rw [cond_true, h2, hx, ih (f n) (by omega) (hf n hn)]
    rfl

def a16 (x : Int) : Int := IntKind.u16.wrap (((BitVec.ofInt 16 (IntKind.u16.wrap (x * 2 ^ min (Int.toNat 1) 16)) ^^^ BitVec.ofInt 16 4129).toNat : Nat) : Int)
def b16 (x : Int) : Int := IntKind.u16.wrap (x * 2 ^ min (Int.toNat 1) 16)
theorem step_n16 (n : Nat) (_ : n < 65536) : (bif decide ((n : Int) ≥ 32768) then a16 n else b16 n) = ((n16 n : Nat) : Int) := by
  have e : (n : Int) * 2 ^ min (Int.toNat 1) 16 = ((2 * n : Nat) : Int) := by
    rw [show min (Int.toNat 1) 16 = 1 from rfl]; omega
  unfold a16 b16 n16
  rw [e, wrap16 (2 * n), show (4129 : Int) = ((4129 : Nat) : Int) from rfl, xorB 16 _ _ (Nat.mod_lt _ (by decide)) (by decide), wrap16]
  by_cases h : 32768 ≤ n
  · rw [decide_eq_true (by omega), show Nat.ble 32768 n = true from by rw [Nat.ble_eq]; exact h]
    simp only [cond_true]
    rw [Nat.mod_eq_of_lt (xor_lt 16 (Nat.mod_lt _ (by decide)) (by decide))]
  · rw [decide_eq_false (by omega), show Nat.ble 32768 n = false from by rw [← Bool.not_eq_true, Nat.ble_eq]; exact h]
    rfl
def c32 (x : Int) : Bool := IntKind.u32.wrap (((BitVec.ofInt 32 x &&& BitVec.ofInt 32 1).toNat : Nat) : Int) == 1
def a32 (x : Int) : Int := IntKind.u32.wrap (((BitVec.ofInt 32 (Int.fdiv x (2 ^ min (Int.toNat 1) 32)) ^^^ BitVec.ofInt 32 3988292384).toNat : Nat) : Int)
def b32 (x : Int) : Int := Int.fdiv x (2 ^ min (Int.toNat 1) 32)
theorem two32 : (2 : Nat) ^ 32 = 4294967296 := by decide
theorem step_n32 (n : Nat) (h : n < 4294967296) : (bif c32 n then a32 n else b32 n) = ((n32 n : Nat) : Int) := by
  have e : Int.fdiv (n : Int) (2 ^ min (Int.toNat 1) 32) = ((n / 2 : Nat) : Int) := by
    rw [show min (Int.toNat 1) 32 = 1 from rfl, Int.fdiv_eq_ediv_of_nonneg _ (by decide)]; omega
  unfold c32 a32 b32 n32
  rw [e, show (3988292384 : Int) = ((3988292384 : Nat) : Int) from rfl, show (1 : Int) = ((1 : Nat) : Int) from rfl, andB 32 _ _ (by rw [two32]; exact h) (by decide), xorB 32 _ _ (by rw [two32]; omega) (by decide), wrap32, wrap32]
  have e2 : Nat.land n 1 = n % 2 := Nat.and_one_is_mod n
  rw [e2]
  rcases Nat.mod_two_eq_zero_or_one n with h0 | h0
  · rw [h0]; rfl
  · rw [h0, Nat.mod_eq_of_lt (xor_lt 32 (by rw [two32]; omega) (by decide))]; rfl
def d32 (x : Int) : Bool := Int.tmod x 2 == 1
def g32 (x : Int) : Int := IntKind.u32.wrap (((BitVec.ofInt 32 (IntKind.u32.wrap (Int.tdiv x 2)) ^^^ BitVec.ofInt 32 3988292384).toNat : Nat) : Int)
def h32 (x : Int) : Int := IntKind.u32.wrap (Int.tdiv x 2)
theorem step_r32 (n : Nat) (h : n < 4294967296) : (bif d32 n then g32 n else h32 n) = ((n32 n : Nat) : Int) := by
  have e : Int.tdiv (n : Int) 2 = ((n / 2 : Nat) : Int) := by
    rw [Int.tdiv_eq_ediv_of_nonneg (by omega)]; omega
  have e1 : Int.tmod (n : Int) 2 = ((n % 2 : Nat) : Int) := by
    rw [Int.tmod_eq_emod_of_nonneg (by omega)]; omega
  unfold d32 g32 h32 n32
  rw [e, e1, wrap32 (n / 2), Nat.mod_eq_of_lt (show n / 2 < 4294967296 by omega), show (3988292384 : Int) = ((3988292384 : Nat) : Int) from rfl, xorB 32 _ _ (by rw [two32]; omega) (by decide), wrap32]
  rcases Nat.mod_two_eq_zero_or_one n with h0 | h0
  · rw [h0]; rfl
  · rw [h0, Nat.mod_eq_of_lt (xor_lt 32 (by rw [two32]; omega) (by decide))]; rfl

/-! Sums of texts. -/
def p16 (x : Nat) (b : UInt8) : Nat := N16 (Nat.xor x (b.toNat * 256))
def p32 (x : Nat) (b : UInt8) : Nat := N32 (Nat.xor x b.toNat)
theorem byte_lt (b : UInt8) : b.toNat < 256 := b.toNat_lt
theorem p16_lt {x : Nat} (b : UInt8) (h : x < 65536) : p16 x b < 65536 :=
  N16_lt (xor_lt 16 h (by have := byte_lt b; show _ < 65536; omega))
theorem p32_lt {x : Nat} (b : UInt8) (h : x < 4294967296) : p32 x b < 4294967296 :=
  N32_lt (xor_lt 32 h (by have := byte_lt b; rw [two32]; omega))
def R16 (x : Int) (s : ByteArray) : Int := ((s.data.toList.foldl p16 x.toNat : Nat) : Int)
def F32 (s : ByteArray) : Nat := s.data.toList.foldl p32 4294967295
theorem fold_lt {α : Type} {f : Nat → α → Nat} {m : Nat} (hf : ∀ n b, n < m → f n b < m) : ∀ (l : List α) (n : Nat), n < m → l.foldl f n < m
  | [], _, h => h
  | b :: l, n, h => fold_lt hf l _ (hf n b h)

theorem strAt_some {s : ByteArray} {k : Nat} {b : UInt8} (h : s.data[k]? = some b) : strAt s (k : Int) = (b.toNat : Int) := by
  unfold strAt
  have : s[(k : Int).toNat]? = some b := by
    rw [Int.toNat_natCast]
    have hk : k < s.size := by
      have := (Array.getElem?_eq_some_iff.1 h).1
      exact this
    rw [getElem?_pos s k hk]
    have h2 := (Array.getElem?_eq_some_iff.1 h).2
    rw [← h2]
    rfl
  rw [this]

/-- A loop over a text's bytes. -/
theorem overS {α : Type} (s : ByteArray) (hs : s.size ≤ 9223372036854775807) (E : Nat → Int → Int → Option α) (F : Int → Option α) (g : Int → Int → Bool) (A : Int → Int → Int) (f : Nat → UInt8 → Nat) (m : Nat) (hf : ∀ n b, n < m → f n b < m)
    (hg : ∀ (n k : Nat) b, n < m → s.data[k]? = some b → g n k = true ∧ A n k = ((f n b : Nat) : Int))
    (hE : ∀ k x i, E (k + 1) x i = bif decide (i < (s.size : Int)) then (bif decide (0 ≤ i) && decide (i < (s.size : Int)) then (bif g x i then E k (A x i) (wI (i + 1)) else none) else none) else F x) :
    ∀ (j k n : Nat), k + j = s.size → n < m → E (j + 1) (n : Int) (k : Int) = F (((s.data.toList.drop k).foldl f n : Nat) : Int) := by
  intro j
  induction j with
  | zero =>
    intro k n hk _
    rw [hE, show decide ((k : Int) < (s.size : Int)) = false from decide_eq_false (by omega)]
    rw [List.drop_eq_nil_of_le (by simp; omega)]
    rfl
  | succ j ih =>
    intro k n hk hn
    have hlt : k < s.data.size := by show k < s.size; omega
    obtain ⟨b, hb⟩ : ∃ b, s.data[k]? = some b := ⟨s.data[k], by simp⟩
    obtain ⟨h1, h2⟩ := hg n k b hn hb
    rw [hE, show decide ((k : Int) < (s.size : Int)) = true from decide_eq_true (by omega), show decide ((0 : Int) ≤ (k : Int)) = true from decide_eq_true (by omega), wI_id (by omega), h1, h2]
    simp only [cond_true, Bool.and_self]
    rw [show (k : Int) + 1 = ((k + 1 : Nat) : Int) by omega, ih (k + 1) _ (by omega) (hf n b hn)]
    have e2 : s.data.toList.drop k = b :: s.data.toList.drop (k + 1) := by
      rw [List.drop_eq_getElem_cons (by simpa using hlt)]
      have := (Array.getElem?_eq_some_iff.1 hb).2
      simp [this]
    rw [e2, List.foldl_cons]

def q16 (s : ByteArray) (x i : Int) : Int := IntKind.u16.wrap (((BitVec.ofInt 16 x ^^^ BitVec.ofInt 16 (IntKind.u16.wrap (IntKind.u16.wrap (strAt s i) * 2 ^ min (Int.toNat 8) 16))).toNat : Nat) : Int)
def q32 (s : ByteArray) (x i : Int) : Int := IntKind.u32.wrap (((BitVec.ofInt 32 x ^^^ BitVec.ofInt 32 (IntKind.u32.wrap (strAt s i))).toNat : Nat) : Int)
theorem q16_nat {s : ByteArray} {n k : Nat} {b : UInt8} (hn : n < 65536) (hb : s.data[k]? = some b) : q16 s n k = ((Nat.xor n (b.toNat * 256) : Nat) : Int) := by
  have h := byte_lt b
  unfold q16
  rw [strAt_some hb, wrap16 b.toNat, Nat.mod_eq_of_lt (show b.toNat < 65536 by omega)]
  have e : ((b.toNat : Nat) : Int) * 2 ^ min (Int.toNat 8) 16 = ((b.toNat * 256 : Nat) : Int) := by
    rw [show min (Int.toNat 8) 16 = 8 from rfl]; omega
  rw [e, wrap16 (b.toNat * 256), Nat.mod_eq_of_lt (show b.toNat * 256 < 65536 by omega), xorB 16 _ _ hn (by show _ < 65536; omega), wrap16, Nat.mod_eq_of_lt (xor_lt 16 hn (by show _ < 65536; omega))]
theorem q32_nat {s : ByteArray} {n k : Nat} {b : UInt8} (hn : n < 4294967296) (hb : s.data[k]? = some b) : q32 s n k = ((Nat.xor n b.toNat : Nat) : Int) := by
  have h := byte_lt b
  unfold q32
  rw [strAt_some hb, wrap32 b.toNat, Nat.mod_eq_of_lt (show b.toNat < 4294967296 by omega)]
  rw [xorB 32 _ _ (by rw [two32]; exact hn) (by rw [two32]; omega), wrap32, Nat.mod_eq_of_lt (xor_lt 32 (by rw [two32]; exact hn) (by rw [two32]; omega))]


/-- From 0 to below m: said so that it stands still at once where the number isn't known. -/
def inN (m : Nat) (x : Int) : Bool :=
  match x with
  | .ofNat n => Nat.ble (n + 1) m
  | .negSucc _ => false
theorem inN_nat {m : Nat} {x : Int} (h : inN m x = true) : ∃ n : Nat, x = (n : Int) ∧ n < m := by
  cases x with
  | ofNat n => exact ⟨n, rfl, Nat.le_of_ble_eq_true h⟩
  | negSucc n => cases h
theorem inN_of {m n : Nat} (h : n < m) : inN m (n : Int) = true := Nat.ble_eq_true_of_le h
def in16 (x : Int) : Bool := inN 65536 x
def in32 (x : Int) : Bool := inN 4294967296 x
def S16 (x : Int) : Int := ((N16 x.toNat : Nat) : Int)
def S32 (x : Int) : Int := ((N32 x.toNat : Nat) : Int)
theorem in16_nat {x : Int} (h : in16 x = true) : ∃ n : Nat, x = (n : Int) ∧ n < 65536 := inN_nat h
theorem in32_nat {x : Int} (h : in32 x = true) : ∃ n : Nat, x = (n : Int) ∧ n < 4294967296 := inN_nat h
def R32 (x : Int) (s : ByteArray) : Int := ((s.data.toList.foldl p32 x.toNat : Nat) : Int)
def sum32 (s : ByteArray) : Int := ((Nat.xor (F32 s) 4294967295 : Nat) : Int)
def fin32 (s : ByteArray) : Int := IntKind.u32.wrap (((BitVec.ofInt 32 (R32 4294967295 s) ^^^ BitVec.ofInt 32 4294967295).toNat : Nat) : Int)
theorem F32_lt (s : ByteArray) : F32 s < 4294967296 := fold_lt (fun _ b => p32_lt b) _ _ (by decide)
theorem fin32_eq (s : ByteArray) : fin32 s = sum32 s := by
  have h := F32_lt s
  unfold fin32 sum32
  have e : R32 4294967295 s = ((F32 s : Nat) : Int) := rfl
  rw [e, show (4294967295 : Int) = ((4294967295 : Nat) : Int) from rfl, xorB 32 _ _ (by rw [two32]; exact h) (by decide), wrap32, Nat.mod_eq_of_lt (xor_lt 32 (by rw [two32]; exact h) (by decide))]
def szS (s : ByteArray) : Bool := Nat.ble s.size 9223372036854775807
theorem gs16 (s : ByteArray) (n k : Nat) (b : UInt8) (hn : n < 65536) (hb : s.data[k]? = some b) : in16 (q16 s n k) = true ∧ S16 (q16 s n k) = ((p16 n b : Nat) : Int) := by
  rw [q16_nat hn hb]
  exact ⟨inN_of (xor_lt 16 hn (by have := byte_lt b; show _ < 65536; omega)), rfl⟩
theorem gs32 (s : ByteArray) (n k : Nat) (b : UInt8) (hn : n < 4294967296) (hb : s.data[k]? = some b) : in32 (q32 s n k) = true ∧ S32 (q32 s n k) = ((p32 n b : Nat) : Int) := by
  rw [q32_nat hn hb]
  exact ⟨inN_of (xor_lt 32 (by rw [two32]; exact hn) (by have := byte_lt b; rw [two32]; omega)), rfl⟩

def kEight16 : List Bool := maskOf 15 [0, 4]
def xEight16 : List Bool := maskOf 15 [0]
noncomputable def bodyEight16 : Code := loopAt (Try.f89.body.getD .skip) 0
theorem loopsEight16 : loopsOf (Try.f89.body.getD .skip) = [bodyEight16] := by kernel_rfl
theorem loopsEight160 : loopsOf bodyEight16 = [] := by kernel_rfl
def EEight16 (e : Ex) (st : St) : Option (Ex × St) := some (e, cutC 0 0 xEight16 st)
theorem stepEight16 (k : Nat) (x i : Int) : evLoop ΓC Try.prog L0 (cutC 0 0 kEight16) bodyEight16 (k + 1) (mk kEight16 [.v (U16 x), .v (I i)] M0) EEight16 =
    bif decide (i < 8) then (bif decide (x ≥ 32768) then evLoop ΓC Try.prog L0 (cutC 0 0 kEight16) bodyEight16 k (mk kEight16 [.v (U16 (a16 x)), .v (I (wI (i + 1)))] M0) EEight16 else evLoop ΓC Try.prog L0 (cutC 0 0 kEight16) bodyEight16 k (mk kEight16 [.v (U16 (b16 x)), .v (I (wI (i + 1)))] M0) EEight16)
    else some (.exit 0, mk xEight16 [.v (U16 x)] M0) := by kernel_rfl
def GEight16 (vals : List SV) (m : Mem) : Option (Bool × Ex × St) :=
  match vals, m with
  | [.v (.int .u16 x), .v (.int .i64 i)], ⟨[], [], []⟩ => some (i == 0 && in16 x, .exit 0, mk xEight16 [.v (U16 (S16 x))] M0)
  | _, _ => none
noncomputable def ΛEight16 : LoopOrc := fun _ st => viaC 0 0 kEight16 GEight16 st
theorem loopOkEight16 (z : Base) (z1 : z.L.length = 0) (z2 : z.U.length = 0) : LoopOk ΛEight16 Try.prog z bodyEight16 := by
  refine loop_okC (Λ := L0) (kx := fun _ => xEight16) OkC mixed z1 z2 (fun b hb => by rw [loopsEight160] at hb; cases hb) (G := GEight16) (fun _ => rfl) ?_
  intro vals m e st' h
  unfold GEight16 at h
  split at h
  · rename_i x i
    obtain ⟨h1, rfl, rfl⟩ := some_t2 h
    simp only [Bool.and_eq_true, beq_iff_eq] at h1
    obtain ⟨rfl, h1⟩ := h1
    obtain ⟨n, rfl, hn⟩ := in16_nat h1
    exact ⟨9, eight (fun k x i => evLoop ΓC Try.prog L0 (cutC 0 0 kEight16) bodyEight16 k (mk kEight16 [.v (U16 x), .v (I i)] M0) EEight16) (fun x => some (.exit 0, mk xEight16 [.v (U16 x)] M0)) (fun x => decide (x ≥ 32768)) a16 b16 n16 65536 (fun n _ => n16_lt n) step_n16 stepEight16 8 n (Nat.le_refl 8) hn⟩
  · cases h
theorem runEight16 (x : Int) : runG ΓC ΛEight16 Try.prog Try.f89 [.v (U16 x)] M0 = bif (0 : Int) == 0 && in16 x then some (.v (U16 (S16 x)), M0) else none := by kernel_rfl
def gEight16 (vs : List Value) : Option (Bool × Value) :=
  match vs with
  | [.int .u16 x] => some (in16 x, U16 (S16 x))
  | _ => none
theorem gEight16_ok : ∀ vs r, gEight16 vs = some (true, r) → ∀ m, CallOk Try.prog 89 (vs.map .v) m (.v r) m := by
  intro vs r h
  unfold gEight16 at h
  split at h
  · rename_i x
    obtain ⟨h1, rfl⟩ := some_t h
    refine runV (vs := [U16 x]) (Λ := ΛEight16) (m' := M0) OkC Try.func89 rfl (fun z z1 z2 => oneLoop (c := Try.f89.body.getD .skip) loopsEight16 (loopOkEight16 z z1 z2)) ?_
    exact (runEight16 x).trans (by rw [h1]; rfl)
  · cases h
noncomputable def ΓK1 : Orc := addVal 89 gEight16 ΓC
theorem OkK1 : ΓK1.Ok Try.prog := addVal_ok OkC gEight16_ok
noncomputable def ΓK2 : Orc := ΓK1
theorem OkK2 : ΓK2.Ok Try.prog := OkK1
def kMore16 : List Bool := maskOf 21 [0, 1, 7, 8]
def xMore16 : List Bool := maskOf 21 [0]
noncomputable def bodyMore16 : Code := loopAt (Try.f83.body.getD .skip) 0
theorem loopsMore16 : loopsOf (Try.f83.body.getD .skip) = [bodyMore16] := by kernel_rfl
theorem loopsMore160 : loopsOf bodyMore16 = [] := by kernel_rfl
def EMore16 (e : Ex) (st : St) : Option (Ex × St) := some (e, cutC 0 0 xMore16 st)
def HMore16 (s : ByteArray) (x i : Int) : St := mk kMore16 [.v (U16 x), .v (S s), .v (I (s.size : Int)), .v (I i)] M0
theorem stepMore16 (s : ByteArray) (k : Nat) (x i : Int) : evLoop ΓK2 Try.prog L0 (cutC 0 0 kMore16) bodyMore16 (k + 1) (HMore16 s x i) EMore16 =
    bif decide (i < (s.size : Int)) then (bif decide (0 ≤ i) && decide (i < (s.size : Int)) then (bif in16 (q16 s x i) then evLoop ΓK2 Try.prog L0 (cutC 0 0 kMore16) bodyMore16 k (HMore16 s (S16 (q16 s x i)) (wI (i + 1))) EMore16 else none) else none)
    else some (.exit 0, mk xMore16 [.v (U16 x)] M0) := by kernel_rfl
def GMore16 (vals : List SV) (m : Mem) : Option (Bool × Ex × St) :=
  match vals, m with
  | [.v (.int .u16 x), .v (.string s), .v (.int .i64 n), .v (.int .i64 i)], ⟨[], [], []⟩ => some (n == (s.size : Int) && (i == 0 && (in16 x && szS s)), .exit 0, mk xMore16 [.v (U16 (R16 x s))] M0)
  | _, _ => none
noncomputable def ΛMore16 : LoopOrc := fun _ st => viaC 0 0 kMore16 GMore16 st
theorem loopOkMore16 (z : Base) (z1 : z.L.length = 0) (z2 : z.U.length = 0) : LoopOk ΛMore16 Try.prog z bodyMore16 := by
  refine loop_okC (Λ := L0) (kx := fun _ => xMore16) OkK2 mixed z1 z2 (fun b hb => by rw [loopsMore160] at hb; cases hb) (G := GMore16) (fun _ => rfl) ?_
  intro vals m e st' h
  unfold GMore16 at h
  split at h
  · rename_i x s n i
    obtain ⟨h1, rfl, rfl⟩ := some_t2 h
    simp only [Bool.and_eq_true, beq_iff_eq] at h1
    obtain ⟨rfl, rfl, h1, h4⟩ := h1
    obtain ⟨n, rfl, hn⟩ := in16_nat h1
    exact ⟨s.size + 1, overS s (Nat.le_of_ble_eq_true h4) (fun k x i => evLoop ΓK2 Try.prog L0 (cutC 0 0 kMore16) bodyMore16 k (HMore16 s x i) EMore16) (fun x => some (.exit 0, mk xMore16 [.v (U16 x)] M0)) (fun x i => in16 (q16 s x i)) (fun x i => S16 (q16 s x i)) p16 65536 (fun n b => p16_lt b) (gs16 s) (stepMore16 s) s.size 0 n (by omega) hn⟩
  · cases h
theorem runMore16 (x : Int) (s : ByteArray) : runG ΓK2 ΛMore16 Try.prog Try.f83 [.v (U16 x), .v (S s)] M0 = bif (s.size : Int) == (s.size : Int) && ((0 : Int) == 0 && (in16 x && szS s)) then some (.v (U16 (R16 x s)), M0) else none := by kernel_rfl
def gMore16 (vs : List Value) : Option (Bool × Value) :=
  match vs with
  | [.int .u16 x, .string s] => some (in16 x && szS s, (U16 (R16 x s)))
  | _ => none
theorem gMore16_ok : ∀ vs r, gMore16 vs = some (true, r) → ∀ m, CallOk Try.prog 83 (vs.map .v) m (.v r) m := by
  intro vs r h
  unfold gMore16 at h
  split at h
  · rename_i x s
    obtain ⟨h1, rfl⟩ := some_t h
    refine runV (vs := [U16 x, S s]) (Λ := ΛMore16) (m' := M0) OkK2 Try.func83 rfl (fun z z1 z2 => oneLoop (c := Try.f83.body.getD .skip) loopsMore16 (loopOkMore16 z z1 z2)) ?_
    exact (runMore16 x s).trans (by rw [h1, beq_self_eq_true]; rfl)
  · cases h
noncomputable def ΓK3 : Orc := addVal 83 gMore16 ΓK2
theorem OkK3 : ΓK3.Ok Try.prog := addVal_ok OkK2 gMore16_ok
noncomputable def ΓK4 : Orc := ΓK3
theorem OkK4 : ΓK4.Ok Try.prog := OkK3
theorem runSum16 (s : ByteArray) : runG ΓK4 L0 Try.prog Try.f76 [.v (S s)] M0 = bif in16 65535 && szS s then some (.v (U16 (R16 65535 s)), M0) else none := by kernel_rfl
def gSum16 (vs : List Value) : Option (Bool × Value) :=
  match vs with
  | [.string s] => some (szS s, U16 (R16 65535 s))
  | _ => none
theorem gSum16_ok : ∀ vs r, gSum16 vs = some (true, r) → ∀ m, CallOk Try.prog 76 (vs.map .v) m (.v r) m := by
  intro vs r h
  unfold gSum16 at h
  split at h
  · rename_i s
    obtain ⟨h1, rfl⟩ := some_t h
    refine runV (vs := [S s]) (Λ := L0) (m' := M0) OkK4 Try.func76 rfl (fun z _ _ => noLoops (by kernel_rfl) z) ?_
    exact (runSum16 s).trans (by rw [h1]; rfl)
  · cases h
noncomputable def ΓK5 : Orc := addVal 76 gSum16 ΓK4
theorem OkK5 : ΓK5.Ok Try.prog := addVal_ok OkK4 gSum16_ok
def kEight32 : List Bool := maskOf 16 [0, 4]
def xEight32 : List Bool := maskOf 16 [0]
noncomputable def bodyEight32 : Code := loopAt (Try.f84.body.getD .skip) 0
theorem loopsEight32 : loopsOf (Try.f84.body.getD .skip) = [bodyEight32] := by kernel_rfl
theorem loopsEight320 : loopsOf bodyEight32 = [] := by kernel_rfl
def EEight32 (e : Ex) (st : St) : Option (Ex × St) := some (e, cutC 0 0 xEight32 st)
theorem stepEight32 (k : Nat) (x i : Int) : evLoop ΓK5 Try.prog L0 (cutC 0 0 kEight32) bodyEight32 (k + 1) (mk kEight32 [.v (U32 x), .v (I i)] M0) EEight32 =
    bif decide (i < 8) then (bif c32 x then evLoop ΓK5 Try.prog L0 (cutC 0 0 kEight32) bodyEight32 k (mk kEight32 [.v (U32 (a32 x)), .v (I (wI (i + 1)))] M0) EEight32 else evLoop ΓK5 Try.prog L0 (cutC 0 0 kEight32) bodyEight32 k (mk kEight32 [.v (U32 (b32 x)), .v (I (wI (i + 1)))] M0) EEight32)
    else some (.exit 0, mk xEight32 [.v (U32 x)] M0) := by kernel_rfl
def GEight32 (vals : List SV) (m : Mem) : Option (Bool × Ex × St) :=
  match vals, m with
  | [.v (.int .u32 x), .v (.int .i64 i)], ⟨[], [], []⟩ => some (i == 0 && in32 x, .exit 0, mk xEight32 [.v (U32 (S32 x))] M0)
  | _, _ => none
noncomputable def ΛEight32 : LoopOrc := fun _ st => viaC 0 0 kEight32 GEight32 st
theorem loopOkEight32 (z : Base) (z1 : z.L.length = 0) (z2 : z.U.length = 0) : LoopOk ΛEight32 Try.prog z bodyEight32 := by
  refine loop_okC (Λ := L0) (kx := fun _ => xEight32) OkK5 mixed z1 z2 (fun b hb => by rw [loopsEight320] at hb; cases hb) (G := GEight32) (fun _ => rfl) ?_
  intro vals m e st' h
  unfold GEight32 at h
  split at h
  · rename_i x i
    obtain ⟨h1, rfl, rfl⟩ := some_t2 h
    simp only [Bool.and_eq_true, beq_iff_eq] at h1
    obtain ⟨rfl, h1⟩ := h1
    obtain ⟨n, rfl, hn⟩ := in32_nat h1
    exact ⟨9, eight (fun k x i => evLoop ΓK5 Try.prog L0 (cutC 0 0 kEight32) bodyEight32 k (mk kEight32 [.v (U32 x), .v (I i)] M0) EEight32) (fun x => some (.exit 0, mk xEight32 [.v (U32 x)] M0)) (fun x => c32 x) a32 b32 n32 4294967296 (fun n => n32_lt) step_n32 stepEight32 8 n (Nat.le_refl 8) hn⟩
  · cases h
theorem runEight32 (x : Int) : runG ΓK5 ΛEight32 Try.prog Try.f84 [.v (U32 x)] M0 = bif (0 : Int) == 0 && in32 x then some (.v (U32 (S32 x)), M0) else none := by kernel_rfl
def gEight32 (vs : List Value) : Option (Bool × Value) :=
  match vs with
  | [.int .u32 x] => some (in32 x, U32 (S32 x))
  | _ => none
theorem gEight32_ok : ∀ vs r, gEight32 vs = some (true, r) → ∀ m, CallOk Try.prog 84 (vs.map .v) m (.v r) m := by
  intro vs r h
  unfold gEight32 at h
  split at h
  · rename_i x
    obtain ⟨h1, rfl⟩ := some_t h
    refine runV (vs := [U32 x]) (Λ := ΛEight32) (m' := M0) OkK5 Try.func84 rfl (fun z z1 z2 => oneLoop (c := Try.f84.body.getD .skip) loopsEight32 (loopOkEight32 z z1 z2)) ?_
    exact (runEight32 x).trans (by rw [h1]; rfl)
  · cases h
noncomputable def ΓK6 : Orc := addVal 84 gEight32 ΓK5
theorem OkK6 : ΓK6.Ok Try.prog := addVal_ok OkK5 gEight32_ok
def kStep32 : List Bool := maskOf 17 [0, 3]
def xStep32 : List Bool := maskOf 17 [0]
noncomputable def bodyStep32 : Code := loopAt (Try.f85.body.getD .skip) 0
theorem loopsStep32 : loopsOf (Try.f85.body.getD .skip) = [bodyStep32] := by kernel_rfl
theorem loopsStep320 : loopsOf bodyStep32 = [] := by kernel_rfl
def EStep32 (e : Ex) (st : St) : Option (Ex × St) := some (e, cutC 0 0 xStep32 st)
theorem stepStep32 (k : Nat) (x i : Int) : evLoop ΓK6 Try.prog L0 (cutC 0 0 kStep32) bodyStep32 (k + 1) (mk kStep32 [.v (U32 x), .v (I i)] M0) EStep32 =
    bif decide (i < 8) then (bif d32 x then evLoop ΓK6 Try.prog L0 (cutC 0 0 kStep32) bodyStep32 k (mk kStep32 [.v (U32 (g32 x)), .v (I (wI (i + 1)))] M0) EStep32 else evLoop ΓK6 Try.prog L0 (cutC 0 0 kStep32) bodyStep32 k (mk kStep32 [.v (U32 (h32 x)), .v (I (wI (i + 1)))] M0) EStep32)
    else some (.exit 0, mk xStep32 [.v (U32 x)] M0) := by kernel_rfl
def GStep32 (vals : List SV) (m : Mem) : Option (Bool × Ex × St) :=
  match vals, m with
  | [.v (.int .u32 x), .v (.int .i64 i)], ⟨[], [], []⟩ => some (i == 0 && in32 x, .exit 0, mk xStep32 [.v (U32 (S32 x))] M0)
  | _, _ => none
noncomputable def ΛStep32 : LoopOrc := fun _ st => viaC 0 0 kStep32 GStep32 st
theorem loopOkStep32 (z : Base) (z1 : z.L.length = 0) (z2 : z.U.length = 0) : LoopOk ΛStep32 Try.prog z bodyStep32 := by
  refine loop_okC (Λ := L0) (kx := fun _ => xStep32) OkK6 mixed z1 z2 (fun b hb => by rw [loopsStep320] at hb; cases hb) (G := GStep32) (fun _ => rfl) ?_
  intro vals m e st' h
  unfold GStep32 at h
  split at h
  · rename_i x i
    obtain ⟨h1, rfl, rfl⟩ := some_t2 h
    simp only [Bool.and_eq_true, beq_iff_eq] at h1
    obtain ⟨rfl, h1⟩ := h1
    obtain ⟨n, rfl, hn⟩ := in32_nat h1
    exact ⟨9, eight (fun k x i => evLoop ΓK6 Try.prog L0 (cutC 0 0 kStep32) bodyStep32 k (mk kStep32 [.v (U32 x), .v (I i)] M0) EStep32) (fun x => some (.exit 0, mk xStep32 [.v (U32 x)] M0)) (fun x => d32 x) g32 h32 n32 4294967296 (fun n => n32_lt) step_r32 stepStep32 8 n (Nat.le_refl 8) hn⟩
  · cases h
theorem runStep32 (x : Int) : runG ΓK6 ΛStep32 Try.prog Try.f85 [.v (U32 x)] M0 = bif (0 : Int) == 0 && in32 x then some (.v (U32 (S32 x)), M0) else none := by kernel_rfl
def gStep32 (vs : List Value) : Option (Bool × Value) :=
  match vs with
  | [.int .u32 x] => some (in32 x, U32 (S32 x))
  | _ => none
theorem gStep32_ok : ∀ vs r, gStep32 vs = some (true, r) → ∀ m, CallOk Try.prog 85 (vs.map .v) m (.v r) m := by
  intro vs r h
  unfold gStep32 at h
  split at h
  · rename_i x
    obtain ⟨h1, rfl⟩ := some_t h
    refine runV (vs := [U32 x]) (Λ := ΛStep32) (m' := M0) OkK6 Try.func85 rfl (fun z z1 z2 => oneLoop (c := Try.f85.body.getD .skip) loopsStep32 (loopOkStep32 z z1 z2)) ?_
    exact (runStep32 x).trans (by rw [h1]; rfl)
  · cases h
noncomputable def ΓK7 : Orc := addVal 85 gStep32 ΓK6
theorem OkK7 : ΓK7.Ok Try.prog := addVal_ok OkK6 gStep32_ok
def kSum32 : List Bool := maskOf 20 [0, 3, 6, 7]
def xSum32 : List Bool := maskOf 20 [3]
noncomputable def bodySum32 : Code := loopAt (Try.f77.body.getD .skip) 0
theorem loopsSum32 : loopsOf (Try.f77.body.getD .skip) = [bodySum32] := by kernel_rfl
theorem loopsSum320 : loopsOf bodySum32 = [] := by kernel_rfl
def ESum32 (e : Ex) (st : St) : Option (Ex × St) := some (e, cutC 0 0 xSum32 st)
def HSum32 (s : ByteArray) (x i : Int) : St := mk kSum32 [.v (S s), .v (U32 x), .v (I (s.size : Int)), .v (I i)] M0
theorem stepSum32 (s : ByteArray) (k : Nat) (x i : Int) : evLoop ΓK7 Try.prog L0 (cutC 0 0 kSum32) bodySum32 (k + 1) (HSum32 s x i) ESum32 =
    bif decide (i < (s.size : Int)) then (bif decide (0 ≤ i) && decide (i < (s.size : Int)) then (bif in32 (q32 s x i) then evLoop ΓK7 Try.prog L0 (cutC 0 0 kSum32) bodySum32 k (HSum32 s (S32 (q32 s x i)) (wI (i + 1))) ESum32 else none) else none)
    else some (.exit 0, mk xSum32 [.v (U32 x)] M0) := by kernel_rfl
def GSum32 (vals : List SV) (m : Mem) : Option (Bool × Ex × St) :=
  match vals, m with
  | [.v (.string s), .v (.int .u32 x), .v (.int .i64 n), .v (.int .i64 i)], ⟨[], [], []⟩ => some (n == (s.size : Int) && (i == 0 && (in32 x && szS s)), .exit 0, mk xSum32 [.v (U32 (R32 x s))] M0)
  | _, _ => none
noncomputable def ΛSum32 : LoopOrc := fun _ st => viaC 0 0 kSum32 GSum32 st
theorem loopOkSum32 (z : Base) (z1 : z.L.length = 0) (z2 : z.U.length = 0) : LoopOk ΛSum32 Try.prog z bodySum32 := by
  refine loop_okC (Λ := L0) (kx := fun _ => xSum32) OkK7 mixed z1 z2 (fun b hb => by rw [loopsSum320] at hb; cases hb) (G := GSum32) (fun _ => rfl) ?_
  intro vals m e st' h
  unfold GSum32 at h
  split at h
  · rename_i s x n i
    obtain ⟨h1, rfl, rfl⟩ := some_t2 h
    simp only [Bool.and_eq_true, beq_iff_eq] at h1
    obtain ⟨rfl, rfl, h1, h4⟩ := h1
    obtain ⟨n, rfl, hn⟩ := in32_nat h1
    exact ⟨s.size + 1, overS s (Nat.le_of_ble_eq_true h4) (fun k x i => evLoop ΓK7 Try.prog L0 (cutC 0 0 kSum32) bodySum32 k (HSum32 s x i) ESum32) (fun x => some (.exit 0, mk xSum32 [.v (U32 x)] M0)) (fun x i => in32 (q32 s x i)) (fun x i => S32 (q32 s x i)) p32 4294967296 (fun n b => p32_lt b) (gs32 s) (stepSum32 s) s.size 0 n (by omega) hn⟩
  · cases h
theorem runSum32 (s : ByteArray) : runG ΓK7 ΛSum32 Try.prog Try.f77 [.v (S s)] M0 = bif (s.size : Int) == (s.size : Int) && ((0 : Int) == 0 && (in32 4294967295 && szS s)) then some (.v (U32 (fin32 s)), M0) else none := by kernel_rfl
def gSum32 (vs : List Value) : Option (Bool × Value) :=
  match vs with
  | [.string s] => some (szS s, (U32 (sum32 s)))
  | _ => none
theorem gSum32_ok : ∀ vs r, gSum32 vs = some (true, r) → ∀ m, CallOk Try.prog 77 (vs.map .v) m (.v r) m := by
  intro vs r h
  unfold gSum32 at h
  split at h
  · rename_i s
    obtain ⟨h1, rfl⟩ := some_t h
    refine runV (vs := [S s]) (Λ := ΛSum32) (m' := M0) OkK7 Try.func77 rfl (fun z z1 z2 => oneLoop (c := Try.f77.body.getD .skip) loopsSum32 (loopOkSum32 z z1 z2)) ?_
    exact (runSum32 s).trans (by rw [h1, beq_self_eq_true, fin32_eq]; rfl)
  · cases h
noncomputable def ΓK8 : Orc := addVal 77 gSum32 ΓK7
theorem OkK8 : ΓK8.Ok Try.prog := addVal_ok OkK7 gSum32_ok
def kRSum32 : List Bool := maskOf 20 [0, 3, 4]
def xRSum32 : List Bool := maskOf 20 [3]
noncomputable def bodyRSum32 : Code := loopAt (Try.f78.body.getD .skip) 0
theorem loopsRSum32 : loopsOf (Try.f78.body.getD .skip) = [bodyRSum32] := by kernel_rfl
theorem loopsRSum320 : loopsOf bodyRSum32 = [] := by kernel_rfl
def ERSum32 (e : Ex) (st : St) : Option (Ex × St) := some (e, cutC 0 0 xRSum32 st)
def HRSum32 (s : ByteArray) (x i : Int) : St := mk kRSum32 [.v (S s), .v (U32 x), .v (I i)] M0
theorem stepRSum32 (s : ByteArray) (k : Nat) (x i : Int) : evLoop ΓK8 Try.prog L0 (cutC 0 0 kRSum32) bodyRSum32 (k + 1) (HRSum32 s x i) ERSum32 =
    bif decide (i < (s.size : Int)) then (bif decide (0 ≤ i) && decide (i < (s.size : Int)) then (bif in32 (q32 s x i) then evLoop ΓK8 Try.prog L0 (cutC 0 0 kRSum32) bodyRSum32 k (HRSum32 s (S32 (q32 s x i)) (wI (i + 1))) ERSum32 else none) else none)
    else some (.exit 0, mk xRSum32 [.v (U32 x)] M0) := by kernel_rfl
def GRSum32 (vals : List SV) (m : Mem) : Option (Bool × Ex × St) :=
  match vals, m with
  | [.v (.string s), .v (.int .u32 x), .v (.int .i64 i)], ⟨[], [], []⟩ => some (i == 0 && (in32 x && szS s), .exit 0, mk xRSum32 [.v (U32 (R32 x s))] M0)
  | _, _ => none
noncomputable def ΛRSum32 : LoopOrc := fun _ st => viaC 0 0 kRSum32 GRSum32 st
theorem loopOkRSum32 (z : Base) (z1 : z.L.length = 0) (z2 : z.U.length = 0) : LoopOk ΛRSum32 Try.prog z bodyRSum32 := by
  refine loop_okC (Λ := L0) (kx := fun _ => xRSum32) OkK8 mixed z1 z2 (fun b hb => by rw [loopsRSum320] at hb; cases hb) (G := GRSum32) (fun _ => rfl) ?_
  intro vals m e st' h
  unfold GRSum32 at h
  split at h
  · rename_i s x i
    obtain ⟨h1, rfl, rfl⟩ := some_t2 h
    simp only [Bool.and_eq_true, beq_iff_eq] at h1
    obtain ⟨rfl, h1, h4⟩ := h1
    obtain ⟨n, rfl, hn⟩ := in32_nat h1
    exact ⟨s.size + 1, overS s (Nat.le_of_ble_eq_true h4) (fun k x i => evLoop ΓK8 Try.prog L0 (cutC 0 0 kRSum32) bodyRSum32 k (HRSum32 s x i) ERSum32) (fun x => some (.exit 0, mk xRSum32 [.v (U32 x)] M0)) (fun x i => in32 (q32 s x i)) (fun x i => S32 (q32 s x i)) p32 4294967296 (fun n b => p32_lt b) (gs32 s) (stepRSum32 s) s.size 0 n (by omega) hn⟩
  · cases h
theorem runRSum32 (s : ByteArray) : runG ΓK8 ΛRSum32 Try.prog Try.f78 [.v (S s)] M0 = bif (0 : Int) == 0 && (in32 4294967295 && szS s) then some (.v (U32 (fin32 s)), M0) else none := by kernel_rfl
def gRSum32 (vs : List Value) : Option (Bool × Value) :=
  match vs with
  | [.string s] => some (szS s, (U32 (sum32 s)))
  | _ => none
theorem gRSum32_ok : ∀ vs r, gRSum32 vs = some (true, r) → ∀ m, CallOk Try.prog 78 (vs.map .v) m (.v r) m := by
  intro vs r h
  unfold gRSum32 at h
  split at h
  · rename_i s
    obtain ⟨h1, rfl⟩ := some_t h
    refine runV (vs := [S s]) (Λ := ΛRSum32) (m' := M0) OkK8 Try.func78 rfl (fun z z1 z2 => oneLoop (c := Try.f78.body.getD .skip) loopsRSum32 (loopOkRSum32 z z1 z2)) ?_
    exact (runRSum32 s).trans (by rw [h1, fin32_eq]; rfl)
  · cases h
noncomputable def ΓK9 : Orc := addVal 78 gRSum32 ΓK8
theorem OkK9 : ΓK9.Ok Try.prog := addVal_ok OkK8 gRSum32_ok
noncomputable def ΓK : Orc := ΓK9
theorem OkK : ΓK.Ok Try.prog := OkK9
end Go.Proofs.Yteapngnpenmfaaa

namespace Go.Proofs.Yteapngnpenmfaaa
open Go Go.Proofs Go.Sx
/-! Texts as lists of bytes. -/
abbrev L (s : ByteArray) : List UInt8 := s.data.toList
theorem L_inj {a b : ByteArray} : L a = L b ↔ a = b := by
  constructor
  · intro h
    exact ByteArray.ext (Array.toList_inj.1 h)
  · rintro rfl; rfl
theorem L_len (s : ByteArray) : (L s).length = s.size := by simp [L]
theorem L_app (a b : ByteArray) : L (a ++ b) = L a ++ L b := by simp [L, ByteArray.data_append]
theorem L_ext (s : ByteArray) (a b : Nat) : L (s.extract a b) = ((L s).drop a).take (b - a) := by
  simp [L, ByteArray.data_extract, List.extract_eq_take_drop]
theorem L_nums (xs : List Int) : L (strOfNums xs) = xs.map fun n => UInt8.ofNat n.toNat := rfl
theorem beq_S (a b : ByteArray) : (a == b) = true ↔ a = b := by
  show ((a.data == b.data) = true) ↔ a = b
  rw [beq_iff_eq]
  exact ByteArray.ext_iff.symm
theorem beq_L (a b : ByteArray) : (a == b) = (L a == L b) := by
  rw [Bool.eq_iff_iff, beq_S]
  simp only [beq_iff_eq, L_inj]
/-- As the model asks it of two texts. -/
theorem beq_T (a b : ByteArray) : (a.toList == b.toList) = (L a == L b) := by rw [ByteArray.toList_eq, ByteArray.toList_eq]
theorem beq_TS (a b : ByteArray) : (a.toList == b.toList) = (a == b) := by rw [beq_T, beq_L]
theorem strAt_L (s : ByteArray) (k : Nat) : strAt s (k : Int) = (((L s)[k]?.map fun b => (b.toNat : Int)).getD 0) := by
  cases h : (L s)[k]? with
  | some b =>
    have h' : s.data[k]? = some b := by simpa [L] using h
    rw [strAt_some h']
    rfl
  | none =>
    unfold strAt
    rw [Int.toNat_natCast]
    have hk : s.size ≤ k := by
      rw [← L_len]
      simpa using h
    have : s[k]? = none := by rw [getElem?_neg]; omega
    rw [this]
    rfl
theorem ext_all (s : ByteArray) : s.extract 0 s.size = s := by
  rw [← L_inj, L_ext, List.drop_zero, List.take_of_length_le (by rw [L_len]; omega)]
theorem ext_app {s t : ByteArray} {n : Nat} (h : n ≤ s.size) : (s ++ t).extract n (s ++ t).size = s.extract n s.size ++ t := by
  rw [← L_inj, L_ext, L_app, L_app, L_ext, List.drop_append_of_le_length (by rw [L_len]; exact h), ByteArray.size_append, List.take_of_length_le (by simp only [List.length_append, List.length_drop, L_len]; omega), List.take_of_length_le (by simp only [List.length_drop, L_len]; omega)]
theorem ext_app0 {s t : ByteArray} {a b : Nat} (h : b ≤ s.size) : (s ++ t).extract a b = s.extract a b := by
  rw [← L_inj, L_ext, L_ext, L_app]
  rcases Nat.lt_or_ge a b with h1 | h1
  · rw [List.drop_append_of_le_length (by rw [L_len]; omega), List.take_append_of_le_length (by simp only [List.length_drop, L_len]; omega)]
  · rw [show b - a = 0 by omega]
    simp
theorem app_assoc (a b c : ByteArray) : (a ++ b) ++ c = a ++ (b ++ c) := by
  rw [← L_inj]
  simp only [L_app, List.append_assoc]
theorem app_nil (a : ByteArray) : a ++ (⟨#[]⟩ : ByteArray) = a := by rw [← L_inj, L_app]; simp [L]
theorem nil_app (a : ByteArray) : (⟨#[]⟩ : ByteArray) ++ a = a := by rw [← L_inj, L_app]; simp [L]
theorem wrap8 (n : Nat) : IntKind.u8.wrap (n : Int) = ((n % 256 : Nat) : Int) := by
  rw [← wr_eq true]; simp only [wr]; omega

/-! Frames. -/
def two16 (x : Int) : ByteArray := strOfNums [IntKind.u8.wrap (x.fdiv (2 ^ min (Int.toNat 8) IntKind.u16.bits)), IntKind.u8.wrap x]
def sumT (s : ByteArray) : ByteArray := two16 (R16 65535 s)
def bodyT (k : Int) (p : ByteArray) : ByteArray := strOfNums [IntKind.u8.wrap k, IntKind.u8.wrap (p.size : Int)] ++ p
def mark : ByteArray := ⟨#[165, 90]⟩
def prt (k : Int) (p : ByteArray) : ByteArray := (mark ++ bodyT k p) ++ sumT (bodyT k p)
def rightB (k : Int) (p : ByteArray) : Bool := decide (k ≥ 0) && (decide (k ≤ 255) && decide ((p.size : Int) ≤ 64))
def printB (k : Int) (p : ByteArray) : ByteArray := bif rightB k p then prt k p else ⟨#[]⟩
theorem two16_size (x : Int) : (two16 x).size = 2 := by simp [two16, strOfNums_size]
theorem bodyT_size (k : Int) (p : ByteArray) : (bodyT k p).size = p.size + 2 := by
  unfold bodyT
  rw [ByteArray.size_append, strOfNums_size]
  simp only [List.length_cons, List.length_nil]
  omega
theorem prt_size (k : Int) (p : ByteArray) : (prt k p).size = p.size + 6 := by
  unfold prt sumT
  rw [ByteArray.size_append, ByteArray.size_append, bodyT_size, two16_size]
  show 2 + _ + 2 = _
  omega

/-- What the bytes begin with may become no frame. -/
def badB (s : ByteArray) : Bool := (decide ((s.size : Int) > 0) && strAt s 0 != 165) || ((decide ((s.size : Int) > 1) && strAt s 1 != 90) || (decide ((s.size : Int) > 3) && decide (strAt s 3 > 64)))
def lenN (s : ByteArray) : Int := 6 + strAt s 3
def shortB (s : ByteArray) : Bool := decide ((s.size : Int) < 4) || decide ((s.size : Int) < lenN s)
def kOf (s : ByteArray) : Int := strAt s 2
def pOf (s : ByteArray) : ByteArray := s.extract 4 (lenN s - 2).toNat
def okB (s : ByteArray) : Bool := prt (kOf s) (pOf s) == s.extract 0 (lenN s).toNat
def rdE (s : ByteArray) : Int := bif badB s then 3 else bif shortB s then 5 else bif okB s then 0 else 4
def rdK (s : ByteArray) : Int := bif rdE s == 0 then kOf s else 0
def rdP (s : ByteArray) : ByteArray := bif rdE s == 0 then pOf s else ⟨#[]⟩
def rdN (s : ByteArray) : Int := bif rdE s == 0 then lenN s else 0

theorem strAt_range (s : ByteArray) (k : Nat) : 0 ≤ strAt s (k : Int) ∧ strAt s (k : Int) < 256 := by
  rw [strAt_L]
  cases (L s)[k]? with
  | none => simp
  | some b => have := byte_lt b; simp; omega
theorem strAt_app {s t : ByteArray} {k : Nat} (h : k < s.size) : strAt (s ++ t) (k : Int) = strAt s (k : Int) := by
  rw [strAt_L, strAt_L, L_app, List.getElem?_append_left (by rw [L_len]; exact h)]
theorem lenN_range (s : ByteArray) : 6 ≤ lenN s ∧ lenN s < 262 := by
  have := strAt_range s 3
  unfold lenN
  rw [show (3 : Int) = ((3 : Nat) : Int) from rfl]
  omega
theorem rdE_cases (s : ByteArray) : (rdE s = 3 ∧ badB s = true) ∨ (rdE s = 5 ∧ badB s = false ∧ shortB s = true) ∨ (rdE s = 0 ∧ badB s = false ∧ shortB s = false ∧ okB s = true) ∨ (rdE s = 4 ∧ badB s = false ∧ shortB s = false ∧ okB s = false) := by
  unfold rdE
  cases badB s <;> cases shortB s <;> cases okB s <;> simp
/-- What stands there alone decides. -/
theorem bad_app {s t : ByteArray} (h : badB s = true) : badB (s ++ t) = true := by
  unfold badB at *
  simp only [Bool.or_eq_true, Bool.and_eq_true, decide_eq_true_eq, bne_iff_ne, ne_eq] at *
  have hs : (s ++ t).size = s.size + t.size := ByteArray.size_append
  rcases h with ⟨h1, h2⟩ | ⟨h1, h2⟩ | ⟨h1, h2⟩
  · refine .inl ⟨by omega, ?_⟩
    rw [show (0 : Int) = ((0 : Nat) : Int) from rfl, strAt_app (by omega)]
    exact h2
  · refine .inr (.inl ⟨by omega, ?_⟩)
    rw [show (1 : Int) = ((1 : Nat) : Int) from rfl, strAt_app (by omega)]
    exact h2
  · refine .inr (.inr ⟨by omega, ?_⟩)
    rw [show (3 : Int) = ((3 : Nat) : Int) from rfl, strAt_app (by omega)]
    exact h2
theorem not_short {s : ByteArray} (h : shortB s = false) : 4 ≤ s.size ∧ (lenN s).toNat ≤ s.size ∧ 6 ≤ (lenN s).toNat := by
  unfold shortB at h
  simp only [Bool.or_eq_false_iff, decide_eq_false_iff_not] at h
  have := lenN_range s
  omega
theorem lenN_app {s t : ByteArray} (h : 4 ≤ s.size) : lenN (s ++ t) = lenN s := by
  unfold lenN
  rw [show (3 : Int) = ((3 : Nat) : Int) from rfl, strAt_app (by omega)]
theorem good_app {s t : ByteArray} (h : badB s = false) (h2 : shortB s = false) : badB (s ++ t) = false ∧ shortB (s ++ t) = false ∧ okB (s ++ t) = okB s ∧ kOf (s ++ t) = kOf s ∧ pOf (s ++ t) = pOf s ∧ lenN (s ++ t) = lenN s := by
  obtain ⟨h4, h5, h6⟩ := not_short h2
  have hs : (s ++ t).size = s.size + t.size := ByteArray.size_append
  have e1 : lenN (s ++ t) = lenN s := lenN_app h4
  have e2 : kOf (s ++ t) = kOf s := by
    unfold kOf
    rw [show (2 : Int) = ((2 : Nat) : Int) from rfl, strAt_app (by omega)]
  have e3 : pOf (s ++ t) = pOf s := by
    unfold pOf
    rw [e1, ext_app0 (by omega)]
  refine ⟨?_, ?_, ?_, e2, e3, e1⟩
  · unfold badB at *
    have a0 : strAt (s ++ t) 0 = strAt s 0 := strAt_app (k := 0) (by omega)
    have a1 : strAt (s ++ t) 1 = strAt s 1 := strAt_app (k := 1) (by omega)
    have a3 : strAt (s ++ t) 3 = strAt s 3 := strAt_app (k := 3) (by omega)
    rw [a0, a1, a3]
    simp only [Bool.or_eq_false_iff, Bool.and_eq_false_iff, decide_eq_false_iff_not, bne_eq_false_iff_eq] at *
    omega
  · unfold shortB
    rw [e1]
    simp only [Bool.or_eq_false_iff, decide_eq_false_iff_not]
    omega
  · unfold okB
    rw [e1, e2, e3, ext_app0 (by omega)]
theorem rd_app {s t : ByteArray} (h : rdE s ≠ 5) : rdE (s ++ t) = rdE s ∧ rdK (s ++ t) = rdK s ∧ rdP (s ++ t) = rdP s ∧ rdN (s ++ t) = rdN s := by
  have key : rdE (s ++ t) = rdE s := by
    rcases rdE_cases s with ⟨h1, h2⟩ | ⟨h1, h2, h3⟩ | ⟨h1, h2, h3, h4⟩ | ⟨h1, h2, h3, h4⟩
    · rw [h1]; unfold rdE; rw [bad_app h2]; rfl
    · exact absurd h1 h
    · obtain ⟨g1, g2, g3, _⟩ := good_app (t := t) h2 h3
      rw [h1]; unfold rdE; rw [g1, g2, g3, h4]; rfl
    · obtain ⟨g1, g2, g3, _⟩ := good_app (t := t) h2 h3
      rw [h1]; unfold rdE; rw [g1, g2, g3, h4]; rfl
  refine ⟨key, ?_⟩
  unfold rdK rdP rdN
  rw [key]
  rcases rdE_cases s with ⟨h1, h2⟩ | ⟨h1, h2, h3⟩ | ⟨h1, h2, h3, h4⟩ | ⟨h1, h2, h3, h4⟩
  · rw [h1]; exact ⟨rfl, rfl, rfl⟩
  · exact absurd h1 h
  · obtain ⟨g1, g2, g3, g4, g5, g6⟩ := good_app (t := t) h2 h3
    rw [h1, g4, g5, g6]
    exact ⟨rfl, rfl, rfl⟩
  · rw [h1]; exact ⟨rfl, rfl, rfl⟩
theorem rd_ok {s : ByteArray} (h : rdE s = 0) : (rdN s).toNat ≤ s.size ∧ 6 ≤ (rdN s).toNat ∧ rdN s = ((rdN s).toNat : Int) ∧ rdK s = kOf s ∧ rdP s = pOf s ∧ rdN s = lenN s ∧ (rdP s).size + 6 = (rdN s).toNat ∧ (rdP s).size ≤ 64 ∧ 0 ≤ rdK s ∧ rdK s ≤ 255 ∧ badB s = false ∧ shortB s = false ∧ okB s = true := by
  rcases rdE_cases s with ⟨h1, h2⟩ | ⟨h1, h2, h3⟩ | ⟨h1, h2, h3, h4⟩ | ⟨h1, h2, h3, h4⟩
  · omega
  · omega
  · obtain ⟨g1, g2, g3⟩ := not_short h3
    have e1 : rdN s = lenN s := by unfold rdN; rw [h]; rfl
    have e2 : rdK s = kOf s := by unfold rdK; rw [h]; rfl
    have e3 : rdP s = pOf s := by unfold rdP; rw [h]; rfl
    have hl := lenN_range s
    have hb := h2
    unfold badB at hb
    simp only [Bool.or_eq_false_iff, Bool.and_eq_false_iff, decide_eq_false_iff_not] at hb
    have h64 : strAt s 3 ≤ 64 := by omega
    have hp : (rdP s).size + 6 = (lenN s).toNat := by
      rw [e3]
      unfold pOf
      rw [ByteArray.size_extract]
      omega
    have hk := strAt_range s 2
    refine ⟨by rw [e1]; exact g2, by rw [e1]; exact g3, by rw [e1]; omega, e2, e3, e1, by rw [e1]; exact hp, ?_, ?_, ?_, h2, h3, h4⟩
    · unfold lenN at hp
      omega
    · rw [e2]; exact hk.1
    · rw [e2]; unfold kOf; have := hk.2; rw [show (2 : Int) = ((2 : Nat) : Int) from rfl]; omega
  · omega
theorem rd_short {s : ByteArray} (h : rdE s = 5) : s.size < 70 := by
  rcases rdE_cases s with ⟨h1, h2⟩ | ⟨h1, h2, h3⟩ | ⟨h1, h2, h3, h4⟩ | ⟨h1, h2, h3, h4⟩
  · omega
  · unfold shortB at h3
    unfold badB at h2
    simp only [Bool.or_eq_true, decide_eq_true_eq, Bool.or_eq_false_iff, Bool.and_eq_false_iff, decide_eq_false_iff_not] at h2 h3
    unfold lenN at h3
    omega
  · omega
  · omega
theorem rd_nil : rdE ⟨#[]⟩ = 5 := by rfl
theorem rd_some {s : ByteArray} (h : rdE s ≠ 5) : 0 < s.size := by
  apply Classical.byContradiction
  intro hn
  have : s = ⟨#[]⟩ := by
    rw [← L_inj]
    have : (L s).length = 0 := by rw [L_len]; omega
    exact List.eq_nil_of_length_eq_zero this
  rw [this] at h
  exact h rd_nil
end Go.Proofs.Yteapngnpenmfaaa

namespace Go.Proofs.Yteapngnpenmfaaa
open Go Go.Proofs Go.Sx
set_option linter.unusedVariables false
set_option maxRecDepth 20000 in
theorem runSum (s : ByteArray) : runG ΓK L0 Try.prog Try.f55 [.v (S s)] M0 = bif szS s then some (.v (S (sumT s)), M0) else none := by kernel_rfl
def gSum (vs : List Value) : Option (Bool × Value) :=
  match vs with
  | [.string s] => some (szS s, S (sumT s))
  | _ => none
theorem gSum_ok : ∀ vs r, gSum vs = some (true, r) → ∀ m, CallOk Try.prog 55 (vs.map .v) m (.v r) m := by
  intro vs r h
  unfold gSum at h
  split at h
  · rename_i s
    obtain ⟨h1, rfl⟩ := some_t h
    refine runV (vs := [S s]) (Λ := L0) (m' := M0) OkK Try.func55 rfl (fun z _ _ => noLoops (by kernel_rfl) z) ?_
    exact (runSum s).trans (by rw [h1]; rfl)
  · cases h
noncomputable def ΓF1 : Orc := addVal 55 gSum ΓK
theorem OkF1 : ΓF1.Ok Try.prog := addVal_ok OkK gSum_ok
noncomputable def ΓF2 : Orc := ΓF1
theorem OkF2 : ΓF2.Ok Try.prog := OkF1
set_option maxRecDepth 20000 in
theorem runRight (k : Int) (p : ByteArray) : runG ΓF2 L0 Try.prog Try.f54 [.v (.agg #[I k, S p])] M0 = bif decide (k ≥ 0) then (bif decide (k ≤ 255) then some (.v (Bo (decide ((p.size : Int) ≤ 64))), M0) else some (.v (Bo false), M0)) else some (.v (Bo false), M0) := by kernel_rfl
def gRight (vs : List Value) : Option (Bool × Value) :=
  match vs with
  | [.agg ⟨[.int .i64 k, .string p]⟩] => some (true, Bo (rightB k p))
  | _ => none
theorem gRight_ok : ∀ vs r, gRight vs = some (true, r) → ∀ m, CallOk Try.prog 54 (vs.map .v) m (.v r) m := by
  intro vs r h
  unfold gRight at h
  split at h
  · rename_i k p
    obtain ⟨h1, rfl⟩ := some_t h
    refine runV (vs := [.agg #[I k, S p]]) (Λ := L0) (m' := M0) OkF2 Try.func54 rfl (fun z _ _ => noLoops (by kernel_rfl) z) ?_
    exact (runRight k p).trans (by unfold rightB; cases decide (k ≥ 0) <;> cases decide (k ≤ 255) <;> rfl)
  · cases h
noncomputable def ΓF3 : Orc := addVal 54 gRight ΓF2
theorem OkF3 : ΓF3.Ok Try.prog := addVal_ok OkF2 gRight_ok
noncomputable def ΓF4 : Orc := ΓF3
theorem OkF4 : ΓF4.Ok Try.prog := OkF3
noncomputable def ΓF5 : Orc := ΓF4
theorem OkF5 : ΓF5.Ok Try.prog := OkF4
def hasP (s t : ByteArray) : Bool := decide (t.size ≤ s.size) && (L (s.extract 0 t.size) == L t)
set_option maxRecDepth 20000 in
theorem runHasP0 (s t : ByteArray) : runG ΓF5 L0 Try.prog Try.f86 [.v (S s), .v (S t)] M0 = bif decide ((s.size : Int) ≥ (t.size : Int)) then (bif decide ((0 : Int) ≤ 0) && (decide (0 ≤ (t.size : Int)) && decide ((t.size : Int) ≤ (s.size : Int))) then some (.v (Bo ((s.extract (Int.toNat 0) (t.size : Int).toNat).toList == t.toList)), M0) else none) else some (.v (Bo false), M0) := by kernel_rfl
def gHasP0 (vs : List Value) : Option (Bool × Value) :=
  match vs with
  | [.string s, .string t] => some (true, Bo (hasP s t))
  | _ => none
theorem gHasP0_ok : ∀ vs r, gHasP0 vs = some (true, r) → ∀ m, CallOk Try.prog 86 (vs.map .v) m (.v r) m := by
  intro vs r h
  unfold gHasP0 at h
  split at h
  · rename_i s t
    obtain ⟨h1, rfl⟩ := some_t h
    refine runV (vs := [S s, S t]) (Λ := L0) (m' := M0) OkF5 Try.func86 rfl (fun z _ _ => noLoops (by kernel_rfl) z) ?_
    exact (runHasP0 s t).trans (by
      unfold hasP
      by_cases hc : t.size ≤ s.size
      · rw [decide_eq_true (show (s.size : Int) ≥ (t.size : Int) by omega), decide_eq_true (show (0 : Int) ≤ 0 by omega), decide_eq_true (show 0 ≤ (t.size : Int) by omega), decide_eq_true hc, beq_T]
        rfl
      · rw [decide_eq_false (show ¬ (s.size : Int) ≥ (t.size : Int) by omega), decide_eq_false hc]
        rfl)
  · cases h
noncomputable def ΓF6 : Orc := addVal 86 gHasP0 ΓF5
theorem OkF6 : ΓF6.Ok Try.prog := addVal_ok OkF5 gHasP0_ok
set_option maxRecDepth 20000 in
theorem runHasP (s t : ByteArray) : runG ΓF6 L0 Try.prog Try.f79 [.v (S s), .v (S t)] M0 = some (.v (Bo (hasP s t)), M0) := by kernel_rfl
def gHasP (vs : List Value) : Option (Bool × Value) :=
  match vs with
  | [.string s, .string t] => some (true, Bo (hasP s t))
  | _ => none
theorem gHasP_ok : ∀ vs r, gHasP vs = some (true, r) → ∀ m, CallOk Try.prog 79 (vs.map .v) m (.v r) m := by
  intro vs r h
  unfold gHasP at h
  split at h
  · rename_i s t
    obtain ⟨h1, rfl⟩ := some_t h
    refine runV (vs := [S s, S t]) (Λ := L0) (m' := M0) OkF6 Try.func79 rfl (fun z _ _ => noLoops (by kernel_rfl) z) ?_
    exact (runHasP s t).trans (rfl)
  · cases h
noncomputable def ΓF7 : Orc := addVal 79 gHasP ΓF6
theorem OkF7 : ΓF7.Ok Try.prog := addVal_ok OkF6 gHasP_ok
set_option maxRecDepth 20000 in
theorem runClone1 (s : ByteArray) : runG ΓF7 L0 Try.prog Try.f53 [.v (S s)] M0 = bif Nat.ble s.size 281474976710656 then some (.v (S s), M0) else none := by kernel_rfl
def gClone1 (vs : List Value) : Option (Bool × Value) :=
  match vs with
  | [.string s] => some (Nat.ble s.size 281474976710656, S s)
  | _ => none
theorem gClone1_ok : ∀ vs r, gClone1 vs = some (true, r) → ∀ m, CallOk Try.prog 53 (vs.map .v) m (.v r) m := by
  intro vs r h
  unfold gClone1 at h
  split at h
  · rename_i s
    obtain ⟨h1, rfl⟩ := some_t h
    refine runV (vs := [S s]) (Λ := L0) (m' := M0) OkF7 Try.func53 rfl (fun z _ _ => noLoops (by kernel_rfl) z) ?_
    exact (runClone1 s).trans (by rw [h1]; rfl)
  · cases h
noncomputable def ΓF8 : Orc := addVal 53 gClone1 ΓF7
theorem OkF8 : ΓF8.Ok Try.prog := addVal_ok OkF7 gClone1_ok
set_option maxRecDepth 20000 in
theorem runSize (s : ByteArray) : runG ΓF8 L0 Try.prog Try.f73 [.v (S s)] M0 = bif decide ((0 : Int) ≤ 3) && decide (3 < (s.size : Int)) then some (.v (I (IntKind.i64.wrap (IntKind.i64.wrap (4 + IntKind.i64.wrap (strAt s 3)) + 2))), M0) else none := by kernel_rfl
def gSize (vs : List Value) : Option (Bool × Value) :=
  match vs with
  | [.string s] => some (decide (3 < (s.size : Int)), I (lenN s))
  | _ => none
theorem gSize_ok : ∀ vs r, gSize vs = some (true, r) → ∀ m, CallOk Try.prog 73 (vs.map .v) m (.v r) m := by
  intro vs r h
  unfold gSize at h
  split at h
  · rename_i s
    obtain ⟨h1, rfl⟩ := some_t h
    refine runV (vs := [S s]) (Λ := L0) (m' := M0) OkF8 Try.func73 rfl (fun z _ _ => noLoops (by kernel_rfl) z) ?_
    exact (runSize s).trans (by
      have h3 := strAt_range s 3
      rw [show ((3 : Nat) : Int) = 3 from rfl] at h3
      have e : IntKind.i64.wrap (IntKind.i64.wrap (4 + IntKind.i64.wrap (strAt s 3)) + 2) = lenN s := by
        show wI (wI (4 + wI (strAt s 3)) + 2) = _
        rw [wI_id (n := strAt s 3) (by omega), wI_id (n := 4 + strAt s 3) (by omega), wI_id (by omega)]
        unfold lenN
        omega
      rw [e, show decide ((0 : Int) ≤ 3) = true from rfl, h1]
      rfl)
  · cases h
noncomputable def ΓF9 : Orc := addVal 73 gSize ΓF8
theorem OkF9 : ΓF9.Ok Try.prog := addVal_ok OkF8 gSize_ok
noncomputable def ΓFa : Orc := ΓF9
theorem OkFa : ΓFa.Ok Try.prog := OkF9
end Go.Proofs.Yteapngnpenmfaaa

namespace Go.Proofs.Yteapngnpenmfaaa
open Go Go.Proofs Go.Sx
theorem byte_eq (a : UInt8) (n : Nat) (hn : n < 256) : ((a.toNat : Int) != (n : Int)) = (a != UInt8.ofNat n) := by
  have e : ((a.toNat : Int) = (n : Int)) ↔ a = UInt8.ofNat n := by
    constructor
    · intro h
      rw [← UInt8.toNat_inj, UInt8.toNat_ofNat', Nat.mod_eq_of_lt hn]
      omega
    · rintro rfl
      rw [UInt8.toNat_ofNat', Nat.mod_eq_of_lt hn]
  by_cases h : a = UInt8.ofNat n
  · rw [bne_eq_false_iff_eq.2 (e.2 h), bne_eq_false_iff_eq.2 h]
  · rw [bne_iff_ne.2 (fun q => h (e.1 q)), bne_iff_ne.2 h]
theorem hasMark (s : ByteArray) : hasP s (mark.extract (Int.toNat 0) (if (2 : Int) < (s.size : Int) then 2 else (s.size : Int)).toNat) =
    !((decide ((s.size : Int) > 0) && strAt s 0 != 165) || (decide ((s.size : Int) > 1) && strAt s 1 != 90)) := by
  have h0 := strAt_L s 0
  have h1 := strAt_L s 1
  rw [show ((0 : Nat) : Int) = 0 from rfl] at h0
  rw [show ((1 : Nat) : Int) = 1 from rfl] at h1
  have hl := L_len s
  unfold hasP
  rw [L_ext, L_ext]
  have hmk : L mark = [165, 90] := rfl
  rw [hmk, h0, h1]
  generalize hx : L s = l at *
  match l with
  | [] =>
    have hs : s.size = 0 := by rw [← hl]; rfl
    rw [hs]
    rfl
  | [a] =>
    have hs : s.size = 1 := by rw [← hl]; rfl
    rw [hs]
    have e : (mark.extract (Int.toNat 0) (if (2 : Int) < ((1 : Nat) : Int) then 2 else ((1 : Nat) : Int)).toNat).size = 1 := rfl
    rw [e]
    have := byte_eq a 165 (by omega)
    simp only [List.getElem?_cons_zero, Option.map_some, Option.getD_some]
    rw [show ((165 : Nat) : Int) = 165 from rfl] at this
    rw [this]
    simp [bne]
  | a :: b :: r =>
    have hs : 2 ≤ s.size := by rw [← hl]; simp
    have e0 : (if (2 : Int) < (s.size : Int) then 2 else (s.size : Int)).toNat = 2 := by split <;> omega
    rw [e0]
    have e : (mark.extract (Int.toNat 0) 2).size = 2 := rfl
    rw [e]
    have t0 := byte_eq a 165 (by omega)
    have t1 := byte_eq b 90 (by omega)
    rw [show ((165 : Nat) : Int) = 165 from rfl] at t0
    rw [show ((90 : Nat) : Int) = 90 from rfl] at t1
    simp only [List.getElem?_cons_zero, List.getElem?_cons_succ, Option.map_some, Option.getD_some]
    rw [t0, t1, decide_eq_true (show (s.size : Int) > 0 by omega), decide_eq_true (show (s.size : Int) > 1 by omega), decide_eq_true hs]
    simp [bne]
theorem may_eq (s : ByteArray) : (!badB s) = (hasP s (mark.extract (Int.toNat 0) (if (2 : Int) < (s.size : Int) then 2 else (s.size : Int)).toNat) && (decide ((s.size : Int) < 4) || decide (strAt s 3 ≤ 64))) := by
  rw [hasMark]
  unfold badB
  generalize (decide ((s.size : Int) > 0) && strAt s 0 != 165) = x
  generalize (decide ((s.size : Int) > 1) && strAt s 1 != 90) = y
  have : (decide ((s.size : Int) > 3) && decide (strAt s 3 > 64)) = !(decide ((s.size : Int) < 4) || decide (strAt s 3 ≤ 64)) := by
    by_cases h1 : (s.size : Int) < 4 <;> by_cases h2 : strAt s 3 ≤ 64 <;> simp [h1, h2] <;> omega
  rw [this]
  cases x <;> cases y <;> cases (decide ((s.size : Int) < 4) || decide (strAt s 3 ≤ 64)) <;> rfl
theorem szS_of {s : ByteArray} (h : s.size ≤ 9223372036854775807) : szS s = true := Nat.ble_eq_true_of_le h
theorem right_size {k : Int} {p : ByteArray} (h : rightB k p = true) : p.size ≤ 64 ∧ 0 ≤ k ∧ k ≤ 255 := by
  unfold rightB at h
  simp only [Bool.and_eq_true, decide_eq_true_eq] at h
  omega
theorem mark_eq : strOfNums [165, 90] = mark := rfl
end Go.Proofs.Yteapngnpenmfaaa

namespace Go.Proofs.Yteapngnpenmfaaa
open Go Go.Proofs Go.Sx
set_option linter.unusedVariables false
set_option maxRecDepth 20000 in
theorem runMay (s : ByteArray) : runG ΓFa L0 Try.prog Try.f72 [.v (S s)] M0 = bif decide ((0 : Int) ≤ 0) && (decide ((0 : Int) ≤ (if (2 : Int) < (s.size : Int) then 2 else (s.size : Int))) && decide ((if (2 : Int) < (s.size : Int) then 2 else (s.size : Int)) ≤ (mark.size : Int))) then
      (bif !hasP s (mark.extract (Int.toNat 0) (if (2 : Int) < (s.size : Int) then 2 else (s.size : Int)).toNat) then some (.v (Bo false), M0) else
        (bif decide ((s.size : Int) < 4) then some (.v (Bo true), M0) else (bif decide ((0 : Int) ≤ 3) && decide (3 < (s.size : Int)) then some (.v (Bo (decide (strAt s 3 ≤ 64))), M0) else none))) else none := by kernel_rfl
def gMay (vs : List Value) : Option (Bool × Value) :=
  match vs with
  | [.string s] => some (true, Bo (!badB s))
  | _ => none
theorem gMay_ok : ∀ vs r, gMay vs = some (true, r) → ∀ m, CallOk Try.prog 72 (vs.map .v) m (.v r) m := by
  intro vs r h
  unfold gMay at h
  split at h
  · rename_i s
    obtain ⟨h1, rfl⟩ := some_t h
    refine runV (vs := [S s]) (Λ := L0) (m' := M0) OkFa Try.func72 rfl (fun z _ _ => noLoops (by kernel_rfl) z) ?_
    exact (runMay s).trans (by
      have hm : mark.size = 2 := rfl
      have e1 : (0 : Int) ≤ (if (2 : Int) < (s.size : Int) then 2 else (s.size : Int)) := by split <;> omega
      have e2 : (if (2 : Int) < (s.size : Int) then 2 else (s.size : Int)) ≤ (mark.size : Int) := by rw [hm]; split <;> omega
      rw [decide_eq_true e1, decide_eq_true e2, may_eq s]
      generalize hasP s (mark.extract (Int.toNat 0) (if (2 : Int) < (s.size : Int) then 2 else (s.size : Int)).toNat) = q
      by_cases h4 : (s.size : Int) < 4
      · rw [decide_eq_true h4]
        cases q <;> rfl
      · rw [decide_eq_false h4, decide_eq_true (show (3 : Int) < (s.size : Int) by omega)]
        cases q <;> rfl)
  · cases h
noncomputable def ΓG1 : Orc := addVal 72 gMay ΓFa
theorem OkG1 : ΓG1.Ok Try.prog := addVal_ok OkFa gMay_ok
set_option maxRecDepth 20000 in
theorem runPrint (k : Int) (p : ByteArray) : runG ΓG1 L0 Try.prog Try.f26 [.v (.agg #[I k, S p])] M0 = bif !rightB k p then some (.v (S ⟨#[]⟩), M0) else
      (bif Nat.ble ((strOfNums [IntKind.u8.wrap k, IntKind.u8.wrap (p.size : Int)]).size + p.size) 9223372036854775807 then (bif Nat.ble (mark.size + (bodyT k p).size) 9223372036854775807 then (bif szS (bodyT k p) then (bif Nat.ble ((mark ++ bodyT k p).size + (sumT (bodyT k p)).size) 9223372036854775807 then some (.v (S ((mark ++ bodyT k p) ++ sumT (bodyT k p))), M0) else none) else none) else none) else none) := by kernel_rfl
def gPrint (vs : List Value) : Option (Bool × Value) :=
  match vs with
  | [.agg ⟨[.int .i64 k, .string p]⟩] => some (true, S (printB k p))
  | _ => none
theorem gPrint_ok : ∀ vs r, gPrint vs = some (true, r) → ∀ m, CallOk Try.prog 26 (vs.map .v) m (.v r) m := by
  intro vs r h
  unfold gPrint at h
  split at h
  · rename_i k p
    obtain ⟨h1, rfl⟩ := some_t h
    refine runV (vs := [.agg #[I k, S p]]) (Λ := L0) (m' := M0) OkG1 Try.func26 rfl (fun z _ _ => noLoops (by kernel_rfl) z) ?_
    exact (runPrint k p).trans (by
      unfold printB
      cases hr : rightB k p with
      | false => rfl
      | true =>
        obtain ⟨hp, _, _⟩ := right_size hr
        have hb := bodyT_size k p
        have hm : mark.size = 2 := rfl
        have h2 : (sumT (bodyT k p)).size = 2 := two16_size _
        have hma : (mark ++ bodyT k p).size = 2 + (p.size + 2) := by rw [ByteArray.size_append, hm, hb]
        rw [strOfNums_size, hma, h2, hm, hb, szS_of (by omega)]
        rw [show Nat.ble ([IntKind.u8.wrap k, IntKind.u8.wrap (p.size : Int)].length + p.size) 9223372036854775807 = true from Nat.ble_eq_true_of_le (by simp only [List.length_cons, List.length_nil]; omega), show Nat.ble (2 + (p.size + 2)) 9223372036854775807 = true from Nat.ble_eq_true_of_le (by omega), show Nat.ble (2 + (p.size + 2) + 2) 9223372036854775807 = true from Nat.ble_eq_true_of_le (by omega)]
        rfl)
  · cases h
noncomputable def ΓG2 : Orc := addVal 26 gPrint ΓG1
theorem OkG2 : ΓG2.Ok Try.prog := addVal_ok OkG1 gPrint_ok
noncomputable def ΓG3 : Orc := ΓG2
theorem OkG3 : ΓG3.Ok Try.prog := OkG2
noncomputable def ΓGa : Orc := ΓG3
theorem OkGa : ΓGa.Ok Try.prog := OkG3
end Go.Proofs.Yteapngnpenmfaaa

namespace Go.Proofs.Yteapngnpenmfaaa
open Go Go.Proofs Go.Sx
theorem body_bytes (c d : UInt8) (p : ByteArray) (hp : p.size = d.toNat) : L (bodyT (c.toNat : Int) p) = c :: d :: L p := by
  unfold bodyT
  rw [L_app, L_nums, hp, wrap8, wrap8, Nat.mod_eq_of_lt (byte_lt c), Nat.mod_eq_of_lt (byte_lt d)]
  simp only [List.map_cons, List.map_nil, Int.toNat_natCast, UInt8.ofNat_toNat, List.cons_append, List.nil_append]
/-- A text that may be a frame, byte by byte. -/
theorem frame_list {s : ByteArray} (h1 : badB s = false) (h2 : shortB s = false) : ∃ c d r, L s = 165 :: 90 :: c :: d :: r ∧ kOf s = (c.toNat : Int) ∧ strAt s 3 = (d.toNat : Int) ∧ d.toNat ≤ 64 ∧ lenN s = ((6 + d.toNat : Nat) : Int) ∧ d.toNat + 2 ≤ r.length := by
  obtain ⟨h4, h5, h6⟩ := not_short h2
  have hl := L_len s
  have a0 := strAt_L s 0
  have a1 := strAt_L s 1
  have a2 := strAt_L s 2
  have a3 := strAt_L s 3
  generalize hx : L s = l at *
  match l, hl with
  | [], hl => simp at hl; omega
  | [_], hl => simp at hl; omega
  | [_, _], hl => simp at hl; omega
  | [_, _, _], hl => simp at hl; omega
  | a :: b :: c :: d :: r, hl =>
    simp only [List.getElem?_cons_zero, List.getElem?_cons_succ, Option.map_some, Option.getD_some] at a0 a1 a2 a3
    unfold badB at h1
    rw [show (0 : Int) = ((0 : Nat) : Int) from rfl, show (1 : Int) = ((1 : Nat) : Int) from rfl, show (3 : Int) = ((3 : Nat) : Int) from rfl] at h1
    rw [a0, a1, a3] at h1
    have b0 := byte_eq a 165 (by omega)
    have b1 := byte_eq b 90 (by omega)
    rw [show ((165 : Nat) : Int) = 165 from rfl] at b0
    rw [show ((90 : Nat) : Int) = 90 from rfl] at b1
    rw [b0, b1] at h1
    simp only [Bool.or_eq_false_iff, Bool.and_eq_false_iff, decide_eq_false_iff_not, bne_eq_false_iff_eq] at h1
    obtain ⟨g0, g1, g3⟩ := h1
    have e0 : a = 165 := by
      rcases g0 with g0 | g0
      · omega
      · exact g0
    have e1 : b = 90 := by
      rcases g1 with g1 | g1
      · omega
      · exact g1
    subst e0 e1
    have hlen : lenN s = ((6 + d.toNat : Nat) : Int) := by
      unfold lenN
      rw [show (3 : Int) = ((3 : Nat) : Int) from rfl, a3]
      omega
    refine ⟨c, d, r, rfl, ?_, a3, by omega, hlen, ?_⟩
    · unfold kOf; exact a2
    · rw [hlen] at h5
      simp only [List.length_cons] at hl
      omega
theorem pOf_list {s : ByteArray} {d : Nat} {x y z u : UInt8} {r : List UInt8} (hl : L s = x :: y :: z :: u :: r) (hn : lenN s = ((6 + d : Nat) : Int)) : L (pOf s) = r.take d := by
  unfold pOf
  rw [hn, L_ext, hl, show (((6 + d : Nat) : Int) - 2).toNat - 4 = d by omega]
  rfl
theorem ok_eq {s : ByteArray} (h1 : badB s = false) (h2 : shortB s = false) : ((sumT (s.extract 2 (lenN s - 2).toNat)).toList == (s.extract (lenN s - 2).toNat (lenN s).toNat).toList) = okB s := by
  obtain ⟨c, d, r, hl, hk, hd, hd64, hn, hr⟩ := frame_list h1 h2
  have hp := pOf_list hl hn
  have hps : (pOf s).size = d.toNat := by
    rw [← L_len, hp, List.length_take]
    omega
  have e1 : s.extract 2 (lenN s - 2).toNat = bodyT (kOf s) (pOf s) := by
    rw [← L_inj, hk, body_bytes c d _ hps, hp, L_ext, hl, hn, show (((6 + d.toNat : Nat) : Int) - 2).toNat - 2 = d.toNat + 2 by omega]
    rfl
  have e2 : L (s.extract (lenN s - 2).toNat (lenN s).toNat) = (r.drop d.toNat).take 2 := by
    rw [L_ext, hl, hn, show (((6 + d.toNat : Nat) : Int) - 2).toNat = d.toNat + 4 by omega, show (((6 + d.toNat : Nat) : Int)).toNat - (d.toNat + 4) = 2 by omega]
    rw [Nat.add_comm d.toNat 4, ← List.drop_drop]
    rfl
  have e3 : L (s.extract 0 (lenN s).toNat) = 165 :: 90 :: c :: d :: (r.take d.toNat ++ (r.drop d.toNat).take 2) := by
    rw [L_ext, hl, hn, show (((6 + d.toNat : Nat) : Int)).toNat - 0 = (d.toNat + 2) + 4 by omega, ← List.take_add]
    rfl
  have e4 : L (prt (kOf s) (pOf s)) = 165 :: 90 :: c :: d :: (r.take d.toNat ++ L (sumT (bodyT (kOf s) (pOf s)))) := by
    unfold prt
    rw [L_app, L_app, hk, body_bytes c d _ hps, hp]
    rfl
  rw [e1, beq_T, e2]
  unfold okB
  rw [beq_L, e3, e4, Bool.eq_iff_iff]
  simp only [beq_iff_eq, List.cons.injEq, true_and, List.append_cancel_left_eq]
theorem good_right {s : ByteArray} (h1 : badB s = false) (h2 : shortB s = false) : rightB (kOf s) (pOf s) = true := by
  obtain ⟨c, d, r, hl, hk, hd, hd64, hn, hr⟩ := frame_list h1 h2
  have hp := pOf_list hl hn
  have hps : (pOf s).size = d.toNat := by
    rw [← L_len, hp, List.length_take]
    omega
  have := byte_lt c
  unfold rightB
  rw [hk, hps, decide_eq_true (by omega), decide_eq_true (by omega), decide_eq_true (by omega)]
  rfl
/-- What Read tells. -/
def rdV (s : ByteArray) : Value := .tuple #[.agg #[I (rdK s), S (rdP s)], I (rdN s), I (rdE s)]
theorem rdV_err {s : ByteArray} {e : Int} (h : rdE s = e) (h0 : e ≠ 0) : rdV s = .tuple #[.agg #[I 0, S ⟨#[]⟩], I 0, I e] := by
  subst h
  unfold rdV rdK rdP rdN
  rw [show (rdE s == 0) = false from beq_eq_false_iff_ne.2 h0]
  rfl
theorem rdV_ok {s : ByteArray} (h : rdE s = 0) : rdV s = .tuple #[.agg #[I (kOf s), S (pOf s)], I (lenN s), I 0] := by
  unfold rdV rdK rdP rdN
  rw [h]
  rfl
def oV (v : Value) : Option (SV × Mem) := some (.v v, M0)
def rErr (e : Int) : Option (SV × Mem) := oV (.tuple #[.agg #[I 0, S ⟨#[]⟩], I 0, I e])
def w2 (s : ByteArray) : Int := wI (lenN s - 2)
def rdTree (s : ByteArray) : Option (SV × Mem) :=
  bif !!badB s then rErr 3 else bif decide ((s.size : Int) < 4) then rErr 5 else bif decide (3 < (s.size : Int)) then (bif decide ((s.size : Int) < lenN s) then rErr 5 else bif decide (3 < (s.size : Int)) then
    (bif decide ((0 : Int) ≤ 2) && (decide (2 ≤ w2 s) && decide (w2 s ≤ (s.size : Int))) then (bif szS (s.extract (Int.toNat 2) (w2 s).toNat) then (bif decide (0 ≤ w2 s) && (decide (w2 s ≤ lenN s) && decide (lenN s ≤ (s.size : Int))) then
      (bif !((sumT (s.extract (Int.toNat 2) (w2 s).toNat)).toList == (s.extract (w2 s).toNat (lenN s).toNat).toList) then rErr 4 else
        (bif decide ((0 : Int) ≤ 2) && decide (2 < (s.size : Int)) then (bif decide ((0 : Int) ≤ 4) && (decide (4 ≤ w2 s) && decide (w2 s ≤ (s.size : Int))) then (bif Nat.ble (s.extract (Int.toNat 4) (w2 s).toNat).size 281474976710656 then
          oV (.tuple #[.agg #[I (wI (strAt s 2)), S (s.extract (Int.toNat 4) (w2 s).toNat)], I (lenN s), I 0]) else none) else none) else none))
      else none) else none) else none) else none) else none
theorem w2_eq (s : ByteArray) : w2 s = lenN s - 2 := by
  have := lenN_range s
  unfold w2
  rw [wI_id (by omega)]
theorem k_eq (s : ByteArray) : wI (strAt s 2) = kOf s := by
  have := strAt_range s 2
  rw [show ((2 : Nat) : Int) = 2 from rfl] at this
  unfold kOf
  rw [wI_id (by omega)]
theorem rdTree_eq (s : ByteArray) : rdTree s = oV (rdV s) := by
  unfold rdTree
  rcases rdE_cases s with ⟨h1, h2⟩ | ⟨h1, h2, h3⟩ | ⟨h1, h2, h3, h4⟩ | ⟨h1, h2, h3, h4⟩
  · rw [rdV_err h1 (by decide), h2]; rfl
  · rw [rdV_err h1 (by decide), h2]
    unfold shortB at h3
    by_cases h5 : (s.size : Int) < 4
    · rw [decide_eq_true h5]; rfl
    · rw [decide_eq_false h5, decide_eq_true (show 3 < (s.size : Int) by omega)]
      rw [decide_eq_false h5, Bool.false_or] at h3
      rw [h3]; rfl
  all_goals
    obtain ⟨g1, g2, g3⟩ := not_short h3
    have hr := lenN_range s
    have he := ok_eq h2 h3
    have hx : (s.extract 4 (lenN s - 2).toNat).size ≤ 281474976710656 := by rw [ByteArray.size_extract]; omega
    have hy : (s.extract 2 (lenN s - 2).toNat).size ≤ 9223372036854775807 := by rw [ByteArray.size_extract]; omega
    rw [w2_eq, show Int.toNat 2 = 2 from rfl, show Int.toNat 4 = 4 from rfl, he, h4, k_eq, szS_of hy, Nat.ble_eq_true_of_le hx, h2, decide_eq_false (show ¬ (s.size : Int) < 4 by omega), decide_eq_true (show 3 < (s.size : Int) by omega), decide_eq_false (show ¬ (s.size : Int) < lenN s by omega),
      decide_eq_true (show (2 : Int) ≤ lenN s - 2 by omega), decide_eq_true (show lenN s - 2 ≤ (s.size : Int) by omega), decide_eq_true (show 0 ≤ lenN s - 2 by omega), decide_eq_true (show lenN s - 2 ≤ lenN s by omega), decide_eq_true (show lenN s ≤ (s.size : Int) by omega), decide_eq_true (show 2 < (s.size : Int) by omega), decide_eq_true (show (4 : Int) ≤ lenN s - 2 by omega)]
  · rw [rdV_ok h1]; rfl
  · rw [rdV_err h1 (by decide)]; rfl

def wN (s : ByteArray) : Int := wI (6 + wI (strAt s 3))
def wP (s : ByteArray) : Int := wI (wN s - 2)
def tT (s : ByteArray) : Option (SV × Mem) :=
  bif decide ((s.size : Int) < 4) then rErr 5 else bif decide ((0 : Int) ≤ 3) && decide (3 < (s.size : Int)) then (bif decide ((s.size : Int) < wN s) then rErr 5 else
    bif decide ((0 : Int) ≤ 3) && decide (3 < (s.size : Int)) then (bif decide ((0 : Int) ≤ 2) && decide (2 < (s.size : Int)) then (bif decide ((0 : Int) ≤ 4) && (decide (4 ≤ wP s) && decide (wP s ≤ (s.size : Int))) then
      (bif decide ((0 : Int) ≤ 0) && (decide (0 ≤ wN s) && decide (wN s ≤ (s.size : Int))) then
        (bif !((printB (wI (strAt s 2)) (s.extract (Int.toNat 4) (wP s).toNat)).toList == (s.extract (Int.toNat 0) (wN s).toNat).toList) then rErr 4 else
          oV (.tuple #[.agg #[I (wI (strAt s 2)), S (s.extract (Int.toNat 4) (wP s).toNat)], I (wN s), I 0])) else none) else none) else none) else none) else none
def tX (s : ByteArray) : Option (SV × Mem) :=
  bif decide ((s.size : Int) > 3) then (bif decide ((0 : Int) ≤ 3) && decide (3 < (s.size : Int)) then (bif decide (strAt s 3 > 64) then rErr 3 else tT s) else none) else tT s
def tY (s : ByteArray) : Option (SV × Mem) :=
  bif decide ((s.size : Int) > 1) then (bif decide ((0 : Int) ≤ 1) && decide (1 < (s.size : Int)) then (bif strAt s 1 != 90 then rErr 3 else tX s) else none) else tX s
def tZ (s : ByteArray) : Option (SV × Mem) :=
  bif decide ((s.size : Int) > 0) then (bif decide ((0 : Int) ≤ 0) && decide (0 < (s.size : Int)) then (bif strAt s 0 != 165 then rErr 3 else tY s) else none) else tY s
theorem wN_eq (s : ByteArray) : wN s = lenN s := by
  have := strAt_range s 3
  rw [show ((3 : Nat) : Int) = 3 from rfl] at this
  unfold wN lenN
  rw [wI_id (n := strAt s 3) (by omega), wI_id (by omega)]
theorem tT_eq {s : ByteArray} (h2 : badB s = false) : tT s = oV (rdV s) := by
  have hr := lenN_range s
  have hw : wP s = lenN s - 2 := by unfold wP; rw [wN_eq, wI_id (by omega)]
  unfold tT
  rw [wN_eq, hw, k_eq, show Int.toNat 4 = 4 from rfl, show Int.toNat 0 = 0 from rfl]
  rcases rdE_cases s with ⟨h1, h2'⟩ | ⟨h1, _, h3⟩ | ⟨h1, _, h3, h4⟩ | ⟨h1, _, h3, h4⟩
  · rw [h2] at h2'; cases h2'
  · rw [rdV_err h1 (by decide)]
    unfold shortB at h3
    by_cases h5 : (s.size : Int) < 4
    · rw [decide_eq_true h5]; rfl
    · rw [decide_eq_false h5, decide_eq_true (show 3 < (s.size : Int) by omega)]
      rw [decide_eq_false h5, Bool.false_or] at h3
      rw [h3]; rfl
  all_goals
    obtain ⟨g1, g2, g3⟩ := not_short h3
    have hg := good_right h2 h3
    have he : ((printB (kOf s) (s.extract 4 (lenN s - 2).toNat)).toList == (s.extract 0 (lenN s).toNat).toList) = okB s := by
      rw [beq_TS]
      unfold printB okB
      have : rightB (kOf s) (s.extract 4 (lenN s - 2).toNat) = true := hg
      rw [this]
      rfl
    rw [he, h4, decide_eq_false (show ¬ (s.size : Int) < 4 by omega), decide_eq_true (show 3 < (s.size : Int) by omega), decide_eq_false (show ¬ (s.size : Int) < lenN s by omega),
      decide_eq_true (show (2 : Int) < (s.size : Int) by omega), decide_eq_true (show (4 : Int) ≤ lenN s - 2 by omega), decide_eq_true (show lenN s - 2 ≤ (s.size : Int) by omega), decide_eq_true (show 0 ≤ lenN s by omega), decide_eq_true (show lenN s ≤ (s.size : Int) by omega)]
  · rw [rdV_ok h1]; rfl
  · rw [rdV_err h1 (by decide)]; rfl
theorem tZ_eq (s : ByteArray) : tZ s = oV (rdV s) := by
  have hb : ∀ {x : Bool}, badB s = x → x = true → rErr 3 = oV (rdV s) := by
    rintro x h rfl
    have : rdE s = 3 := by unfold rdE; rw [h]; rfl
    rw [rdV_err this (by decide)]
    rfl
  have hX : (decide ((s.size : Int) > 0) && strAt s 0 != 165) = false → (decide ((s.size : Int) > 1) && strAt s 1 != 90) = false → tX s = oV (rdV s) := by
    intro e0 e1
    have e2 : badB s = (decide ((s.size : Int) > 3) && decide (strAt s 3 > 64)) := by unfold badB; rw [e0, e1]; rfl
    unfold tX
    by_cases h3 : (s.size : Int) > 3
    · rw [decide_eq_true h3] at e2 ⊢
      by_cases h64 : strAt s 3 > 64
      · rw [decide_eq_true h64] at e2 ⊢
        exact hb e2 rfl
      · rw [decide_eq_false h64] at e2 ⊢
        exact tT_eq e2
    · rw [decide_eq_false h3] at e2 ⊢
      exact tT_eq e2
  have hY : (decide ((s.size : Int) > 0) && strAt s 0 != 165) = false → tY s = oV (rdV s) := by
    intro e0
    unfold tY
    by_cases h1 : (s.size : Int) > 1
    · have e3 : decide ((s.size : Int) > 1) = true := decide_eq_true h1
      rw [e3]
      cases h : strAt s 1 != 90 with
      | true => exact hb (x := badB s) rfl (by unfold badB; rw [e0, e3, h]; rfl)
      | false => exact hX e0 (by rw [e3, h]; rfl)
    · have e3 : decide ((s.size : Int) > 1) = false := decide_eq_false h1
      rw [e3]
      exact hX e0 (by rw [e3]; rfl)
  unfold tZ
  by_cases h1 : (s.size : Int) > 0
  · have e3 : decide ((s.size : Int) > 0) = true := decide_eq_true h1
    rw [e3]
    cases h : strAt s 0 != 165 with
    | true => exact hb (x := badB s) rfl (by unfold badB; rw [e3, h]; rfl)
    | false => exact hY (by rw [e3, h]; rfl)
  · have e3 : decide ((s.size : Int) > 0) = false := decide_eq_false h1
    rw [e3]
    exact hY (by rw [e3]; rfl)
end Go.Proofs.Yteapngnpenmfaaa

namespace Go.Proofs.Yteapngnpenmfaaa
open Go Go.Proofs Go.Sx
set_option linter.unusedVariables false
set_option maxRecDepth 20000 in
theorem runRead (s : ByteArray) : runG ΓGa L0 Try.prog Try.f51 [.v (S s)] M0 = rdTree s := by kernel_rfl
def gRead (vs : List Value) : Option (Bool × Value) :=
  match vs with
  | [.string s] => some (true, rdV s)
  | _ => none
theorem gRead_ok : ∀ vs r, gRead vs = some (true, r) → ∀ m, CallOk Try.prog 51 (vs.map .v) m (.v r) m := by
  intro vs r h
  unfold gRead at h
  split at h
  · rename_i s
    obtain ⟨h1, rfl⟩ := some_t h
    refine runV (vs := [S s]) (Λ := L0) (m' := M0) OkGa Try.func51 rfl (fun z _ _ => noLoops (by kernel_rfl) z) ?_
    exact (runRead s).trans (rdTree_eq s)
  · cases h
noncomputable def ΓH1 : Orc := addVal 51 gRead ΓGa
theorem OkH1 : ΓH1.Ok Try.prog := addVal_ok OkGa gRead_ok
noncomputable def ΓH2 : Orc := ΓH1
theorem OkH2 : ΓH2.Ok Try.prog := OkH1
noncomputable def ΓHa : Orc := ΓH2
theorem OkHa : ΓHa.Ok Try.prog := OkH2
end Go.Proofs.Yteapngnpenmfaaa

namespace Go.Proofs.Yteapngnpenmfaaa
open Go Go.Proofs Go.Sx
set_option linter.unusedVariables false
/-- A stream: the bytes that wait, and its counter. -/
def MS (w : ByteArray) (a b : Int) : Mem := ⟨[[.v (S w), .ptr 1 0], [.v (I a), .v (I b)]], [true, true], []⟩
abbrev nilV : Value := .pointer none
noncomputable def ΓJ1 : Orc := ΓHa
theorem OkJ1 : ΓJ1.Ok Try.prog := OkHa
noncomputable def ΓJ2 : Orc := ΓJ1
theorem OkJ2 : ΓJ2.Ok Try.prog := OkJ1
set_option maxRecDepth 20000 in
theorem runDrop0 (r : ByteArray) (n : Int) (w : ByteArray) (a b : Int) : runG ΓJ2 L0 Try.prog Try.f52 [.ptr 0 0, .v (S r), .v (I n)] (MS w a b) = bif decide (0 ≤ n) && (decide (n ≤ (r.size : Int)) && decide ((r.size : Int) ≤ (r.size : Int))) then some (.v (S (r.extract n.toNat r.size)), MS w a (addN' a b n)) else none := by kernel_rfl
def gDrop (xs : List SV) (m : Mem) : Option (Bool × SV × Mem) :=
  match xs, m with
  | [.ptr 0 0, .v (.string r), .v (.int .i64 n)], ⟨[[.v (.string w), .ptr 1 0], [.v (.int .i64 a), .v (.int .i64 b)]], [true, true], []⟩ => some (decide (0 ≤ n) && (decide (n ≤ (r.size : Int)) && decide ((r.size : Int) ≤ (r.size : Int))), .v (S (r.extract n.toNat r.size)), MS w a (addN' a b n))
  | _, _ => none
theorem gDrop_ok : ∀ xs m r m', gDrop xs m = some (true, r, m') → CallOk Try.prog 52 xs m r m' := by
  intro xs m r m' h
  unfold gDrop at h
  split at h
  · rename_i r n w a b
    obtain ⟨h1, rfl, rfl⟩ := some_t2 h
    refine runOk (Λ := L0) OkJ2 Try.func52 rfl (fun z _ _ => noLoops (by kernel_rfl) z) ?_
    exact (runDrop0 r n w a b).trans (by rw [h1]; rfl)
  · cases h
noncomputable def ΓJ3 : Orc := addCl 52 gDrop ΓJ2
theorem OkJ3 : ΓJ3.Ok Try.prog := addCl_ok OkJ2 gDrop_ok
set_option maxRecDepth 20000 in
theorem runNewS0  : runG ΓJ3 L0 Try.prog Try.f24 [] M0 = some (.ptr 0 0, MS ⟨#[]⟩ 1000000 0) := by kernel_rfl
def gNewS (xs : List SV) (m : Mem) : Option (Bool × SV × Mem) :=
  match xs, m with
  | [], ⟨[], [], []⟩ => some (true, .ptr 0 0, MS ⟨#[]⟩ 1000000 0)
  | _, _ => none
theorem gNewS_ok : ∀ xs m r m', gNewS xs m = some (true, r, m') → CallOk Try.prog 24 xs m r m' := by
  intro xs m r m' h
  unfold gNewS at h
  split at h
  · obtain ⟨h1, rfl, rfl⟩ := some_t2 h
    refine runOk (Λ := L0) OkJ3 Try.func24 rfl (fun z _ _ => noLoops (by kernel_rfl) z) ?_
    exact (runNewS0 ).trans (rfl)
  · cases h
noncomputable def ΓJ4 : Orc := addCl 24 gNewS ΓJ3
theorem OkJ4 : ΓJ4.Ok Try.prog := addCl_ok OkJ3 gNewS_ok
noncomputable def ΓJa : Orc := ΓJ4
theorem OkJa : ΓJa.Ok Try.prog := OkJ4
end Go.Proofs.Yteapngnpenmfaaa

namespace Go.Proofs.Yteapngnpenmfaaa
open Go Go.Proofs Go.Sx
set_option linter.unusedVariables false
/-! A stream's loop. -/
def ksF : List CK := [.num .i64, .str]
def frT (t : TypeId) (Q : List (List Dat)) : RowS := .live ⟨t, ksF, Q, true, false⟩
def MF (t : TypeId) (w : ByteArray) (a v : Int) (Q : List (List Dat)) : Mem := ⟨[[.v (S w), .ptr 1 0], [.v (I a), .v (I v)]], [true, true], [frT t Q]⟩
def fr (s : ByteArray) : List Dat := [.n (rdK s), .s (rdP s)]
/-- Room for one more frame. -/
def room (Q : List (List Dat)) (b : Nat) : Bool := decide ((Q.length + 1) * b ≤ 140737488355328 ∧ Q.length + 1 ≤ 9223372036854775807)
def kFeed : List Bool := maskOf 53 [0, 5, 6]
noncomputable def bodyFeed : Code := loopAt (Try.f25.body.getD .skip) 0
theorem loopsFeed : loopsOf (Try.f25.body.getD .skip) = [bodyFeed] := by kernel_rfl
theorem loopsFeed0 : loopsOf bodyFeed = [] := by kernel_rfl
def EFeed (e : Ex) (st : St) : Option (Ex × St) := some (e, cutC 2 0 kFeed st)
def HFeed (w : ByteArray) (a v : Int) (Q : List (List Dat)) (r : ByteArray) : St := mk kFeed [.ptr 0 0, .row 0, .v (S r)] (MF 38 w a v Q)
theorem stepFeed (k : Nat) (w : ByteArray) (a v : Int) (Q : List (List Dat)) (r : ByteArray) : evLoop ΓJa Try.prog L0 (cutC 2 0 kFeed) bodyFeed (k + 1) (HFeed w a v Q r) EFeed =
    bif !(r.toList == (⟨#[]⟩ : ByteArray).toList) then (bif rdE r == 5 then some (.exit 0, HFeed w a v Q r) else bif rdE r == 0 then
      (bif room Q 24 then (bif decide (0 ≤ rdN r) && (decide (rdN r ≤ (r.size : Int)) && decide ((r.size : Int) ≤ (r.size : Int))) then evLoop ΓJa Try.prog L0 (cutC 2 0 kFeed) bodyFeed k (HFeed w a v (Q ++ [fr r]) (r.extract (rdN r).toNat r.size)) EFeed else none) else none) else
      (bif decide ((0 : Int) ≤ 1) && (decide (1 ≤ (r.size : Int)) && decide ((r.size : Int) ≤ (r.size : Int))) then evLoop ΓJa Try.prog L0 (cutC 2 0 kFeed) bodyFeed k (HFeed w a (addN' a v 1) Q (r.extract (Int.toNat 1) r.size)) EFeed else none))
    else some (.exit 0, HFeed w a v Q r) := by kernel_rfl

/-! What a stream tells of some bytes: the frames, what waits, how many are dropped. -/
def scan : Nat → ByteArray → List (List Dat) × ByteArray × Nat
  | 0, s => ([], s, 0)
  | n + 1, s => if rdE s = 5 then ([], s, 0) else if rdE s = 0 then (fr s :: (scan n (s.extract (rdN s).toNat s.size)).1, (scan n (s.extract (rdN s).toNat s.size)).2) else
    ((scan n (s.extract 1 s.size)).1, (scan n (s.extract 1 s.size)).2.1, (scan n (s.extract 1 s.size)).2.2 + 1)
theorem ext_size {s : ByteArray} {n : Nat} (h : n ≤ s.size) : (s.extract n s.size).size = s.size - n := by
  rw [ByteArray.size_extract]; omega
theorem scan_fuel : ∀ (n m : Nat) (s : ByteArray), s.size < n → s.size < m → scan n s = scan m s
  | 0, _, _, h, _ => by omega
  | _ + 1, 0, _, _, h => by omega
  | n + 1, m + 1, s, h1, h2 => by
    unfold scan
    by_cases h5 : rdE s = 5
    · rw [if_pos h5, if_pos h5]
    rw [if_neg h5, if_neg h5]
    by_cases h0 : rdE s = 0
    · obtain ⟨g1, g2, _⟩ := rd_ok h0
      rw [if_pos h0, if_pos h0, scan_fuel n m _ (by rw [ext_size g1]; omega) (by rw [ext_size g1]; omega)]
    · have := rd_some h5
      rw [if_neg h0, if_neg h0, scan_fuel n m _ (by rw [ext_size (by omega)]; omega) (by rw [ext_size (by omega)]; omega)]
def scanA (s : ByteArray) : List (List Dat) × ByteArray × Nat := scan (s.size + 1) s
theorem scanA_eq (s : ByteArray) : scanA s = if rdE s = 5 then ([], s, 0) else if rdE s = 0 then (fr s :: (scanA (s.extract (rdN s).toNat s.size)).1, (scanA (s.extract (rdN s).toNat s.size)).2) else
    ((scanA (s.extract 1 s.size)).1, (scanA (s.extract 1 s.size)).2.1, (scanA (s.extract 1 s.size)).2.2 + 1) := by
  unfold scanA
  rw [scan]
  by_cases h5 : rdE s = 5
  · rw [if_pos h5, if_pos h5]
  rw [if_neg h5, if_neg h5]
  by_cases h0 : rdE s = 0
  · obtain ⟨g1, g2, _⟩ := rd_ok h0
    rw [if_pos h0, if_pos h0, scan_fuel s.size ((s.extract (rdN s).toNat s.size).size + 1) _ (by rw [ext_size g1]; omega) (by omega)]
  · have := rd_some h5
    rw [if_neg h0, if_neg h0, scan_fuel s.size ((s.extract 1 s.size).size + 1) _ (by rw [ext_size (by omega)]; omega) (by omega)]
def sF (s : ByteArray) : List (List Dat) := (scanA s).1
def sR (s : ByteArray) : ByteArray := (scanA s).2.1
def sD (s : ByteArray) : Nat := (scanA s).2.2
theorem scan5 {s : ByteArray} (h : rdE s = 5) : sF s = [] ∧ sR s = s ∧ sD s = 0 := by
  unfold sF sR sD
  rw [scanA_eq, if_pos h]
  exact ⟨rfl, rfl, rfl⟩
theorem scan0 {s : ByteArray} (h : rdE s = 0) : sF s = fr s :: sF (s.extract (rdN s).toNat s.size) ∧ sR s = sR (s.extract (rdN s).toNat s.size) ∧ sD s = sD (s.extract (rdN s).toNat s.size) := by
  unfold sF sR sD
  rw [scanA_eq, if_neg (by omega), if_pos h]
  exact ⟨rfl, rfl, rfl⟩
theorem scan1 {s : ByteArray} (h5 : rdE s ≠ 5) (h : rdE s ≠ 0) : sF s = sF (s.extract 1 s.size) ∧ sR s = sR (s.extract 1 s.size) ∧ sD s = sD (s.extract 1 s.size) + 1 := by
  unfold sF sR sD
  rw [scanA_eq, if_neg h5, if_neg h]
  exact ⟨rfl, rfl, rfl⟩
/-- By what Read tells, again and again. -/
theorem scan_ind {Q : ByteArray → Prop} (h5 : ∀ s, rdE s = 5 → Q s) (h0 : ∀ s, rdE s = 0 → Q (s.extract (rdN s).toNat s.size) → Q s) (h1 : ∀ s, rdE s ≠ 5 → rdE s ≠ 0 → Q (s.extract 1 s.size) → Q s) : ∀ s, Q s := by
  have : ∀ (n : Nat) (s : ByteArray), s.size < n → Q s := by
    intro n
    induction n with
    | zero => intro s h; omega
    | succ n ih =>
      intro s h
      by_cases e5 : rdE s = 5
      · exact h5 s e5
      by_cases e0 : rdE s = 0
      · obtain ⟨g1, g2, _⟩ := rd_ok e0
        exact h0 s e0 (ih _ (by rw [ext_size g1]; omega))
      · have := rd_some e5
        exact h1 s e5 e0 (ih _ (by rw [ext_size (by omega)]; omega))
  exact fun s => this (s.size + 1) s (by omega)
theorem sR_short : ∀ s, rdE (sR s) = 5 := by
  refine scan_ind (fun s h => ?_) (fun s h ih => ?_) (fun s h h' ih => ?_)
  · rw [(scan5 h).2.1]; exact h
  · rw [(scan0 h).2.1]; exact ih
  · rw [(scan1 h h').2.1]; exact ih
theorem sR_size (s : ByteArray) : (sR s).size < 70 := rd_short (sR_short s)
theorem sR_le : ∀ s, (sR s).size ≤ s.size := by
  refine scan_ind (fun s h => ?_) (fun s h ih => ?_) (fun s h h' ih => ?_)
  · rw [(scan5 h).2.1]; exact Nat.le_refl _
  · rw [(scan0 h).2.1]
    have := ext_size (rd_ok h).1
    omega
  · rw [(scan1 h h').2.1]
    have := ext_size (s := s) (n := 1) (rd_some h)
    omega
theorem sF_len : ∀ s, (sF s).length ≤ s.size := by
  refine scan_ind (fun s h => ?_) (fun s h ih => ?_) (fun s h h' ih => ?_)
  · rw [(scan5 h).1]; exact Nat.zero_le _
  · rw [(scan0 h).1, List.length_cons]
    obtain ⟨g1, g2, _⟩ := rd_ok h
    have := ext_size g1
    omega
  · rw [(scan1 h h').1]
    have := ext_size (s := s) (n := 1) (rd_some h)
    omega
/-- More behind it: what was told stays told. -/
theorem scan_app (t : ByteArray) : ∀ s, sF (s ++ t) = sF s ++ sF (sR s ++ t) ∧ sR (s ++ t) = sR (sR s ++ t) ∧ sD (s ++ t) = sD s + sD (sR s ++ t) := by
  refine scan_ind (fun s h => ?_) (fun s h ih => ?_) (fun s h h' ih => ?_)
  · obtain ⟨e1, e2, e3⟩ := scan5 h
    rw [e1, e2, e3]
    exact ⟨rfl, rfl, (Nat.zero_add _).symm⟩
  · obtain ⟨g1, g2, g3, g4⟩ := rd_app (t := t) (s := s) (by omega)
    obtain ⟨e1, e2, e3⟩ := scan0 h
    obtain ⟨f1, f2, f3⟩ := scan0 (s := s ++ t) (by rw [g1]; exact h)
    rw [g4, ext_app (rd_ok h).1] at f1 f2 f3
    rw [f1, f2, f3, e1, e2, e3, ih.1, ih.2.1, ih.2.2]
    refine ⟨?_, rfl, rfl⟩
    unfold fr
    rw [g2, g3]
    rfl
  · obtain ⟨g1, g2, g3, g4⟩ := rd_app (t := t) (s := s) h
    obtain ⟨e1, e2, e3⟩ := scan1 h h'
    obtain ⟨f1, f2, f3⟩ := scan1 (s := s ++ t) (by rw [g1]; exact h) (by rw [g1]; exact h')
    rw [ext_app (rd_some h)] at f1 f2 f3
    rw [f1, f2, f3, e1, e2, e3, ih.1, ih.2.1, ih.2.2]
    refine ⟨rfl, rfl, by omega⟩

/-! The counter. -/
def sat (v d : Nat) : Nat := min (v + d) 1000000
theorem add_sat {v n : Nat} (h : v ≤ 1000000) : addN' 1000000 (v : Int) (n : Int) = ((sat v n : Nat) : Int) := by
  have e : clampI (n : Int) (1000000 - (v : Int)) = ((min n (1000000 - v) : Nat) : Int) := by
    unfold clampI
    repeat' split
    all_goals omega
  unfold addN' sat
  rw [wI_id (n := 1000000 - (v : Int)) (by omega), e, wI_id (by omega)]
  omega
theorem sat_le (v d : Nat) : sat v d ≤ 1000000 := Nat.min_le_right _ _
theorem sat_add (v d e : Nat) : sat (sat v d) e = sat v (d + e) := by unfold sat; omega
theorem sat_zero {v : Nat} (h : v ≤ 1000000) : sat v 0 = v := by unfold sat; omega

theorem room_of {Q : List (List Dat)} {b : Nat} (h : Q.length < 1099511627776) (hb : b ≤ 100) : room Q b = true := by
  unfold room
  have : (Q.length + 1) * b ≤ 1099511627776 * 100 := Nat.mul_le_mul (by omega) hb
  exact decide_eq_true (by omega)
theorem beq_nil (r : ByteArray) : (!(r.toList == (⟨#[]⟩ : ByteArray).toList)) = decide (0 < r.size) := by
  rw [beq_TS]
  by_cases h : r = ⟨#[]⟩
  · subst h; rfl
  · have h0 : 0 < r.size := by
      apply Classical.byContradiction
      intro hn
      refine h (L_inj.1 ?_)
      have : (L r).length = 0 := by rw [L_len]; omega
      exact List.eq_nil_of_length_eq_zero this
    rw [decide_eq_true h0, Bool.eq_false_iff.2 (fun hc => h ((beq_S _ _).1 hc))]
    rfl
theorem feedLoop {α : Type} (E : Nat → Int → List (List Dat) → ByteArray → Option α) (F : Int → List (List Dat) → ByteArray → α)
    (hE : ∀ k v Q r, E (k + 1) v Q r = bif !(r.toList == (⟨#[]⟩ : ByteArray).toList) then (bif rdE r == 5 then some (F v Q r) else bif rdE r == 0 then
      (bif room Q 24 then (bif decide (0 ≤ rdN r) && (decide (rdN r ≤ (r.size : Int)) && decide ((r.size : Int) ≤ (r.size : Int))) then E k v (Q ++ [fr r]) (r.extract (rdN r).toNat r.size) else none) else none) else
      (bif decide ((0 : Int) ≤ 1) && (decide (1 ≤ (r.size : Int)) && decide ((r.size : Int) ≤ (r.size : Int))) then E k (addN' 1000000 v 1) Q (r.extract (Int.toNat 1) r.size) else none)) else some (F v Q r)) :
    ∀ (r : ByteArray) (k v : Nat) (Q : List (List Dat)), r.size < k → v ≤ 1000000 → Q.length + r.size < 1099511627776 → E k (v : Int) Q r = some (F ((sat v (sD r) : Nat) : Int) (Q ++ sF r) (sR r)) := by
  refine scan_ind (fun s h k v Q hk hv hq => ?_) (fun s h ih k v Q hk hv hq => ?_) (fun s h h' ih k v Q hk hv hq => ?_)
  · obtain ⟨e1, e2, e3⟩ := scan5 h
    cases k with
    | zero => omega
    | succ k =>
      rw [hE, h, e1, e2, e3, sat_zero hv, List.append_nil]
      cases (!(s.toList == (⟨#[]⟩ : ByteArray).toList)) <;> rfl
  · obtain ⟨g1, g2, g3, _⟩ := rd_ok h
    obtain ⟨e1, e2, e3⟩ := scan0 h
    have hsz := ext_size g1
    cases k with
    | zero => omega
    | succ k =>
      rw [hE, beq_nil, decide_eq_true (show 0 < s.size by omega), show (rdE s == 5) = false from by rw [h]; rfl, show (rdE s == 0) = true from by rw [h]; rfl, room_of (by omega) (by omega), decide_eq_true (show 0 ≤ rdN s by omega), decide_eq_true (show rdN s ≤ (s.size : Int) by omega), decide_eq_true (Int.le_refl (s.size : Int))]
      simp only [cond_true, cond_false, Bool.and_self]
      rw [ih k v (Q ++ [fr s]) (by omega) hv (by simp only [List.length_append, List.length_cons, List.length_nil]; omega), e1, e2, e3, List.append_assoc]
      rfl
  · have hp := rd_some h
    obtain ⟨e1, e2, e3⟩ := scan1 h h'
    have hsz := ext_size (s := s) (n := 1) hp
    cases k with
    | zero => omega
    | succ k =>
      rw [hE, beq_nil, decide_eq_true hp, show (rdE s == 5) = false from beq_eq_false_iff_ne.2 h, show (rdE s == 0) = false from beq_eq_false_iff_ne.2 h', decide_eq_true (show (1 : Int) ≤ (s.size : Int) by omega), decide_eq_true (Int.le_refl (s.size : Int)), decide_eq_true (show (0 : Int) ≤ 1 by omega)]
      simp only [cond_true, cond_false, Bool.and_self]
      rw [show addN' 1000000 (v : Int) 1 = ((sat v 1 : Nat) : Int) from add_sat (n := 1) hv, show Int.toNat 1 = 1 from rfl, ih k (sat v 1) Q (by omega) (sat_le _ _) (by omega), e1, e2, e3, sat_add, Nat.add_comm 1]
end Go.Proofs.Yteapngnpenmfaaa

namespace Go.Proofs.Yteapngnpenmfaaa
open Go Go.Proofs Go.Sx
set_option linter.unusedVariables false
def GFeed (vals : List SV) (m : Mem) : Option (Bool × Ex × St) :=
  match vals, m with
  | [.ptr 0 0, .row 0, .v (.string r)], ⟨[[.v (.string w), .ptr 1 0], [.v (.int .i64 a), .v (.int .i64 v)]], [true, true], [.live ⟨38, [.num .i64, .str], Q, true, false⟩]⟩ =>
    some (a == 1000000 && (inN 1000001 v && Nat.ble (Q.length + r.size) 1099511627775), .exit 0, HFeed w a ((sat v.toNat (sD r) : Nat) : Int) (Q ++ sF r) (sR r))
  | _, _ => none
noncomputable def ΛFeed : LoopOrc := fun _ st => viaC 2 0 kFeed GFeed st
theorem loopOkFeed (z : Base) (h1 : z.L.length = 2) (h2 : z.U.length = 0) : LoopOk ΛFeed Try.prog z bodyFeed := by
  refine loop_okC (Λ := L0) (kx := fun _ => kFeed) OkJa mixed h1 h2 (fun b hb => by rw [loopsFeed0] at hb; cases hb) (G := GFeed) (fun _ => rfl) ?_
  intro vals m e st' h
  unfold GFeed at h
  split at h
  · rename_i r w a v Q
    obtain ⟨hg, rfl, rfl⟩ := some_t2 h
    simp only [Bool.and_eq_true, beq_iff_eq] at hg
    obtain ⟨rfl, hv, hq⟩ := hg
    obtain ⟨n, rfl, hn⟩ := inN_nat hv
    have hq := Nat.le_of_ble_eq_true hq
    exact ⟨r.size + 1, feedLoop (fun k v Q r => evLoop ΓJa Try.prog L0 (cutC 2 0 kFeed) bodyFeed k (HFeed w 1000000 v Q r) EFeed) (fun v Q r => (.exit 0, HFeed w 1000000 v Q r)) (fun k v Q r => stepFeed k w 1000000 v Q r) r (r.size + 1) n Q (by omega) (by omega) (by omega)⟩
  · cases h
def okFeed (w s : ByteArray) (a v : Int) : Bool := a == 1000000 && (inN 1000001 v && Nat.ble (w.size + s.size) 1099511627775)
set_option maxRecDepth 20000 in
theorem runFeed (w s : ByteArray) (a v : Int) : runG ΓJa ΛFeed Try.prog Try.f25 [.ptr 0 0, .v (S s)] (MS w a v) =
    bif Nat.ble (w.size + s.size) 9223372036854775807 then (bif a == 1000000 && (inN 1000001 v && Nat.ble (([] : List (List Dat)).length + (w ++ s).size) 1099511627775) then
      (bif decide (0 ≤ (if wI (((sR (w ++ s)).size : Int) - 1024) > 0 then wI (((sR (w ++ s)).size : Int) - 1024) else 0)) && (decide ((if wI (((sR (w ++ s)).size : Int) - 1024) > 0 then wI (((sR (w ++ s)).size : Int) - 1024) else 0) ≤ ((sR (w ++ s)).size : Int)) && decide (((sR (w ++ s)).size : Int) ≤ ((sR (w ++ s)).size : Int))) then
        (bif Nat.ble ((sR (w ++ s)).extract (if wI (((sR (w ++ s)).size : Int) - 1024) > 0 then wI (((sR (w ++ s)).size : Int) - 1024) else 0).toNat (sR (w ++ s)).size).size 281474976710656 then
          some (.row 0, MF 38 ((sR (w ++ s)).extract (if wI (((sR (w ++ s)).size : Int) - 1024) > 0 then wI (((sR (w ++ s)).size : Int) - 1024) else 0).toNat (sR (w ++ s)).size) a (addN' a ((sat v.toNat (sD (w ++ s)) : Nat) : Int) (if wI (((sR (w ++ s)).size : Int) - 1024) > 0 then wI (((sR (w ++ s)).size : Int) - 1024) else 0)) ([] ++ sF (w ++ s))) else none) else none) else none) else none := by kernel_rfl

theorem feed_is {w s : ByteArray} {v : Int} (hv : inN 1000001 v = true) (hs : Nat.ble (w.size + s.size) 1099511627775 = true) : runG ΓJa ΛFeed Try.prog Try.f25 [.ptr 0 0, .v (S s)] (MS w 1000000 v) =
    some (.row 0, MF 38 (sR (w ++ s)) 1000000 ((sat v.toNat (sD (w ++ s)) : Nat) : Int) (sF (w ++ s))) := by
  refine (runFeed w s 1000000 v).trans ?_
  have hs' := Nat.le_of_ble_eq_true hs
  have hsz : (w ++ s).size = w.size + s.size := ByteArray.size_append
  have hR := sR_size (w ++ s)
  have e0 : (if wI (((sR (w ++ s)).size : Int) - 1024) > 0 then wI (((sR (w ++ s)).size : Int) - 1024) else 0) = 0 := by
    rw [wI_id (by omega), if_neg (by omega)]
  obtain ⟨n, rfl, hn⟩ := inN_nat hv
  rw [e0, hsz, show ([] : List (List Dat)).length + (w.size + s.size) = w.size + s.size from Nat.zero_add _, hs, hv, Nat.ble_eq_true_of_le (show w.size + s.size ≤ 9223372036854775807 by omega), show ((0 : Int)).toNat = 0 from rfl, ext_all,
    Nat.ble_eq_true_of_le (show (sR (w ++ s)).size ≤ 281474976710656 by omega), decide_eq_true (show (0 : Int) ≤ ((sR (w ++ s)).size : Int) by omega), decide_eq_true (Int.le_refl ((sR (w ++ s)).size : Int)), show addN' 1000000 ((sat ((n : Int)).toNat (sD (w ++ s)) : Nat) : Int) 0 = ((sat ((n : Int)).toNat (sD (w ++ s)) : Nat) : Int) from (add_sat (n := 0) (sat_le _ _)).trans (by rw [sat_zero (sat_le _ _)])]
  rfl
def gFeed (xs : List SV) (m : Mem) : Option (Bool × SV × Mem) :=
  match xs, m with
  | [.ptr 0 0, .v (.string s)], ⟨[[.v (.string w), .ptr 1 0], [.v (.int .i64 a), .v (.int .i64 v)]], [true, true], []⟩ => some (okFeed w s a v, .row 0, MF 38 (sR (w ++ s)) 1000000 ((sat v.toNat (sD (w ++ s)) : Nat) : Int) (sF (w ++ s)))
  | [.v (.pointer none), .v (.string s)], ⟨[], [], []⟩ => some (true, .row 0, ⟨[], [], [frT 38 []]⟩)
  | _, _ => none
theorem stopFeed (z : Base) : LoopOk ΛFeed Try.prog z bodyFeed → ∀ b ∈ loopsOf (Try.f25.body.getD .skip), LoopOk ΛFeed Try.prog z b := fun h => oneLoop loopsFeed h
/-- A stream that is none: its loop isn't come to. -/
theorem runFeedNil' (s : ByteArray) : runG ΓJa L0 Try.prog Try.f25 [.v nilV, .v (S s)] M0 = some (.row 0, ⟨[], [], [frT 38 []]⟩) := by kernel_rfl
theorem nilFeed (s : ByteArray) : CallOk Try.prog 25 [.v nilV, .v (S s)] M0 (.row 0) ⟨[], [], [frT 38 []]⟩ :=
  runOk (c := Try.f25.body.getD .skip) (Λ := L0) OkJa Try.func25 rfl (fun z h1 h2 b hb st e st' h => by cases h) (runFeedNil' s)
theorem gFeed_ok : ∀ xs m r m', gFeed xs m = some (true, r, m') → CallOk Try.prog 25 xs m r m' := by
  intro xs m r m' h
  unfold gFeed at h
  split at h
  · rename_i s w a v
    obtain ⟨hg, rfl, rfl⟩ := some_t2 h
    unfold okFeed at hg
    simp only [Bool.and_eq_true, beq_iff_eq] at hg
    obtain ⟨rfl, hv, hs⟩ := hg
    refine runOk (c := Try.f25.body.getD .skip) (Λ := ΛFeed) OkJa Try.func25 rfl (fun z h1 h2 => stopFeed z (loopOkFeed z h1 h2)) (feed_is hv hs)
  · rename_i s
    obtain ⟨_, rfl, rfl⟩ := some_t2 h
    exact nilFeed s
  · cases h
noncomputable def ΓM1 : Orc := addCl 25 gFeed ΓJa
theorem OkM1 : ΓM1.Ok Try.prog := addCl_ok OkJa gFeed_ok

noncomputable def ΓM2 : Orc := ΓM1
theorem OkM2 : ΓM2.Ok Try.prog := OkM1
end Go.Proofs.Yteapngnpenmfaaa

