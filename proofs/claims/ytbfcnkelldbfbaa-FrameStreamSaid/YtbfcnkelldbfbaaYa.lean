/-
  What is known of this program: the atomics, names; contracts of count and crc.
-/
import Derived.Test.YtbfcnkelldbfbaaSx
import Derived.Test.YtbfcnkelldbfbaaProg
import Derived.Lib.Strings
import Derived.Lib.Walk
import Derived.Lib.BufferWrite
import Derived.Lib.UnsafeStr
import Derived.Laws.MakeOwn
import Derived.WalkKit
namespace Go.Proofs.Ytbfcnkelldbfbaa
open Go Go.Proofs Go.Sx Go.RowKit
theorem mixed : Try.prog.follows .mixedOrders = true := by kernel_rfl
theorem names : namesOk Try.prog = true := by kernel_rfl
def noC : FuncId → List SV → Mem → Option (Bool × SV × Mem) := fun _ _ _ => none
def noR : FuncId → List SV → Mem → Option (Bool × Value) := fun _ _ _ => none
def M0 : Mem := ⟨[], [], []⟩
def I (x : Int) : Value := .int .i64 x
def S (s : ByteArray) : Value := .string s
def Bo (b : Bool) : Value := .bool b
def U8 (x : Int) : Value := .int .u8 x
def U16 (x : Int) : Value := .int .u16 x
def U32 (x : Int) : Value := .int .u32 x
theorem xLoad64 : Ext Try.prog 42 (Extern.Atomic.loadT (.int .i64)) := ⟨fun args w => run_callFunc_extern Try.func42 (by kernel_rfl) (by kernel_rfl) (by kernel_rfl) (by kernel_rfl) args w⟩
def rLoad64 : FuncId → List SV → Mem → Option (Bool × Value) := loadE 42 .i64
theorem rLoad64_ok : ∀ f xs m r, rLoad64 f xs m = some (true, r) → CallOk Try.prog f xs m (.v r) m := loadE_ok xLoad64
theorem xCas64 : Ext Try.prog 44 (Extern.Atomic.casT (.int .i64)) := ⟨fun args w => run_callFunc_extern Try.func44 (by kernel_rfl) (by kernel_rfl) (by kernel_rfl) (by kernel_rfl) args w⟩
def cCas64 : FuncId → List SV → Mem → Option (Bool × SV × Mem) := casE 44 .i64
theorem cCas64_ok : ∀ f xs m r m', cCas64 f xs m = some (true, r, m') → CallOk Try.prog f xs m r m' := casE_ok xCas64
set_option maxHeartbeats 4000000 in
set_option maxRecDepth 100000 in
/-- A text's copy has the same bytes: a new row, which is frozen; nothing else turns. -/
theorem copied (s : ByteArray) (w : World) (hs : s.size ≤ 281474976710656) :
    Calls Try.prog 33 #[.string s] w fun e w' => e = .returned (.string s) ∧ Kp w w' := by
  have fr : ∀ {w w' : World}, Below w.heap.size w w' → Kp w w' := fun h => ⟨h, fun p hp => h.frozen hp⟩
  by_cases h0 : s.size = 0
  · obtain rfl : s = ⟨#[]⟩ := ByteArray.ext (Array.eq_empty_of_size_eq_zero h0)
    go_enter Try.func33, Try.ntmps33
    go_wp2
    go_ret
    exact ⟨rfl, fr (Below.refl _ _)⟩
  · obtain ⟨ti, hti, tz, ts, tb⟩ : ∃ i, Try.prog.info? 5 = some i ∧ i.zero = some (.int .u8 0) ∧ i.size = 1 ∧ i.bytes = 1 := ⟨_, rfl, rfl, rfl, rfl⟩
    have one : (Try.prog.info? 5).map (·.size) = some 1 := by rw [hti]; simp [ts]
    have cells1 : Try.prog.cellsOf 5 = 1 := by simp [Program.cellsOf, hti, ts]
    generalize hM : madeCells (Value.int .u8 0).cells (((s.size : Nat) : Int).toNat * ti.size) = M
    have sizeM : M.size = s.size := by rw [← hM, size_madeCells, ts]; simp
    have making : ∀ W : World, (Instr.makeSlice 38 (.int .i64 (s.size : Int)) (.int .i64 (s.size : Int))).run Try.prog W = .ok (.slice (some ⟨W.heap.size, 0, none⟩) s.size s.size) (W.alloc (.cells M 5)) := by
      intro W
      have := run_make (P := Try.prog) W 38 5 ti (.int .u8 0) Try.underlying38 hti tz .i64 .i64 (s.size : Int) (s.size : Int) (by omega) (by omega) (by rw [tb]; omega) (by omega)
      rw [hM] at this
      simpa using this
    have copying := Lib.run_copy_row_string (P := Try.prog) (w.alloc (.cells M 5)) 38 9 3 5 w.heap.size 0 s.size s.size s M 5 Try.underlying38 one (heap_alloc_new w _) (Nat.le_refl _) (by omega)
    generalize hY : (M.toList.take 0 ++ Lib.byteCells s.data.toList ++ M.toList.drop (0 + s.size)).toArray = Y at copying
    have listY : Y.toList = Lib.byteCells s.data.toList := by
      rw [← hY, List.toList_toArray, List.take_zero, List.nil_append, List.drop_of_length_le (by rw [Array.length_toList]; omega), List.append_nil]
    have sizeY : Y.size = s.size := by rw [← Array.length_toList, listY, Lib.byteCells_length, ← Lib.size_eq]
    have there : ((w.alloc (.cells M 5)).setRow w.heap.size Y).heap[w.heap.size]? = some (.cells Y 5 (0, 0)) := setRow_heap _ _ M _ 5 (0, 0) (heap_alloc_new w _)
    have some1 : s.data.toList ≠ [] := fun e => h0 (by rw [Lib.size_eq, e]; rfl)
    have sharing := Lib.run_unsafeString_row (P := Try.prog) ((w.alloc (.cells M 5)).setRow w.heap.size Y) 76 3 9 5 Try.underlying76 cells1 w.heap.size Y.size (by unfold World.shape?; rw [there]) s.data.toList some1 (by rw [← Lib.size_eq]; omega) (by rw [← Lib.size_eq]; omega)
      (fun j x hx => Lib.cells_of_row there Y.size j _ (by rw [List.take_of_length_le (by rw [Array.length_toList]; exact Nat.le_refl _), listY]; simp [Lib.byteCells, hx]))
    rw [← Lib.size_eq] at sharing
    clear hM hY
    go_enter Try.func33, Try.ntmps33
    go_wp2
    go_ret
    have b1 : Below w.heap.size w (w.alloc (.cells M 5)) := (Below.refl _ w).alloc (Nat.le_refl _) _
    have b2 : Below w.heap.size (w.alloc (.cells M 5)) ((w.alloc (.cells M 5)).setRow w.heap.size Y) := ⟨rfl, rfl, rfl, by simp, fun k hk => setRow_other _ _ _ _ (by omega)⟩
    exact ⟨rfl, fr (Lib.below_freeze (b1.trans b2) (p := ⟨w.heap.size, 0, none⟩) (Nat.le_refl _) _)⟩
/-- A text's copy. -/
def gClone (vs : List Value) : Option (Bool × Value) :=
  match vs with
  | [.string s] => some (Nat.ble s.size 281474976710656, S s)
  | _ => none
theorem gClone_ok : ∀ vs r, gClone vs = some (true, r) → ∀ m, CallOk Try.prog 33 (vs.map .v) m (.v r) m := by
  intro vs r h
  unfold gClone at h
  split at h
  · rename_i s
    obtain ⟨h1, rfl⟩ := some_t h
    exact callV Try.prog fun w => .inr ⟨callFunc_enter Try.func33 rfl (names_of names Try.func33 rfl) w, copied s w (Nat.le_of_ble_eq_true h1)⟩
  · cases h
def vClone : FuncId → List Value → Option (Bool × Value) := tabOneV 33 gClone
theorem vClone_ok : TabOk Try.prog vClone := tabOneV_ok gClone_ok
/-- Structs that are compared. -/
def good : List TypeId :=
  23 ::
  27 ::
  []
theorem goodOk : good.all (eqTypeOk Try.prog) = true := by kernel_rfl
noncomputable def ΓA : Orc := addR (tabV vClone) { call := cCas64, eqv := eqvOf Try.prog good, rd := rLoad64 }
theorem OkA : ΓA.Ok Try.prog := addR_tab ⟨cCas64_ok, rLoad64_ok, fun t xs ys r h w op x y hop => eqvOf_ok goodOk t xs ys r h w op x y hop⟩ vClone_ok
theorem runOk {Γ : Orc} {Λ : LoopOrc} (hΓ : Γ.Ok Try.prog) {f : FuncId} {fn : Func} {c : Code} (hf : Try.prog.funcs[f]? = some fn) (hb : fn.body = some c) {xs : List SV} {m m' : Mem} {r : SV}
    (hL : ∀ z, z.L.length = m.blk.length → z.U.length = m.rows.length → ∀ b ∈ loopsOf c, LoopOk Λ Try.prog z b) (h : runG Γ Λ Try.prog fn xs m = some (r, m')) : CallOk Try.prog f xs m r m' := callOk_of_run hΓ mixed names hf hb hL h
/-- A call of values alone, by its run. -/
theorem runV {Γ : Orc} {Λ : LoopOrc} (hΓ : Γ.Ok Try.prog) {f : FuncId} {fn : Func} {c : Code} (hf : Try.prog.funcs[f]? = some fn) (hb : fn.body = some c) {vs : List Value} {r : Value} {m' : Mem}
    (hL : ∀ z : Base, z.L.length = 0 → z.U.length = 0 → ∀ b ∈ loopsOf c, LoopOk Λ Try.prog z b) (h : runG Γ Λ Try.prog fn (vs.map .v) M0 = some (.v r, m')) : ∀ m, CallOk Try.prog f (vs.map .v) m (.v r) m := valOk hΓ mixed names hf hb hL h
end Go.Proofs.Ytbfcnkelldbfbaa

namespace Go.Proofs.Ytbfcnkelldbfbaa
open Go Go.Proofs Go.Sx
/-! Counters: a block of two numbers, the most and the value. -/
def MC (a b : Int) : Mem := ⟨[[.v (I a), .v (I b)]], [true], []⟩
def clampI (x y : Int) : Int := if (if y < x then y else x) > 0 then (if y < x then y else x) else 0
def wI (n : Int) : Int := IntKind.i64.wrap n
theorem wrapI (n : Int) : IntKind.i64.wrap n = if n % 18446744073709551616 ≥ 9223372036854775808 then n % 18446744073709551616 - 18446744073709551616 else n % 18446744073709551616 := by
  rw [← wr_eq true .i64 n]
  simp only [wr]
  split <;> simp_all <;> omega
theorem wI_id {n : Int} (h : -9223372036854775808 ≤ n ∧ n < 9223372036854775808) : wI n = n := by
  unfold wI
  rw [wrapI]
  split <;> omega
def gLoad (xs : List SV) (m : Mem) : Option (Bool × Value) :=
  match xs, m with
  | [.ptr 0 1], ⟨[[.v (.int .i64 _), .v (.int .i64 b)]], [true], []⟩ => some (true, I b)
  | _, _ => none
theorem gLoad_ok : ∀ xs m r, gLoad xs m = some (true, r) → CallOk Try.prog 37 xs m (.v r) m := by
  intro xs m r h
  unfold gLoad at h
  split at h
  · rename_i a b
    obtain ⟨_, rfl⟩ := some_t h
    refine runOk (Λ := L0) OkA Try.func37 rfl (fun z _ _ => noLoops (by kernel_rfl) z) ?_
    kernel_rfl
  · cases h
noncomputable def ΓC1 : Orc := addRd 37 gLoad ΓA
theorem OkC1 : ΓC1.Ok Try.prog := addRd_ok OkA gLoad_ok
def gClamp (vs : List Value) : Option (Bool × Value) :=
  match vs with
  | [.int .i64 x, .int .i64 y] => some (true, I (clampI x y))
  | _ => none
theorem gClamp_ok : ∀ vs r, gClamp vs = some (true, r) → ∀ m, CallOk Try.prog 35 (vs.map .v) m (.v r) m := by
  intro vs r h
  unfold gClamp at h
  split at h
  · rename_i x y
    obtain ⟨_, rfl⟩ := some_t h
    refine runV (Λ := L0) (m' := M0) OkC1 Try.func35 rfl (fun z _ _ => noLoops (by kernel_rfl) z) ?_
    kernel_rfl
  · cases h
noncomputable def ΓC2 : Orc := addVal 35 gClamp ΓC1
theorem OkC2 : ΓC2.Ok Try.prog := addVal_ok OkC1 gClamp_ok
def gValue (xs : List SV) (m : Mem) : Option (Bool × Value) :=
  match xs, m with
  | [.ptr 0 0], ⟨[[.v (.int .i64 _), .v (.int .i64 b)]], [true], []⟩ => some (true, I b)
  | [.v (.pointer none)], _ => some (true, I 0)
  | _, _ => none
theorem gValue_ok : ∀ xs m r, gValue xs m = some (true, r) → CallOk Try.prog 30 xs m (.v r) m := by
  intro xs m r h
  unfold gValue at h
  split at h
  · rename_i a b
    obtain ⟨_, rfl⟩ := some_t h
    refine runOk (Λ := L0) OkC2 Try.func30 rfl (fun z _ _ => noLoops (by kernel_rfl) z) ?_
    kernel_rfl
  · obtain ⟨_, rfl⟩ := some_t h
    refine runV (vs := [.pointer none]) (Λ := L0) (m' := M0) OkC2 Try.func30 rfl (fun z _ _ => noLoops (by kernel_rfl) z) ?_ m
    kernel_rfl
  · cases h
noncomputable def ΓC3 : Orc := addRd 30 gValue ΓC2
theorem OkC3 : ΓC3.Ok Try.prog := addRd_ok OkC2 gValue_ok
def gCas (xs : List SV) (m : Mem) : Option (Bool × SV × Mem) :=
  match xs, m with
  | [.ptr 0 1, .v (.int .i64 x), .v (.int .i64 y)], ⟨[[.v (.int .i64 a), .v (.int .i64 b)]], [true], []⟩ => some (true, .v (Bo (b == x)), MC a (bif b == x then y else b))
  | _, _ => none
theorem gCas_ok : ∀ xs m r m', gCas xs m = some (true, r, m') → CallOk Try.prog 41 xs m r m' := by
  intro xs m r m' h
  unfold gCas at h
  split at h
  · rename_i x y a b
    obtain ⟨_, rfl, rfl⟩ := some_t2 h
    refine runOk (Λ := L0) OkC3 Try.func41 rfl (fun z _ _ => noLoops (by kernel_rfl) z) ?_
    kernel_rfl
  · cases h
noncomputable def ΓC4 : Orc := addCl 41 gCas ΓC3
theorem OkC4 : ΓC4.Ok Try.prog := addCl_ok OkC3 gCas_ok
def gRaised (xs : List SV) (m : Mem) : Option (Bool × Value) :=
  match xs, m with
  | [.ptr 0 0, .v (.int .i64 v), .v (.int .i64 n)], ⟨[[.v (.int .i64 a), .v (.int .i64 _)]], [true], []⟩ => some (true, I (wI (v + clampI n (wI (a - v)))))
  | _, _ => none
theorem gRaised_ok : ∀ xs m r, gRaised xs m = some (true, r) → CallOk Try.prog 40 xs m (.v r) m := by
  intro xs m r h
  unfold gRaised at h
  split at h
  · rename_i v n a b
    obtain ⟨_, rfl⟩ := some_t h
    refine runOk (Λ := L0) OkC4 Try.func40 rfl (fun z _ _ => noLoops (by kernel_rfl) z) ?_
    kernel_rfl
  · cases h
noncomputable def ΓC5 : Orc := addRd 40 gRaised ΓC4
theorem OkC5 : ΓC5.Ok Try.prog := addRd_ok OkC4 gRaised_ok
/-- A counter's value behind a call of Add. -/
def addN' (a v n : Int) : Int := wI (v + clampI n (wI (a - v)))
def kAdd : List Bool := maskOf 24 [0, 1]
def kAddx : List Bool := maskOf 24 [4]
noncomputable def bodyAdd : Code := loopAt (Try.f36.body.getD .skip) 0
theorem loopsAdd : loopsOf (Try.f36.body.getD .skip) = [bodyAdd] := by kernel_rfl
theorem loopsAdd0 : loopsOf bodyAdd = [] := by kernel_rfl
theorem stepAdd (a v n : Int) (k : Nat) : evLoop ΓC5 Try.prog L0 (cutC 1 0 kAdd) bodyAdd (k + 1) (mk kAdd [.ptr 0 0, .v (I n)] (MC a v)) (fun e st => some (e, cutC 1 0 kAddx st)) =
    bif v == v then some (.ret, mk kAddx [.v (I (addN' a v n))] (MC a (bif v == v then addN' a v n else v))) else
      evLoop ΓC5 Try.prog L0 (cutC 1 0 kAdd) bodyAdd k (mk kAdd [.ptr 0 0, .v (I n)] (MC a (bif v == v then addN' a v n else v))) (fun e st => some (e, cutC 1 0 kAddx st)) := by kernel_rfl
def GAdd (vals : List SV) (m : Mem) : Option (Bool × Ex × St) :=
  match vals, m with
  | [.ptr 0 0, .v (.int .i64 n)], ⟨[[.v (.int .i64 a), .v (.int .i64 v)]], [true], []⟩ => some (true, .ret, mk kAddx [.v (I (addN' a v n))] (MC a (addN' a v n)))
  | _, _ => none
noncomputable def ΛAdd : LoopOrc := fun _ st => viaC 1 0 kAdd GAdd st
theorem loopOkAdd (z : Base) (h1 : z.L.length = 1) (h2 : z.U.length = 0) : LoopOk ΛAdd Try.prog z bodyAdd := by
  refine loop_okC (Λ := L0) (kx := fun _ => kAddx) OkC5 mixed h1 h2 (fun b hb => by rw [loopsAdd0] at hb; cases hb) (G := GAdd) (fun _ => rfl) ?_
  intro vals m e st' h
  unfold GAdd at h
  split at h
  · rename_i n a v
    obtain ⟨_, rfl, rfl⟩ := some_t2 h
    refine ⟨1, (stepAdd a v n 0).trans ?_⟩
    simp only [beq_self_eq_true, cond_true]
  · cases h
def gAdd (xs : List SV) (m : Mem) : Option (Bool × SV × Mem) :=
  match xs, m with
  | [.ptr 0 0, .v (.int .i64 n)], ⟨[[.v (.int .i64 a), .v (.int .i64 v)]], [true], []⟩ => some (true, .v (I (addN' a v n)), MC a (addN' a v n))
  | _, _ => none
theorem gAdd_ok : ∀ xs m r m', gAdd xs m = some (true, r, m') → CallOk Try.prog 36 xs m r m' := by
  intro xs m r m' h
  unfold gAdd at h
  split at h
  · rename_i n a v
    obtain ⟨_, rfl, rfl⟩ := some_t2 h
    refine runOk (Λ := ΛAdd) OkC5 Try.func36 rfl (fun z h1 h2 => oneLoop (c := Try.f36.body.getD .skip) loopsAdd (loopOkAdd z h1 h2)) ?_
    kernel_rfl
  · cases h
noncomputable def ΓC6 : Orc := addCl 36 gAdd ΓC5
theorem OkC6 : ΓC6.Ok Try.prog := addCl_ok OkC5 gAdd_ok
def gNew (xs : List SV) (m : Mem) : Option (Bool × SV × Mem) :=
  match xs, m with
  | [.v (.int .i64 n)], ⟨[], [], []⟩ => some (true, .ptr 0 0, MC (clampI n 1000000) 0)
  | _, _ => none
theorem gNew_ok : ∀ xs m r m', gNew xs m = some (true, r, m') → CallOk Try.prog 28 xs m r m' := by
  intro xs m r m' h
  unfold gNew at h
  split at h
  · rename_i n
    obtain ⟨_, rfl, rfl⟩ := some_t2 h
    refine runOk (Λ := L0) OkC6 Try.func28 rfl (fun z _ _ => noLoops (by kernel_rfl) z) ?_
    kernel_rfl
  · cases h
noncomputable def ΓC : Orc := addCl 28 gNew ΓC6
theorem OkC : ΓC.Ok Try.prog := addCl_ok OkC6 gNew_ok
end Go.Proofs.Ytbfcnkelldbfbaa

namespace Go.Proofs.Ytbfcnkelldbfbaa
open Go Go.Proofs Go.Sx
/-! One step of a sum, and eight. -/
def n16 (n : Nat) : Nat := bif Nat.ble 32768 n then Nat.xor (2 * n % 65536) 4129 else 2 * n % 65536
def n32 (n : Nat) : Nat := bif Nat.beq (n % 2) 1 then Nat.xor (n / 2) 3988292384 else n / 2
def it (f : Nat → Nat) : Nat → Nat → Nat
  | 0, n => n
  | k + 1, n => it f k (f n)
def N16 (n : Nat) : Nat := it n16 8 n
def N32 (n : Nat) : Nat := it n32 8 n

theorem xor_lt {a b : Nat} (k : Nat) (ha : a < 2 ^ k) (hb : b < 2 ^ k) : Nat.xor a b < 2 ^ k := Nat.xor_lt_two_pow ha hb
theorem n16_lt (n : Nat) : n16 n < 65536 := by
  unfold n16
  cases Nat.ble 32768 n
  · exact Nat.mod_lt _ (by decide)
  · exact xor_lt 16 (Nat.mod_lt _ (by decide)) (by decide)
theorem n32_lt {n : Nat} (h : n < 4294967296) : n32 n < 4294967296 := by
  unfold n32
  cases Nat.beq (n % 2) 1
  · show n / 2 < _; omega
  · exact xor_lt 32 (by have : (2:Nat) ^ 32 = 4294967296 := by decide
                        omega) (by decide)
theorem it_lt {f : Nat → Nat} {m : Nat} (hf : ∀ n, n < m → f n < m) : ∀ (k n : Nat), n < m → it f k n < m
  | 0, _, h => h
  | k + 1, n, h => it_lt hf k (f n) (hf n h)
theorem N16_lt {n : Nat} (h : n < 65536) : N16 n < 65536 := it_lt (fun n _ => n16_lt n) 8 n h
theorem N32_lt {n : Nat} (h : n < 4294967296) : N32 n < 4294967296 := it_lt (fun _ => n32_lt) 8 n h

theorem wrap16 (n : Nat) : IntKind.u16.wrap (n : Int) = ((n % 65536 : Nat) : Int) := by
  rw [← wr_eq true]; simp only [wr]; omega
theorem wrap32 (n : Nat) : IntKind.u32.wrap (n : Int) = ((n % 4294967296 : Nat) : Int) := by
  rw [← wr_eq true]; simp only [wr]; omega
theorem xorB (w a b : Nat) (ha : a < 2 ^ w) (hb : b < 2 ^ w) : (((BitVec.ofInt w (a : Int) ^^^ BitVec.ofInt w (b : Int)).toNat : Nat) : Int) = ((Nat.xor a b : Nat) : Int) := by
  rw [BitVec.toNat_xor, BitVec.ofInt_natCast, BitVec.ofInt_natCast, BitVec.toNat_ofNat, BitVec.toNat_ofNat, Nat.mod_eq_of_lt ha, Nat.mod_eq_of_lt hb]
  rfl
theorem andB (w a b : Nat) (ha : a < 2 ^ w) (hb : b < 2 ^ w) : (((BitVec.ofInt w (a : Int) &&& BitVec.ofInt w (b : Int)).toNat : Nat) : Int) = ((Nat.land a b : Nat) : Int) := by
  rw [BitVec.toNat_and, BitVec.ofInt_natCast, BitVec.ofInt_natCast, BitVec.toNat_ofNat, BitVec.toNat_ofNat, Nat.mod_eq_of_lt ha, Nat.mod_eq_of_lt hb]
  rfl

/-- What eight rounds come to. -/
theorem eight {α : Type} (E : Nat → Int → Int → Option α) (F : Int → Option α) (c : Int → Bool) (A B : Int → Int) (f : Nat → Nat) (m : Nat) (hf : ∀ n, n < m → f n < m) (hc : ∀ n : Nat, n < m → (bif c (n : Int) then A (n : Int) else B (n : Int)) = ((f n : Nat) : Int))
    (hE : ∀ k x i, E (k + 1) x i = bif decide (i < (8 : Int)) then (bif c x then E k (A x) (wI (i + 1)) else E k (B x) (wI (i + 1))) else F x) :
    ∀ (j n : Nat), j ≤ 8 → n < m → E (j + 1) (n : Int) ((8 - j : Nat) : Int) = F ((it f j n : Nat) : Int) := by
  intro j
  induction j with
  | zero =>
    intro n _ _
    rw [hE]
    rfl
  | succ j ih =>
    intro n hj hn
    rw [hE, show decide (((8 - (j + 1) : Nat) : Int) < 8) = true from decide_eq_true (by omega), wI_id (by omega), show ((8 - (j + 1) : Nat) : Int) + 1 = ((8 - j : Nat) : Int) by omega]
    have hx := hc n hn
    have h2 : (bif c (n : Int) then E (j + 1) (A n) ((8 - j : Nat) : Int) else E (j + 1) (B n) ((8 - j : Nat) : Int)) = E (j + 1) (bif c (n : Int) then A (n : Int) else B (n : Int)) ((8 - j : Nat) : Int) := by
      cases c (n : Int) <;> rfl
    rw [cond_true, h2, hx, ih (f n) (by omega) (hf n hn)]
    rfl

def a16 (x : Int) : Int := IntKind.u16.wrap (((BitVec.ofInt 16 (IntKind.u16.wrap (x * 2 ^ min (Int.toNat 1) 16)) ^^^ BitVec.ofInt 16 4129).toNat : Nat) : Int)
def b16 (x : Int) : Int := IntKind.u16.wrap (x * 2 ^ min (Int.toNat 1) 16)
theorem step_n16 (n : Nat) (_ : n < 65536) : (bif decide ((n : Int) ≥ 32768) then a16 n else b16 n) = ((n16 n : Nat) : Int) := by
  have e : (n : Int) * 2 ^ min (Int.toNat 1) 16 = ((2 * n : Nat) : Int) := by
    rw [show min (Int.toNat 1) 16 = 1 from rfl]; omega
  unfold a16 b16 n16
  rw [e, wrap16 (2 * n), show (4129 : Int) = ((4129 : Nat) : Int) from rfl, xorB 16 _ _ (Nat.mod_lt _ (by decide)) (by decide), wrap16]
  by_cases h : 32768 ≤ n
  · rw [decide_eq_true (by omega), show Nat.ble 32768 n = true from by rw [Nat.ble_eq]; exact h]
    simp only [cond_true]
    rw [Nat.mod_eq_of_lt (xor_lt 16 (Nat.mod_lt _ (by decide)) (by decide))]
  · rw [decide_eq_false (by omega), show Nat.ble 32768 n = false from by rw [← Bool.not_eq_true, Nat.ble_eq]; exact h]
    rfl
def c32 (x : Int) : Bool := IntKind.u32.wrap (((BitVec.ofInt 32 x &&& BitVec.ofInt 32 1).toNat : Nat) : Int) == 1
def a32 (x : Int) : Int := IntKind.u32.wrap (((BitVec.ofInt 32 (Int.fdiv x (2 ^ min (Int.toNat 1) 32)) ^^^ BitVec.ofInt 32 3988292384).toNat : Nat) : Int)
def b32 (x : Int) : Int := Int.fdiv x (2 ^ min (Int.toNat 1) 32)
theorem two32 : (2 : Nat) ^ 32 = 4294967296 := by decide
theorem step_n32 (n : Nat) (h : n < 4294967296) : (bif c32 n then a32 n else b32 n) = ((n32 n : Nat) : Int) := by
  have e : Int.fdiv (n : Int) (2 ^ min (Int.toNat 1) 32) = ((n / 2 : Nat) : Int) := by
    rw [show min (Int.toNat 1) 32 = 1 from rfl, Int.fdiv_eq_ediv_of_nonneg _ (by decide)]; omega
  unfold c32 a32 b32 n32
  rw [e, show (3988292384 : Int) = ((3988292384 : Nat) : Int) from rfl, show (1 : Int) = ((1 : Nat) : Int) from rfl, andB 32 _ _ (by rw [two32]; exact h) (by decide), xorB 32 _ _ (by rw [two32]; omega) (by decide), wrap32, wrap32]
  have e2 : Nat.land n 1 = n % 2 := Nat.and_one_is_mod n
  rw [e2]
  rcases Nat.mod_two_eq_zero_or_one n with h0 | h0
  · rw [h0]; rfl
  · rw [h0, Nat.mod_eq_of_lt (xor_lt 32 (by rw [two32]; omega) (by decide))]; rfl
def d32 (x : Int) : Bool := Int.tmod x 2 == 1
def g32 (x : Int) : Int := IntKind.u32.wrap (((BitVec.ofInt 32 (IntKind.u32.wrap (Int.tdiv x 2)) ^^^ BitVec.ofInt 32 3988292384).toNat : Nat) : Int)
def h32 (x : Int) : Int := IntKind.u32.wrap (Int.tdiv x 2)
theorem step_r32 (n : Nat) (h : n < 4294967296) : (bif d32 n then g32 n else h32 n) = ((n32 n : Nat) : Int) := by
  have e : Int.tdiv (n : Int) 2 = ((n / 2 : Nat) : Int) := by
    rw [Int.tdiv_eq_ediv_of_nonneg (by omega)]; omega
  have e1 : Int.tmod (n : Int) 2 = ((n % 2 : Nat) : Int) := by
    rw [Int.tmod_eq_emod_of_nonneg (by omega)]; omega
  unfold d32 g32 h32 n32
  rw [e, e1, wrap32 (n / 2), Nat.mod_eq_of_lt (show n / 2 < 4294967296 by omega), show (3988292384 : Int) = ((3988292384 : Nat) : Int) from rfl, xorB 32 _ _ (by rw [two32]; omega) (by decide), wrap32]
  rcases Nat.mod_two_eq_zero_or_one n with h0 | h0
  · rw [h0]; rfl
  · rw [h0, Nat.mod_eq_of_lt (xor_lt 32 (by rw [two32]; omega) (by decide))]; rfl

/-! Sums of texts. -/
def p16 (x : Nat) (b : UInt8) : Nat := N16 (Nat.xor x (b.toNat * 256))
def p32 (x : Nat) (b : UInt8) : Nat := N32 (Nat.xor x b.toNat)
theorem byte_lt (b : UInt8) : b.toNat < 256 := b.toNat_lt
theorem p16_lt {x : Nat} (b : UInt8) (h : x < 65536) : p16 x b < 65536 :=
  N16_lt (xor_lt 16 h (by have := byte_lt b; show _ < 65536; omega))
theorem p32_lt {x : Nat} (b : UInt8) (h : x < 4294967296) : p32 x b < 4294967296 :=
  N32_lt (xor_lt 32 h (by have := byte_lt b; rw [two32]; omega))
def R16 (x : Int) (s : ByteArray) : Int := ((s.data.toList.foldl p16 x.toNat : Nat) : Int)
def F32 (s : ByteArray) : Nat := s.data.toList.foldl p32 4294967295
theorem fold_lt {α : Type} {f : Nat → α → Nat} {m : Nat} (hf : ∀ n b, n < m → f n b < m) : ∀ (l : List α) (n : Nat), n < m → l.foldl f n < m
  | [], _, h => h
  | b :: l, n, h => fold_lt hf l _ (hf n b h)

theorem strAt_some {s : ByteArray} {k : Nat} {b : UInt8} (h : s.data[k]? = some b) : strAt s (k : Int) = (b.toNat : Int) := by
  unfold strAt
  have : s[(k : Int).toNat]? = some b := by
    rw [Int.toNat_natCast]
    have hk : k < s.size := by
      have := (Array.getElem?_eq_some_iff.1 h).1
      exact this
    rw [getElem?_pos s k hk]
    have h2 := (Array.getElem?_eq_some_iff.1 h).2
    rw [← h2]
    rfl
  rw [this]

/-- A loop over a text's bytes. -/
theorem overS {α : Type} (s : ByteArray) (hs : s.size ≤ 9223372036854775807) (E : Nat → Int → Int → Option α) (F : Int → Option α) (g : Int → Int → Bool) (A : Int → Int → Int) (f : Nat → UInt8 → Nat) (m : Nat) (hf : ∀ n b, n < m → f n b < m)
    (hg : ∀ (n k : Nat) b, n < m → s.data[k]? = some b → g n k = true ∧ A n k = ((f n b : Nat) : Int))
    (hE : ∀ k x i, E (k + 1) x i = bif decide (i < (s.size : Int)) then (bif decide (0 ≤ i) && decide (i < (s.size : Int)) then (bif g x i then E k (A x i) (wI (i + 1)) else none) else none) else F x) :
    ∀ (j k n : Nat), k + j = s.size → n < m → E (j + 1) (n : Int) (k : Int) = F (((s.data.toList.drop k).foldl f n : Nat) : Int) := by
  intro j
  induction j with
  | zero =>
    intro k n hk _
    rw [hE, show decide ((k : Int) < (s.size : Int)) = false from decide_eq_false (by omega)]
    rw [List.drop_eq_nil_of_le (by simp; omega)]
    rfl
  | succ j ih =>
    intro k n hk hn
    have hlt : k < s.data.size := by show k < s.size; omega
    obtain ⟨b, hb⟩ : ∃ b, s.data[k]? = some b := ⟨s.data[k], by simp⟩
    obtain ⟨h1, h2⟩ := hg n k b hn hb
    rw [hE, show decide ((k : Int) < (s.size : Int)) = true from decide_eq_true (by omega), show decide ((0 : Int) ≤ (k : Int)) = true from decide_eq_true (by omega), wI_id (by omega), h1, h2]
    simp only [cond_true, Bool.and_self]
    rw [show (k : Int) + 1 = ((k + 1 : Nat) : Int) by omega, ih (k + 1) _ (by omega) (hf n b hn)]
    have e2 : s.data.toList.drop k = b :: s.data.toList.drop (k + 1) := by
      rw [List.drop_eq_getElem_cons (by simpa using hlt)]
      have := (Array.getElem?_eq_some_iff.1 hb).2
      simp [this]
    rw [e2, List.foldl_cons]

def q16 (s : ByteArray) (x i : Int) : Int := IntKind.u16.wrap (((BitVec.ofInt 16 x ^^^ BitVec.ofInt 16 (IntKind.u16.wrap (IntKind.u16.wrap (strAt s i) * 2 ^ min (Int.toNat 8) 16))).toNat : Nat) : Int)
def q32 (s : ByteArray) (x i : Int) : Int := IntKind.u32.wrap (((BitVec.ofInt 32 x ^^^ BitVec.ofInt 32 (IntKind.u32.wrap (strAt s i))).toNat : Nat) : Int)
theorem q16_nat {s : ByteArray} {n k : Nat} {b : UInt8} (hn : n < 65536) (hb : s.data[k]? = some b) : q16 s n k = ((Nat.xor n (b.toNat * 256) : Nat) : Int) := by
  have h := byte_lt b
  unfold q16
  rw [strAt_some hb, wrap16 b.toNat, Nat.mod_eq_of_lt (show b.toNat < 65536 by omega)]
  have e : ((b.toNat : Nat) : Int) * 2 ^ min (Int.toNat 8) 16 = ((b.toNat * 256 : Nat) : Int) := by
    rw [show min (Int.toNat 8) 16 = 8 from rfl]; omega
  rw [e, wrap16 (b.toNat * 256), Nat.mod_eq_of_lt (show b.toNat * 256 < 65536 by omega), xorB 16 _ _ hn (by show _ < 65536; omega), wrap16, Nat.mod_eq_of_lt (xor_lt 16 hn (by show _ < 65536; omega))]
theorem q32_nat {s : ByteArray} {n k : Nat} {b : UInt8} (hn : n < 4294967296) (hb : s.data[k]? = some b) : q32 s n k = ((Nat.xor n b.toNat : Nat) : Int) := by
  have h := byte_lt b
  unfold q32
  rw [strAt_some hb, wrap32 b.toNat, Nat.mod_eq_of_lt (show b.toNat < 4294967296 by omega)]
  rw [xorB 32 _ _ (by rw [two32]; exact hn) (by rw [two32]; omega), wrap32, Nat.mod_eq_of_lt (xor_lt 32 (by rw [two32]; exact hn) (by rw [two32]; omega))]


/-- From 0 to below m: said so that it stands still at once where the number isn't known. -/
def inN (m : Nat) (x : Int) : Bool :=
  match x with
  | .ofNat n => Nat.ble (n + 1) m
  | .negSucc _ => false
theorem inN_nat {m : Nat} {x : Int} (h : inN m x = true) : ∃ n : Nat, x = (n : Int) ∧ n < m := by
  cases x with
  | ofNat n => exact ⟨n, rfl, Nat.le_of_ble_eq_true h⟩
  | negSucc n => cases h
theorem inN_of {m n : Nat} (h : n < m) : inN m (n : Int) = true := Nat.ble_eq_true_of_le h
def in16 (x : Int) : Bool := inN 65536 x
def in32 (x : Int) : Bool := inN 4294967296 x
def S16 (x : Int) : Int := ((N16 x.toNat : Nat) : Int)
def S32 (x : Int) : Int := ((N32 x.toNat : Nat) : Int)
theorem in16_nat {x : Int} (h : in16 x = true) : ∃ n : Nat, x = (n : Int) ∧ n < 65536 := inN_nat h
theorem in32_nat {x : Int} (h : in32 x = true) : ∃ n : Nat, x = (n : Int) ∧ n < 4294967296 := inN_nat h
def szS (s : ByteArray) : Bool := Nat.ble s.size 9223372036854775807
theorem gs16 (s : ByteArray) (n k : Nat) (b : UInt8) (hn : n < 65536) (hb : s.data[k]? = some b) : in16 (q16 s n k) = true ∧ S16 (q16 s n k) = ((p16 n b : Nat) : Int) := by
  rw [q16_nat hn hb]
  exact ⟨inN_of (xor_lt 16 hn (by have := byte_lt b; show _ < 65536; omega)), rfl⟩
theorem gs32 (s : ByteArray) (n k : Nat) (b : UInt8) (hn : n < 4294967296) (hb : s.data[k]? = some b) : in32 (q32 s n k) = true ∧ S32 (q32 s n k) = ((p32 n b : Nat) : Int) := by
  rw [q32_nat hn hb]
  exact ⟨inN_of (xor_lt 32 (by rw [two32]; exact hn) (by have := byte_lt b; rw [two32]; omega)), rfl⟩

def kEight16 : List Bool := maskOf 15 [0, 4]
def xEight16 : List Bool := maskOf 15 [0]
noncomputable def bodyEight16 : Code := loopAt (Try.f43.body.getD .skip) 0
theorem loopsEight16 : loopsOf (Try.f43.body.getD .skip) = [bodyEight16] := by kernel_rfl
theorem loopsEight160 : loopsOf bodyEight16 = [] := by kernel_rfl
def EEight16 (e : Ex) (st : St) : Option (Ex × St) := some (e, cutC 0 0 xEight16 st)
theorem stepEight16 (k : Nat) (x i : Int) : evLoop ΓC Try.prog L0 (cutC 0 0 kEight16) bodyEight16 (k + 1) (mk kEight16 [.v (U16 x), .v (I i)] M0) EEight16 =
    bif decide (i < 8) then (bif decide (x ≥ 32768) then evLoop ΓC Try.prog L0 (cutC 0 0 kEight16) bodyEight16 k (mk kEight16 [.v (U16 (a16 x)), .v (I (wI (i + 1)))] M0) EEight16 else evLoop ΓC Try.prog L0 (cutC 0 0 kEight16) bodyEight16 k (mk kEight16 [.v (U16 (b16 x)), .v (I (wI (i + 1)))] M0) EEight16)
    else some (.exit 0, mk xEight16 [.v (U16 x)] M0) := by kernel_rfl
def GEight16 (vals : List SV) (m : Mem) : Option (Bool × Ex × St) :=
  match vals, m with
  | [.v (.int .u16 x), .v (.int .i64 i)], ⟨[], [], []⟩ => some (i == 0 && in16 x, .exit 0, mk xEight16 [.v (U16 (S16 x))] M0)
  | _, _ => none
noncomputable def ΛEight16 : LoopOrc := fun _ st => viaC 0 0 kEight16 GEight16 st
theorem loopOkEight16 (z : Base) (z1 : z.L.length = 0) (z2 : z.U.length = 0) : LoopOk ΛEight16 Try.prog z bodyEight16 := by
  refine loop_okC (Λ := L0) (kx := fun _ => xEight16) OkC mixed z1 z2 (fun b hb => by rw [loopsEight160] at hb; cases hb) (G := GEight16) (fun _ => rfl) ?_
  intro vals m e st' h
  unfold GEight16 at h
  split at h
  · rename_i x i
    obtain ⟨h1, rfl, rfl⟩ := some_t2 h
    simp only [Bool.and_eq_true, beq_iff_eq] at h1
    obtain ⟨rfl, h1⟩ := h1
    obtain ⟨n, rfl, hn⟩ := in16_nat h1
    exact ⟨9, eight (fun k x i => evLoop ΓC Try.prog L0 (cutC 0 0 kEight16) bodyEight16 k (mk kEight16 [.v (U16 x), .v (I i)] M0) EEight16) (fun x => some (.exit 0, mk xEight16 [.v (U16 x)] M0)) (fun x => decide (x ≥ 32768)) a16 b16 n16 65536 (fun n _ => n16_lt n) step_n16 stepEight16 8 n (Nat.le_refl 8) hn⟩
  · cases h
theorem runEight16 (x : Int) : runG ΓC ΛEight16 Try.prog Try.f43 [.v (U16 x)] M0 = bif (0 : Int) == 0 && in16 x then some (.v (U16 (S16 x)), M0) else none := by kernel_rfl
def gEight16 (vs : List Value) : Option (Bool × Value) :=
  match vs with
  | [.int .u16 x] => some (in16 x, U16 (S16 x))
  | _ => none
theorem gEight16_ok : ∀ vs r, gEight16 vs = some (true, r) → ∀ m, CallOk Try.prog 43 (vs.map .v) m (.v r) m := by
  intro vs r h
  unfold gEight16 at h
  split at h
  · rename_i x
    obtain ⟨h1, rfl⟩ := some_t h
    refine runV (vs := [U16 x]) (Λ := ΛEight16) (m' := M0) OkC Try.func43 rfl (fun z z1 z2 => oneLoop (c := Try.f43.body.getD .skip) loopsEight16 (loopOkEight16 z z1 z2)) ?_
    exact (runEight16 x).trans (by rw [h1]; rfl)
  · cases h
noncomputable def ΓK1 : Orc := addVal 43 gEight16 ΓC
theorem OkK1 : ΓK1.Ok Try.prog := addVal_ok OkC gEight16_ok
def kStep16 : List Bool := maskOf 16 [0, 3]
def xStep16 : List Bool := maskOf 16 [0]
noncomputable def bodyStep16 : Code := loopAt (Try.f34.body.getD .skip) 0
theorem loopsStep16 : loopsOf (Try.f34.body.getD .skip) = [bodyStep16] := by kernel_rfl
theorem loopsStep160 : loopsOf bodyStep16 = [] := by kernel_rfl
def EStep16 (e : Ex) (st : St) : Option (Ex × St) := some (e, cutC 0 0 xStep16 st)
theorem stepStep16 (k : Nat) (x i : Int) : evLoop ΓK1 Try.prog L0 (cutC 0 0 kStep16) bodyStep16 (k + 1) (mk kStep16 [.v (U16 x), .v (I i)] M0) EStep16 =
    bif decide (i < 8) then (bif decide (x ≥ 32768) then evLoop ΓK1 Try.prog L0 (cutC 0 0 kStep16) bodyStep16 k (mk kStep16 [.v (U16 (a16 x)), .v (I (wI (i + 1)))] M0) EStep16 else evLoop ΓK1 Try.prog L0 (cutC 0 0 kStep16) bodyStep16 k (mk kStep16 [.v (U16 (b16 x)), .v (I (wI (i + 1)))] M0) EStep16)
    else some (.exit 0, mk xStep16 [.v (U16 x)] M0) := by kernel_rfl
def GStep16 (vals : List SV) (m : Mem) : Option (Bool × Ex × St) :=
  match vals, m with
  | [.v (.int .u16 x), .v (.int .i64 i)], ⟨[], [], []⟩ => some (i == 0 && in16 x, .exit 0, mk xStep16 [.v (U16 (S16 x))] M0)
  | _, _ => none
noncomputable def ΛStep16 : LoopOrc := fun _ st => viaC 0 0 kStep16 GStep16 st
theorem loopOkStep16 (z : Base) (z1 : z.L.length = 0) (z2 : z.U.length = 0) : LoopOk ΛStep16 Try.prog z bodyStep16 := by
  refine loop_okC (Λ := L0) (kx := fun _ => xStep16) OkK1 mixed z1 z2 (fun b hb => by rw [loopsStep160] at hb; cases hb) (G := GStep16) (fun _ => rfl) ?_
  intro vals m e st' h
  unfold GStep16 at h
  split at h
  · rename_i x i
    obtain ⟨h1, rfl, rfl⟩ := some_t2 h
    simp only [Bool.and_eq_true, beq_iff_eq] at h1
    obtain ⟨rfl, h1⟩ := h1
    obtain ⟨n, rfl, hn⟩ := in16_nat h1
    exact ⟨9, eight (fun k x i => evLoop ΓK1 Try.prog L0 (cutC 0 0 kStep16) bodyStep16 k (mk kStep16 [.v (U16 x), .v (I i)] M0) EStep16) (fun x => some (.exit 0, mk xStep16 [.v (U16 x)] M0)) (fun x => decide (x ≥ 32768)) a16 b16 n16 65536 (fun n _ => n16_lt n) step_n16 stepStep16 8 n (Nat.le_refl 8) hn⟩
  · cases h
theorem runStep16 (x : Int) : runG ΓK1 ΛStep16 Try.prog Try.f34 [.v (U16 x)] M0 = bif (0 : Int) == 0 && in16 x then some (.v (U16 (S16 x)), M0) else none := by kernel_rfl
def gStep16 (vs : List Value) : Option (Bool × Value) :=
  match vs with
  | [.int .u16 x] => some (in16 x, U16 (S16 x))
  | _ => none
theorem gStep16_ok : ∀ vs r, gStep16 vs = some (true, r) → ∀ m, CallOk Try.prog 34 (vs.map .v) m (.v r) m := by
  intro vs r h
  unfold gStep16 at h
  split at h
  · rename_i x
    obtain ⟨h1, rfl⟩ := some_t h
    refine runV (vs := [U16 x]) (Λ := ΛStep16) (m' := M0) OkK1 Try.func34 rfl (fun z z1 z2 => oneLoop (c := Try.f34.body.getD .skip) loopsStep16 (loopOkStep16 z z1 z2)) ?_
    exact (runStep16 x).trans (by rw [h1]; rfl)
  · cases h
noncomputable def ΓK2 : Orc := addVal 34 gStep16 ΓK1
theorem OkK2 : ΓK2.Ok Try.prog := addVal_ok OkK1 gStep16_ok
def kMore16 : List Bool := maskOf 21 [0, 1, 7, 8]
def xMore16 : List Bool := maskOf 21 [0]
noncomputable def bodyMore16 : Code := loopAt (Try.f38.body.getD .skip) 0
theorem loopsMore16 : loopsOf (Try.f38.body.getD .skip) = [bodyMore16] := by kernel_rfl
theorem loopsMore160 : loopsOf bodyMore16 = [] := by kernel_rfl
def EMore16 (e : Ex) (st : St) : Option (Ex × St) := some (e, cutC 0 0 xMore16 st)
def HMore16 (s : ByteArray) (x i : Int) : St := mk kMore16 [.v (U16 x), .v (S s), .v (I (s.size : Int)), .v (I i)] M0
theorem stepMore16 (s : ByteArray) (k : Nat) (x i : Int) : evLoop ΓK2 Try.prog L0 (cutC 0 0 kMore16) bodyMore16 (k + 1) (HMore16 s x i) EMore16 =
    bif decide (i < (s.size : Int)) then (bif decide (0 ≤ i) && decide (i < (s.size : Int)) then (bif in16 (q16 s x i) then evLoop ΓK2 Try.prog L0 (cutC 0 0 kMore16) bodyMore16 k (HMore16 s (S16 (q16 s x i)) (wI (i + 1))) EMore16 else none) else none)
    else some (.exit 0, mk xMore16 [.v (U16 x)] M0) := by kernel_rfl
def GMore16 (vals : List SV) (m : Mem) : Option (Bool × Ex × St) :=
  match vals, m with
  | [.v (.int .u16 x), .v (.string s), .v (.int .i64 n), .v (.int .i64 i)], ⟨[], [], []⟩ => some (n == (s.size : Int) && (i == 0 && (in16 x && szS s)), .exit 0, mk xMore16 [.v (U16 (R16 x s))] M0)
  | _, _ => none
noncomputable def ΛMore16 : LoopOrc := fun _ st => viaC 0 0 kMore16 GMore16 st
theorem loopOkMore16 (z : Base) (z1 : z.L.length = 0) (z2 : z.U.length = 0) : LoopOk ΛMore16 Try.prog z bodyMore16 := by
  refine loop_okC (Λ := L0) (kx := fun _ => xMore16) OkK2 mixed z1 z2 (fun b hb => by rw [loopsMore160] at hb; cases hb) (G := GMore16) (fun _ => rfl) ?_
  intro vals m e st' h
  unfold GMore16 at h
  split at h
  · rename_i x s n i
    obtain ⟨h1, rfl, rfl⟩ := some_t2 h
    simp only [Bool.and_eq_true, beq_iff_eq] at h1
    obtain ⟨rfl, rfl, h1, h4⟩ := h1
    obtain ⟨n, rfl, hn⟩ := in16_nat h1
    exact ⟨s.size + 1, overS s (Nat.le_of_ble_eq_true h4) (fun k x i => evLoop ΓK2 Try.prog L0 (cutC 0 0 kMore16) bodyMore16 k (HMore16 s x i) EMore16) (fun x => some (.exit 0, mk xMore16 [.v (U16 x)] M0)) (fun x i => in16 (q16 s x i)) (fun x i => S16 (q16 s x i)) p16 65536 (fun n b => p16_lt b) (gs16 s) (stepMore16 s) s.size 0 n (by omega) hn⟩
  · cases h
theorem runMore16 (x : Int) (s : ByteArray) : runG ΓK2 ΛMore16 Try.prog Try.f38 [.v (U16 x), .v (S s)] M0 = bif (s.size : Int) == (s.size : Int) && ((0 : Int) == 0 && (in16 x && szS s)) then some (.v (U16 (R16 x s)), M0) else none := by kernel_rfl
def gMore16 (vs : List Value) : Option (Bool × Value) :=
  match vs with
  | [.int .u16 x, .string s] => some (in16 x && szS s, (U16 (R16 x s)))
  | _ => none
theorem gMore16_ok : ∀ vs r, gMore16 vs = some (true, r) → ∀ m, CallOk Try.prog 38 (vs.map .v) m (.v r) m := by
  intro vs r h
  unfold gMore16 at h
  split at h
  · rename_i x s
    obtain ⟨h1, rfl⟩ := some_t h
    refine runV (vs := [U16 x, S s]) (Λ := ΛMore16) (m' := M0) OkK2 Try.func38 rfl (fun z z1 z2 => oneLoop (c := Try.f38.body.getD .skip) loopsMore16 (loopOkMore16 z z1 z2)) ?_
    exact (runMore16 x s).trans (by rw [h1, beq_self_eq_true]; rfl)
  · cases h
noncomputable def ΓK3 : Orc := addVal 38 gMore16 ΓK2
theorem OkK3 : ΓK3.Ok Try.prog := addVal_ok OkK2 gMore16_ok
def kRMore16 : List Bool := maskOf 21 [0, 1, 5]
def xRMore16 : List Bool := maskOf 21 [0]
noncomputable def bodyRMore16 : Code := loopAt (Try.f27.body.getD .skip) 0
theorem loopsRMore16 : loopsOf (Try.f27.body.getD .skip) = [bodyRMore16] := by kernel_rfl
theorem loopsRMore160 : loopsOf bodyRMore16 = [] := by kernel_rfl
def ERMore16 (e : Ex) (st : St) : Option (Ex × St) := some (e, cutC 0 0 xRMore16 st)
def HRMore16 (s : ByteArray) (x i : Int) : St := mk kRMore16 [.v (U16 x), .v (S s), .v (I i)] M0
theorem stepRMore16 (s : ByteArray) (k : Nat) (x i : Int) : evLoop ΓK3 Try.prog L0 (cutC 0 0 kRMore16) bodyRMore16 (k + 1) (HRMore16 s x i) ERMore16 =
    bif decide (i < (s.size : Int)) then (bif decide (0 ≤ i) && decide (i < (s.size : Int)) then (bif in16 (q16 s x i) then evLoop ΓK3 Try.prog L0 (cutC 0 0 kRMore16) bodyRMore16 k (HRMore16 s (S16 (q16 s x i)) (wI (i + 1))) ERMore16 else none) else none)
    else some (.exit 0, mk xRMore16 [.v (U16 x)] M0) := by kernel_rfl
def GRMore16 (vals : List SV) (m : Mem) : Option (Bool × Ex × St) :=
  match vals, m with
  | [.v (.int .u16 x), .v (.string s), .v (.int .i64 i)], ⟨[], [], []⟩ => some (i == 0 && (in16 x && szS s), .exit 0, mk xRMore16 [.v (U16 (R16 x s))] M0)
  | _, _ => none
noncomputable def ΛRMore16 : LoopOrc := fun _ st => viaC 0 0 kRMore16 GRMore16 st
theorem loopOkRMore16 (z : Base) (z1 : z.L.length = 0) (z2 : z.U.length = 0) : LoopOk ΛRMore16 Try.prog z bodyRMore16 := by
  refine loop_okC (Λ := L0) (kx := fun _ => xRMore16) OkK3 mixed z1 z2 (fun b hb => by rw [loopsRMore160] at hb; cases hb) (G := GRMore16) (fun _ => rfl) ?_
  intro vals m e st' h
  unfold GRMore16 at h
  split at h
  · rename_i x s i
    obtain ⟨h1, rfl, rfl⟩ := some_t2 h
    simp only [Bool.and_eq_true, beq_iff_eq] at h1
    obtain ⟨rfl, h1, h4⟩ := h1
    obtain ⟨n, rfl, hn⟩ := in16_nat h1
    exact ⟨s.size + 1, overS s (Nat.le_of_ble_eq_true h4) (fun k x i => evLoop ΓK3 Try.prog L0 (cutC 0 0 kRMore16) bodyRMore16 k (HRMore16 s x i) ERMore16) (fun x => some (.exit 0, mk xRMore16 [.v (U16 x)] M0)) (fun x i => in16 (q16 s x i)) (fun x i => S16 (q16 s x i)) p16 65536 (fun n b => p16_lt b) (gs16 s) (stepRMore16 s) s.size 0 n (by omega) hn⟩
  · cases h
theorem runRMore16 (x : Int) (s : ByteArray) : runG ΓK3 ΛRMore16 Try.prog Try.f27 [.v (U16 x), .v (S s)] M0 = bif (0 : Int) == 0 && (in16 x && szS s) then some (.v (U16 (R16 x s)), M0) else none := by kernel_rfl
def gRMore16 (vs : List Value) : Option (Bool × Value) :=
  match vs with
  | [.int .u16 x, .string s] => some (in16 x && szS s, (U16 (R16 x s)))
  | _ => none
theorem gRMore16_ok : ∀ vs r, gRMore16 vs = some (true, r) → ∀ m, CallOk Try.prog 27 (vs.map .v) m (.v r) m := by
  intro vs r h
  unfold gRMore16 at h
  split at h
  · rename_i x s
    obtain ⟨h1, rfl⟩ := some_t h
    refine runV (vs := [U16 x, S s]) (Λ := ΛRMore16) (m' := M0) OkK3 Try.func27 rfl (fun z z1 z2 => oneLoop (c := Try.f27.body.getD .skip) loopsRMore16 (loopOkRMore16 z z1 z2)) ?_
    exact (runRMore16 x s).trans (by rw [h1]; rfl)
  · cases h
noncomputable def ΓK4 : Orc := addVal 27 gRMore16 ΓK3
theorem OkK4 : ΓK4.Ok Try.prog := addVal_ok OkK3 gRMore16_ok
theorem runSum16 (s : ByteArray) : runG ΓK4 L0 Try.prog Try.f31 [.v (S s)] M0 = bif in16 65535 && szS s then some (.v (U16 (R16 65535 s)), M0) else none := by kernel_rfl
def gSum16 (vs : List Value) : Option (Bool × Value) :=
  match vs with
  | [.string s] => some (szS s, U16 (R16 65535 s))
  | _ => none
theorem gSum16_ok : ∀ vs r, gSum16 vs = some (true, r) → ∀ m, CallOk Try.prog 31 (vs.map .v) m (.v r) m := by
  intro vs r h
  unfold gSum16 at h
  split at h
  · rename_i s
    obtain ⟨h1, rfl⟩ := some_t h
    refine runV (vs := [S s]) (Λ := L0) (m' := M0) OkK4 Try.func31 rfl (fun z _ _ => noLoops (by kernel_rfl) z) ?_
    exact (runSum16 s).trans (by rw [h1]; rfl)
  · cases h
noncomputable def ΓK5 : Orc := addVal 31 gSum16 ΓK4
theorem OkK5 : ΓK5.Ok Try.prog := addVal_ok OkK4 gSum16_ok
noncomputable def ΓK : Orc := ΓK5
theorem OkK : ΓK.Ok Try.prog := OkK5
end Go.Proofs.Ytbfcnkelldbfbaa

