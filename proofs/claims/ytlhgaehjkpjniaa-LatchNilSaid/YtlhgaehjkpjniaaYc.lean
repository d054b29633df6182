/-
  What is known of this program: bytes.Repeat of one byte, contracts of flash, the law package's own.
-/
import Derived.Test.YtlhgaehjkpjniaaYa
import Derived.Lib.MakeNoZero
import Derived.Lib.SlBuf
import Derived.Laws.CopyRow
import Derived.Shelf.RegionOpenPlain
import Derived.Lib.Walk
import Derived.Deep.LoopGhost
import Derived.Deep.Draws
import Derived.Laws.Externs
import Derived.BigCall
import Derived.BigGuard
import Derived.Outline
import Derived.Deep.RegionLaw
import Derived.Deep.DeepCutAuto
import Derived.Deep.CutBlock
import Derived.Test.YtlhgaehjkpjniaaSv
namespace Go.Proofs.Ytlhgaehjkpjniaa
open Go Go.Proofs Go.Sx Go.RowKit
/-! bytes.Repeat of one byte. -/
theorem mulOne (n : Nat) (hn : n ≤ 8192) (w : World) : Calls Try.prog 73 #[.int .u64 1, .int .u64 (n : Int)] w fun e w' => e = .returned (.tuple #[.int .u64 0, .int .u64 (n : Int)]) ∧ Kp w w' := by
  have h := runMulU 1 (n : Int)
  have e1 : inU (n : Int) = true := inU_iff.2 (by omega)
  rw [e1, show inU 1 = true from rfl, show (1 : Int) * (n : Int) / 18446744073709551616 = 0 by omega, show (1 : Int) * (n : Int) % 18446744073709551616 = (n : Int) by omega] at h
  exact law_run (l := [.v (UU 1), .v (UU (n : Int))]) (vs := [UU 1, UU (n : Int)]) OkW6 mixed Try.func73 rfl h ⟨rfl, rfl, trivial⟩ (fun z _ _ => l0Ok' _ z)
theorem makeNo (n : Nat) (hn : n ≤ 8192) (w : World) : ∃ cs : Array Value, (callFunc 74 #[.int .i64 (n : Int)]).run Try.prog w = .ok (.value (.slice (some ⟨w.heap.size, 0, none⟩) n cs.size)) ((w.alloc (.cells cs 5)).drewN 2) ∧ n ≤ cs.size := by
  obtain ⟨cs, h1, h2, _⟩ := Lib.run_makeNoZero (P := Try.prog) w #[3] 61 5 Try.underlying61 n (by omega)
  refine ⟨cs, ?_, h2⟩
  rw [run_callFunc_extern Try.func74 (by kernel_rfl) (by kernel_rfl) (by kernel_rfl) (e := Extern.BytealgMakeNoZero.makeNoZero #[3] #[61]) (by kernel_rfl), h1]
  rfl
/-- A block whose first cells are filled. -/
def Filled (w wr : World) (n k : Nat) (x : Int) : Prop := ∃ cur : Array Value, wr.heap[w.heap.size]? = some (.cells cur 5 (0, 0)) ∧ n ≤ cur.size ∧ k ≤ n ∧ (∀ j, j < k → cur[j]? = some (.int .u8 x)) ∧ Below w.heap.size w wr
theorem size1 : (Try.prog.info? 5).map (·.size) = some 1 := by kernel_rfl
theorem filled_start (w : World) (cs : Array Value) (n : Nat) (x : Int) (h : n ≤ cs.size) : Filled w ((w.alloc (.cells cs 5)).drewN 2) n 0 x :=
  ⟨cs, heap_alloc_new w _, h, Nat.zero_le _, fun j hj => absurd hj (by omega), ⟨rfl, rfl, rfl, by simp, fun k hk => heap_alloc_old w _ hk⟩⟩
/-- More of the same byte, from anywhere. -/
theorem filled_copy {w wr : World} {n k : Nat} {x : Int} (h : Filled w wr n k x) (ty : TypeId) {a : Addr} {c cap : Nat} (hs : ∀ j, j < c → wr.cell? (a.add j) = some (.int .u8 x)) (hk : k < n) :
    ∃ wr', (Builtin.copy_ #[61, 61] ty #[.slice (some ⟨w.heap.size, k, none⟩) (n - k) (n - k), .slice (some a) c cap]).run Try.prog wr = .ok (.int .i64 ((min c (n - k) : Nat) : Int)) wr' ∧ Filled w wr' n (k + min c (n - k)) x := by
  obtain ⟨cur, h1, h2, h3, h4, h5⟩ := h
  have hl : (List.replicate (min c (n - k)) (Value.int .u8 x)).length = min c (n - k) := List.length_replicate
  have hr := run_copy_row Try.prog wr 61 61 ty 5 w.heap.size k (n - k) (n - k) a c cap cur 5 (List.replicate (min c (n - k)) (.int .u8 x)) Try.underlying61 size1 h1 hl
    (fun j v hj => by
      have hlt := (List.getElem?_eq_some_iff.1 hj).1
      rw [hl] at hlt
      rw [List.getElem?_replicate, if_pos hlt] at hj
      injection hj with hj
      subst hj
      exact hs j (by omega)) (by rw [hl]; omega) (fun v hv => by rw [(List.mem_replicate.1 hv).2]; rfl)
  rw [hl] at hr
  refine ⟨_, hr, _, setRow_heap _ _ cur _ _ _ h1, ?_, by omega, fun j hj => ?_, ?_⟩
  · simp; omega
  · rw [← Array.getElem?_toList, List.toList_toArray]
    rcases Nat.lt_or_ge j k with hj1 | hj1
    · rw [List.append_assoc, List.getElem?_append_left (by simp; omega), List.getElem?_take_of_lt hj1, Array.getElem?_toList]
      exact h4 j hj1
    · rw [List.append_assoc, List.getElem?_append_right (by simp; omega), List.getElem?_append_left (by simp; omega), List.getElem?_replicate, if_pos (by simp; omega)]
  · exact ⟨h5.os, h5.tape, h5.output, by simpa using h5.size, fun q hq => by rw [setRow_other _ _ _ _ (by omega)]; exact h5.block q hq⟩
theorem min_fact (k n : Nat) (h : k ≤ n) (ts : Array TypeId) (t : TypeId) (W : World) : (Builtin.min_ ts t #[.int .i64 (k : Int), .int .i64 (n : Int)]).run Try.prog W = .ok (.int .i64 (k : Int)) W := by
  have : ¬ ((n : Int) < (k : Int)) := by omega
  simp [Builtin.min_, Builtin.min2, this]
theorem step_copy_run {P : Program} {ops : Array Oper} {o : Oper} {a : Act} {w : World} {K : Act → World → Prop} {Q : Exit → Act → World → Prop} {E : Prop} (hgd : o.guard = none) (d s : Operand) (t t' : TypeId)
    (ho : o.op = .call { callee := .builtin .copy, args := #[d, s], argTypes := #[t, t'] }) (v u : Value) (hd : a.eval d = v) (hs : a.eval s = u) {v' : Value} {w' : World}
    (hr : (Builtin.copy_ #[t, t'] o.type #[v, u]).run P w = .ok v' w') (h : K (a.put o.dst v') w') : if Region.wanted o (yielded ops a.tmps) = true then Oper.wp P o a w K Q else E := by
  have hw : Region.wanted o (yielded ops a.tmps) = true := by simp [Region.wanted, hgd]
  rw [if_pos hw]
  exact Lib.wp_copy_run w d s t t' ho v u hd hs hr h
set_option maxHeartbeats 400000 in
set_option maxRecDepth 1000000 in
theorem repeated (x : Int) (n b o cap : Nat) (w : World) (h1 : 1 ≤ n) (h2 : n ≤ 8192) (hb : w.cell? ⟨b, o, none⟩ = some (.int .u8 x)) :
    Calls Try.prog 50 #[.slice (some ⟨b, o, none⟩) 1 cap, .int .i64 (n : Int)] w fun e w' => ∃ w1 : World, e = .returned (.slice (some ⟨w1.heap.size, 0, none⟩) n n) ∧ Kp w w1 ∧ Filled w1 w' n n x := by
  have f0 : ((n : Int) == 0) = false := beq_eq_false_iff_ne.2 (by omega)
  have f1 : ¬ ((n : Int) < 0) := by omega
  have f2 : ¬ ((9223372036854775807 : Int) < (n : Int)) := by omega
  have f3 : ¬ ((8192 : Int) < (n : Int)) := by omega
  have hMul := mulOne n h2 w
  obtain ⟨CS, hCS⟩ := Classical.axiomOfChoice (makeNo n h2)
  have hcall := fun w => (hCS w).1
  have hle := fun w => (hCS w).2
  clear hCS
  have i1 : ∀ w, (n : Int) ≤ ((CS w).size : Int) := fun w => by have := hle w; omega
  have i0 : (0 : Int) ≤ (n : Int) := by omega
  go_enter Try.func50, Try.ntmps50
  go_upto_region 17 with (go_at_call 73; refine hMul.mono ?_; rintro e w1 ⟨rfl, hk⟩)
  have B0 := filled_start w1 (CS w1) n x (hle w1)
  have hb1 : ((w1.alloc (.cells (CS w1) 5)).drewN 2).cell? ⟨b, o, none⟩ = some (.int .u8 x) := by
    have hlt := World.block_lt_of_cell? w ⟨b, o, none⟩ hb
    obtain ⟨_, _, _, _, _, B1⟩ := B0
    rw [B1.cell (p := ⟨b, o, none⟩) (Nat.lt_of_lt_of_le hlt hk.1.size), hk.1.cell (p := ⟨b, o, none⟩) hlt]
    exact hb
  obtain ⟨w2, hr1, B1⟩ := filled_copy B0 3 (a := ⟨b, o, none⟩) (c := 1) (cap := cap) (fun j hj => by
    obtain rfl : j = 0 := by omega
    rw [add_place]
    exact hb1) (by omega)
  have e1 : min 1 (n - 0) = 1 := by omega
  rw [e1, Nat.sub_zero] at hr1
  rw [e1, Nat.zero_add] at B1
  clear B0 hb1
  go_wp2_with (at_builtin; refine Lib.wpList_copy_run _ rfl _ _ 61 61 rfl _ _ rfl rfl hr1 ?_)
  have HB1 : Aside (Filled w1 w2 n 1 x) := B1
  clear B1 hr1 hcall hle i1 hMul
  go_loopg [10] (n - 1) (fun g s10 wr => ∃ k : Nat, 1 ≤ k ∧ k ≤ n ∧ n - k ≤ g ∧ s10 = .int .i64 k ∧ Aside (Filled w1 wr n k x))
  case atStart => exact ⟨1, Nat.le_refl _, h1, Nat.le_refl _, rfl, HB1⟩
  case round =>
    obtain ⟨k, hk1, hkn, hg, rfl, HB⟩ := hrel
    by_cases hlt : k < n
    · have hz : (k : Int) < (n : Int) := by omega
      have hmin := min_fact k n hkn
      have hsl1 : ∀ W, (Instr.slice 61 (.slice (some ⟨w1.heap.size, 0, none⟩) n n) (some (.int .i64 (k : Int))) none none).run Try.prog W = .ok (.slice (some ⟨w1.heap.size, k, none⟩) (n - k) (n - k)) W := fun W => by
        have := Lib.run_slice_tailV (P := Try.prog) W 61 5 Try.underlying61 (fun w => sizT_run (by kernel_rfl)) w1.heap.size n k hkn
        unfold Lib.tailV at this
        rwa [if_neg (by omega)] at this
      have hsl2 : ∀ W, (Instr.slice 61 (.slice (some ⟨w1.heap.size, 0, none⟩) n n) none (some (.int .i64 (k : Int))) none).run Try.prog W = .ok (.slice (some ⟨w1.heap.size, 0, none⟩) k n) W := fun W => by
        have he : Try.prog.elem 61 = 5 := by simp [Program.elem, Try.underlying61]
        have ht : Try.prog.underlying 61 = some (.slice (Try.prog.elem 61)) := by rw [he]; exact Try.underlying61
        have hz1 : (sizeOf (Try.prog.elem 61)).run Try.prog W = .ok 1 W := by rw [he]; exact sizT_run (by kernel_rfl)
        rw [run_slice_h W 61 _ n n ht .i64 (k : Int) (by omega) (by omega), hz1]
        simp only [Result.andThen, sliced, Int.toNat_natCast, Nat.zero_mul, Option.map_some, Nat.sub_zero]
        have : ¬ n = 0 := by omega
        simp [this, add_place]
      have B4 : Filled w1 wr.drew n k x := by
        obtain ⟨cur, q1, q2, q3, q4, q5⟩ := HB.out
        exact ⟨cur, q1, q2, q3, q4, ⟨q5.os, q5.tape, q5.output, q5.size, q5.block⟩⟩
      obtain ⟨w3, hr3, B3⟩ := filled_copy B4 3 (a := ⟨w1.heap.size, 0, none⟩) (c := k) (cap := n) (fun j hj => by
        obtain ⟨cur, q1, q2, q3, q4, q5⟩ := B4
        rw [add_place, Nat.zero_add, cur_cell q1]
        exact q4 j hj) hlt
      have HB3 : Aside (Filled w1 w3 n (k + min k (n - k)) x) := B3
      have HR3 : Aside _ := hr3
      clear B3 B4 hr3
      go_wp2
      go_region_law (refine step_copy_run rfl (.tmp 70) (.tmp 73) 61 61 rfl (.slice (some ⟨w1.heap.size, k, none⟩) (n - k) (n - k)) (.slice (some ⟨w1.heap.size, 0, none⟩) k n) (by simp [Act.eval, Act.put]) (by simp [Act.eval, Act.put]) HR3.out ?_)
      go_wp2
      go_roundg (n - (k + min k (n - k)))
      case measure =>
        have hm2 : 1 ≤ min k (n - k) := by rw [Nat.le_min]; omega
        omega
      case rel =>
        have hm1 := Nat.min_le_right k (n - k)
        have e : IntKind.i64.wrap ((k : Int) + ((min k (n - k) : Nat) : Int)) = ((k + min k (n - k) : Nat) : Int) := by
          generalize min k (n - k) = m at hm1 ⊢
          rw [wrI_id (by omega)]
          omega
        exact ⟨k + min k (n - k), by omega, by omega, Nat.le_refl _, by rw [e], HB3⟩
    · obtain rfl : n = k := by omega
      have hz : ¬ ((n : Int) < (n : Int)) := by omega
      go_wp2
      go_ret
      exact ⟨w1, rfl, hk, HB.out⟩
theorem flat_rep (n : Nat) (x : Int) : flat [.num .u8] (List.replicate n [.n x]) = List.replicate n (.int .u8 x) := by
  induction n with
  | zero => rfl
  | succ n ih =>
    show mkEl [.num .u8] [.n x] ++ flat [.num .u8] (List.replicate n [.n x]) = _
    rw [ih]
    rfl
def repN (n x : Int) : List (List Dat) := List.replicate n.toNat [.n x]
def gRep (xs : List SV) (m : Mem) : Option (Bool × SV × Mem) :=
  match xs, m with
  | [.row 0, .v (.int .i64 n)], ⟨[], [], [.live ⟨t, [.num .u8], [[.n x]], own, mark⟩]⟩ => some (decide (1 ≤ n ∧ n ≤ 8192), .row 1, ⟨[], [], [.live ⟨t, [.num .u8], [[.n x]], own, mark⟩, .live ⟨5, [.num .u8], repN n x, true, true⟩]⟩)
  | _, _ => none
theorem gRep_ok : ∀ xs m r m', gRep xs m = some (true, r, m') → CallOk Try.prog 50 xs m r m' := by
  intro xs m r m' h
  unfold gRep at h
  split at h
  case h_2 => cases h
  rename_i n t x own mark
  obtain ⟨h1, rfl, rfl⟩ := some_t2 h
  have h1 := of_decide_eq_true h1
  obtain ⟨q, rfl⟩ := Int.eq_ofNat_of_zero_le (show 0 ≤ n by omega)
  intro z V vs hl hM hA
  obtain ⟨v0, v1, rfl, d0, d1⟩ := two_args hA
  have hr0 : Go.Sx.rowAt (⟨[], [], [.live ⟨t, [.num .u8], [[.n x]], own, mark⟩]⟩ : Mem).rows 0 = some ⟨t, [.num .u8], [[.n x]], own, mark⟩ := rfl
  obtain ⟨u, hu, hok⟩ := hM.rows 0 _ hr0
  have e0 : v0 = u := d0.2.1 u hu
  have e1 : v1 = .int .i64 (q : Int) := d1
  subst e0 e1
  rcases hok.reads hM.below with ⟨_, hL⟩ | ⟨b, o, cap, hs, _, hc⟩
  · cases hL
  have hcell : z.w.cell? ⟨b, o, none⟩ = some (.int .u8 x) := by
    have := hc 0 0 [.n x] (.int .u8 x) rfl rfl
    simpa using this
  refine .inr ⟨callFunc_enter Try.func50 rfl (names_of names Try.func50 rfl) z.w, ?_⟩
  subst hs
  refine (repeated x q b o cap z.w (by omega) (by omega) hcell).mono ?_
  rintro e w' ⟨w1, rfl, hk, cur, f1, f2, f3, f4, f5⟩
  refine ⟨_, rfl, ?_⟩
  have hkp : Kp z.w w' := ⟨hk.1.trans (f5.mono hk.1.size), fun p hp => (f5.frozen (Nat.lt_of_lt_of_le hp hk.1.size)).trans (hk.2 p hp)⟩
  have hq : (q : Int).toNat = q := Int.toNat_natCast q
  have hown : owns w' 5 true 1 (.slice (some ⟨w1.heap.size, 0, none⟩) q q) (repN q x).length (flat [.num .u8] (repN q x)) := by
    unfold repN
    rw [hq, List.length_replicate, flat_rep]
    refine ⟨by simp, w1.heap.size, q, cur, (0, 0), rfl, f1, .inl rfl, ⟨by omega, Nat.le_refl _⟩, ?_⟩
    apply List.ext_getElem?
    intro j
    rw [Nat.mul_one]
    rcases Nat.lt_or_ge j q with hj | hj
    · rw [List.getElem?_take_of_lt hj, Array.getElem?_toList, f4 j hj, List.getElem?_replicate, if_pos hj]
    · rw [List.getElem?_eq_none (by simp; omega), List.getElem?_eq_none (by simp; omega)]
  obtain ⟨V', _, hR', hr', _⟩ := Rel.addRow (rc := ⟨5, [.num .u8], repN q x, true, true⟩) hM hkp rfl hown (Nat.one_pos) (fun g hg => by simp [Value.ownBlock] at hg; have := hk.1.size; omega)
  have hr' : V'.r 1 = some (some (.slice (some ⟨w1.heap.size, 0, none⟩) q q)) := hr'
  exact ⟨V', ⟨by rw [hr']; simp, fun u hu' => by rw [hr'] at hu'; injection hu' with hu'; injection hu', trivial⟩, hR'⟩
end Go.Proofs.Ytlhgaehjkpjniaa

namespace Go.Proofs.Ytlhgaehjkpjniaa
open Go Go.Proofs Go.Sx
noncomputable def ΓF0 : Orc := addCl 50 gRep ΓC
theorem OkF0 : ΓF0.Ok Try.prog := addCl_ok OkC gRep_ok
end Go.Proofs.Ytlhgaehjkpjniaa

namespace Go.Proofs.Ytlhgaehjkpjniaa
open Go Go.Proofs Go.Sx
noncomputable def Γx8 : Orc := exec Try.prog ΓF0.call ΓF0.rd ΓF0.eqv (fun _ => false) 30 3
theorem Okx8 : Γx8.Ok Try.prog := exec_ok mixed names (ext := ΓF0.call) (rd := ΓF0.rd) (eqv := ΓF0.eqv) ⟨OkF0.call, OkF0.rd, OkF0.eqv⟩ 30 3
set_option maxRecDepth 100000 in
theorem runAwake8 : runG Γx8 (loopX Γx8 Try.prog 30 2) Try.prog Try.f17 [] M0 = some (.v (Bo true), M0) := by kernel_rfl
def gAwake8 (vs : List Value) : Option (Bool × Value) :=
  match vs with
  | [] => some (true, Bo true)
  | _ => none
theorem gAwake8_ok : ∀ vs r, gAwake8 vs = some (true, r) → ∀ m, CallOk Try.prog 17 (vs.map .v) m (.v r) m := by
  intro vs r h
  unfold gAwake8 at h
  split at h
  · obtain ⟨_, rfl⟩ := some_t h
    exact runV (vs := []) Okx8 Try.func17 rfl (fun z _ _ b hb => loopX_ok Okx8 mixed 30 2 b) runAwake8
  · cases h
noncomputable def ΓF1 : Orc := addVal 17 gAwake8 ΓF0
theorem OkF1 : ΓF1.Ok Try.prog := addVal_ok OkF0 gAwake8_ok
end Go.Proofs.Ytlhgaehjkpjniaa

namespace Go.Proofs.Ytlhgaehjkpjniaa
open Go Go.Proofs Go.Sx
set_option linter.unusedVariables false
/-! norm -/
/-! Flashes: a row of bytes, a counter, three numbers. -/
def FM (L : List (List Dat)) (mark : Bool) (mx v : Int) (down waits : Bool) (lets : Int) : Mem := ⟨[[.row 0, .ptr 1 0, .v (Bo down), .v (Bo waits), .v (I lets)], [.v (I mx), .v (I v)]], [true, true], [.live ⟨5, [.num .u8], L, true, mark⟩]⟩
def refE (down : Bool) (size k n : Int) : Int := bif down then 11 else bif decide (k < 0) then 2 else bif decide (k > size) then 2 else bif decide (n < 0) then 2 else bif decide (n > wI (size - k)) then 2 else 0
noncomputable def okL (L : List (List Dat)) (lets : Int) : Bool := isT (L = rowT (txt L)) && (Nat.ble (txt L).size 1000000 && decide (0 ≤ lets))
theorem okL_iff {L : List (List Dat)} {lets : Int} : okL L lets = true ↔ L = rowT (txt L) ∧ (txt L).size ≤ 1000000 ∧ 0 ≤ lets := by
  unfold okL
  rw [Bool.and_eq_true, Bool.and_eq_true, isT_iff, decide_eq_true_iff]
  exact ⟨fun ⟨a, b, c⟩ => ⟨a, Nat.le_of_ble_eq_true b, c⟩, fun ⟨a, b, c⟩ => ⟨a, Nat.ble_eq_true_of_le b, c⟩⟩
theorem okL_T {B : ByteArray} {lets : Int} (h : B.size ≤ 1000000) (h0 : 0 ≤ lets) : okL (rowT B) lets = true := okL_iff.2 (by rw [txt_rowT]; exact ⟨rfl, h, h0⟩)
theorem refE_ok {down : Bool} {size k n : Int} (hs : 0 ≤ size ∧ size ≤ 1000000) : refE down size k n = 0 ↔ down = false ∧ 0 ≤ k ∧ 0 ≤ n ∧ k + n ≤ size := by
  unfold refE
  cases down with
  | true => simp
  | false =>
  simp only [cond_false, true_and]
  by_cases h1 : k < 0
  · simp [h1]; omega
  by_cases h2 : k > size
  · simp [h1, h2]; omega
  by_cases h3 : n < 0
  · simp [h1, h2, h3]; omega
  rw [wI_id (n := size - k) (by omega)]
  by_cases h4 : n > size - k
  · simp [h1, h2, h3, h4]; omega
  · simp [h1, h2, h3, h4]; omega
/-- What is written of a text, where a tear may wait. -/
def tornS (waits : Bool) (lets : Int) (s : ByteArray) : ByteArray := bif waits then s.extract 0 (if (s.size : Int) < lets then (s.size : Int) else lets).toNat else s
def wrN (B : ByteArray) (down : Bool) (k : Int) (s : ByteArray) : Bool := refE down (B.size : Int) k (s.size : Int) != 0
def wrE (B : ByteArray) (down waits : Bool) (k : Int) (s : ByteArray) : Int := bif wrN B down k s then refE down (B.size : Int) k (s.size : Int) else bif waits then 11 else 0
def wrB (B : ByteArray) (down waits : Bool) (lets k : Int) (s : ByteArray) : ByteArray := bif wrN B down k s then B else putT B k.toNat (tornS waits lets s)
def wrV (B : ByteArray) (mx v : Int) (down : Bool) (k : Int) (s : ByteArray) : Int := bif wrN B down k s then v else addN' mx v 1
def wrD (B : ByteArray) (down waits : Bool) (k : Int) (s : ByteArray) : Bool := bif wrN B down k s then down else waits
def wrW (B : ByteArray) (down waits : Bool) (k : Int) (s : ByteArray) : Bool := bif wrN B down k s then waits else false
theorem tornS_size (waits : Bool) {lets : Int} (h : 0 ≤ lets) (s : ByteArray) : (tornS waits lets s).size ≤ s.size := by
  unfold tornS
  cases waits
  · exact Nat.le_refl _
  · simp only [cond_true, ByteArray.size_extract]
    omega

set_option maxRecDepth 20000 in
theorem runCUp0 (a v : Int) : runG ΓF1 L0 Try.prog Try.f53 [.ptr 0 0] (MC a v) = some (.v (I (addN' a v 1)), MC a (addN' a v 1)) := by kernel_rfl
def gCUp (xs : List SV) (m : Mem) : Option (Bool × SV × Mem) :=
  match xs, m with
  | [.ptr 0 0], ⟨[[.v (.int .i64 a), .v (.int .i64 v)]], [true], []⟩ => some (true, .v (I (addN' a v 1)), MC a (addN' a v 1))
  | _, _ => none
theorem gCUp_ok : ∀ xs m r m', gCUp xs m = some (true, r, m') → CallOk Try.prog 53 xs m r m' := by
  intro xs m r m' h
  unfold gCUp at h
  split at h
  · rename_i a v
    obtain ⟨h1, rfl, rfl⟩ := some_t2 h
    refine runOk (Λ := L0) OkF1 Try.func53 rfl (fun z _ _ => l0Ok' _ z) ?_
    exact (runCUp0 a v).trans (rfl)
  · cases h
noncomputable def ΓL1 : Orc := addCl 53 gCUp ΓF1
theorem OkL1 : ΓL1.Ok Try.prog := addCl_ok OkF1 gCUp_ok
set_option maxRecDepth 20000 in
theorem runRefuses0 (k n : Int) (down waits : Bool) (lets mx v : Int) (L : List (List Dat)) (mark : Bool) : runG ΓL1 L0 Try.prog Try.f52 [.ptr 0 0, .v (I k), .v (I n)] (FM L mark mx v down waits lets) = (bif down then some (.v (I 11), (FM L mark mx v down waits lets)) else (bif decide (k < 0) then some (.v (I 2), (FM L mark mx v down waits lets)) else (bif decide (k > (L.length : Int)) then some (.v (I 2), (FM L mark mx v down waits lets)) else (bif decide (n < 0) then some (.v (I 2), (FM L mark mx v down waits lets)) else (bif decide (n > wI ((L.length : Int) - k)) then some (.v (I 2), (FM L mark mx v down waits lets)) else some (.v (I 0), (FM L mark mx v down waits lets))))))) := by kernel_rfl
set_option maxRecDepth 20000 in
theorem runRefuses1 (k n : Int) : runG ΓL1 L0 Try.prog Try.f52 [.v (.pointer none), .v (I k), .v (I n)] M0 = some (.v (I 9), M0) := by kernel_rfl
def gRefuses (xs : List SV) (m : Mem) : Option (Bool × Value) :=
  match xs, m with
  | [.ptr 0 0, .v (.int .i64 k), .v (.int .i64 n)], ⟨[[.row 0, .ptr 1 0, .v (.bool down), .v (.bool waits), .v (.int .i64 lets)], [.v (.int .i64 mx), .v (.int .i64 v)]], [true, true], [.live ⟨5, [.num .u8], L, true, mark⟩]⟩ => some (true, I (refE down (L.length : Int) k n))
  | [.v (.pointer none), .v (.int .i64 k), .v (.int .i64 n)], ⟨[], [], []⟩ => some (true, I 9)
  | _, _ => none
theorem gRefuses_ok : ∀ xs m r, gRefuses xs m = some (true, r) → CallOk Try.prog 52 xs m (.v r) m := by
  intro xs m r h
  unfold gRefuses at h
  split at h
  · rename_i k n down waits lets mx v L mark
    obtain ⟨h1, rfl⟩ := some_t h
    refine runOk (Λ := L0) OkL1 Try.func52 rfl (fun z _ _ => l0Ok' _ z) ?_
    exact (runRefuses0 k n down waits lets mx v L mark).trans (by
      unfold refE
      cases down
      · cases decide (k < 0)
        · cases decide (k > (L.length : Int))
          · cases decide (n < 0)
            · cases decide (n > wI ((L.length : Int) - k)) <;> rfl
            · rfl
          · rfl
        · rfl
      · rfl)
  · rename_i k n
    obtain ⟨h1, rfl⟩ := some_t h
    refine runOk (Λ := L0) OkL1 Try.func52 rfl (fun z _ _ => l0Ok' _ z) ?_
    exact (runRefuses1 k n).trans (rfl)
  · cases h
noncomputable def ΓL2 : Orc := addRd 52 gRefuses ΓL1
theorem OkL2 : ΓL2.Ok Try.prog := addRd_ok OkL1 gRefuses_ok
set_option maxRecDepth 20000 in
theorem runTear0 (k : Int) (down waits : Bool) (lets mx v : Int) (L : List (List Dat)) (mark : Bool) : runG ΓL2 L0 Try.prog Try.f20 [.ptr 0 0, .v (I k)] (FM L mark mx v down waits lets) = some (.v (.tuple #[]), FM L mark mx v down true (if k > 0 then k else 0)) := by kernel_rfl
set_option maxRecDepth 20000 in
theorem runTear1 (k : Int) : runG ΓL2 L0 Try.prog Try.f20 [.v (.pointer none), .v (I k)] M0 = some (.v (.tuple #[]), M0) := by kernel_rfl
def gTear (xs : List SV) (m : Mem) : Option (Bool × SV × Mem) :=
  match xs, m with
  | [.ptr 0 0, .v (.int .i64 k)], ⟨[[.row 0, .ptr 1 0, .v (.bool down), .v (.bool waits), .v (.int .i64 lets)], [.v (.int .i64 mx), .v (.int .i64 v)]], [true, true], [.live ⟨5, [.num .u8], L, true, mark⟩]⟩ => some (true, .v (.tuple #[]), FM L mark mx v down true (if k > 0 then k else 0))
  | [.v (.pointer none), .v (.int .i64 k)], ⟨[], [], []⟩ => some (true, .v (.tuple #[]), M0)
  | _, _ => none
theorem gTear_ok : ∀ xs m r m', gTear xs m = some (true, r, m') → CallOk Try.prog 20 xs m r m' := by
  intro xs m r m' h
  unfold gTear at h
  split at h
  · rename_i k down waits lets mx v L mark
    obtain ⟨h1, rfl, rfl⟩ := some_t2 h
    refine runOk (Λ := L0) OkL2 Try.func20 rfl (fun z _ _ => l0Ok' _ z) ?_
    exact (runTear0 k down waits lets mx v L mark).trans (rfl)
  · rename_i k
    obtain ⟨h1, rfl, rfl⟩ := some_t2 h
    refine runOk (Λ := L0) OkL2 Try.func20 rfl (fun z _ _ => l0Ok' _ z) ?_
    exact (runTear1 k).trans (rfl)
  · cases h
noncomputable def ΓL3 : Orc := addCl 20 gTear ΓL2
theorem OkL3 : ΓL3.Ok Try.prog := addCl_ok OkL2 gTear_ok
set_option maxRecDepth 20000 in
theorem runFUp0 (down waits : Bool) (lets mx v : Int) (L : List (List Dat)) (mark : Bool) : runG ΓL3 L0 Try.prog Try.f22 [.ptr 0 0] (FM L mark mx v down waits lets) = some (.v (.tuple #[]), FM L mark mx v false false lets) := by kernel_rfl
set_option maxRecDepth 20000 in
theorem runFUp1  : runG ΓL3 L0 Try.prog Try.f22 [.v (.pointer none)] M0 = some (.v (.tuple #[]), M0) := by kernel_rfl
def gFUp (xs : List SV) (m : Mem) : Option (Bool × SV × Mem) :=
  match xs, m with
  | [.ptr 0 0], ⟨[[.row 0, .ptr 1 0, .v (.bool down), .v (.bool waits), .v (.int .i64 lets)], [.v (.int .i64 mx), .v (.int .i64 v)]], [true, true], [.live ⟨5, [.num .u8], L, true, mark⟩]⟩ => some (true, .v (.tuple #[]), FM L mark mx v false false lets)
  | [.v (.pointer none)], ⟨[], [], []⟩ => some (true, .v (.tuple #[]), M0)
  | _, _ => none
theorem gFUp_ok : ∀ xs m r m', gFUp xs m = some (true, r, m') → CallOk Try.prog 22 xs m r m' := by
  intro xs m r m' h
  unfold gFUp at h
  split at h
  · rename_i down waits lets mx v L mark
    obtain ⟨h1, rfl, rfl⟩ := some_t2 h
    refine runOk (Λ := L0) OkL3 Try.func22 rfl (fun z _ _ => l0Ok' _ z) ?_
    exact (runFUp0 down waits lets mx v L mark).trans (rfl)
  · obtain ⟨h1, rfl, rfl⟩ := some_t2 h
    refine runOk (Λ := L0) OkL3 Try.func22 rfl (fun z _ _ => l0Ok' _ z) ?_
    exact (runFUp1 ).trans (rfl)
  · cases h
noncomputable def ΓL4 : Orc := addCl 22 gFUp ΓL3
theorem OkL4 : ΓL4.Ok Try.prog := addCl_ok OkL3 gFUp_ok
set_option maxRecDepth 20000 in
theorem runFDown0 (down waits : Bool) (lets mx v : Int) (L : List (List Dat)) (mark : Bool) : runG ΓL4 L0 Try.prog Try.f21 [.ptr 0 0] (FM L mark mx v down waits lets) = some (.v (Bo down), (FM L mark mx v down waits lets)) := by kernel_rfl
set_option maxRecDepth 20000 in
theorem runFDown1  : runG ΓL4 L0 Try.prog Try.f21 [.v (.pointer none)] M0 = some (.v (Bo true), M0) := by kernel_rfl
def gFDown (xs : List SV) (m : Mem) : Option (Bool × Value) :=
  match xs, m with
  | [.ptr 0 0], ⟨[[.row 0, .ptr 1 0, .v (.bool down), .v (.bool waits), .v (.int .i64 lets)], [.v (.int .i64 mx), .v (.int .i64 v)]], [true, true], [.live ⟨5, [.num .u8], L, true, mark⟩]⟩ => some (true, Bo down)
  | [.v (.pointer none)], ⟨[], [], []⟩ => some (true, Bo true)
  | _, _ => none
theorem gFDown_ok : ∀ xs m r, gFDown xs m = some (true, r) → CallOk Try.prog 21 xs m (.v r) m := by
  intro xs m r h
  unfold gFDown at h
  split at h
  · rename_i down waits lets mx v L mark
    obtain ⟨h1, rfl⟩ := some_t h
    refine runOk (Λ := L0) OkL4 Try.func21 rfl (fun z _ _ => l0Ok' _ z) ?_
    exact (runFDown0 down waits lets mx v L mark).trans (rfl)
  · obtain ⟨h1, rfl⟩ := some_t h
    refine runOk (Λ := L0) OkL4 Try.func21 rfl (fun z _ _ => l0Ok' _ z) ?_
    exact (runFDown1 ).trans (rfl)
  · cases h
noncomputable def ΓL5 : Orc := addRd 21 gFDown ΓL4
theorem OkL5 : ΓL5.Ok Try.prog := addRd_ok OkL4 gFDown_ok
set_option maxRecDepth 20000 in
theorem runFSize0 (down waits : Bool) (lets mx v : Int) (L : List (List Dat)) (mark : Bool) : runG ΓL5 L0 Try.prog Try.f24 [.ptr 0 0] (FM L mark mx v down waits lets) = some (.v (I (L.length : Int)), (FM L mark mx v down waits lets)) := by kernel_rfl
set_option maxRecDepth 20000 in
theorem runFSize1  : runG ΓL5 L0 Try.prog Try.f24 [.v (.pointer none)] M0 = some (.v (I 0), M0) := by kernel_rfl
def gFSize (xs : List SV) (m : Mem) : Option (Bool × Value) :=
  match xs, m with
  | [.ptr 0 0], ⟨[[.row 0, .ptr 1 0, .v (.bool down), .v (.bool waits), .v (.int .i64 lets)], [.v (.int .i64 mx), .v (.int .i64 v)]], [true, true], [.live ⟨5, [.num .u8], L, true, mark⟩]⟩ => some (true, I (L.length : Int))
  | [.v (.pointer none)], ⟨[], [], []⟩ => some (true, I 0)
  | _, _ => none
theorem gFSize_ok : ∀ xs m r, gFSize xs m = some (true, r) → CallOk Try.prog 24 xs m (.v r) m := by
  intro xs m r h
  unfold gFSize at h
  split at h
  · rename_i down waits lets mx v L mark
    obtain ⟨h1, rfl⟩ := some_t h
    refine runOk (Λ := L0) OkL5 Try.func24 rfl (fun z _ _ => l0Ok' _ z) ?_
    exact (runFSize0 down waits lets mx v L mark).trans (rfl)
  · obtain ⟨h1, rfl⟩ := some_t h
    refine runOk (Λ := L0) OkL5 Try.func24 rfl (fun z _ _ => l0Ok' _ z) ?_
    exact (runFSize1 ).trans (rfl)
  · cases h
noncomputable def ΓL6 : Orc := addRd 24 gFSize ΓL5
theorem OkL6 : ΓL6.Ok Try.prog := addRd_ok OkL5 gFSize_ok
set_option maxRecDepth 20000 in
theorem runFWrites0 (down waits : Bool) (lets mx v : Int) (L : List (List Dat)) (mark : Bool) : runG ΓL6 L0 Try.prog Try.f25 [.ptr 0 0] (FM L mark mx v down waits lets) = some (.v (I v), (FM L mark mx v down waits lets)) := by kernel_rfl
set_option maxRecDepth 20000 in
theorem runFWrites1  : runG ΓL6 L0 Try.prog Try.f25 [.v (.pointer none)] M0 = some (.v (I 0), M0) := by kernel_rfl
def gFWrites (xs : List SV) (m : Mem) : Option (Bool × Value) :=
  match xs, m with
  | [.ptr 0 0], ⟨[[.row 0, .ptr 1 0, .v (.bool down), .v (.bool waits), .v (.int .i64 lets)], [.v (.int .i64 mx), .v (.int .i64 v)]], [true, true], [.live ⟨5, [.num .u8], L, true, mark⟩]⟩ => some (true, I v)
  | [.v (.pointer none)], ⟨[], [], []⟩ => some (true, I 0)
  | _, _ => none
theorem gFWrites_ok : ∀ xs m r, gFWrites xs m = some (true, r) → CallOk Try.prog 25 xs m (.v r) m := by
  intro xs m r h
  unfold gFWrites at h
  split at h
  · rename_i down waits lets mx v L mark
    obtain ⟨h1, rfl⟩ := some_t h
    refine runOk (Λ := L0) OkL6 Try.func25 rfl (fun z _ _ => l0Ok' _ z) ?_
    exact (runFWrites0 down waits lets mx v L mark).trans (rfl)
  · obtain ⟨h1, rfl⟩ := some_t h
    refine runOk (Λ := L0) OkL6 Try.func25 rfl (fun z _ _ => l0Ok' _ z) ?_
    exact (runFWrites1 ).trans (rfl)
  · cases h
noncomputable def ΓL7 : Orc := addRd 25 gFWrites ΓL6
theorem OkL7 : ΓL7.Ok Try.prog := addRd_ok OkL6 gFWrites_ok
set_option maxRecDepth 20000 in
theorem runFRead0 (k n : Int) (down waits : Bool) (lets mx v : Int) (L : List (List Dat)) (mark : Bool) : runG ΓL7 L0 Try.prog Try.f23 [.ptr 0 0, .v (I k), .v (I n)] (FM L mark mx v down waits lets) = (bif refE down (L.length : Int) k n != 0 then some (.v (.tuple #[S ⟨#[]⟩, I (refE down (L.length : Int) k n)]), FM L mark mx v down waits lets) else (bif decide (0 ≤ k) && (decide (k ≤ wI (k + n)) && decide (wI (k + n) ≤ (L.length : Int))) then some (.v (.tuple #[S (strOfNums (numsOf ((L.drop k.toNat).take (wI (k + n) - k).toNat))), I 0]), FM L mark mx v down waits lets) else none)) := by kernel_rfl
set_option maxRecDepth 20000 in
theorem runFRead1 (k n : Int) : runG ΓL7 L0 Try.prog Try.f23 [.v (.pointer none), .v (I k), .v (I n)] M0 = some (.v (.tuple #[S ⟨#[]⟩, I 9]), M0) := by kernel_rfl
noncomputable def gFRead (xs : List SV) (m : Mem) : Option (Bool × Value) :=
  match xs, m with
  | [.ptr 0 0, .v (.int .i64 k), .v (.int .i64 n)], ⟨[[.row 0, .ptr 1 0, .v (.bool down), .v (.bool waits), .v (.int .i64 lets)], [.v (.int .i64 mx), .v (.int .i64 v)]], [true, true], [.live ⟨5, [.num .u8], L, true, mark⟩]⟩ => some (okL L lets, .tuple #[S (bif refE down ((txt L).size : Int) k n != 0 then ⟨#[]⟩ else (txt L).extract k.toNat (k + n).toNat), I (refE down ((txt L).size : Int) k n)])
  | [.v (.pointer none), .v (.int .i64 k), .v (.int .i64 n)], ⟨[], [], []⟩ => some (true, .tuple #[S ⟨#[]⟩, I 9])
  | _, _ => none
theorem gFRead_ok : ∀ xs m r, gFRead xs m = some (true, r) → CallOk Try.prog 23 xs m (.v r) m := by
  intro xs m r h
  unfold gFRead at h
  split at h
  · rename_i k n down waits lets mx v L mark
    obtain ⟨h1, rfl⟩ := some_t h
    refine runOk (Λ := L0) OkL7 Try.func23 rfl (fun z _ _ => l0Ok' _ z) ?_
    exact (runFRead0 k n down waits lets mx v L mark).trans (by
      obtain ⟨hL, hB, h0⟩ := okL_iff.1 h1
      obtain ⟨B, rfl⟩ : ∃ B, L = rowT B := ⟨txt L, hL⟩
      rw [txt_rowT] at hB
      rw [txt_rowT, rowT_len]
      by_cases hr : refE down (B.size : Int) k n = 0
      · obtain ⟨rfl, k0, s0, ks⟩ := (refE_ok (by omega)).1 hr
        rw [hr, wI_id (n := k + n) (by omega), txt_part]
        have g1 : (decide (0 ≤ k) && (decide (k ≤ k + n) && decide (k + n ≤ (B.size : Int)))) = true := by simp; omega
        rw [g1, show k.toNat + (k + n - k).toNat = (k + n).toNat by omega]
        rfl
      · rw [bne_iff_ne.2 hr]
        rfl)
  · rename_i k n
    obtain ⟨h1, rfl⟩ := some_t h
    refine runOk (Λ := L0) OkL7 Try.func23 rfl (fun z _ _ => l0Ok' _ z) ?_
    exact (runFRead1 k n).trans (rfl)
  · cases h
noncomputable def ΓL8 : Orc := addRd 23 gFRead ΓL7
theorem OkL8 : ΓL8.Ok Try.prog := addRd_ok OkL7 gFRead_ok
set_option maxRecDepth 20000 in
theorem runFWrite0 (k : Int) (s : ByteArray) (down waits : Bool) (lets mx v : Int) (L : List (List Dat)) (mark : Bool) : runG ΓL8 L0 Try.prog Try.f19 [.ptr 0 0, .v (I k), .v (S s)] (FM L mark mx v down waits lets) = (bif refE down (L.length : Int) k (s.size : Int) != 0 then some (.v (I (refE down (L.length : Int) k (s.size : Int))), FM L mark mx v down waits lets) else (bif waits then (bif true && (decide (0 ≤ (if (s.size : Int) < lets then (s.size : Int) else lets)) && decide ((if (s.size : Int) < lets then (s.size : Int) else lets) ≤ (s.size : Int))) then (bif decide (0 ≤ k) && (decide (k ≤ (L.length : Int)) && decide ((L.length : Int) ≤ (L.length : Int))) then (bif decide (0 ≤ k) && decide (k + ((s.extract 0 (if (s.size : Int) < lets then (s.size : Int) else lets).toNat).size : Int) ≤ (L.length : Int)) then some (.v (I 11), FM (L.take k.toNat ++ rowN (bytesL (s.extract 0 (if (s.size : Int) < lets then (s.size : Int) else lets).toNat)) ++ L.drop (k.toNat + (s.extract 0 (if (s.size : Int) < lets then (s.size : Int) else lets).toNat).size)) mark mx (addN' mx v 1) true false lets) else none) else none) else none) else (bif decide (0 ≤ k) && (decide (k ≤ (L.length : Int)) && decide ((L.length : Int) ≤ (L.length : Int))) then (bif decide (0 ≤ k) && decide (k + (s.size : Int) ≤ (L.length : Int)) then (bif down then some (.v (I 11), FM (L.take k.toNat ++ rowN (bytesL s) ++ L.drop (k.toNat + s.size)) mark mx (addN' mx v 1) down waits lets) else some (.v (I 0), FM (L.take k.toNat ++ rowN (bytesL s) ++ L.drop (k.toNat + s.size)) mark mx (addN' mx v 1) down waits lets)) else none) else none))) := by kernel_rfl
set_option maxRecDepth 20000 in
theorem runFWrite1 (k : Int) (s : ByteArray) : runG ΓL8 L0 Try.prog Try.f19 [.v (.pointer none), .v (I k), .v (S s)] M0 = some (.v (I 9), M0) := by kernel_rfl
noncomputable def gFWrite (xs : List SV) (m : Mem) : Option (Bool × SV × Mem) :=
  match xs, m with
  | [.ptr 0 0, .v (.int .i64 k), .v (.string s)], ⟨[[.row 0, .ptr 1 0, .v (.bool down), .v (.bool waits), .v (.int .i64 lets)], [.v (.int .i64 mx), .v (.int .i64 v)]], [true, true], [.live ⟨5, [.num .u8], L, true, mark⟩]⟩ => some (okL L lets, .v (I (wrE (txt L) down waits k s)), FM (rowT (wrB (txt L) down waits lets k s)) mark mx (wrV (txt L) mx v down k s) (wrD (txt L) down waits k s) (wrW (txt L) down waits k s) lets)
  | [.v (.pointer none), .v (.int .i64 k), .v (.string s)], ⟨[], [], []⟩ => some (true, .v (I 9), M0)
  | _, _ => none
theorem gFWrite_ok : ∀ xs m r m', gFWrite xs m = some (true, r, m') → CallOk Try.prog 19 xs m r m' := by
  intro xs m r m' h
  unfold gFWrite at h
  split at h
  · rename_i k s down waits lets mx v L mark
    obtain ⟨h1, rfl, rfl⟩ := some_t2 h
    refine runOk (Λ := L0) OkL8 Try.func19 rfl (fun z _ _ => l0Ok' _ z) ?_
    exact (runFWrite0 k s down waits lets mx v L mark).trans (by
      obtain ⟨hL, hB, h0⟩ := okL_iff.1 h1
      obtain ⟨B, rfl⟩ : ∃ B, L = rowT B := ⟨txt L, hL⟩
      rw [txt_rowT] at hB
      rw [txt_rowT, rowT_len]
      by_cases hr : refE down (B.size : Int) k (s.size : Int) = 0
      · obtain ⟨rfl, k0, s0, ks⟩ := (refE_ok (by omega)).1 hr
        have e : wrN B false k s = false := by unfold wrN; rw [hr]; rfl
        unfold wrE wrB wrV wrD wrW tornS
        rw [e, hr]
        have g1 : (decide (0 ≤ k) && (decide (k ≤ (B.size : Int)) && decide ((B.size : Int) ≤ (B.size : Int)))) = true := by simp; omega
        cases waits
        · have g2 : (decide (0 ≤ k) && decide (k + (s.size : Int) ≤ (B.size : Int))) = true := by simp; omega
          rw [g1, g2, rowT_put B s k.toNat]
          rfl
        · have g2 : (true && (decide (0 ≤ (if (s.size : Int) < lets then (s.size : Int) else lets)) && decide ((if (s.size : Int) < lets then (s.size : Int) else lets) ≤ (s.size : Int)))) = true := by simp; split <;> omega
          have g3 : (decide (0 ≤ k) && decide (k + ((s.extract 0 (if (s.size : Int) < lets then (s.size : Int) else lets).toNat).size : Int) ≤ (B.size : Int))) = true := by
            rw [Bool.and_eq_true, decide_eq_true_iff, decide_eq_true_iff, ByteArray.size_extract]
            omega
          rw [g1, g2, g3, rowT_put B (s.extract 0 (if (s.size : Int) < lets then (s.size : Int) else lets).toNat) k.toNat]
          rfl
      · have e : wrN B down k s = true := bne_iff_ne.2 hr
        unfold wrE wrB wrV wrD wrW
        rw [e, bne_iff_ne.2 hr]
        rfl)
  · rename_i k s
    obtain ⟨h1, rfl, rfl⟩ := some_t2 h
    refine runOk (Λ := L0) OkL8 Try.func19 rfl (fun z _ _ => l0Ok' _ z) ?_
    exact (runFWrite1 k s).trans (rfl)
  · cases h
noncomputable def ΓL9 : Orc := addCl 19 gFWrite ΓL8
theorem OkL9 : ΓL9.Ok Try.prog := addCl_ok OkL8 gFWrite_ok
set_option maxRecDepth 20000 in
theorem runFNew0 (n : Int) : runG ΓL9 L0 Try.prog Try.f18 [.v (I n)] M0 = (bif decide (n < 1) then some (.v (.tuple #[Value.pointer none, I 1]), M0) else (bif decide (n > 4096) then some (.v (.tuple #[Value.pointer none, I 1]), M0) else (bif decide (1 ≤ n ∧ n ≤ 8192) then some (.tup [.one (.ptr 0 0), .one (.v (I 0))], FM (repN n 255) true 1000000 0 false false 0) else none))) := by kernel_rfl
def gFNew (xs : List SV) (m : Mem) : Option (Bool × SV × Mem) :=
  match xs, m with
  | [.v (.int .i64 n)], ⟨[], [], []⟩ => some (decide (1 ≤ n ∧ n ≤ 4096), .tup [.one (.ptr 0 0), .one (.v (I 0))], FM (rowT (manyT n.toNat 255)) true 1000000 0 false false 0)
  | _, _ => none
theorem gFNew_ok : ∀ xs m r m', gFNew xs m = some (true, r, m') → CallOk Try.prog 18 xs m r m' := by
  intro xs m r m' h
  unfold gFNew at h
  split at h
  · rename_i n
    obtain ⟨h1, rfl, rfl⟩ := some_t2 h
    refine runOk (Λ := L0) OkL9 Try.func18 rfl (fun z _ _ => l0Ok' _ z) ?_
    exact (runFNew0 n).trans (by
      have h1 := of_decide_eq_true h1
      rw [decide_eq_false (show ¬ n < 1 by omega), decide_eq_false (show ¬ n > 4096 by omega), decide_eq_true (show 1 ≤ n ∧ n ≤ 8192 by omega), rowT_many]
      rfl)
  · cases h
noncomputable def ΓL10 : Orc := addCl 18 gFNew ΓL9
theorem OkL10 : ΓL10.Ok Try.prog := addCl_ok OkL9 gFNew_ok
noncomputable def ΓFl : Orc := ΓL10
theorem OkFl : ΓFl.Ok Try.prog := OkL10
end Go.Proofs.Ytlhgaehjkpjniaa

