/-
  What is done once: tables of sums, made at the first call.
-/
import Derived.Test.YtikekoabadhmiaaGreatYk
import Derived.Test.YtikekoabadhmiaaGreatSx
import Derived.Tactics
import Derived.Tactics2
import Derived.Defers
import Derived.Laws.Pointers
import Derived.Laws.LoneSync
import Derived.RegionTactic
import Derived.RegionCalls
import Derived.ChangeAlike
namespace Go.Proofs.YtikekoabadhmiaaGreat
open Go Go.Proofs Go.Sx
set_option linter.unusedVariables false
/-! crc's table: its rows are made once. -/
/-- A table's cells. -/
def Blk (d st m : Int) (a b : List Int) : List Value := .int .u32 d :: .int .i32 st :: .int .u32 0 :: .int .i64 m :: (a.map (.int .u16) ++ b.map (.int .u32))
def zeroR : List Int := List.replicate 256 0
def tab16 : List Int := (List.range 256).map fun i => ((N16 (i * 256) : Nat) : Int)
def tab32 : List Int := (List.range 256).map fun i => ((N32 i : Nat) : Int)
def blkS (d st m : Int) (a b : List Int) : Mem := ⟨[(Blk d st m a b).map .v], [true], []⟩
theorem xAdd64 : ∀ f xs m r m', addE 87 .i64 f xs m = some (true, r, m') → CallOk Tryz.prog f xs m r m' := addE_ok Tryz.func87 (by kernel_rfl) (by kernel_rfl) (by kernel_rfl) (by kernel_rfl)
noncomputable def Γf0 : Orc := addC (addE 87 .i64) ΓK
theorem Okf0 : Γf0.Ok Tryz.prog := addC_ok OkK xAdd64
noncomputable def Γfi : Orc := exec Tryz.prog Γf0.call Γf0.rd Γf0.eqv (fun _ => false) 300 1
theorem Okfi : Γfi.Ok Tryz.prog := exec_ok mixed names (ext := Γf0.call) (rd := Γf0.rd) (eqv := Γf0.eqv) ⟨Okf0.call, Okf0.rd, Okf0.eqv⟩ 300 1
set_option maxRecDepth 100000 in
theorem runFill : runG Γfi (loopX Γfi Tryz.prog 300 1) Tryz.prog Tryz.f48 [.ptr 0 0] (blkS 0 1 0 zeroR zeroR) = some (.v (.tuple #[]), blkS 0 1 1 tab16 tab32) := by kernel_rfl
theorem fillOk : CallOk Tryz.prog 48 [.ptr 0 0] (blkS 0 1 0 zeroR zeroR) (.v (.tuple #[])) (blkS 0 1 1 tab16 tab32) :=
  runOk Okfi Tryz.func48 rfl (fun z _ _ b _ => loopX_ok Okfi mixed 300 1 b) runFill
end Go.Proofs.YtikekoabadhmiaaGreat

namespace Go.Proofs.YtikekoabadhmiaaGreat
open Go Go.Proofs Go.Sx Go.RowKit
set_option linter.unusedVariables false
/-! sync.Once: what is asked for first is done, then never more. -/
/-- All but one block is as it was. -/
structure One (b : Nat) (w w' : World) : Prop where
  os : w'.os = w.os
  tape : w'.tape = w.tape
  output : w'.output = w.output
  size : w.heap.size ≤ w'.heap.size
  block : ∀ k, k ≠ b → k < w.heap.size → w'.heap[k]? = w.heap[k]?
  froz : ∀ p, p.block < w.heap.size → w'.frozen? p = w.frozen? p
theorem One.trans {b : Nat} {w w1 w2 : World} (h : One b w w1) (k : One b w1 w2) : One b w w2 :=
  ⟨k.os.trans h.os, k.tape.trans h.tape, k.output.trans h.output, Nat.le_trans h.size k.size, fun j hj hl => (k.block j hj (Nat.lt_of_lt_of_le hl h.size)).trans (h.block j hj hl), fun p hp => (k.froz p (Nat.lt_of_lt_of_le hp h.size)).trans (h.froz p hp)⟩
theorem One.setCell (b n : Nat) (x : Value) (w : World) : One b w (w.setCell ⟨b, n, none⟩ x) :=
  ⟨rfl, rfl, rfl, by simp, fun k hk _ => Below.heap_setCell _ _ _ _ hk, fun p _ => World.frozen?_setCell _ _ _ _⟩
theorem One.drew (b : Nat) (w : World) : One b w w.drew := ⟨rfl, rfl, rfl, Nat.le_refl _, fun _ _ _ => rfl, fun _ _ => rfl⟩
/-- A table lies here. -/
def At (w : World) (b o : Nat) (cs : List Value) : Prop := ∀ (j : Nat) x, cs[j]? = some x → w.cell? ⟨b, o + j, none⟩ = some x ∧ w.frozen? ⟨b, o + j, none⟩ = false
theorem At.set {w : World} {b o : Nat} {cs : List Value} (h : At w b o cs) {n : Nat} {x : Value} (hn : n < cs.length) : At (w.setCell ⟨b, o + n, none⟩ x) b o (cs.set n x) := by
  intro j y hy
  rw [World.frozen?_setCell]
  rw [List.getElem?_set] at hy
  by_cases hj : n = j
  · subst hj
    simp [hn] at hy
    subst hy
    have h1 := h n cs[n] (by simp [hn])
    exact ⟨World.cell?_setCell_same _ _ _ h1.1, h1.2⟩
  · simp only [if_neg hj] at hy
    have h1 := h j y hy
    exact ⟨by rw [World.cell?_setCell_other _ _ _ _ (fun e => by injection e with _ e; omega)]; exact h1.1, h1.2⟩
/-- A call that is lent one block of plain values, by its contract. -/
theorem calls_one {f : FuncId} {cs cs' : List Value} {r : Value} (h : CallOk Tryz.prog f [.ptr 0 0] ⟨[cs.map .v], [true], []⟩ (.v r) ⟨[cs'.map .v], [true], []⟩) {w : World} {b o : Nat} (hb : b < w.heap.size) (ha : At w b o cs)
    (he : (callFunc f #[.pointer (some ⟨b, o, none⟩)]).run Tryz.prog w = .ok (.enter f #[.pointer (some ⟨b, o, none⟩)]) w) :
    Calls Tryz.prog f #[.pointer (some ⟨b, o, none⟩)] w fun e w' => e = .returned r ∧ One b w w' ∧ At w' b o cs' := by
  let z : Base := ⟨w, [(b, o)], [], [], fun _ => False⟩
  let V : Vl := ⟨fun i => if i = 0 then some (b, o) else none, fun _ => none, fun _ => none⟩
  have vb : ∀ l q, V.b l = some q → l = 0 ∧ q = (b, o) := by
    intro l q hq
    simp only [V] at hq
    split at hq
    · rename_i h0
      exact ⟨h0, (Option.some.inj hq).symm⟩
    · cases hq
  have hL : Lent z ⟨[cs.map .v], [true], []⟩ V := by
    refine { bl := (rfl : (1 : Nat) = 1), b := fun i => ?_, ul := (rfl : (0 : Nat) = 0), u := fun j u hu => absurd hu (by simp [z]), rl := fun g => ⟨fun hg => absurd hg (by simp [z]), ?_⟩ }
    · cases i with
      | zero => rfl
      | succ i => simp [V, z]
    · rintro ⟨j, rc, u, h1, _⟩
      exact absurd h1 (by simp [Sx.rowAt])
  have hM : MemOk z ⟨[cs.map .v], [true], []⟩ V z.w := by
    refine { len := fun t x hx => absurd hx (by simp [Tr.get]), tmps := fun t x hx => absurd hx (by simp [Tr.get]), defers := rfl, lens := rfl, mem := ?_, inj := ?_, own := ?_, lent := ?_, base0 := ?_, dom := ?_, lentr := fun j u hu => absurd hu (by simp [z]), rows := fun r rc hr => absurd hr (by simp [Sx.rowAt]), rowsN := fun r _ => rfl, apart := fun r r' rc rc' u u' g h1 => absurd h1 (by simp [Sx.rowAt]), apartb := fun r rc u g l b' o' h1 => absurd h1 (by simp [Sx.rowAt]), below := ⟨rfl, rfl, rfl, Nat.le_refl _, fun _ _ => rfl⟩, froz := fun _ _ => rfl, lits := LitsOk.none fun _ => rfl, sk := fun _ h => h.elim, qs := fun g cs h => absurd h (by simp [V]) }
    · intro l b' o' hl cs1 hcs j x hx
      obtain ⟨rfl, hq⟩ := vb l _ hl
      injection hq with e1 e2
      subst e1 e2
      simp at hcs
      subst hcs
      rw [List.getElem?_map] at hx
      cases hv : cs[j]? with
      | none => rw [hv] at hx; cases hx
      | some v =>
        rw [hv] at hx
        injection hx with hx
        subst hx
        obtain ⟨a1, a2⟩ := ha j v hv
        exact ⟨v, a1, rfl, a2⟩
    · intro l l' b1 o1 b2 o2 h1 h2 hne
      exact absurd ((vb l _ h1).1.trans (vb l' _ h2).1.symm) hne
    · intro l b' o' hl
      obtain ⟨rfl, hq⟩ := vb l _ hl
      injection hq with e1 e2
      subst e1 e2
      exact ⟨.inr (by simp [z]), hb⟩
    · intro l q hq
      cases l with
      | zero => exact hq
      | succ l => simp [z] at hq
    · intro l b' o' hl h0
      obtain ⟨rfl, _⟩ := vb l _ hl
      simp [z] at h0
    · intro l hl
      obtain ⟨q, hq⟩ := Option.ne_none_iff_exists'.1 hl
      obtain ⟨rfl, _⟩ := vb l q hq
      rfl
  have hA : DenL (Den V) [.ptr 0 0] [.pointer (some ⟨b, o, none⟩)] := ⟨⟨b, o, rfl, rfl⟩, trivial⟩
  rcases h z V [.pointer (some ⟨b, o, none⟩)] hL hM hA with ⟨y, w', h1, _⟩ | ⟨_, h2⟩
  · rw [show ([.pointer (some ⟨b, o, none⟩)] : List Value).toArray = #[.pointer (some ⟨b, o, none⟩)] from rfl, he] at h1
    cases h1
  · refine h2.mono fun e w' ⟨y, he, V', hd, hm⟩ => ?_
    have hd : y = r := hd
    subst hd
    have hv0 := hm.lent 0 (b, o) rfl
    refine ⟨he, ⟨hm.below.os, hm.below.tape, hm.below.output, hm.below.size, fun k hk hl => hm.below.block k ⟨hl, fun o' ho => ?_, by simp [z]⟩, fun p hp => hm.froz p hp⟩, fun j x hx => ?_⟩
    · simp [z] at ho
      exact hk ho.1
    · obtain ⟨y', c1, c2, c3⟩ := hm.mem 0 b o hv0 (cs'.map .v) rfl j (.v x) (by rw [List.getElem?_map, hx]; rfl)
      have c2 : y' = x := c2
      subst c2
      exact ⟨c1, c3⟩
/-- One block that is lent, put over. -/
theorem memOk_one {z : Base} {V : Vl} {cs : List SA} {cs' : List Value} {b o : Nat} {w' : World} (hl : Lent z ⟨[cs], [true], []⟩ V) (hm : MemOk z ⟨[cs], [true], []⟩ V z.w) (hb : V.b 0 = some (b, o)) (hs : One b z.w w') (ha : At w' b o cs') :
    MemOk z ⟨[cs'.map .v], [true], []⟩ V w' := by
  have hL0 : z.L[0]? = some (b, o) := by rw [← hl.b]; exact hb
  have vb : ∀ l q, V.b l = some q → l = 0 ∧ q = (b, o) := by
    intro l q hq
    have h1 : z.L[l]? = some q := by rw [← hl.b]; exact hq
    have h2 := (List.getElem?_eq_some_iff.1 h1).1
    have h3 : z.L.length = 1 := hl.bl
    have : l = 0 := by omega
    subst this
    rw [hb] at hq
    injection hq with hq
    exact ⟨rfl, hq.symm⟩
  have hq0 : ∀ g, V.q g = none := by
    intro g
    cases hq : V.q g with
    | none => rfl
    | some cs1 =>
      have h1 := hm.qs g cs1 hq
      have h2 := hm.lits.lt hq
      rcases h1 with h1 | h1
      · exact absurd h2 (by have : z.w.heap.size ≤ g := h1; omega)
      · obtain ⟨j, rc, u, h3, _⟩ := (hl.rl g).1 h1
        exact absurd h3 (by simp [Sx.rowAt])
  refine { hm with lens := rfl, mem := ?_, own := ?_, rows := fun r rc hr => absurd hr (by simp [Sx.rowAt]), dom := ?_, apart := fun r r' rc rc' u u' g h1 => absurd h1 (by simp [Sx.rowAt]), apartb := fun r rc u g l b' o' h1 => absurd h1 (by simp [Sx.rowAt]), below := ?_, froz := ?_, lits := LitsOk.none hq0, rowsN := fun r hr => hm.rowsN r hr }
  · intro l b' o' hl' cs1 hcs j x hx
    obtain ⟨rfl, hq⟩ := vb l _ hl'
    injection hq with e1 e2
    subst e1 e2
    simp at hcs
    subst hcs
    rw [List.getElem?_map] at hx
    cases hv : cs'[j]? with
    | none => rw [hv] at hx; cases hx
    | some v =>
      rw [hv] at hx
      injection hx with hx
      subst hx
      obtain ⟨a1, a2⟩ := ha j v hv
      exact ⟨v, a1, rfl, a2⟩
  · intro l b' o' hl'
    obtain ⟨h1, h2⟩ := hm.own l b' o' hl'
    exact ⟨h1, Nat.lt_of_lt_of_le h2 hs.size⟩
  · intro l hl'
    obtain ⟨q, hq⟩ := Option.ne_none_iff_exists'.1 hl'
    obtain ⟨rfl, _⟩ := vb l q hq
    rfl
  · refine ⟨hs.os, hs.tape, hs.output, hs.size, fun k hk => hs.block k ?_ hk.1⟩
    rintro rfl
    exact hk.2.1 o (List.mem_of_getElem? hL0)
  · intro p hp
    exact hs.froz p hp
end Go.Proofs.YtikekoabadhmiaaGreat

namespace Go.Proofs.YtikekoabadhmiaaGreat
open Go Go.Proofs Go.Sx
set_option linter.unusedVariables false
theorem disable (w : World) : (callFunc 105 #[]).run Tryz.prog w = .ok (.value (.tuple #[])) w := run_call_mark0 Tryz.func105 (by kernel_rfl) (by kernel_rfl) (by kernel_rfl) .disable (by kernel_rfl) w
theorem enable (w : World) : (callFunc 107 #[]).run Tryz.prog w = .ok (.value (.tuple #[])) w := run_call_mark0 Tryz.func107 (by kernel_rfl) (by kernel_rfl) (by kernel_rfl) .enable (by kernel_rfl) w
theorem acquire (a : Addr) (w : World) : (callFunc 108 #[.pointer (some a)]).run Tryz.prog w = .ok (.value (.tuple #[])) w := run_call_marked Tryz.func108 (by kernel_rfl) (by kernel_rfl) (by kernel_rfl) .acquire (by kernel_rfl) a w
theorem releaseMerge (a : Addr) (w : World) : (callFunc 110 #[.pointer (some a)]).run Tryz.prog w = .ok (.value (.tuple #[])) w := run_call_marked Tryz.func110 (by kernel_rfl) (by kernel_rfl) (by kernel_rfl) .releaseMerge (by kernel_rfl) a w

/-- '(*sync/atomic.Bool).Store(true)', entered as a deferred call: the cell holds 1. -/
theorem store_deferred (a : Addr) (x : Value) (u : FrameMode) (w : World) (hc : w.cell? a = some x) (hz : w.frozen? a = false) :
    CallsD Tryz.prog 86 #[.pointer (some a), .bool true] u w fun e u' w' => u' = u ∧ (e = .returned (.tuple #[]) ∧ w' = w.drew.setCell a (.int .u32 1)) := by
  have hc' : w.drew.cell? a = some x := by go_simp
  have hz' : w.drew.frozen? a = false := by go_simp
  have hst := run_call_store (P := Tryz.prog) Tryz.func97 (by kernel_rfl) (by kernel_rfl) (by kernel_rfl) (by kernel_rfl) (k := .u32) (y := 1) hc' hz'
  go_enter_d Tryz.func86, Tryz.ntmps86
  go_wp2
  go_region_calls
  all_goals (go_end0; exact ⟨rfl, rfl⟩)

set_option maxRecDepth 20000 in
/-- '(*sync.Mutex).Unlock', entered as a deferred call, the lock held and nobody waiting (state 1): state 0. -/
theorem unlock_deferred (a : Addr) (u : FrameMode) (w : World) (hc : w.cell? a = some (.int .i32 1)) (hz : w.frozen? a = false) :
    CallsD Tryz.prog 85 #[.pointer (some a)] u w fun e u' w' => u' = u ∧ (e = .returned (.tuple #[]) ∧ w' = w.setCell a (.int .i32 0)) := by
  have hd := disable
  have he := enable
  have hr := releaseMerge
  have hadd := run_call_add (P := Tryz.prog) Tryz.func111 (by kernel_rfl) (by kernel_rfl) (by kernel_rfl) .i32 (by kernel_rfl) (y := -1) (s := 0) hc hz (by simp [go_sem]; rfl)
  have hcv := run_convert_to_unsafe (P := Tryz.prog) (src := 148) (dst := 152) Tryz.underlying148 Tryz.underlying152 (by kernel_rfl) hc
  go_enter_d Tryz.func85, Tryz.ntmps85
  go_wp2
  go_end0
  go_wp2
  go_end0
  exact ⟨rfl, rfl⟩

set_option maxRecDepth 20000 in
/-- '(*sync.Mutex).Lock', the lock free (state 0): state 1. -/
theorem lock_free (a : Addr) (w : World) (hc : w.cell? a = some (.int .i32 0)) (hz : w.frozen? a = false) :
    Calls Tryz.prog 84 #[.pointer (some a)] w fun e w' => e = .returned (.tuple #[]) ∧ w' = w.setCell a (.int .i32 1) := by
  have hd := disable
  have he := enable
  have ha := acquire
  have hcas := run_call_cas_hit (P := Tryz.prog) Tryz.func106 (by kernel_rfl) (by kernel_rfl) (by kernel_rfl) .i32 (by kernel_rfl) (y := 1) hc hz
  have hc' : (w.setCell a (.int .i32 1)).cell? a = some (.int .i32 1) := World.cell?_setCell_same w a _ hc
  have hcv := run_convert_to_unsafe (P := Tryz.prog) (src := 148) (dst := 152) Tryz.underlying148 Tryz.underlying152 (by kernel_rfl) hc'
  go_enter Tryz.func84, Tryz.ntmps84
  go_wp2
  first | go_end0 | (simp only [Exit.inBlock, Exit.then]; refine bodyPost_ret (results_none rfl _ _ _) rfl ?_) | refine bodyPost_ret (results_none rfl _ _ _) rfl ?_
  go_wp2
  go_end0
  exact ⟨rfl, rfl⟩
end Go.Proofs.YtikekoabadhmiaaGreat

namespace Go.Proofs.YtikekoabadhmiaaGreat
open Go Go.Proofs Go.Sx
set_option linter.unusedVariables false
theorem fill_calls (w : World) (b o : Nat) (hb : b < w.heap.size) (h : At w b o (Blk 0 1 0 zeroR zeroR)) :
    Calls Tryz.prog 48 #[.pointer (some ⟨b, o, none⟩)] w fun e w' => e = .returned (.tuple #[]) ∧ One b w w' ∧ At w' b o (Blk 0 1 1 tab16 tab32) :=
  calls_one fillOk hb h (callFunc_enter Tryz.func48 (by kernel_rfl) (names_of names Tryz.func48 (by kernel_rfl)) w)
set_option maxRecDepth 20000 in
theorem slow_any (b o : Nat) (w : World) (hb : b < w.heap.size) (h : At w b o (Blk 0 0 0 zeroR zeroR)) :
    Calls Tryz.prog 66 #[.pointer (some ⟨b, o, none⟩), .func (.func 48) #[.pointer (some ⟨b, o, none⟩)] #[]] w fun e w' => e = .returned (.tuple #[]) ∧
      ∃ w2, One b w w2 ∧ At w2 b o (Blk 0 1 1 tab16 tab32) ∧ w' = (w2.drew.setCell ⟨b, o, none⟩ (.int .u32 1)).setCell ⟨b, o + 1, none⟩ (.int .i32 0) := by
  have h0 : w.cell? ⟨b, o, none⟩ = some (.int .u32 0) := (h 0 _ rfl).1
  have h1 : w.cell? ⟨b, o + 1, none⟩ = some (.int .i32 0) := (h 1 _ rfl).1
  have f1 : w.frozen? ⟨b, o + 1, none⟩ = false := (h 1 _ rfl).2
  have hA : At (w.setCell ⟨b, o + 1, none⟩ (.int .i32 1)) b o (Blk 0 1 0 zeroR zeroR) := h.set (n := 1) (x := .int .i32 1) (by simp [Blk])
  have hl := run_call_load (P := Tryz.prog) Tryz.func83 (by kernel_rfl) (by kernel_rfl) (by kernel_rfl) .u32 (by kernel_rfl) (w := w.setCell ⟨b, o + 1, none⟩ (.int .i32 1)) (a := ⟨b, o, none⟩) (x := 0) ((World.cell?_setCell_other _ ⟨b, o + 1, none⟩ ⟨b, o, none⟩ _ (by simp)).trans h0)
  have hnot : ∀ (x : Bool) (w : World), (Op.unary .not (.bool x)).run Tryz.prog w = .ok (.bool (!x)) w := fun _ _ => rfl
  go_enter_defers Tryz.func66, Tryz.ntmps66
  go_wp2_with (first | (go_at_call 84; refine (lock_free ⟨b, o + 1, none⟩ _ (by go_simp) (by go_simp)).mono ?_; rintro e w' ⟨rfl, rfl⟩) | (go_at_call 65; go_in) | (go_at_call 48; refine (fill_calls _ b o (by simpa using hb) hA).mono ?_; rintro e w2 ⟨rfl, hE, hE2⟩))
  have e0 := hE2 0 (.int .u32 0) rfl
  have e1 := hE2 1 (.int .i32 1) rfl
  refine leaves_cons (f := 86) (args := #[.pointer (some ⟨b, o, none⟩), .bool true]) (by simp) (by simp [go_sem]) ?_
  refine (store_deferred ⟨b, o, none⟩ (.int .u32 0) .returning _ e0.1 e0.2).mono ?_
  rintro e u' w'' ⟨rfl, rfl, rfl⟩
  refine leaves_cons (f := 85) (args := #[.pointer (some ⟨b, o + 1, none⟩)]) (by simp [settle]) (by simp [go_sem]) ?_
  refine (unlock_deferred ⟨b, o + 1, none⟩ _ _ ?_ ?_).mono ?_
  · rw [World.cell?_setCell_other _ ⟨b, o, none⟩ ⟨b, o + 1, none⟩ _ (by simp), World.cell?_drew]
    exact e1.1
  · rw [World.frozen?_setCell]
    exact e1.2
  rintro e u' w'' ⟨rfl, rfl, rfl⟩
  simp [Leaves, settle, results, Tryz.results66]
  exact ⟨w2, (One.setCell b (o + 1) (.int .i32 1) w).trans hE, hE2, rfl⟩
set_option maxRecDepth 20000 in
theorem do_first (b o : Nat) (w : World) (hb : b < w.heap.size) (h : At w b o (Blk 0 0 0 zeroR zeroR)) :
    Calls Tryz.prog 47 #[.pointer (some ⟨b, o, none⟩), .func (.func 48) #[.pointer (some ⟨b, o, none⟩)] #[]] w fun e w' => e = .returned (.tuple #[]) ∧
      ∃ w2, One b w w2 ∧ At w2 b o (Blk 0 1 1 tab16 tab32) ∧ w' = (w2.drew.setCell ⟨b, o, none⟩ (.int .u32 1)).setCell ⟨b, o + 1, none⟩ (.int .i32 0) := by
  have h0 : w.cell? ⟨b, o, none⟩ = some (.int .u32 0) := (h 0 _ rfl).1
  have hl := run_call_load (P := Tryz.prog) Tryz.func83 (by kernel_rfl) (by kernel_rfl) (by kernel_rfl) .u32 (by kernel_rfl) h0
  have hnot : ∀ (x : Bool) (w : World), (Op.unary .not (.bool x)).run Tryz.prog w = .ok (.bool (!x)) w := fun _ _ => rfl
  go_enter Tryz.func47, Tryz.ntmps47
  go_wp2_with (first | (go_at_call 66; refine (slow_any b o _ hb h).mono ?_; rintro e w' ⟨rfl, w2, hE, hE2, rfl⟩) | (go_at_call 65; go_in))
  go_end0
  exact ⟨rfl, w2, hE, hE2, rfl⟩
set_option maxRecDepth 20000 in
theorem do_done (a : Addr) (fv : Value) (w : World) (h0 : w.cell? a = some (.int .u32 1)) :
    Calls Tryz.prog 47 #[.pointer (some a), fv] w fun e w' => e = .returned (.tuple #[]) ∧ w' = w := by
  have hl := run_call_load (P := Tryz.prog) Tryz.func83 (by kernel_rfl) (by kernel_rfl) (by kernel_rfl) .u32 (by kernel_rfl) h0
  have hnot : ∀ (x : Bool) (w : World), (Op.unary .not (.bool x)).run Tryz.prog w = .ok (.bool (!x)) w := fun _ _ => rfl
  go_enter Tryz.func47, Tryz.ntmps47
  go_wp2
  go_end0
  exact ⟨rfl, rfl⟩
/-- A table that isn't made yet; one that is. -/
def newB : List Value := Blk 0 0 0 zeroR zeroR
def madeB : List Value := Blk 1 0 1 tab16 tab32
/-- What Do is handed: the block, and what fills it. -/
theorem do_args {z : Base} {V : Vl} {vs : List Value} (hA : DenL (Den V) [.ptr 0 0, .clo 48 0 0] vs) : ∃ b o, V.b 0 = some (b, o) ∧ vs = [.pointer (some ⟨b, o, none⟩), .func (.func 48) #[.pointer (some ⟨b, o, none⟩)] #[]] := by
  match vs, hA with
  | [x, y], ⟨⟨b, o, h1, h2⟩, ⟨b', o', h3, h4⟩, _⟩ =>
    rw [h1] at h3
    injection h3 with h3
    injection h3 with e1 e2
    subst e1 e2
    refine ⟨b, o, h1, ?_⟩
    rw [h2, h4]
    unfold cloV
    rw [if_pos (show (48 : Nat) < capN by decide)]
    rfl
theorem doFirst : CallOk Tryz.prog 47 [.ptr 0 0, .clo 48 0 0] ⟨[newB.map .v], [true], []⟩ (.v (.tuple #[])) ⟨[madeB.map .v], [true], []⟩ := by
  intro z V vs hl hm ha
  obtain ⟨b, o, hb, rfl⟩ := do_args (z := z) ha
  have hat : At z.w b o newB := fun j x hx => by
    obtain ⟨y, c1, c2, c3⟩ := hm.mem 0 b o hb (newB.map .v) rfl j (.v x) (by rw [List.getElem?_map, hx]; rfl)
    have c2 : y = x := c2
    subst c2
    exact ⟨c1, c3⟩
  refine .inr ⟨callFunc_enter Tryz.func47 (by kernel_rfl) (names_of names Tryz.func47 (by kernel_rfl)) z.w, ?_⟩
  refine (do_first b o z.w (hm.own 0 b o hb).2 hat).mono ?_
  rintro e w' ⟨rfl, w2, hE, hE2, rfl⟩
  have k0 : At w2.drew b o (Blk 0 1 1 tab16 tab32) := hE2
  have k1 := (k0.set (n := 0) (x := .int .u32 1) (by simp [Blk])).set (n := 1) (x := .int .i32 0) (by simp [Blk])
  exact ⟨_, rfl, V, rfl, memOk_one (b := b) (o := o) (cs' := madeB) hl hm hb (((hE.trans (One.drew b w2)).trans (One.setCell b o _ _)).trans (One.setCell b (o + 1) _ _)) k1⟩
theorem doDone : CallOk Tryz.prog 47 [.ptr 0 0, .clo 48 0 0] ⟨[madeB.map .v], [true], []⟩ (.v (.tuple #[])) ⟨[madeB.map .v], [true], []⟩ := by
  intro z V vs hl hm ha
  obtain ⟨b, o, hb, rfl⟩ := do_args (z := z) ha
  obtain ⟨y, c1, c2, c3⟩ := hm.mem 0 b o hb (madeB.map .v) rfl 0 (.v (.int .u32 1)) rfl
  have c2 : y = .int .u32 1 := c2
  subst c2
  refine .inr ⟨callFunc_enter Tryz.func47 (by kernel_rfl) (names_of names Tryz.func47 (by kernel_rfl)) z.w, ?_⟩
  refine (do_done ⟨b, o, none⟩ _ z.w c1).mono ?_
  rintro e w' ⟨rfl, rfl⟩
  exact ⟨_, rfl, V, rfl, hm⟩
/-! which of the two it is -/
def eqI (a : SA) (b : Value) : Bool :=
  match a, b with
  | .v (.int k x), .int k' y => decide (k = k') && decide (x = y)
  | _, _ => false
def eqL : List SA → List Value → Bool
  | [], [] => true
  | x :: a, y :: b => eqI x y && eqL a b
  | _, _ => false
theorem eqI_eq {x : SA} {y : Value} (h : eqI x y = true) : x = .v y := by
  unfold eqI at h
  split at h
  · simp only [Bool.and_eq_true, decide_eq_true_eq] at h
    rw [h.1, h.2]
  · cases h
theorem eqL_eq : ∀ {a : List SA} {b : List Value}, eqL a b = true → a = b.map .v
  | [], [], _ => rfl
  | x :: a, y :: b, h => by
    simp only [eqL, Bool.and_eq_true] at h
    rw [eqI_eq h.1, eqL_eq h.2]
    rfl
  | [], _ :: _, h => by cases h
  | _ :: _, [], h => by cases h
def doneB (cs : List SA) : Bool :=
  match cs with
  | .v (.int .u32 d) :: _ => decide (d = 1)
  | _ => false
def isTab (cs : List SA) : Bool := bif doneB cs then eqL cs madeB else eqL cs newB
def gDo (xs : List SV) (m : Mem) : Option (Bool × SV × Mem) :=
  match xs, m with
  | [.ptr 0 0, .clo f 0 0], ⟨[cs], [true], []⟩ => match Nat.beq f 48 with
    | true => some (isTab cs, .v (.tuple #[]), ⟨[madeB.map .v], [true], []⟩)
    | false => none
  | _, _ => none
theorem gDo_ok : ∀ xs m r m', gDo xs m = some (true, r, m') → CallOk Tryz.prog 47 xs m r m' := by
  intro xs m r m' h
  unfold gDo at h
  split at h
  · split at h
    · rename_i f cs _ hf
      obtain rfl := Nat.eq_of_beq_eq_true hf
      obtain ⟨h1, rfl, rfl⟩ := some_t2 h
      unfold isTab at h1
      cases hd : doneB cs
      · rw [hd] at h1
        rw [eqL_eq h1]
        exact doFirst
      · rw [hd] at h1
        rw [eqL_eq h1]
        exact doDone
    · cases h
  · cases h
noncomputable def ΓDo : Orc := addCl 47 gDo Γf0
theorem OkDo : ΓDo.Ok Tryz.prog := addCl_ok Okf0 gDo_ok
end Go.Proofs.YtikekoabadhmiaaGreat

