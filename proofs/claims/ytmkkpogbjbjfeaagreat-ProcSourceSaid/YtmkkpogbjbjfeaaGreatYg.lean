/-
  A source's frames count on its own port alone: a law over values.
-/
import Derived.Test.YtmkkpogbjbjfeaaGreatYe
import Derived.Test.YtmkkpogbjbjfeaaGreatYf
import Derived.Test.YtmkkpogbjbjfeaaGreatPs
import Derived.Test.YtmkkpogbjbjfeaaGreatSx
namespace Go.Proofs.YtmkkpogbjbjfeaaGreat
open Go Go.Proofs Go.Sx
set_option linter.unusedVariables false
/-! norm -/
/-! cast -/
/-! rep ((L.getD i.toNat []).headD (Dat.n (0 : Int))).toI => (kAt L i) -/
/-! Lists of frames without any of a kind. -/
def kAt (L : List (List Dat)) (i : Int) : Int := ((L.getD i.toNat []).headD (Dat.n (0 : Int))).toI
abbrev rFr (L : List (List Dat)) (own mark : Bool) : RowS := .live ⟨192, [.num .i64, .str], L, own, mark⟩
def nvK : List CK := [.num .i64, .num .i64, .num .i64, .num .i64, .num .i64, .num .i64, .num .i64, .num .i64]
abbrev rNv (L : List (List Dat)) : RowS := .live ⟨51, nvK, L, true, false⟩
def noK (L : List (List Dat)) (K : Int) : Bool := !anyN (fun i => !(kAt L i != K)) L.length 0
def kdI (i : Int) : Int := bif decide (i < 0) then -1 else bif decide (i ≥ 2) then -1 else wI (16 + i)
set_option maxRecDepth 20000 in
theorem runKd (i : Int) : runG ΓP24 L0 Tryz.prog Tryz.f54 [.v (I i)] M0 = 
    (bif decide (i < (0 : Int)) then some (.v (I (-1)), M0) else (bif decide (i ≥ (2 : Int)) then some (.v (I (-1)), M0) else some (.v (I (wI ((16 : Int) + i))), M0))) := by kernel_rfl
def gKd (vs : List Value) : Option (Bool × Value) :=
  match vs with
  | [.int .i64 i] => some (true, I (kdI i))
  | _ => none
theorem gKd_ok : ∀ vs r, gKd vs = some (true, r) → ∀ m, CallOk Tryz.prog 54 (vs.map .v) m (.v r) m := by
  intro vs r h
  unfold gKd at h
  split at h
  · rename_i i
    obtain ⟨_, rfl⟩ := some_t h
    refine runV (vs := [I i]) (Λ := L0) (m' := M0) OkP24 Tryz.func54 rfl (fun z _ _ => noLoops (by kernel_rfl) z) ((runKd i).trans ?_)
    unfold kdI
    cases decide (i < 0) <;> cases decide (i ≥ 2) <;> rfl
  · cases h
noncomputable def Γrn : Orc := addVal 54 gKd { ΓP24 with av := true }
theorem Okrn : Γrn.Ok Tryz.prog := addVal_ok (Γ := { ΓP24 with av := true }) ⟨OkP24.call, OkP24.rd, OkP24.eqv⟩ gKd_ok
noncomputable def bdRn : Code := loopAt (Tryz.f80.body.getD .skip) 0
def kRn : List Bool := maskOf 35 [1,5,10,11,12]
def xRn (e : Ex) : List Bool := match e with
  | .exit _ => maskOf 35 [5]
  | .ret => maskOf 35 [4]
  | .normal => maskOf 35 [1,5,10,11,12]
def KRn (e : Ex) (st : St) : Option (Ex × St) := some (e, cutC 0 1 (xRn e) st)
set_option maxRecDepth 20000 in
theorem stepRn (q i nn : Int) (L : List (List Dat)) (own mark : Bool) (n : Nat) : evLoop Γrn Tryz.prog L0 (cutC 0 1 kRn) bdRn (n + 1) (mk kRn [.v (I q), .row 1, .row 0, .v (I nn), .v (I i)] ⟨[], [], [rFr L own mark, rNv []]⟩) KRn =
    (bif decide (i < nn) then (bif decide ((0 : Int) ≤ i) && decide (i < (L.length : Int)) then (bif (kAt L i) != kdI q then evLoop Γrn Tryz.prog L0 (cutC 0 1 kRn) bdRn n (mk kRn [.v (I q), .row 1, .row 0, .v (I nn), .v (I (wI (i + (1 : Int))))] ⟨[], [], [.live ⟨192, [.num .i64, .str], L, own, mark⟩, .live ⟨51, [.num .i64, .num .i64, .num .i64, .num .i64, .num .i64, .num .i64, .num .i64, .num .i64], [], true, false⟩]⟩) KRn else none) else none) else some ((.exit 0), mk (xRn (.exit 0)) [.row 1] ⟨[], [], [.live ⟨192, [.num .i64, .str], L, own, mark⟩, .live ⟨51, [.num .i64, .num .i64, .num .i64, .num .i64, .num .i64, .num .i64, .num .i64, .num .i64], [], true, false⟩]⟩)) := by kernel_rfl
noncomputable def ERn (q : Int) (n : Nat) (i : Int) (nn : Int) (L : List (List Dat)) (own mark : Bool) : Option (Ex × St) :=
  evLoop Γrn Tryz.prog L0 (cutC 0 1 kRn) bdRn n (mk kRn [.v (I q), .row 1, .row 0, .v (I nn), .v (I i)] ⟨[], [], [rFr L own mark, rNv []]⟩) KRn
def lfRn (L : List (List Dat)) (own mark : Bool) : Ex × St := (.exit 0, mk (xRn (.exit 0)) [.row 1] ⟨[], [], [rFr L own mark, rNv []]⟩)
/-- Rounds that all go on. -/
theorem allOn {α : Type} (p : Int → Bool) (N : Int) (E : Nat → Int → Option α) (X : Option α) (he : ∀ n k, ¬ k < N → E (n + 1) k = X) (hr : ∀ n k, 0 ≤ k ∧ k < N → p k = true → E (n + 1) k = E n (k + 1)) :
    ∀ (m : Nat) (k : Int), 0 ≤ k → k + m = N → anyN (fun i => !p i) m k = false → E (m + 1) k = X := by
  intro m
  induction m with
  | zero => intro k h0 h1 _; exact he 0 k (by omega)
  | succ m ih =>
    intro k h0 h1 h
    have h' : (!p k || anyN (fun i => !p i) m (k + 1)) = false := h
    rw [Bool.or_eq_false_iff, Bool.not_eq_false'] at h'
    rw [hr (m + 1) k (by omega) h'.1]
    exact ih (k + 1) (by omega) (by omega) h'.2
theorem loopRn (q : Int) (L : List (List Dat)) (own mark : Bool) (hl : L.length ≤ 281474976710656) (h : noK L (kdI q) = true) : ERn q (L.length + 1) 0 (L.length : Int) L own mark = some (lfRn L own mark) := by
  refine allOn (fun i => kAt L i != kdI q) (L.length : Int) (fun n k => ERn q n k (L.length : Int) L own mark) _ (fun n k hk => ?_) (fun n k hk hp => ?_) L.length 0 (by decide) (by omega) (by unfold noK at h; simpa using h)
  · refine (stepRn q k (L.length : Int) L own mark n).trans ?_
    rw [decide_eq_false hk]
    rfl
  · refine (stepRn q k (L.length : Int) L own mark n).trans ?_
    rw [decide_eq_true hk.1, decide_eq_true hk.2, hp, wI_id (n := k + 1) (by omega)]
    rfl
def GRn (vals : List SV) (m : Mem) : Option (Bool × LT) :=
  match vals, m with
  | [.v (.int .i64 q), .row 1, .row 0, .v (.int .i64 nn), .v (.int .i64 i)], ⟨[], [], [.live ⟨192, [.num .i64, .str], L, own, mark⟩, .live ⟨51, [.num .i64, .num .i64, .num .i64, .num .i64, .num .i64, .num .i64, .num .i64, .num .i64], [], true, false⟩]⟩ => some (noK L (kdI q) && (nn == (L.length : Int) && (i == 0 && Nat.ble L.length 281474976710656)), .leaf (lfRn L own mark).1 (lfRn L own mark).2)
  | _, _ => none
noncomputable def ΛRn : LoopOrc := fun _ st => viaT 0 1 kRn GRn st
theorem loopOkRn (z : Base) (z1 : z.L.length = 0) (z2 : z.U.length = 1) : LoopOk ΛRn Tryz.prog z bdRn := by
  refine loop_okT (Λ := L0) (kx := xRn) Okrn mixed z1 z2 (fun b hb st t h => by cases h) (G := GRn) (fun _ => rfl) ?_
  intro vals m t h
  unfold GRn at h
  split at h
  · rename_i q nn i L own mark
    obtain ⟨h1, rfl⟩ := some_t h
    simp only [Bool.and_eq_true, beq_iff_eq] at h1
    obtain ⟨hk, rfl, rfl, hl⟩ := h1
    exact ⟨L.length + 1, loopRn q L own mark (Nat.le_of_ble_eq_true hl) hk⟩
  · cases h
theorem loopsRn : loopsOf (Tryz.f80.body.getD .skip) = [bdRn] := by kernel_rfl
set_option maxRecDepth 20000 in
theorem runRn (q : Int) (L : List (List Dat)) (own mark : Bool) : runG Γrn ΛRn Tryz.prog Tryz.f80 [.row 0, .v (I q)] ⟨[], [], [rFr L own mark]⟩ = bif noK L (kdI q) && ((L.length : Int) == (L.length : Int) && (true && Nat.ble L.length 281474976710656)) then some (.row 1, ⟨[], [], [rFr L own mark, rNv []]⟩) else none := by kernel_rfl
def gRn (xs : List SV) (m : Mem) : Option (Bool × SV × Mem) :=
  match xs, m with
  | [.row 0, .v (.int .i64 q)], ⟨[], [], [.live ⟨192, [.num .i64, .str], L, own, mark⟩]⟩ => some (noK L (kdI q) && Nat.ble L.length 281474976710656, .row 1, ⟨[], [], [rFr L own mark, rNv []]⟩)
  | _, _ => none
theorem gRn_ok : ∀ xs m r m', gRn xs m = some (true, r, m') → CallOk Tryz.prog 80 xs m r m' := by
  intro xs m r m' h
  unfold gRn at h
  split at h
  · rename_i q L own mark
    obtain ⟨h1, rfl, rfl⟩ := some_t2 h
    rw [Bool.and_eq_true] at h1
    refine runOk (Λ := ΛRn) Okrn Tryz.func80 rfl (fun z z1 z2 => oneLoop loopsRn (loopOkRn z z1 z2)) ?_
    refine (runRn q L own mark).trans ?_
    rw [h1.1, h1.2, beq_self_eq_true]
    rfl
  · cases h
noncomputable def bdRli : Code := loopAt (Tryz.f82.body.getD .skip) 0
def kRli : List Bool := maskOf 35 [1,2,6,7,12,13,14]
def xRli (e : Ex) : List Bool := match e with
  | .exit _ => maskOf 35 [6,7]
  | .ret => maskOf 35 [6,7]
  | .normal => maskOf 35 [1,2,6,7,12,13,14]
def KRli (e : Ex) (st : St) : Option (Ex × St) := some (e, cutC 0 1 (xRli e) st)
set_option maxRecDepth 20000 in
theorem stepRli (q i nn : Int) (L : List (List Dat)) (own mark : Bool) (n : Nat) : evLoop Γrn Tryz.prog L0 (cutC 0 1 kRli) bdRli (n + 1) (mk kRli [.v (I q), .v (fV 83), .v (I 0), .v (Bo false), .row 0, .v (I nn), .v (I i)] ⟨[], [], [rFr L own mark]⟩) KRli =
    (bif decide (i < nn) then (bif decide ((0 : Int) ≤ i) && decide (i < (L.length : Int)) then (bif (kAt L i) != q then evLoop Γrn Tryz.prog L0 (cutC 0 1 kRli) bdRli n (mk kRli [.v (I q), .v (Value.func (Fn.func 83) { toList := [] : Array Value } { toList := [] : Array Value }), .v (I 0), .v (Bo false), .row 0, .v (I nn), .v (I (wI (i + (1 : Int))))] ⟨[], [], [.live ⟨192, [.num .i64, .str], L, own, mark⟩]⟩) KRli else none) else none) else some ((.exit 0), mk (xRli (.exit 0)) [.v (I 0), .v (Bo false)] ⟨[], [], [.live ⟨192, [.num .i64, .str], L, own, mark⟩]⟩)) := by kernel_rfl
noncomputable def ERli (q : Int) (n : Nat) (i : Int) (nn : Int) (L : List (List Dat)) (own mark : Bool) : Option (Ex × St) :=
  evLoop Γrn Tryz.prog L0 (cutC 0 1 kRli) bdRli n (mk kRli [.v (I q), .v (fV 83), .v (I 0), .v (Bo false), .row 0, .v (I nn), .v (I i)] ⟨[], [], [rFr L own mark]⟩) KRli
def lfRli (L : List (List Dat)) (own mark : Bool) : Ex × St := (.exit 0, mk (xRli (.exit 0)) [.v (I 0), .v (Bo false)] ⟨[], [], [rFr L own mark]⟩)
theorem loopRli (q : Int) (L : List (List Dat)) (own mark : Bool) (hl : L.length ≤ 281474976710656) (h : noK L q = true) : ERli q (L.length + 1) 0 (L.length : Int) L own mark = some (lfRli L own mark) := by
  refine allOn (fun i => kAt L i != q) (L.length : Int) (fun n k => ERli q n k (L.length : Int) L own mark) _ (fun n k hk => ?_) (fun n k hk hp => ?_) L.length 0 (by decide) (by omega) (by unfold noK at h; simpa using h)
  · refine (stepRli q k (L.length : Int) L own mark n).trans ?_
    rw [decide_eq_false hk]
    rfl
  · refine (stepRli q k (L.length : Int) L own mark n).trans ?_
    rw [decide_eq_true hk.1, decide_eq_true hk.2, hp, wI_id (n := k + 1) (by omega)]
    rfl
def GRli (vals : List SV) (m : Mem) : Option (Bool × LT) :=
  match vals, m with
  | [.v (.int .i64 q), .v (.func (.func f) ⟨[]⟩ ⟨[]⟩), y, .v (.bool bb), .row 0, .v (.int .i64 nn), .v (.int .i64 i)], ⟨[], [], [.live ⟨192, [.num .i64, .str], L, own, mark⟩]⟩ => match Nat.beq f 83 && (eqSV y (.v (I 0)) && !bb) with
    | true => some (noK L q && (nn == (L.length : Int) && (i == 0 && Nat.ble L.length 281474976710656)), .leaf (lfRli L own mark).1 (lfRli L own mark).2)
    | false => none
  | _, _ => none
noncomputable def ΛRli : LoopOrc := fun _ st => viaT 0 1 kRli GRli st
theorem loopOkRli (z : Base) (z1 : z.L.length = 0) (z2 : z.U.length = 1) : LoopOk ΛRli Tryz.prog z bdRli := by
  refine loop_okT (Λ := L0) (kx := xRli) Okrn mixed z1 z2 (fun b hb st t h => by cases h) (G := GRli) (fun _ => rfl) ?_
  intro vals m t h
  unfold GRli at h
  split at h
  · rename_i q f y bb nn i L own mark
    split at h
    · rename_i hq
      simp only [Bool.and_eq_true, Bool.not_eq_true'] at hq
      obtain ⟨e1, e2, rfl⟩ := hq
      obtain rfl := Nat.eq_of_beq_eq_true e1
      obtain rfl := eqSV_eq e2
      obtain ⟨h1, rfl⟩ := some_t h
      simp only [Bool.and_eq_true, beq_iff_eq] at h1
      obtain ⟨hk, rfl, rfl, hl⟩ := h1
      exact ⟨L.length + 1, loopRli q L own mark (Nat.le_of_ble_eq_true hl) hk⟩
    · cases h
  · cases h
theorem loopsRli : loopsOf (Tryz.f82.body.getD .skip) = [bdRli] := by kernel_rfl
set_option maxRecDepth 20000 in
theorem runRli (q : Int) (L : List (List Dat)) (own mark : Bool) : runG Γrn ΛRli Tryz.prog Tryz.f82 [.row 0, .v (I q), .v (fV 83)] ⟨[], [], [rFr L own mark]⟩ = bif noK L q && ((L.length : Int) == (L.length : Int) && (true && Nat.ble L.length 281474976710656)) then some (.v (.tuple #[(I 0), Bo false]), ⟨[], [], [rFr L own mark]⟩) else none := by kernel_rfl
def gRli (xs : List SV) (m : Mem) : Option (Bool × Value) :=
  match xs, m with
  | [.row 0, .v (.int .i64 q), .v (.func (.func f) ⟨[]⟩ ⟨[]⟩)], ⟨[], [], [.live ⟨192, [.num .i64, .str], L, own, mark⟩]⟩ => match Nat.beq f 83 with
    | true => some (noK L q && Nat.ble L.length 281474976710656, .tuple #[(I 0), Bo false])
    | false => none
  | _, _ => none
theorem gRli_ok : ∀ xs m r, gRli xs m = some (true, r) → CallOk Tryz.prog 82 xs m (.v r) m := by
  intro xs m r h
  unfold gRli at h
  split at h
  · rename_i q f L own mark
    split at h
    · rename_i hf
      obtain rfl := Nat.eq_of_beq_eq_true hf
      obtain ⟨h1, rfl⟩ := some_t h
      rw [Bool.and_eq_true] at h1
      refine runOk (Λ := ΛRli) Okrn Tryz.func82 rfl (fun z z1 z2 => oneLoop loopsRli (loopOkRli z z1 z2)) ?_
      refine (runRli q L own mark).trans ?_
      rw [h1.1, h1.2, beq_self_eq_true]
      rfl
    · cases h
  · cases h
noncomputable def bdRlw : Code := loopAt (Tryz.f84.body.getD .skip) 0
def kRlw : List Bool := maskOf 35 [1,2,6,7,12,13,14]
def xRlw (e : Ex) : List Bool := match e with
  | .exit _ => maskOf 35 [6,7]
  | .ret => maskOf 35 [6,7]
  | .normal => maskOf 35 [1,2,6,7,12,13,14]
def KRlw (e : Ex) (st : St) : Option (Ex × St) := some (e, cutC 0 1 (xRlw e) st)
set_option maxRecDepth 20000 in
theorem stepRlw (q i nn : Int) (L : List (List Dat)) (own mark : Bool) (n : Nat) : evLoop Γrn Tryz.prog L0 (cutC 0 1 kRlw) bdRlw (n + 1) (mk kRlw [.v (I q), .v (fV 85), .ptr 0 0, .v (Bo false), .row 0, .v (I nn), .v (I i)] ⟨[[.v (I 0), .v (I 0), .v (I 0), .v (I 0)]], [true], [rFr L own mark]⟩) KRlw =
    (bif decide (i < nn) then (bif decide ((0 : Int) ≤ i) && decide (i < (L.length : Int)) then (bif (kAt L i) != q then evLoop Γrn Tryz.prog L0 (cutC 0 1 kRlw) bdRlw n (mk kRlw [.v (I q), .v (Value.func (Fn.func 85) { toList := [] : Array Value } { toList := [] : Array Value }), .ptr 0 0, .v (Bo false), .row 0, .v (I nn), .v (I (wI (i + (1 : Int))))] ⟨[[.v (I 0), .v (I 0), .v (I 0), .v (I 0)]], [true], [.live ⟨192, [.num .i64, .str], L, own, mark⟩]⟩) KRlw else none) else none) else some ((.exit 0), mk (xRlw (.exit 0)) [.ptr 0 0, .v (Bo false)] ⟨[[.v (I 0), .v (I 0), .v (I 0), .v (I 0)]], [true], [.live ⟨192, [.num .i64, .str], L, own, mark⟩]⟩)) := by kernel_rfl
noncomputable def ERlw (q : Int) (n : Nat) (i : Int) (nn : Int) (L : List (List Dat)) (own mark : Bool) : Option (Ex × St) :=
  evLoop Γrn Tryz.prog L0 (cutC 0 1 kRlw) bdRlw n (mk kRlw [.v (I q), .v (fV 85), .ptr 0 0, .v (Bo false), .row 0, .v (I nn), .v (I i)] ⟨[[.v (I 0), .v (I 0), .v (I 0), .v (I 0)]], [true], [rFr L own mark]⟩) KRlw
def lfRlw (L : List (List Dat)) (own mark : Bool) : Ex × St := (.exit 0, mk (xRlw (.exit 0)) [.ptr 0 0, .v (Bo false)] ⟨[[.v (I 0), .v (I 0), .v (I 0), .v (I 0)]], [true], [rFr L own mark]⟩)
theorem loopRlw (q : Int) (L : List (List Dat)) (own mark : Bool) (hl : L.length ≤ 281474976710656) (h : noK L q = true) : ERlw q (L.length + 1) 0 (L.length : Int) L own mark = some (lfRlw L own mark) := by
  refine allOn (fun i => kAt L i != q) (L.length : Int) (fun n k => ERlw q n k (L.length : Int) L own mark) _ (fun n k hk => ?_) (fun n k hk hp => ?_) L.length 0 (by decide) (by omega) (by unfold noK at h; simpa using h)
  · refine (stepRlw q k (L.length : Int) L own mark n).trans ?_
    rw [decide_eq_false hk]
    rfl
  · refine (stepRlw q k (L.length : Int) L own mark n).trans ?_
    rw [decide_eq_true hk.1, decide_eq_true hk.2, hp, wI_id (n := k + 1) (by omega)]
    rfl

def GRlw (vals : List SV) (m : Mem) : Option (Bool × LT) :=
  match vals, m with
  | [.v (.int .i64 q), .v (.func (.func f) ⟨[]⟩ ⟨[]⟩), .ptr 0 0, .v (.bool bb), .row 0, .v (.int .i64 nn), .v (.int .i64 i)], ⟨[bk], [true], [.live ⟨192, [.num .i64, .str], L, own, mark⟩]⟩ => match Nat.beq f 85 && (Go.Sx.eqL eqSA bk [.v (I 0), .v (I 0), .v (I 0), .v (I 0)] && !bb) with
    | true => some (noK L q && (nn == (L.length : Int) && (i == 0 && Nat.ble L.length 281474976710656)), .leaf (lfRlw L own mark).1 (lfRlw L own mark).2)
    | false => none
  | _, _ => none
noncomputable def ΛRlw : LoopOrc := fun _ st => viaT 0 1 kRlw GRlw st
theorem loopOkRlw (z : Base) (z1 : z.L.length = 0) (z2 : z.U.length = 1) : LoopOk ΛRlw Tryz.prog z bdRlw := by
  refine loop_okT (Λ := L0) (kx := xRlw) Okrn mixed z1 z2 (fun b hb st t h => by cases h) (G := GRlw) (fun _ => rfl) ?_
  intro vals m t h
  unfold GRlw at h
  split at h
  · rename_i q f bb nn i bk L own mark
    split at h
    · rename_i hq
      simp only [Bool.and_eq_true, Bool.not_eq_true'] at hq
      obtain ⟨e1, e2, rfl⟩ := hq
      obtain rfl := Nat.eq_of_beq_eq_true e1
      obtain rfl := Go.Sx.eqL_eq (fun _ _ => eqSA_eq) e2
      obtain ⟨h1, rfl⟩ := some_t h
      simp only [Bool.and_eq_true, beq_iff_eq] at h1
      obtain ⟨hk, rfl, rfl, hl⟩ := h1
      exact ⟨L.length + 1, loopRlw q L own mark (Nat.le_of_ble_eq_true hl) hk⟩
    · cases h
  · cases h
theorem loopsRlw : loopsOf (Tryz.f84.body.getD .skip) = [bdRlw] := by kernel_rfl
set_option maxRecDepth 20000 in
theorem runRlw (q : Int) (L : List (List Dat)) (own mark : Bool) : runG Γrn ΛRlw Tryz.prog Tryz.f84 [.row 0, .v (I q), .v (fV 85)] ⟨[], [], [rFr L own mark]⟩ = bif noK L q && ((L.length : Int) == (L.length : Int) && (true && Nat.ble L.length 281474976710656)) then some (.v (.tuple #[(.agg #[I 0, I 0, I 0, I 0]), Bo false]), ⟨[], [], [rFr L own mark]⟩) else none := by kernel_rfl
def gRlw (xs : List SV) (m : Mem) : Option (Bool × Value) :=
  match xs, m with
  | [.row 0, .v (.int .i64 q), .v (.func (.func f) ⟨[]⟩ ⟨[]⟩)], ⟨[], [], [.live ⟨192, [.num .i64, .str], L, own, mark⟩]⟩ => match Nat.beq f 85 with
    | true => some (noK L q && Nat.ble L.length 281474976710656, .tuple #[(.agg #[I 0, I 0, I 0, I 0]), Bo false])
    | false => none
  | _, _ => none
theorem gRlw_ok : ∀ xs m r, gRlw xs m = some (true, r) → CallOk Tryz.prog 84 xs m (.v r) m := by
  intro xs m r h
  unfold gRlw at h
  split at h
  · rename_i q f L own mark
    split at h
    · rename_i hf
      obtain rfl := Nat.eq_of_beq_eq_true hf
      obtain ⟨h1, rfl⟩ := some_t h
      rw [Bool.and_eq_true] at h1
      refine runOk (Λ := ΛRlw) Okrn Tryz.func84 rfl (fun z z1 z2 => oneLoop loopsRlw (loopOkRlw z z1 z2)) ?_
      refine (runRlw q L own mark).trans ?_
      rw [h1.1, h1.2, beq_self_eq_true]
      rfl
    · cases h
  · cases h
end Go.Proofs.YtmkkpogbjbjfeaaGreat

namespace Go.Proofs.YtmkkpogbjbjfeaaGreat
open Go Go.Proofs Go.Sx
set_option linter.unusedVariables false
/-! A text of whole frames alone: nothing waits behind it, and nothing is dropped. -/
def quietF (s : ByteArray) : Bool := Nat.beq (sR s).size 0 && (Nat.beq (sD s) 0 && Nat.ble s.size 1099511627775)
theorem size0 {s : ByteArray} (h : s.size = 0) : s = ⟨#[]⟩ := by
  obtain ⟨⟨l⟩⟩ := s
  cases l with
  | nil => rfl
  | cons a l => cases h
def gFeedQ (xs : List SV) (m : Mem) : Option (Bool × SV × Mem) :=
  match xs, m with
  | [.ptr 0 0, .v (.string s)], ⟨[[.v (.string w), .ptr 1 0], [.v (.int .i64 a), .v (.int .i64 v)]], [true, true], []⟩ => match Nat.beq w.size 0 && (eqZ a 1000000 && eqZ v 0) with
    | true => some (quietF s, .row 0, MF 192 ⟨#[]⟩ 1000000 0 (scF s))
    | false => none
  | _, _ => none
theorem emptyL (s : ByteArray) : (⟨#[]⟩ : ByteArray) ++ s = s := ByteArray.ext (by simp)
theorem gFeedQ_ok : ∀ xs m r m', gFeedQ xs m = some (true, r, m') → CallOk Tryz.prog 81 xs m r m' := by
  intro xs m r m' h
  unfold gFeedQ at h
  split at h
  case h_2 => cases h
  rename_i s w a v
  split at h
  case h_2 => cases h
  rename_i hq
  simp only [Bool.and_eq_true] at hq
  obtain ⟨e1, e2, e3⟩ := hq
  obtain rfl := size0 (Nat.eq_of_beq_eq_true e1)
  obtain rfl := eqZ_eq e2
  obtain rfl := eqZ_eq e3
  obtain ⟨h1, rfl, rfl⟩ := some_t2 h
  unfold quietF at h1
  simp only [Bool.and_eq_true] at h1
  obtain ⟨q1, q2, q3⟩ := h1
  refine gFeed_ok _ _ _ _ ?_
  have er := size0 (Nat.eq_of_beq_eq_true q1)
  have ed := Nat.eq_of_beq_eq_true q2
  have eo : okFeed ⟨#[]⟩ s 1000000 0 = true := by
    unfold okFeed
    have : (⟨#[]⟩ : ByteArray).size = 0 := rfl
    rw [this, Nat.zero_add, q3]
    rfl
  show some (okFeed ⟨#[]⟩ s 1000000 0, SV.row 0, MF _ (sR (⟨#[]⟩ ++ s)) 1000000 ((sat (0 : Int).toNat (sD (⟨#[]⟩ ++ s)) : Nat) : Int) (scF (⟨#[]⟩ ++ s))) = _
  rw [emptyL, eo, er, ed]
  rfl
end Go.Proofs.YtmkkpogbjbjfeaaGreat

namespace Go.Proofs.YtmkkpogbjbjfeaaGreat
open Go Go.Proofs Go.Sx
set_option linter.unusedVariables false
/-! A source to which nothing came; what is heard where all is for others. -/
noncomputable def Γs24a : Orc := { ΓL212 with av := true, bs := true, sb := true, wr := wx24b }
theorem Oks24a : Γs24a.Ok Tryz.prog := ⟨OkL212.call, OkL212.rd, OkL212.eqv⟩
def sSn : Mem := ⟨sS.blk, sS.live, [rNv []]⟩
def mSn : Mem := ⟨mL208.blk, mL208.live, [rNv []]⟩
def zNav : Value := .tuple #[.agg #[I 0, I 0, I 0, I 0, I 0, I 0, I 0, I 0], I 1]
set_option maxRecDepth 20000 in
theorem runSc : runG Γs24a L0 Tryz.prog Tryz.f79 [.ptr 0 0, .row 0] sSn = some (.v zNav, mSn) := by kernel_rfl
theorem okSc : CallOk Tryz.prog 79 [.ptr 0 0, .row 0] sSn (.v zNav) mSn := runOk (Λ := L0) Oks24a Tryz.func79 rfl (fun z _ _ => noLoops (by kernel_rfl) z) runSc
noncomputable def Γs24b : Orc := addCl 79 (litC [.ptr 0 0, .row 0] sSn (.v zNav) mSn) Γs24a
theorem Oks24b : Γs24b.Ok Tryz.prog := addCl_ok Oks24a (litC_ok okSc)
noncomputable def Γs24c : Orc := addRd 84 gRlw (addRd 82 gRli (addCl 80 gRn (addCl 81 gFeedQ Γs24b)))
theorem Oks24c : Γs24c.Ok Tryz.prog := addRd_ok (addRd_ok (addCl_ok (addCl_ok Oks24b gFeedQ_ok) gRn_ok) gRli_ok) gRlw_ok
end Go.Proofs.YtmkkpogbjbjfeaaGreat

namespace Go.Proofs.YtmkkpogbjbjfeaaGreat
open Go Go.Proofs Go.Sx
set_option linter.unusedVariables false
/-! norm -/
/-! cast -/
/-! rex some \(\.v \(\.agg #\[.*?\], true, false⟩\]⟩\) ==> hsLeaf -/
/-! What is heard where all is for others is what is heard of nothing. -/
def hsLeaf : Option (SV × Mem) := some (rL201, mL201)
set_option maxRecDepth 100000 in
theorem runHs (a b c d : ByteArray) : runG Γs24c L0 Tryz.prog Tryz.f44 [.ptr 0 0, .v (.agg #[S a, S b, S c, S d])] uinZ_mL14 = 
    (same ((bif quietF a then (same ((bif noK (scF a) (16 : Int) && (scF a).length.ble (281474976710656) then (same ((same ((bif quietF b then (same ((bif noK (scF b) (17 : Int) && (scF b).length.ble (281474976710656) then (same ((bif quietF c then (bif noK (scF c) (32 : Int) && (scF c).length.ble (281474976710656) then (bif quietF d then (bif noK (scF d) (48 : Int) && (scF d).length.ble (281474976710656) then hsLeaf else none) else none) else none) else none)) ((bif quietF c then (bif noK (scF c) (32 : Int) && (scF c).length.ble (281474976710656) then (bif quietF d then (bif noK (scF d) (48 : Int) && (scF d).length.ble (281474976710656) then hsLeaf else none) else none) else none) else none))) else none)) ((bif noK (scF b) (17 : Int) && (scF b).length.ble (281474976710656) then (bif quietF c then (bif noK (scF c) (32 : Int) && (scF c).length.ble (281474976710656) then (bif quietF d then (bif noK (scF d) (48 : Int) && (scF d).length.ble (281474976710656) then hsLeaf else none) else none) else none) else none) else none))) else none)) ((bif quietF b then (bif noK (scF b) (17 : Int) && (scF b).length.ble (281474976710656) then (bif quietF c then (bif noK (scF c) (32 : Int) && (scF c).length.ble (281474976710656) then (bif quietF d then (bif noK (scF d) (48 : Int) && (scF d).length.ble (281474976710656) then hsLeaf else none) else none) else none) else none) else none) else none)))) ((same ((bif quietF b then (same ((bif noK (scF b) (17 : Int) && (scF b).length.ble (281474976710656) then (same ((bif quietF c then (bif noK (scF c) (32 : Int) && (scF c).length.ble (281474976710656) then (bif quietF d then (bif noK (scF d) (48 : Int) && (scF d).length.ble (281474976710656) then hsLeaf else none) else none) else none) else none)) ((bif quietF c then (bif noK (scF c) (32 : Int) && (scF c).length.ble (281474976710656) then (bif quietF d then (bif noK (scF d) (48 : Int) && (scF d).length.ble (281474976710656) then hsLeaf else none) else none) else none) else none))) else none)) ((bif noK (scF b) (17 : Int) && (scF b).length.ble (281474976710656) then (bif quietF c then (bif noK (scF c) (32 : Int) && (scF c).length.ble (281474976710656) then (bif quietF d then (bif noK (scF d) (48 : Int) && (scF d).length.ble (281474976710656) then hsLeaf else none) else none) else none) else none) else none))) else none)) ((bif quietF b then (bif noK (scF b) (17 : Int) && (scF b).length.ble (281474976710656) then (bif quietF c then (bif noK (scF c) (32 : Int) && (scF c).length.ble (281474976710656) then (bif quietF d then (bif noK (scF d) (48 : Int) && (scF d).length.ble (281474976710656) then hsLeaf else none) else none) else none) else none) else none) else none))))) else none)) ((bif noK (scF a) (16 : Int) && (scF a).length.ble (281474976710656) then (same ((bif quietF b then (same ((bif noK (scF b) (17 : Int) && (scF b).length.ble (281474976710656) then (same ((bif quietF c then (bif noK (scF c) (32 : Int) && (scF c).length.ble (281474976710656) then (bif quietF d then (bif noK (scF d) (48 : Int) && (scF d).length.ble (281474976710656) then hsLeaf else none) else none) else none) else none)) ((bif quietF c then (bif noK (scF c) (32 : Int) && (scF c).length.ble (281474976710656) then (bif quietF d then (bif noK (scF d) (48 : Int) && (scF d).length.ble (281474976710656) then hsLeaf else none) else none) else none) else none))) else none)) ((bif noK (scF b) (17 : Int) && (scF b).length.ble (281474976710656) then (bif quietF c then (bif noK (scF c) (32 : Int) && (scF c).length.ble (281474976710656) then (bif quietF d then (bif noK (scF d) (48 : Int) && (scF d).length.ble (281474976710656) then hsLeaf else none) else none) else none) else none) else none))) else none)) ((bif quietF b then (bif noK (scF b) (17 : Int) && (scF b).length.ble (281474976710656) then (bif quietF c then (bif noK (scF c) (32 : Int) && (scF c).length.ble (281474976710656) then (bif quietF d then (bif noK (scF d) (48 : Int) && (scF d).length.ble (281474976710656) then hsLeaf else none) else none) else none) else none) else none) else none))) else none))) else none)) ((bif quietF a then (bif noK (scF a) (16 : Int) && (scF a).length.ble (281474976710656) then (same ((bif quietF b then (same ((bif noK (scF b) (17 : Int) && (scF b).length.ble (281474976710656) then (same ((bif quietF c then (bif noK (scF c) (32 : Int) && (scF c).length.ble (281474976710656) then (bif quietF d then (bif noK (scF d) (48 : Int) && (scF d).length.ble (281474976710656) then hsLeaf else none) else none) else none) else none)) ((bif quietF c then (bif noK (scF c) (32 : Int) && (scF c).length.ble (281474976710656) then (bif quietF d then (bif noK (scF d) (48 : Int) && (scF d).length.ble (281474976710656) then hsLeaf else none) else none) else none) else none))) else none)) ((bif noK (scF b) (17 : Int) && (scF b).length.ble (281474976710656) then (bif quietF c then (bif noK (scF c) (32 : Int) && (scF c).length.ble (281474976710656) then (bif quietF d then (bif noK (scF d) (48 : Int) && (scF d).length.ble (281474976710656) then hsLeaf else none) else none) else none) else none) else none))) else none)) ((bif quietF b then (bif noK (scF b) (17 : Int) && (scF b).length.ble (281474976710656) then (bif quietF c then (bif noK (scF c) (32 : Int) && (scF c).length.ble (281474976710656) then (bif quietF d then (bif noK (scF d) (48 : Int) && (scF d).length.ble (281474976710656) then hsLeaf else none) else none) else none) else none) else none) else none))) else none) else none))) := by kernel_rfl
end Go.Proofs.YtmkkpogbjbjfeaaGreat

namespace Go.Proofs.YtmkkpogbjbjfeaaGreat
open Go Go.Proofs Go.Sx
set_option linter.unusedVariables false
/-- Whole frames alone, none of a kind among them. -/
def forOthers (s : ByteArray) (q : Int) : Bool := quietF s && (noK (scF s) q && Nat.ble (scF s).length 281474976710656)
def QQ (a b c d : ByteArray) : Bool := forOthers a 16 && (forOthers b 17 && (forOthers c 32 && forOthers d 48))
def gHs (xs : List SV) (m : Mem) : Option (Bool × SV × Mem) :=
  match xs with
  | [.ptr 0 0, .v (.agg ⟨[.string a, .string b, .string c, .string d]⟩)] => match eqMem m uinZ_mL14 with
    | true => some (QQ a b c d, rL201, mL201)
    | false => none
  | _ => none
theorem gHs_ok : ∀ xs m r m', gHs xs m = some (true, r, m') → CallOk Tryz.prog 44 xs m r m' := by
  intro xs m r m' h
  unfold gHs at h
  split at h
  case h_2 => cases h
  rename_i a b c d
  split at h
  case h_2 => cases h
  rename_i hq
  obtain ⟨h1, rfl, rfl⟩ := some_t2 h
  rw [eqMem_eq hq]
  refine runOk (Λ := L0) Oks24c Tryz.func44 rfl (fun z _ _ => l0Ok' _ z) ?_
  refine (runHs a b c d).trans ?_
  unfold QQ forOthers at h1
  simp only [Bool.and_eq_true] at h1
  obtain ⟨⟨a1, a2, a3⟩, ⟨b1, b2, b3⟩, ⟨c1, c2, c3⟩, d1, d2, d3⟩ := h1
  simp only [a1, a2, a3, b1, b2, b3, c1, c2, c3, d1, d2, d3, Bool.and_self, cond_true, same_self]
  rfl
set_option maxRecDepth 20000 in
theorem runHe : runG Γs24a L0 Tryz.prog Tryz.f42 [.v (I 0)] M0 = some (.v (Bo true), M0) := by kernel_rfl
noncomputable def Γs24h : Orc := addCl 42 (litC [.v (I 0)] M0 (.v (Bo true)) M0) Γs24a
theorem Oks24h : Γs24h.Ok Tryz.prog := addCl_ok Oks24a (litC_ok (runOk (Λ := L0) Oks24a Tryz.func42 rfl (fun z _ _ => noLoops (by kernel_rfl) z) runHe))
noncomputable def Γs24d : Orc := addCl 44 gHs Γs24h
theorem Oks24d : Γs24d.Ok Tryz.prog := addCl_ok Oks24h gHs_ok
set_option maxRecDepth 20000 in
theorem runCs (a b c d : ByteArray) : runG Γs24d L0 Tryz.prog Tryz.f21 [.ptr 0 0, .v (.agg #[S a, S b, S c, S d])] mL14 = bif QQ a b c d then some (rL207, mL207) else none := by kernel_rfl
def gCs (xs : List SV) (m : Mem) : Option (Bool × SV × Mem) :=
  match xs with
  | [.ptr 0 0, .v (.agg ⟨[.string a, .string b, .string c, .string d]⟩)] => match eqMem m mL14 with
    | true => some (QQ a b c d, rL207, mL207)
    | false => none
  | _ => none
theorem gCs_ok : ∀ xs m r m', gCs xs m = some (true, r, m') → CallOk Tryz.prog 21 xs m r m' := by
  intro xs m r m' h
  unfold gCs at h
  split at h
  case h_2 => cases h
  rename_i a b c d
  split at h
  case h_2 => cases h
  rename_i hq
  obtain ⟨h1, rfl, rfl⟩ := some_t2 h
  rw [eqMem_eq hq]
  refine runOk (Λ := L0) Oks24d Tryz.func21 rfl (fun z _ _ => noLoops (by kernel_rfl) z) ?_
  exact (runCs a b c d).trans (by rw [h1]; rfl)
end Go.Proofs.YtmkkpogbjbjfeaaGreat

namespace Go.Proofs.YtmkkpogbjbjfeaaGreat
open Go Go.Proofs Go.Sx
set_option linter.unusedVariables false
/-! norm -/
/-! cast -/
/-! repp (printT a b c d e f g q).toList == { data := #[] : ByteArray }.toList ==> ((printT a b c d e f g q).toList == (⟨#[]⟩ : ByteArray).toList) -/
/-! A nav's frame, a command's, by the document. -/
noncomputable def Γs24e : Orc := addVal 38 gRPrint (addVal 37 gRNPrint Γs24a)
theorem Oks24e : Γs24e.Ok Tryz.prog := addVal_ok (addVal_ok Oks24a gRNPrint_ok) gRPrint_ok
set_option maxRecDepth 20000 in
theorem runNv (i a b c d e f g q : Int) : runG Γs24e L0 Tryz.prog Tryz.f18 [.v (I i), .v (.agg #[I a, I b, I c, I d, I e, I f, I g, I q])] M0 = 
    (bif decide (i < (0 : Int)) then some (.v (S { data := #[] : ByteArray }), M0) else (bif decide (i > (1 : Int)) then some (.v (S { data := #[] : ByteArray }), M0) else (bif ((printT a b c d e f g q).toList == (⟨#[]⟩ : ByteArray).toList) then some (.v (S { data := #[] : ByteArray }), M0) else some (.v (S (printB (wI ((16 : Int) + i)) (printT a b c d e f g q))), M0)))) := by kernel_rfl
def gNv24 (vs : List Value) : Option (Bool × Value) :=
  match vs with
  | [.int .i64 i, .agg ⟨[.int .i64 a, .int .i64 b, .int .i64 c, .int .i64 d, .int .i64 e, .int .i64 f, .int .i64 g, .int .i64 q]⟩] => some (decide (0 ≤ i ∧ i ≤ 1) && !((printT a b c d e f g q).toList == (⟨#[]⟩ : ByteArray).toList), S (printB (16 + i) (printT a b c d e f g q)))
  | _ => none
theorem gNv24_ok : ∀ vs r, gNv24 vs = some (true, r) → ∀ m, CallOk Tryz.prog 18 (vs.map .v) m (.v r) m := by
  intro vs r h
  unfold gNv24 at h
  split at h
  · rename_i i a b c d e f g q
    obtain ⟨h1, rfl⟩ := some_t h
    rw [Bool.and_eq_true, decide_eq_true_eq, Bool.not_eq_true'] at h1
    refine runV (vs := [I i, .agg #[I a, I b, I c, I d, I e, I f, I g, I q]]) (Λ := L0) (m' := M0) Oks24e Tryz.func18 rfl (fun z _ _ => noLoops (by kernel_rfl) z) ((runNv i a b c d e f g q).trans ?_)
    rw [decide_eq_false (show ¬ i < 0 by omega), decide_eq_false (show ¬ i > 1 by omega), h1.2, wI_id (by omega)]
    rfl
  · cases h
def cmS (c : Int) : ByteArray := bif c == 1 then gA else bif c == 2 then ⟨#[165, 90, 32, 8, 2, 87, 168, 253, 71, 108, 151, 226, 242, 83]⟩ else ⟨#[165, 90, 32, 8, 3, 86, 169, 252, 144, 14, 155, 103, 106, 117]⟩
def gCm24 (xs : List SV) (m : Mem) : Option (Bool × Value) :=
  match xs, m with
  | [.v (.int .i64 c)], ⟨[], [], []⟩ => some (decide (1 ≤ c ∧ c ≤ 3), S (cmS c))
  | _, _ => none
theorem gCm24_ok : ∀ xs m r, gCm24 xs m = some (true, r) → CallOk Tryz.prog 26 xs m (.v r) m := by
  intro xs m r h
  unfold gCm24 at h
  split at h
  · rename_i c
    obtain ⟨h1, rfl⟩ := some_t h
    rw [decide_eq_true_eq] at h1
    have : c = 1 ∨ c = 2 ∨ c = 3 := by omega
    rcases this with rfl | rfl | rfl
    · exact okL210
    · exact okL211
    · exact okL212
  · cases h
noncomputable def Γs24f : Orc := addRd 26 gCm24 (addVal 18 gNv24 (addCl 21 gCs Γs24a))
theorem Oks24f : Γs24f.Ok Tryz.prog := addRd_ok (addVal_ok (addCl_ok Oks24a gCs_ok) gNv24_ok) gCm24_ok
end Go.Proofs.YtmkkpogbjbjfeaaGreat

namespace Go.Proofs.YtmkkpogbjbjfeaaGreat
open Go Go.Proofs Go.Sx
set_option linter.unusedVariables false
/-! A source's frames count on its own port alone. -/
def wdB : ByteArray := ⟨#[165, 90, 48, 10, 0, 0, 0, 0, 32, 7, 186, 34, 16, 162, 106, 239]⟩
def m16 (a : Int) : Int := wI (((BitVec.ofInt 64 a &&& BitVec.ofInt 64 65535).toNat : Nat) : Int)
def m7 (a : Int) : Int := wI (((BitVec.ofInt 64 a &&& BitVec.ofInt 64 7).toNat : Nat) : Int)
def pS (a c e : Int) : ByteArray := printT (m16 a) 0 (c.tmod 500) 0 (m7 e) 0 0 0
def cI (k : Int) : Int := wI (1 + wI ((IntKind.u64.wrap k).tmod 3))
def neB (p : ByteArray) : Bool := !(p.toList == (⟨#[]⟩ : ByteArray).toList)
set_option maxRecDepth 100000 in
theorem runPs (a b c d e f g q k : Int) : runG Γs24f L0 Tryz.prog Tryz.f7 [.v (.agg #[I a, I b, I c, I d, I e, I f, I g, I q]), .v (I k)] M0 =
    bif true && neB (pS a c e) then (bif decide (1 ≤ cI k ∧ cI k ≤ 3) then (bif Nat.ble ((printB 17 (pS a c e)).size + (cmS (cI k)).size) 9223372036854775807 then (bif Nat.ble ((printB 17 (pS a c e) ++ cmS (cI k)).size + 16) 9223372036854775807 then (bif true && neB (pS a c e) then (bif true && neB (pS a c e) then (bif Nat.ble ((printB 16 (pS a c e)).size + 16) 9223372036854775807 then (bif decide (1 ≤ cI k ∧ cI k ≤ 3) then (bif true && neB (pS a c e) then (bif Nat.ble ((cmS (cI k)).size + (printB 17 (pS a c e)).size) 9223372036854775807 then
      same (bif QQ (printB 17 (pS a c e) ++ cmS (cI k) ++ wdB) (printB 16 (pS a c e)) (printB 16 (pS a c e) ++ wdB) (cmS (cI k) ++ printB 17 (pS a c e)) then some (.v (Bo true), M0) else none) (bif QQ (printB 17 (pS a c e) ++ cmS (cI k) ++ wdB) (printB 16 (pS a c e)) (printB 16 (pS a c e) ++ wdB) (cmS (cI k) ++ printB 17 (pS a c e)) then some (.v (Bo true), M0) else none)
      else none) else none) else none) else none) else none) else none) else none) else none) else none) else none := by kernel_rfl
theorem cI_in (k : Int) : 1 ≤ cI k ∧ cI k ≤ 3 := by
  have e2 : 0 ≤ IntKind.u64.wrap k := Int.emod_nonneg k (by show (18446744073709551616 : Int) ≠ 0; decide)
  unfold cI
  rw [Int.tmod_eq_emod_of_nonneg e2, wI_id (n := IntKind.u64.wrap k % 3) (by omega), wI_id (by omega)]
  omega
/-- Three payloads of commands, and a word's. -/
def pc (k : Int) : ByteArray := bif k == 1 then ⟨#[1, 84, 171, 254, 229, 187, 132, 44]⟩ else bif k == 2 then ⟨#[2, 87, 168, 253, 71, 108, 151, 226]⟩ else ⟨#[3, 86, 169, 252, 144, 14, 155, 103]⟩
def pw : ByteArray := ⟨#[0, 0, 0, 0, 32, 7, 186, 34, 16, 162]⟩
theorem cm1 : cmS 1 = printB 32 (pc 1) := by kernel_rfl
theorem cm2 : cmS 2 = printB 32 (pc 2) := by kernel_rfl
theorem cm3 : cmS 3 = printB 32 (pc 3) := by kernel_rfl
theorem wd1 : wdB = printB 48 pw := by kernel_rfl
theorem cm_eq {k : Int} (h : 1 ≤ k ∧ k ≤ 3) : cmS k = printB 32 (pc k) ∧ (pc k).size = 8 := by
  have : k = 1 ∨ k = 2 ∨ k = 3 := by omega
  rcases this with rfl | rfl | rfl
  · exact ⟨cm1, rfl⟩
  · exact ⟨cm2, rfl⟩
  · exact ⟨cm3, rfl⟩
theorem maskIn (n m : Int) (h0 : 0 ≤ m) (h1 : m < 9223372036854775808) : 0 ≤ wI ((BitVec.ofInt 64 n &&& BitVec.ofInt 64 m).toNat : Int) ∧ wI ((BitVec.ofInt 64 n &&& BitVec.ofInt 64 m).toNat : Int) ≤ m := by
  obtain ⟨k, rfl⟩ := Int.eq_ofNat_of_zero_le h0
  have e : (BitVec.ofInt 64 n &&& BitVec.ofInt 64 (k : Int)).toNat ≤ k := by
    rw [BitVec.toNat_and, BitVec.ofInt_natCast, BitVec.toNat_ofNat, Nat.mod_eq_of_lt (a := k) (by omega)]
    exact Nat.and_le_right
  rw [wI_id (by omega)]
  omega
theorem pS_size (a c e : Int) : (pS a c e).size = 27 := by
  have h1 := maskIn a 65535 (by decide) (by decide)
  have h2 := maskIn e 7 (by decide) (by decide)
  have h3 : -500 < c.tmod 500 ∧ c.tmod 500 < 500 := ⟨by have := Int.lt_tmod_of_pos c (show (0 : Int) < 500 by decide); omega, Int.tmod_lt_of_pos c (by decide)⟩
  have hn : navR (m16 a) 0 (c.tmod 500) 0 (m7 e) 0 0 0 = true := by
    unfold navR m16 m7
    refine decide_eq_true ?_
    omega
  unfold pS printT
  rw [hn]
  show (navB _ _ _ _ _ _ _ _).size = 27
  unfold navB
  simp only [ByteArray.size_append, be_size]
theorem neB_of {p : ByteArray} (h : p.size ≠ 0) : neB p = true := by
  unfold neB
  rw [Bool.not_eq_true', beq_T]
  refine beq_eq_false_iff_ne.2 fun e => h ?_
  have := congrArg List.length e
  exact this
/-- Of frames one behind the other none is of another kind. -/
theorem quiet_of {D : List (List Dat)} (h1 : D.all rightD = true) (h2 : D.all frBp = true) (hl : D.length ≤ 3) {q : Int} (hk : noK D q = true) : forOthers (catD D) q = true := by
  obtain ⟨e1, e2, e3⟩ := scan_cat D h1 h2
  have hs := catD_size D
  unfold forOthers quietF
  rw [e1, e2, e3, hk, Nat.ble_eq_true_of_le (show (catD D).size ≤ 1099511627775 by omega), Nat.ble_eq_true_of_le (show D.length ≤ 281474976710656 by omega)]
  rfl
theorem right_of {k : Int} {p : ByteArray} (h1 : 0 ≤ k) (h2 : k ≤ 255) (h3 : p.size ≤ 64) : rightD [.n k, .s p] = true := by
  show (decide (k ≥ 0) && (decide (k ≤ 255) && decide ((p.size : Int) ≤ 64))) = true
  rw [decide_eq_true (show k ≥ 0 by omega), decide_eq_true h2, decide_eq_true (show (p.size : Int) ≤ 64 by omega)]
  rfl
theorem procSource (a b c d e f g q k : Int) : runG Γs24f L0 Tryz.prog Tryz.f7 [.v (.agg #[I a, I b, I c, I d, I e, I f, I g, I q]), .v (I k)] M0 = some (.v (Bo true), M0) := by
  refine (runPs a b c d e f g q k).trans ?_
  have hp := pS_size a c e
  have hc := cI_in k
  obtain ⟨ec, sc⟩ := cm_eq hc
  have ne := neB_of (p := pS a c e) (by omega)
  have s17 := printB_size 17 (pS a c e)
  have s16 := printB_size 16 (pS a c e)
  have s32 : (cmS (cI k)).size ≤ 70 := by rw [ec]; exact printB_size _ _
  have r17 : rightD [.n 17, .s (pS a c e)] = true := right_of (by decide) (by decide) (by omega)
  have r16 : rightD [.n 16, .s (pS a c e)] = true := right_of (by decide) (by decide) (by omega)
  have r32 : rightD [.n 32, .s (pc (cI k))] = true := right_of (by decide) (by decide) (by omega)
  have r48 : rightD [.n 48, .s pw] = true := right_of (by decide) (by decide) (by decide)
  have q1 : forOthers (printB 17 (pS a c e) ++ cmS (cI k) ++ wdB) 16 = true := by
    have := quiet_of (D := [[.n 17, .s (pS a c e)], [.n 32, .s (pc (cI k))], [.n 48, .s pw]]) (q := 16) (by simp only [List.all_cons, List.all_nil, r17, r32, r48, Bool.and_self]) rfl (by simp) rfl
    have e1 : catD [[.n 17, .s (pS a c e)], [.n 32, .s (pc (cI k))], [.n 48, .s pw]] = printB 17 (pS a c e) ++ (printB 32 (pc (cI k)) ++ (printB 48 pw ++ (⟨#[]⟩ : ByteArray))) := rfl
    rw [e1, app_nil, ← ec, ← wd1, ← ByteArray.append_assoc] at this
    exact this
  have q2 : forOthers (printB 16 (pS a c e)) 17 = true := by
    have := quiet_of (D := [[.n 16, .s (pS a c e)]]) (q := 17) (by simp only [List.all_cons, List.all_nil, r16, Bool.and_self]) rfl (by simp) rfl
    have e1 : catD [[.n 16, .s (pS a c e)]] = printB 16 (pS a c e) ++ (⟨#[]⟩ : ByteArray) := rfl
    rw [e1, app_nil] at this
    exact this
  have q3 : forOthers (printB 16 (pS a c e) ++ wdB) 32 = true := by
    have := quiet_of (D := [[.n 16, .s (pS a c e)], [.n 48, .s pw]]) (q := 32) (by simp only [List.all_cons, List.all_nil, r16, r48, Bool.and_self]) rfl (by simp) rfl
    have e1 : catD [[.n 16, .s (pS a c e)], [.n 48, .s pw]] = printB 16 (pS a c e) ++ (printB 48 pw ++ (⟨#[]⟩ : ByteArray)) := rfl
    rw [e1, app_nil, ← wd1] at this
    exact this
  have q4 : forOthers (cmS (cI k) ++ printB 17 (pS a c e)) 48 = true := by
    have := quiet_of (D := [[.n 32, .s (pc (cI k))], [.n 17, .s (pS a c e)]]) (q := 48) (by simp only [List.all_cons, List.all_nil, r17, r32, Bool.and_self]) rfl (by simp) rfl
    have e1 : catD [[.n 32, .s (pc (cI k))], [.n 17, .s (pS a c e)]] = printB 32 (pc (cI k)) ++ (printB 17 (pS a c e) ++ (⟨#[]⟩ : ByteArray)) := rfl
    rw [e1, app_nil, ← ec] at this
    exact this
  have qq : QQ (printB 17 (pS a c e) ++ cmS (cI k) ++ wdB) (printB 16 (pS a c e)) (printB 16 (pS a c e) ++ wdB) (cmS (cI k) ++ printB 17 (pS a c e)) = true := by
    unfold QQ
    rw [q1, q2, q3, q4]
    rfl
  rw [ne, decide_eq_true hc, Nat.ble_eq_true_of_le (show (printB 17 (pS a c e)).size + (cmS (cI k)).size ≤ 9223372036854775807 by omega), Nat.ble_eq_true_of_le (show (printB 17 (pS a c e) ++ cmS (cI k)).size + 16 ≤ 9223372036854775807 by rw [ByteArray.size_append]; omega), Nat.ble_eq_true_of_le (show (printB 16 (pS a c e)).size + 16 ≤ 9223372036854775807 by omega), Nat.ble_eq_true_of_le (show (cmS (cI k)).size + (printB 17 (pS a c e)).size ≤ 9223372036854775807 by omega), qq]
  simp only [Bool.and_self, cond_true, same_self]
theorem navs8 {l : List Dat} (h : WfL [.num .i64, .num .i64, .num .i64, .num .i64, .num .i64, .num .i64, .num .i64, .num .i64] l) : ∃ a b c d e f g q, l = [.n a, .n b, .n c, .n d, .n e, .n f, .n g, .n q] := by
  match l, h with
  | [.n a, .n b, .n c, .n d, .n e, .n f, .n g, .n q], _ => exact ⟨a, b, c, d, e, f, g, q, rfl⟩
theorem procSourceLaw (l0 : List Dat) (a1 : Int) (w0 : WfL [.num .i64, .num .i64, .num .i64, .num .i64, .num .i64, .num .i64, .num .i64, .num .i64] l0) (u1 : (Lit.int .i64 a1).wf = true) : ∃ m', runG Γs24f L0 Tryz.prog Tryz.f7 (inArgs [.v (.agg (mkEl [.num .i64, .num .i64, .num .i64, .num .i64, .num .i64, .num .i64, .num .i64, .num .i64] l0).toArray), .v (.int .i64 a1)] 0) (inMem [.v (.agg (mkEl [.num .i64, .num .i64, .num .i64, .num .i64, .num .i64, .num .i64, .num .i64, .num .i64] l0).toArray), .v (.int .i64 a1)]) = some (.v (.bool true), m') := by
  obtain ⟨a, b, c, d, e, f, g, q, rfl⟩ := navs8 w0
  exact ⟨_, procSource a b c d e f g q a1⟩
end Go.Proofs.YtmkkpogbjbjfeaaGreat

