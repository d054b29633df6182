/-
  The law FrameStream over values.
-/
import Derived.Test.YtbfcnkelldbfbaaYc
namespace Go.Proofs.Ytbfcnkelldbfbaa
open Go Go.Proofs Go.Sx
set_option linter.unusedVariables false
/-! Loops that count. -/
theorem upto {α : Type} (E : Nat → Int → Option α) (F : Option α) (n : Nat) (hn : n < 4611686018427387904) (hs : ∀ (k i : Nat), i < n → E (k + 1) (i : Int) = E k ((i + 1 : Nat) : Int)) (he : ∀ k : Nat, E (k + 1) (n : Int) = F) : E (n + 1) 0 = F := by
  have : ∀ (j i : Nat), i + j = n → E (j + 1) (i : Int) = F := by
    intro j
    induction j with
    | zero =>
      intro i hi
      have : i = n := by omega
      subst this
      exact he 0
    | succ j ih =>
      intro i hi
      rw [hs (j + 1) i (by omega)]
      exact ih (i + 1) (by omega)
  exact this n 0 (by omega)
def eqD : Dat → Dat → Bool
  | .n x, .n y => x == y
  | .s x, .s y => x == y
  | .b x, .b y => x == y
  | _, _ => false
def eqDs : List Dat → List Dat → Bool
  | [], [] => true
  | a :: r, b :: s => eqD a b && eqDs r s
  | _, _ => false
def eqQ : List (List Dat) → List (List Dat) → Bool
  | [], [] => true
  | a :: r, b :: s => eqDs a b && eqQ r s
  | _, _ => false
theorem eqD_iff {a b : Dat} : eqD a b = true ↔ a = b := by
  cases a <;> cases b <;> simp [eqD, beq_S]
theorem eqDs_iff : ∀ {a b : List Dat}, eqDs a b = true ↔ a = b
  | [], [] => by simp [eqDs]
  | a :: r, b :: s => by simp [eqDs, eqD_iff, eqDs_iff (a := r) (b := s)]
  | [], _ :: _ => by simp [eqDs]
  | _ :: _, [] => by simp [eqDs]
theorem eqQ_iff : ∀ {a b : List (List Dat)}, eqQ a b = true ↔ a = b
  | [], [] => by simp [eqQ]
  | a :: r, b :: s => by simp [eqQ, eqDs_iff, eqQ_iff (a := r) (b := s)]
  | [], _ :: _ => by simp [eqQ]
  | _ :: _, [] => by simp [eqQ]
theorem ext_split {s : ByteArray} {k : Nat} (h : k ≤ s.size) : s.extract 0 k ++ s.extract k s.size = s := by
  rw [← L_inj, L_app, L_ext, L_ext, List.drop_zero, Nat.sub_zero, List.take_of_length_le (l := (L s).drop k) (by rw [List.length_drop, L_len]; exact Nat.le_refl _), List.take_append_drop]
/-- A slice's number. -/
def bN (c : List Dat) : Int := (c.headD (.n 0)).toI
def kN (c : List Dat) (r : ByteArray) : Nat := min (bN c).toNat r.size
def doneC : List (List Dat) → ByteArray → ByteArray
  | [], _ => ⟨#[]⟩
  | c :: D, r => r.extract 0 (kN c r) ++ doneC D (r.extract (kN c r) r.size)
def restC : List (List Dat) → ByteArray → ByteArray
  | [], r => r
  | c :: D, r => restC D (r.extract (kN c r) r.size)
theorem done_rest : ∀ (D : List (List Dat)) (r : ByteArray), doneC D r ++ restC D r = r
  | [], r => nil_app r
  | c :: D, r => by
    rw [doneC, restC, app_assoc, done_rest D, ext_split (show kN c r ≤ r.size from Nat.min_le_right _ _)]
theorem wf_byte {c : List Dat} (h : WfL [.num .u8] c) : ∃ n : Nat, c = [.n (n : Int)] ∧ n < 256 := by
  match c, h with
  | [.n x], h =>
    have := h.1
    simp only [Wf1, Lit.wf, Bool.and_eq_true, decide_eq_true_eq] at this
    have e1 : IntKind.u8.min = 0 := rfl
    have e2 : IntKind.u8.max = 255 := rfl
    rw [e1, e2] at this
    exact ⟨x.toNat, by rw [show ((x.toNat : Nat) : Int) = x by omega], by omega⟩

def byB (c : List Dat) : Bool :=
  match c with
  | [.n x] => inN 256 x
  | _ => false
theorem byB_of {c : List Dat} (h : WfL [.num .u8] c) : byB c = true := by
  obtain ⟨n, rfl, hn⟩ := wf_byte h
  exact inN_of hn
theorem byB_is {c : List Dat} (h : byB c = true) : ∃ n : Nat, c = [.n (n : Int)] ∧ n < 256 := by
  unfold byB at h
  split at h
  · obtain ⟨n, rfl, hn⟩ := inN_nat h
    exact ⟨n, rfl, hn⟩
  · cases h
theorem sum_le : ∀ s, (sF s).length + (sR s).size + sD s ≤ s.size := by
  refine scan_ind (fun s h => ?_) (fun s h ih => ?_) (fun s h h' ih => ?_)
  · obtain ⟨e1, e2, e3⟩ := scan5 h
    rw [e1, e2, e3]; simp
  · obtain ⟨e1, e2, e3⟩ := scan0 h
    obtain ⟨g1, g2, _⟩ := rd_ok h
    have := ext_size g1
    rw [e1, e2, e3, List.length_cons]; omega
  · obtain ⟨e1, e2, e3⟩ := scan1 h h'
    have := ext_size (s := s) (n := 1) (rd_some h)
    have := rd_some h
    rw [e1, e2, e3]; omega

/-! FrameStream: the pieces. -/
def rU8 (C : List (List Dat)) : RowS := .live ⟨5, [.num .u8], C, false, false⟩
def kS0 : List Bool := maskOf 97 [0, 5, 6, 7, 30, 31, 32]
def xS0 : List Bool := maskOf 97 [0, 5, 6, 7]
noncomputable def bS0 : Code := loopAt (Try.f5.body.getD .skip) 0
noncomputable def bS1 : Code := loopAt (Try.f5.body.getD .skip) 1
theorem loopsS : loopsOf (Try.f5.body.getD .skip) = [bS0, bS1] := by kernel_rfl
theorem loopsS0 : loopsOf bS0 = [] := by kernel_rfl
theorem loopsS1 : loopsOf bS1 = [] := by kernel_rfl
def MS0 (C : List (List Dat)) (w : ByteArray) (a v : Int) (Q : List (List Dat)) : Mem := ⟨[[.v (S w), .ptr 1 0], [.v (I a), .v (I v)]], [true, true], [rU8 C, frT 23 Q]⟩
def HS0 (C : List (List Dat)) (s : ByteArray) (a n : Int) (i : Int) (Q : List (List Dat)) (w : ByteArray) (v : Int) (r : ByteArray) : St := mk kS0 [.v (S s), .ptr 0 0, .row 1, .v (S r), .row 0, .v (I n), .v (I i)] (MS0 C w a v Q)
def XS0 (C : List (List Dat)) (s : ByteArray) (a : Int) (Q : List (List Dat)) (w : ByteArray) (v : Int) (r : ByteArray) : St := mk xS0 [.v (S s), .ptr 0 0, .row 1, .v (S r)] (MS0 C w a v Q)
def KS0 (e : Ex) (st : St) : Option (Ex × St) := some (e, cutC 0 1 xS0 st)
def kkI (C : List (List Dat)) (i : Int) (r : ByteArray) : Int := if (r.size : Int) < wI (bN (C.getD i.toNat [])) then (r.size : Int) else wI (bN (C.getD i.toNat []))
def pc (C : List (List Dat)) (i : Int) (r : ByteArray) : ByteArray := r.extract (Int.toNat 0) (kkI C i r).toNat
def room2 (Q R : List (List Dat)) (b : Nat) : Bool := decide ((Q.length + R.length) * b ≤ 140737488355328 ∧ Q.length + R.length ≤ 9223372036854775807)
theorem stepS0 (C : List (List Dat)) (s : ByteArray) (a n : Int) (k : Nat) (i : Int) (Q : List (List Dat)) (w : ByteArray) (v : Int) (r : ByteArray) : evLoop ΓL Try.prog L0 (cutC 0 1 kS0) bS0 (k + 1) (HS0 C s a n i Q w v r) KS0 =
    bif decide (i < n) then (bif decide (0 ≤ i) && decide (i < (C.length : Int)) then (bif decide ((0 : Int) ≤ 0) && (decide (0 ≤ kkI C i r) && decide (kkI C i r ≤ (r.size : Int))) then (bif okFeed w (pc C i r) a v then (bif room2 Q (sF (w ++ pc C i r)) 24 then
      (bif decide (0 ≤ kkI C i r) && (decide (kkI C i r ≤ (r.size : Int)) && decide ((r.size : Int) ≤ (r.size : Int))) then
        evLoop ΓL Try.prog L0 (cutC 0 1 kS0) bS0 k (HS0 C s 1000000 n (wI (i + 1)) (Q ++ sF (w ++ pc C i r)) (sR (w ++ pc C i r)) ((sat v.toNat (sD (w ++ pc C i r)) : Nat) : Int) (r.extract (kkI C i r).toNat r.size)) KS0 else none) else none) else none) else none) else none)
    else some (.exit 0, XS0 C s a Q w v r) := by kernel_rfl
theorem streamLoop {α : Type} (C : List (List Dat)) (hC : C.all byB = true) (hl : C.length < 4611686018427387904) (E : Nat → Int → List (List Dat) → ByteArray → Int → ByteArray → Option α) (F : List (List Dat) → ByteArray → Int → ByteArray → α)
    (hE : ∀ k i Q w v r, E (k + 1) i Q w v r = bif decide (i < (C.length : Int)) then (bif decide (0 ≤ i) && decide (i < (C.length : Int)) then (bif decide ((0 : Int) ≤ 0) && (decide (0 ≤ kkI C i r) && decide (kkI C i r ≤ (r.size : Int))) then (bif okFeed w (pc C i r) 1000000 v then (bif room2 Q (sF (w ++ pc C i r)) 24 then
      (bif decide (0 ≤ kkI C i r) && (decide (kkI C i r ≤ (r.size : Int)) && decide ((r.size : Int) ≤ (r.size : Int))) then
        E k (wI (i + 1)) (Q ++ sF (w ++ pc C i r)) (sR (w ++ pc C i r)) ((sat v.toNat (sD (w ++ pc C i r)) : Nat) : Int) (r.extract (kkI C i r).toNat r.size) else none) else none) else none) else none) else none) else some (F Q w v r)) :
    ∀ (D : List (List Dat)) (i v : Nat) (Q : List (List Dat)) (w r : ByteArray), C.drop i = D → i + D.length = C.length → rdE w = 5 → v ≤ 1000000 → Q.length + w.size + r.size < 1099511627776 →
      E (D.length + 1) (i : Int) Q w (v : Int) r = some (F (Q ++ sF (w ++ doneC D r)) (sR (w ++ doneC D r)) ((sat v (sD (w ++ doneC D r)) : Nat) : Int) (restC D r)) := by
  intro D
  induction D with
  | nil =>
    intro i v Q w r hd hi hw hv hz
    have : i = C.length := by simpa using hi
    obtain ⟨e1, e2, e3⟩ := scan5 hw
    rw [List.length_nil, hE, decide_eq_false (by omega), doneC, app_nil, restC, e1, e2, e3, sat_zero hv, List.append_nil]
    rfl
  | cons c D ih =>
    intro i v Q w r hd hi hw hv hz
    simp only [List.length_cons] at hi
    have hlt : i < C.length := by omega
    have hc : C[i]? = some c := by
      have := congrArg List.head? hd
      rwa [List.head?_drop] at this
    have hget : C.getD ((i : Int)).toNat [] = c := by rw [Int.toNat_natCast, List.getD_eq_getElem?_getD, hc]; rfl
    have hd' : C.drop (i + 1) = D := by rw [← List.drop_drop, hd]; rfl
    obtain ⟨n, hcn, hn⟩ := byB_is (List.all_eq_true.1 hC c (List.mem_of_getElem? hc))
    have hb : bN c = (n : Int) := by rw [hcn]; rfl
    have hkN : kN c r = min n r.size := by unfold kN; rw [hb]; rfl
    have hk : kkI C i r = ((kN c r : Nat) : Int) := by
      unfold kkI
      rw [hget, hb, wI_id (by omega), hkN]
      split <;> omega
    have hp : pc C i r = r.extract 0 (kN c r) := by unfold pc; rw [hk]; rfl
    have hps : (r.extract 0 (kN c r)).size = kN c r := by rw [ByteArray.size_extract]; omega
    have hle : kN c r ≤ r.size := by omega
    have happ := ext_split hle
    have hres := ext_size hle
    have hws : (w ++ r.extract 0 (kN c r)).size = w.size + kN c r := by rw [ByteArray.size_append, hps]
    have hfl := sF_len (w ++ r.extract 0 (kN c r))
    have hrl := sR_size (w ++ r.extract 0 (kN c r))
    have hr70 := sum_le (w ++ r.extract 0 (kN c r))
    have hok : okFeed w (r.extract 0 (kN c r)) 1000000 (v : Int) = true := by
      unfold okFeed
      rw [hps, inN_of (show v < 1000001 by omega), Nat.ble_eq_true_of_le (by omega)]
      rfl
    have hroom : room2 Q (sF (w ++ r.extract 0 (kN c r))) 24 = true := by
      unfold room2
      have : (Q.length + (sF (w ++ r.extract 0 (kN c r))).length) * 24 ≤ 1099511627776 * 24 := Nat.mul_le_mul (by omega) (Nat.le_refl _)
      exact decide_eq_true (by omega)
    rw [List.length_cons, hE, hk, hp, hok, hroom, decide_eq_true (show (i : Int) < (C.length : Int) by omega), decide_eq_true (show 0 ≤ (i : Int) by omega), decide_eq_true (show (0 : Int) ≤ 0 by omega), decide_eq_true (show (0 : Int) ≤ ((kN c r : Nat) : Int) by omega),
      decide_eq_true (show ((kN c r : Nat) : Int) ≤ (r.size : Int) by omega), decide_eq_true (Int.le_refl (r.size : Int)), wI_id (by omega), show (i : Int) + 1 = ((i + 1 : Nat) : Int) by omega]
    simp only [cond_true, Bool.and_self, Int.toNat_natCast]
    rw [ih (i + 1) _ _ _ _ hd' (by omega) (sR_short _) (sat_le _ _) (by simp only [List.length_append]; omega)]
    obtain ⟨f1, f2, f3⟩ := scan_app (doneC D (r.extract (kN c r) r.size)) (w ++ r.extract 0 (kN c r))
    rw [sat_add, List.append_assoc, ← f1, ← f2, ← f3, app_assoc, doneC, restC]
end Go.Proofs.Ytbfcnkelldbfbaa

namespace Go.Proofs.Ytbfcnkelldbfbaa
open Go Go.Proofs Go.Sx
set_option linter.unusedVariables false
def GS0 (vals : List SV) (m : Mem) : Option (Bool × Ex × St) :=
  match vals, m with
  | [.v (.string s), .ptr 0 0, .row 1, .v (.string r), .row 0, .v (.int .i64 n), .v (.int .i64 i)], ⟨[[.v (.string w), .ptr 1 0], [.v (.int .i64 a), .v (.int .i64 v)]], [true, true], [.live ⟨5, [.num .u8], C, false, false⟩, .live ⟨23, [.num .i64, .str], Q, true, false⟩]⟩ =>
    some (n == (C.length : Int) && (i == 0 && (a == 1000000 && (inN 1000001 v && (Nat.ble (Q.length + w.size + r.size) 1099511627775 && (Nat.ble C.length 4611686018427387903 && (rdE w == 5 && C.all byB)))))), .exit 0,
      XS0 C s 1000000 (Q ++ sF (w ++ doneC C r)) (sR (w ++ doneC C r)) ((sat v.toNat (sD (w ++ doneC C r)) : Nat) : Int) (restC C r))
  | _, _ => none
theorem loopOkS0 {Λ : LoopOrc} (hΛ : ∀ st, Λ bS0 st = viaC 0 1 kS0 GS0 st) (z : Base) (h1 : z.L.length = 0) (h2 : z.U.length = 1) : LoopOk Λ Try.prog z bS0 := by
  refine loop_okC (Λ := L0) (kx := fun _ => xS0) OkL mixed h1 h2 (fun b hb => by rw [loopsS0] at hb; cases hb) (G := GS0) hΛ ?_
  intro vals m e st' h
  unfold GS0 at h
  split at h
  · rename_i s r n i w a v C Q
    obtain ⟨hg, rfl, rfl⟩ := some_t2 h
    simp only [Bool.and_eq_true, beq_iff_eq] at hg
    obtain ⟨rfl, rfl, rfl, hv, hz, hc, hw, hC⟩ := hg
    obtain ⟨n, rfl, hn⟩ := inN_nat hv
    have hz := Nat.le_of_ble_eq_true hz
    have hc := Nat.le_of_ble_eq_true hc
    exact ⟨C.length + 1, streamLoop C hC (by omega) (fun k i Q w v r => evLoop ΓL Try.prog L0 (cutC 0 1 kS0) bS0 k (HS0 C s 1000000 (C.length : Int) i Q w v r) KS0) (fun Q w v r => (.exit 0, XS0 C s 1000000 Q w v r)) (fun k i Q w v r => stepS0 C s 1000000 (C.length : Int) k i Q w v r) C 0 n Q w r rfl (by omega) hw (by omega) (by omega)⟩
  · cases h

/-! Frames compared, one by one. -/
def eqF (Q R : List (List Dat)) (i : Int) : Bool := ((Q.getD i.toNat []).headD (.n 0)).toI == ((R.getD i.toNat []).headD (.n 0)).toI && (((Q.getD i.toNat []).tail.headD (.n 0)).toS == ((R.getD i.toNat []).tail.headD (.n 0)).toS && true)
theorem eqF_self (Q : List (List Dat)) (i : Int) : eqF Q Q i = true := by
  unfold eqF
  rw [beq_self_eq_true, (beq_S _ _).2 rfl]
  rfl
theorem cmpLoop {α : Type} (Q : List (List Dat)) (hq : Q.length < 4611686018427387904) (E : Nat → Int → Option α) (X F : Option α)
    (hE : ∀ k i, E (k + 1) i = bif decide (i < (Q.length : Int)) then (bif decide (0 ≤ i) && decide (i < (Q.length : Int)) then (bif decide (0 ≤ i) && decide (i < (Q.length : Int)) then (bif !eqF Q Q i then X else E k (wI (i + 1))) else none) else none) else F) : E (Q.length + 1) 0 = F := by
  refine upto E F Q.length hq (fun k i hi => ?_) (fun k => ?_)
  · rw [hE, eqF_self, decide_eq_true (show (i : Int) < (Q.length : Int) by omega), decide_eq_true (show 0 ≤ (i : Int) by omega), wI_id (by omega)]
    rfl
  · rw [hE, decide_eq_false (by omega)]
    rfl
def kS1 : List Bool := maskOf 97 [6, 11, 82, 83]
def xS1 (e : Ex) : List Bool := match e with
  | .ret => maskOf 97 [4]
  | _ => maskOf 97 []
def HS1 (C Q R : List (List Dat)) (n i : Int) : St := mk kS1 [.row 1, .row 2, .v (I n), .v (I i)] ⟨[], [], [rU8 C, frT 23 Q, frT 27 R]⟩
def KS1 (e : Ex) (st : St) : Option (Ex × St) := some (e, cutC 0 1 (xS1 e) st)
theorem stepS1 (C Q R : List (List Dat)) (n : Int) (k : Nat) (i : Int) : evLoop ΓL Try.prog L0 (cutC 0 1 kS1) bS1 (k + 1) (HS1 C Q R n i) KS1 =
    bif decide (i < n) then (bif decide (0 ≤ i) && decide (i < (Q.length : Int)) then (bif decide (0 ≤ i) && decide (i < (R.length : Int)) then (bif !eqF Q R i then some (.ret, mk (maskOf 97 [4]) [.v (Bo false)] ⟨[], [], [rU8 C]⟩) else
      evLoop ΓL Try.prog L0 (cutC 0 1 kS1) bS1 k (HS1 C Q R n (wI (i + 1))) KS1) else none) else none) else some (.exit 2, mk (maskOf 97 []) [] ⟨[], [], [rU8 C]⟩) := by kernel_rfl
def GS1 (vals : List SV) (m : Mem) : Option (Bool × Ex × St) :=
  match vals, m with
  | [.row 1, .row 2, .v (.int .i64 n), .v (.int .i64 i)], ⟨[], [], [.live ⟨5, [.num .u8], C, false, false⟩, .live ⟨23, [.num .i64, .str], Q, true, false⟩, .live ⟨27, [.num .i64, .str], R, true, false⟩]⟩ =>
    some (n == (Q.length : Int) && (i == 0 && (eqQ Q R && Nat.ble Q.length 4611686018427387903)), .exit 2, mk (maskOf 97 []) [] ⟨[], [], [rU8 C]⟩)
  | _, _ => none
theorem loopOkS1 {Λ : LoopOrc} (hΛ : ∀ st, Λ bS1 st = viaC 0 1 kS1 GS1 st) (z : Base) (h1 : z.L.length = 0) (h2 : z.U.length = 1) : LoopOk Λ Try.prog z bS1 := by
  refine loop_okC (Λ := L0) (kx := xS1) OkL mixed h1 h2 (fun b hb => by rw [loopsS1] at hb; cases hb) (G := GS1) hΛ ?_
  intro vals m e st' h
  unfold GS1 at h
  split at h
  · rename_i n i C Q R
    obtain ⟨hg, rfl, rfl⟩ := some_t2 h
    simp only [Bool.and_eq_true, beq_iff_eq] at hg
    obtain ⟨rfl, rfl, hq, hl⟩ := hg
    have hq := eqQ_iff.1 hq
    subst hq
    have hl := Nat.le_of_ble_eq_true hl
    exact ⟨Q.length + 1, cmpLoop Q (by omega) (fun k i => evLoop ΓL Try.prog L0 (cutC 0 1 kS1) bS1 k (HS1 C Q Q (Q.length : Int) i) KS1) _ _ (fun k i => stepS1 C Q Q (Q.length : Int) k i)⟩
  · cases h
theorem tagS0 : tagOf bS0 = 7 := by kernel_rfl
theorem tagS1 : tagOf bS1 = 18 := by kernel_rfl
noncomputable def ΛS : LoopOrc := fun b st => match tagOf b with
  | 7 => viaC 0 1 kS0 GS0 st
  | 18 => viaC 0 1 kS1 GS1 st
  | _ => none
theorem loopsOkS (z : Base) (h1 : z.L.length = 0) (h2 : z.U.length = 1) : ∀ b ∈ loopsOf (Try.f5.body.getD .skip), LoopOk ΛS Try.prog z b := by
  intro b hb
  rw [loopsS] at hb
  simp only [List.mem_cons, List.not_mem_nil, or_false] at hb
  rcases hb with rfl | rfl
  · exact loopOkS0 (fun st => by unfold ΛS; rw [tagS0]; rfl) z h1 h2
  · exact loopOkS1 (fun st => by unfold ΛS; rw [tagS1]; rfl) z h1 h2
end Go.Proofs.Ytbfcnkelldbfbaa

namespace Go.Proofs.Ytbfcnkelldbfbaa
open Go Go.Proofs Go.Sx
set_option linter.unusedVariables false
abbrev eB : ByteArray := ⟨#[]⟩
def oM (b : Bool) (m : Mem) : Option (SV × Mem) := some (.v (Bo b), m)
theorem treeStream (s : ByteArray) (C : List (List Dat)) : runG ΓL ΛS Try.prog Try.f5 [.v (S s), .row 0] ⟨[], [], [rU8 C]⟩ =
    bif decide ((s.size : Int) > 900) then oM true ⟨[], [], [rU8 C]⟩ else bif decide ((C.length : Int) > 200) then oM true ⟨[], [], [rU8 C]⟩ else
    bif (C.length : Int) == (C.length : Int) && ((0 : Int) == 0 && ((1000000 : Int) == 1000000 && (inN 1000001 0 && (Nat.ble (([] : List (List Dat)).length + eB.size + s.size) 1099511627775 && (Nat.ble C.length 4611686018427387903 && (rdE eB == 5 && C.all byB)))))) then
      (bif okFeed (sR (eB ++ doneC C s)) (restC C s) 1000000 ((sat (Int.toNat 0) (sD (eB ++ doneC C s)) : Nat) : Int) then
        (bif room2 ([] ++ sF (eB ++ doneC C s)) (sF (sR (eB ++ doneC C s) ++ restC C s)) 24 then (bif Nat.ble s.size 1000000 then
          (bif ((([] ++ sF (eB ++ doneC C s)) ++ sF (sR (eB ++ doneC C s) ++ restC C s)).length : Int) != ((sF s).length : Int) then oM false ⟨[], [], [rU8 C]⟩ else
            bif ((sR (sR (eB ++ doneC C s) ++ restC C s)).size : Int) != ((sR s).size : Int) then oM false ⟨[], [], [rU8 C]⟩ else
            bif ((sat (((sat (Int.toNat 0) (sD (eB ++ doneC C s)) : Nat) : Int)).toNat (sD (sR (eB ++ doneC C s) ++ restC C s)) : Nat) : Int) != ((sD s : Nat) : Int) then oM false ⟨[], [], [rU8 C]⟩ else
            bif ((([] ++ sF (eB ++ doneC C s)) ++ sF (sR (eB ++ doneC C s) ++ restC C s)).length : Int) == ((([] ++ sF (eB ++ doneC C s)) ++ sF (sR (eB ++ doneC C s) ++ restC C s)).length : Int) && ((0 : Int) == 0 &&
              (eqQ (([] ++ sF (eB ++ doneC C s)) ++ sF (sR (eB ++ doneC C s) ++ restC C s)) (sF s) && Nat.ble (([] ++ sF (eB ++ doneC C s)) ++ sF (sR (eB ++ doneC C s) ++ restC C s)).length 4611686018427387903)) then oM true ⟨[], [], [rU8 C]⟩ else none) else none) else none) else none) else none := by kernel_rfl
theorem frameStream (s : ByteArray) (C : List (List Dat)) (hC : C.all byB = true) : runG ΓL ΛS Try.prog Try.f5 [.v (S s), .row 0] ⟨[], [], [rU8 C]⟩ = some (.v (.bool true), ⟨[], [], [rU8 C]⟩) := by
  refine (treeStream s C).trans ?_
  by_cases h1 : (s.size : Int) > 900
  · rw [decide_eq_true h1]; rfl
  by_cases h2 : (C.length : Int) > 200
  · rw [decide_eq_true h2, decide_eq_false h1]; rfl
  have hdr := done_rest C s
  obtain ⟨f1, f2, f3⟩ := scan_app (restC C s) (doneC C s)
  rw [hdr] at f1 f2 f3
  have hsz : (doneC C s).size + (restC C s).size = s.size := by rw [← ByteArray.size_append, hdr]
  have hl1 := sum_le (doneC C s)
  have hl2 := sum_le s
  have hlen := congrArg List.length f1
  rw [List.length_append] at hlen
  have hok : okFeed (sR (doneC C s)) (restC C s) 1000000 ((sat 0 (sD (doneC C s)) : Nat) : Int) = true := by
    unfold okFeed
    have := sat_le 0 (sD (doneC C s))
    rw [inN_of (by omega), Nat.ble_eq_true_of_le (by omega)]
    rfl
  have hroom : room2 ([] ++ sF (doneC C s)) (sF (sR (doneC C s) ++ restC C s)) 24 = true := by
    unfold room2
    rw [List.nil_append, ← hlen]
    have : (sF s).length * 24 ≤ 900 * 24 := Nat.mul_le_mul (by omega) (Nat.le_refl _)
    exact decide_eq_true (by omega)
  have hsat : sat (sat 0 (sD (doneC C s))) (sD (sR (doneC C s) ++ restC C s)) = sD s := by
    rw [sat_add, ← f3]
    unfold sat
    omega
  rw [nil_app, show Int.toNat 0 = 0 from rfl, hok, hroom, Int.toNat_natCast, hsat, List.nil_append, ← f1, ← f2, eqQ_iff.2 rfl, hC, decide_eq_false h1, decide_eq_false h2, Nat.ble_eq_true_of_le (show s.size ≤ 1000000 by omega), Nat.ble_eq_true_of_le (show C.length ≤ 4611686018427387903 by omega),
    Nat.ble_eq_true_of_le (show (sF s).length ≤ 4611686018427387903 by omega), show ([] : List (List Dat)).length + eB.size + s.size = s.size from Nat.zero_add _, Nat.ble_eq_true_of_le (show s.size ≤ 1099511627775 by omega), rd_nil]
  simp only [beq_self_eq_true, bne_self_eq_false, Bool.and_self, cond_true, cond_false, Bool.true_and]
  rfl
theorem frameStreamLaw (z0 : ByteArray) (l1 : List (List Dat)) (n0 : z0.size ≤ 281474976710656) (w1 : ∀ o ∈ l1, WfL [.num .u8] o) (n1 : l1.length ≤ 281474976710656) :
    ∃ m', runG ΓL ΛS Try.prog Try.f5 (inArgs [.v (.string z0), .row 5 [.num .u8] l1] 0) (inMem [.v (.string z0), .row 5 [.num .u8] l1]) = some (.v (.bool true), m') :=
  ⟨_, frameStream z0 l1 (List.all_eq_true.2 fun c hc => byB_of (w1 c hc))⟩
end Go.Proofs.Ytbfcnkelldbfbaa

