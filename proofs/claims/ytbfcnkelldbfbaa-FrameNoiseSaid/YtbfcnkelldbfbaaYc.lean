/-
  Contracts of frame's Feed, of the document's Scan, and of awake; the laws FramePrints and FrameReads over values.
-/
import Derived.Test.YtbfcnkelldbfbaaYb
import Derived.Test.YtbfcnkelldbfbaaSx
namespace Go.Proofs.Ytbfcnkelldbfbaa
open Go Go.Proofs Go.Sx
set_option linter.unusedVariables false
/-! A stream's loop. -/
def ksF : List CK := [.num .i64, .str]
def frT (t : TypeId) (Q : List (List Dat)) : RowS := .live ⟨t, ksF, Q, true, false⟩
def MF (t : TypeId) (w : ByteArray) (a v : Int) (Q : List (List Dat)) : Mem := ⟨[[.v (S w), .ptr 1 0], [.v (I a), .v (I v)]], [true, true], [frT t Q]⟩
def fr (s : ByteArray) : List Dat := [.n (rdK s), .s (rdP s)]
/-- Room for one more frame. -/
def room (Q : List (List Dat)) (b : Nat) : Bool := decide ((Q.length + 1) * b ≤ 140737488355328 ∧ Q.length + 1 ≤ 9223372036854775807)
def kFeed : List Bool := maskOf 53 [0, 5, 6]
noncomputable def bodyFeed : Code := loopAt (Try.f18.body.getD .skip) 0
theorem loopsFeed : loopsOf (Try.f18.body.getD .skip) = [bodyFeed] := by kernel_rfl
theorem loopsFeed0 : loopsOf bodyFeed = [] := by kernel_rfl
def EFeed (e : Ex) (st : St) : Option (Ex × St) := some (e, cutC 2 0 kFeed st)
def HFeed (w : ByteArray) (a v : Int) (Q : List (List Dat)) (r : ByteArray) : St := mk kFeed [.ptr 0 0, .row 0, .v (S r)] (MF 23 w a v Q)
theorem stepFeed (k : Nat) (w : ByteArray) (a v : Int) (Q : List (List Dat)) (r : ByteArray) : evLoop ΓJa Try.prog L0 (cutC 2 0 kFeed) bodyFeed (k + 1) (HFeed w a v Q r) EFeed =
    bif !(r.toList == (⟨#[]⟩ : ByteArray).toList) then (bif rdE r == 5 then some (.exit 0, HFeed w a v Q r) else bif rdE r == 0 then
      (bif room Q 24 then (bif decide (0 ≤ rdN r) && (decide (rdN r ≤ (r.size : Int)) && decide ((r.size : Int) ≤ (r.size : Int))) then evLoop ΓJa Try.prog L0 (cutC 2 0 kFeed) bodyFeed k (HFeed w a v (Q ++ [fr r]) (r.extract (rdN r).toNat r.size)) EFeed else none) else none) else
      (bif decide ((0 : Int) ≤ 1) && (decide (1 ≤ (r.size : Int)) && decide ((r.size : Int) ≤ (r.size : Int))) then evLoop ΓJa Try.prog L0 (cutC 2 0 kFeed) bodyFeed k (HFeed w a (addN' a v 1) Q (r.extract (Int.toNat 1) r.size)) EFeed else none))
    else some (.exit 0, HFeed w a v Q r) := by kernel_rfl

/-! What a stream tells of some bytes: the frames, what waits, how many are dropped. -/
def scan : Nat → ByteArray → List (List Dat) × ByteArray × Nat
  | 0, s => ([], s, 0)
  | n + 1, s => if rdE s = 5 then ([], s, 0) else if rdE s = 0 then (fr s :: (scan n (s.extract (rdN s).toNat s.size)).1, (scan n (s.extract (rdN s).toNat s.size)).2) else
    ((scan n (s.extract 1 s.size)).1, (scan n (s.extract 1 s.size)).2.1, (scan n (s.extract 1 s.size)).2.2 + 1)
theorem ext_size {s : ByteArray} {n : Nat} (h : n ≤ s.size) : (s.extract n s.size).size = s.size - n := by
  rw [ByteArray.size_extract]; omega
theorem scan_fuel : ∀ (n m : Nat) (s : ByteArray), s.size < n → s.size < m → scan n s = scan m s
  | 0, _, _, h, _ => by omega
  | _ + 1, 0, _, _, h => by omega
  | n + 1, m + 1, s, h1, h2 => by
    unfold scan
    by_cases h5 : rdE s = 5
    · rw [if_pos h5, if_pos h5]
    rw [if_neg h5, if_neg h5]
    by_cases h0 : rdE s = 0
    · obtain ⟨g1, g2, _⟩ := rd_ok h0
      rw [if_pos h0, if_pos h0, scan_fuel n m _ (by rw [ext_size g1]; omega) (by rw [ext_size g1]; omega)]
    · have := rd_some h5
      rw [if_neg h0, if_neg h0, scan_fuel n m _ (by rw [ext_size (by omega)]; omega) (by rw [ext_size (by omega)]; omega)]
def scanA (s : ByteArray) : List (List Dat) × ByteArray × Nat := scan (s.size + 1) s
theorem scanA_eq (s : ByteArray) : scanA s = if rdE s = 5 then ([], s, 0) else if rdE s = 0 then (fr s :: (scanA (s.extract (rdN s).toNat s.size)).1, (scanA (s.extract (rdN s).toNat s.size)).2) else
    ((scanA (s.extract 1 s.size)).1, (scanA (s.extract 1 s.size)).2.1, (scanA (s.extract 1 s.size)).2.2 + 1) := by
  unfold scanA
  rw [scan]
  by_cases h5 : rdE s = 5
  · rw [if_pos h5, if_pos h5]
  rw [if_neg h5, if_neg h5]
  by_cases h0 : rdE s = 0
  · obtain ⟨g1, g2, _⟩ := rd_ok h0
    rw [if_pos h0, if_pos h0, scan_fuel s.size ((s.extract (rdN s).toNat s.size).size + 1) _ (by rw [ext_size g1]; omega) (by omega)]
  · have := rd_some h5
    rw [if_neg h0, if_neg h0, scan_fuel s.size ((s.extract 1 s.size).size + 1) _ (by rw [ext_size (by omega)]; omega) (by omega)]
def sF (s : ByteArray) : List (List Dat) := (scanA s).1
def sR (s : ByteArray) : ByteArray := (scanA s).2.1
def sD (s : ByteArray) : Nat := (scanA s).2.2
theorem scan5 {s : ByteArray} (h : rdE s = 5) : sF s = [] ∧ sR s = s ∧ sD s = 0 := by
  unfold sF sR sD
  rw [scanA_eq, if_pos h]
  exact ⟨rfl, rfl, rfl⟩
theorem scan0 {s : ByteArray} (h : rdE s = 0) : sF s = fr s :: sF (s.extract (rdN s).toNat s.size) ∧ sR s = sR (s.extract (rdN s).toNat s.size) ∧ sD s = sD (s.extract (rdN s).toNat s.size) := by
  unfold sF sR sD
  rw [scanA_eq, if_neg (by omega), if_pos h]
  exact ⟨rfl, rfl, rfl⟩
theorem scan1 {s : ByteArray} (h5 : rdE s ≠ 5) (h : rdE s ≠ 0) : sF s = sF (s.extract 1 s.size) ∧ sR s = sR (s.extract 1 s.size) ∧ sD s = sD (s.extract 1 s.size) + 1 := by
  unfold sF sR sD
  rw [scanA_eq, if_neg h5, if_neg h]
  exact ⟨rfl, rfl, rfl⟩
/-- By what Read tells, again and again. -/
theorem scan_ind {Q : ByteArray → Prop} (h5 : ∀ s, rdE s = 5 → Q s) (h0 : ∀ s, rdE s = 0 → Q (s.extract (rdN s).toNat s.size) → Q s) (h1 : ∀ s, rdE s ≠ 5 → rdE s ≠ 0 → Q (s.extract 1 s.size) → Q s) : ∀ s, Q s := by
  have : ∀ (n : Nat) (s : ByteArray), s.size < n → Q s := by
    intro n
    induction n with
    | zero => intro s h; omega
    | succ n ih =>
      intro s h
      by_cases e5 : rdE s = 5
      · exact h5 s e5
      by_cases e0 : rdE s = 0
      · obtain ⟨g1, g2, _⟩ := rd_ok e0
        exact h0 s e0 (ih _ (by rw [ext_size g1]; omega))
      · have := rd_some e5
        exact h1 s e5 e0 (ih _ (by rw [ext_size (by omega)]; omega))
  exact fun s => this (s.size + 1) s (by omega)
theorem sR_short : ∀ s, rdE (sR s) = 5 := by
  refine scan_ind (fun s h => ?_) (fun s h ih => ?_) (fun s h h' ih => ?_)
  · rw [(scan5 h).2.1]; exact h
  · rw [(scan0 h).2.1]; exact ih
  · rw [(scan1 h h').2.1]; exact ih
theorem sR_size (s : ByteArray) : (sR s).size < 70 := rd_short (sR_short s)
theorem sR_le : ∀ s, (sR s).size ≤ s.size := by
  refine scan_ind (fun s h => ?_) (fun s h ih => ?_) (fun s h h' ih => ?_)
  · rw [(scan5 h).2.1]; exact Nat.le_refl _
  · rw [(scan0 h).2.1]
    have := ext_size (rd_ok h).1
    omega
  · rw [(scan1 h h').2.1]
    have := ext_size (s := s) (n := 1) (rd_some h)
    omega
theorem sF_len : ∀ s, (sF s).length ≤ s.size := by
  refine scan_ind (fun s h => ?_) (fun s h ih => ?_) (fun s h h' ih => ?_)
  · rw [(scan5 h).1]; exact Nat.zero_le _
  · rw [(scan0 h).1, List.length_cons]
    obtain ⟨g1, g2, _⟩ := rd_ok h
    have := ext_size g1
    omega
  · rw [(scan1 h h').1]
    have := ext_size (s := s) (n := 1) (rd_some h)
    omega
/-- More behind it: what was told stays told. -/
theorem scan_app (t : ByteArray) : ∀ s, sF (s ++ t) = sF s ++ sF (sR s ++ t) ∧ sR (s ++ t) = sR (sR s ++ t) ∧ sD (s ++ t) = sD s + sD (sR s ++ t) := by
  refine scan_ind (fun s h => ?_) (fun s h ih => ?_) (fun s h h' ih => ?_)
  · obtain ⟨e1, e2, e3⟩ := scan5 h
    rw [e1, e2, e3]
    exact ⟨rfl, rfl, (Nat.zero_add _).symm⟩
  · obtain ⟨g1, g2, g3, g4⟩ := rd_app (t := t) (s := s) (by omega)
    obtain ⟨e1, e2, e3⟩ := scan0 h
    obtain ⟨f1, f2, f3⟩ := scan0 (s := s ++ t) (by rw [g1]; exact h)
    rw [g4, ext_app (rd_ok h).1] at f1 f2 f3
    rw [f1, f2, f3, e1, e2, e3, ih.1, ih.2.1, ih.2.2]
    refine ⟨?_, rfl, rfl⟩
    unfold fr
    rw [g2, g3]
    rfl
  · obtain ⟨g1, g2, g3, g4⟩ := rd_app (t := t) (s := s) h
    obtain ⟨e1, e2, e3⟩ := scan1 h h'
    obtain ⟨f1, f2, f3⟩ := scan1 (s := s ++ t) (by rw [g1]; exact h) (by rw [g1]; exact h')
    rw [ext_app (rd_some h)] at f1 f2 f3
    rw [f1, f2, f3, e1, e2, e3, ih.1, ih.2.1, ih.2.2]
    refine ⟨rfl, rfl, by omega⟩

/-! The counter. -/
def sat (v d : Nat) : Nat := min (v + d) 1000000
theorem add_sat {v n : Nat} (h : v ≤ 1000000) : addN' 1000000 (v : Int) (n : Int) = ((sat v n : Nat) : Int) := by
  have e : clampI (n : Int) (1000000 - (v : Int)) = ((min n (1000000 - v) : Nat) : Int) := by
    unfold clampI
    repeat' split
    all_goals omega
  unfold addN' sat
  rw [wI_id (n := 1000000 - (v : Int)) (by omega), e, wI_id (by omega)]
  omega
theorem sat_le (v d : Nat) : sat v d ≤ 1000000 := Nat.min_le_right _ _
theorem sat_add (v d e : Nat) : sat (sat v d) e = sat v (d + e) := by unfold sat; omega
theorem sat_zero {v : Nat} (h : v ≤ 1000000) : sat v 0 = v := by unfold sat; omega

theorem room_of {Q : List (List Dat)} {b : Nat} (h : Q.length < 1099511627776) (hb : b ≤ 100) : room Q b = true := by
  unfold room
  have : (Q.length + 1) * b ≤ 1099511627776 * 100 := Nat.mul_le_mul (by omega) hb
  exact decide_eq_true (by omega)
theorem beq_nil (r : ByteArray) : (!(r.toList == (⟨#[]⟩ : ByteArray).toList)) = decide (0 < r.size) := by
  rw [beq_TS]
  by_cases h : r = ⟨#[]⟩
  · subst h; rfl
  · have h0 : 0 < r.size := by
      apply Classical.byContradiction
      intro hn
      refine h (L_inj.1 ?_)
      have : (L r).length = 0 := by rw [L_len]; omega
      exact List.eq_nil_of_length_eq_zero this
    rw [decide_eq_true h0, Bool.eq_false_iff.2 (fun hc => h ((beq_S _ _).1 hc))]
    rfl
theorem feedLoop {α : Type} (E : Nat → Int → List (List Dat) → ByteArray → Option α) (F : Int → List (List Dat) → ByteArray → α)
    (hE : ∀ k v Q r, E (k + 1) v Q r = bif !(r.toList == (⟨#[]⟩ : ByteArray).toList) then (bif rdE r == 5 then some (F v Q r) else bif rdE r == 0 then
      (bif room Q 24 then (bif decide (0 ≤ rdN r) && (decide (rdN r ≤ (r.size : Int)) && decide ((r.size : Int) ≤ (r.size : Int))) then E k v (Q ++ [fr r]) (r.extract (rdN r).toNat r.size) else none) else none) else
      (bif decide ((0 : Int) ≤ 1) && (decide (1 ≤ (r.size : Int)) && decide ((r.size : Int) ≤ (r.size : Int))) then E k (addN' 1000000 v 1) Q (r.extract (Int.toNat 1) r.size) else none)) else some (F v Q r)) :
    ∀ (r : ByteArray) (k v : Nat) (Q : List (List Dat)), r.size < k → v ≤ 1000000 → Q.length + r.size < 1099511627776 → E k (v : Int) Q r = some (F ((sat v (sD r) : Nat) : Int) (Q ++ sF r) (sR r)) := by
  refine scan_ind (fun s h k v Q hk hv hq => ?_) (fun s h ih k v Q hk hv hq => ?_) (fun s h h' ih k v Q hk hv hq => ?_)
  · obtain ⟨e1, e2, e3⟩ := scan5 h
    cases k with
    | zero => omega
    | succ k =>
      rw [hE, h, e1, e2, e3, sat_zero hv, List.append_nil]
      cases (!(s.toList == (⟨#[]⟩ : ByteArray).toList)) <;> rfl
  · obtain ⟨g1, g2, g3, _⟩ := rd_ok h
    obtain ⟨e1, e2, e3⟩ := scan0 h
    have hsz := ext_size g1
    cases k with
    | zero => omega
    | succ k =>
      rw [hE, beq_nil, decide_eq_true (show 0 < s.size by omega), show (rdE s == 5) = false from by rw [h]; rfl, show (rdE s == 0) = true from by rw [h]; rfl, room_of (by omega) (by omega), decide_eq_true (show 0 ≤ rdN s by omega), decide_eq_true (show rdN s ≤ (s.size : Int) by omega), decide_eq_true (Int.le_refl (s.size : Int))]
      simp only [cond_true, cond_false, Bool.and_self]
      rw [ih k v (Q ++ [fr s]) (by omega) hv (by simp only [List.length_append, List.length_cons, List.length_nil]; omega), e1, e2, e3, List.append_assoc]
      rfl
  · have hp := rd_some h
    obtain ⟨e1, e2, e3⟩ := scan1 h h'
    have hsz := ext_size (s := s) (n := 1) hp
    cases k with
    | zero => omega
    | succ k =>
      rw [hE, beq_nil, decide_eq_true hp, show (rdE s == 5) = false from beq_eq_false_iff_ne.2 h, show (rdE s == 0) = false from beq_eq_false_iff_ne.2 h', decide_eq_true (show (1 : Int) ≤ (s.size : Int) by omega), decide_eq_true (Int.le_refl (s.size : Int)), decide_eq_true (show (0 : Int) ≤ 1 by omega)]
      simp only [cond_true, cond_false, Bool.and_self]
      rw [show addN' 1000000 (v : Int) 1 = ((sat v 1 : Nat) : Int) from add_sat (n := 1) hv, show Int.toNat 1 = 1 from rfl, ih k (sat v 1) Q (by omega) (sat_le _ _) (by omega), e1, e2, e3, sat_add, Nat.add_comm 1]
end Go.Proofs.Ytbfcnkelldbfbaa

namespace Go.Proofs.Ytbfcnkelldbfbaa
open Go Go.Proofs Go.Sx
set_option linter.unusedVariables false
def GFeed (vals : List SV) (m : Mem) : Option (Bool × Ex × St) :=
  match vals, m with
  | [.ptr 0 0, .row 0, .v (.string r)], ⟨[[.v (.string w), .ptr 1 0], [.v (.int .i64 a), .v (.int .i64 v)]], [true, true], [.live ⟨23, [.num .i64, .str], Q, true, false⟩]⟩ =>
    some (a == 1000000 && (inN 1000001 v && Nat.ble (Q.length + r.size) 1099511627775), .exit 0, HFeed w a ((sat v.toNat (sD r) : Nat) : Int) (Q ++ sF r) (sR r))
  | _, _ => none
noncomputable def ΛFeed : LoopOrc := fun _ st => viaC 2 0 kFeed GFeed st
theorem loopOkFeed (z : Base) (h1 : z.L.length = 2) (h2 : z.U.length = 0) : LoopOk ΛFeed Try.prog z bodyFeed := by
  refine loop_okC (Λ := L0) (kx := fun _ => kFeed) OkJa mixed h1 h2 (fun b hb => by rw [loopsFeed0] at hb; cases hb) (G := GFeed) (fun _ => rfl) ?_
  intro vals m e st' h
  unfold GFeed at h
  split at h
  · rename_i r w a v Q
    obtain ⟨hg, rfl, rfl⟩ := some_t2 h
    simp only [Bool.and_eq_true, beq_iff_eq] at hg
    obtain ⟨rfl, hv, hq⟩ := hg
    obtain ⟨n, rfl, hn⟩ := inN_nat hv
    have hq := Nat.le_of_ble_eq_true hq
    exact ⟨r.size + 1, feedLoop (fun k v Q r => evLoop ΓJa Try.prog L0 (cutC 2 0 kFeed) bodyFeed k (HFeed w 1000000 v Q r) EFeed) (fun v Q r => (.exit 0, HFeed w 1000000 v Q r)) (fun k v Q r => stepFeed k w 1000000 v Q r) r (r.size + 1) n Q (by omega) (by omega) (by omega)⟩
  · cases h
def okFeed (w s : ByteArray) (a v : Int) : Bool := a == 1000000 && (inN 1000001 v && Nat.ble (w.size + s.size) 1099511627775)
set_option maxRecDepth 20000 in
theorem runFeed (w s : ByteArray) (a v : Int) : runG ΓJa ΛFeed Try.prog Try.f18 [.ptr 0 0, .v (S s)] (MS w a v) =
    bif Nat.ble (w.size + s.size) 9223372036854775807 then (bif a == 1000000 && (inN 1000001 v && Nat.ble (([] : List (List Dat)).length + (w ++ s).size) 1099511627775) then
      (bif decide (0 ≤ (if wI (((sR (w ++ s)).size : Int) - 1024) > 0 then wI (((sR (w ++ s)).size : Int) - 1024) else 0)) && (decide ((if wI (((sR (w ++ s)).size : Int) - 1024) > 0 then wI (((sR (w ++ s)).size : Int) - 1024) else 0) ≤ ((sR (w ++ s)).size : Int)) && decide (((sR (w ++ s)).size : Int) ≤ ((sR (w ++ s)).size : Int))) then
        (bif Nat.ble ((sR (w ++ s)).extract (if wI (((sR (w ++ s)).size : Int) - 1024) > 0 then wI (((sR (w ++ s)).size : Int) - 1024) else 0).toNat (sR (w ++ s)).size).size 281474976710656 then
          some (.row 0, MF 23 ((sR (w ++ s)).extract (if wI (((sR (w ++ s)).size : Int) - 1024) > 0 then wI (((sR (w ++ s)).size : Int) - 1024) else 0).toNat (sR (w ++ s)).size) a (addN' a ((sat v.toNat (sD (w ++ s)) : Nat) : Int) (if wI (((sR (w ++ s)).size : Int) - 1024) > 0 then wI (((sR (w ++ s)).size : Int) - 1024) else 0)) ([] ++ sF (w ++ s))) else none) else none) else none) else none := by kernel_rfl

theorem feed_is {w s : ByteArray} {v : Int} (hv : inN 1000001 v = true) (hs : Nat.ble (w.size + s.size) 1099511627775 = true) : runG ΓJa ΛFeed Try.prog Try.f18 [.ptr 0 0, .v (S s)] (MS w 1000000 v) =
    some (.row 0, MF 23 (sR (w ++ s)) 1000000 ((sat v.toNat (sD (w ++ s)) : Nat) : Int) (sF (w ++ s))) := by
  refine (runFeed w s 1000000 v).trans ?_
  have hs' := Nat.le_of_ble_eq_true hs
  have hsz : (w ++ s).size = w.size + s.size := ByteArray.size_append
  have hR := sR_size (w ++ s)
  have e0 : (if wI (((sR (w ++ s)).size : Int) - 1024) > 0 then wI (((sR (w ++ s)).size : Int) - 1024) else 0) = 0 := by
    rw [wI_id (by omega), if_neg (by omega)]
  obtain ⟨n, rfl, hn⟩ := inN_nat hv
  rw [e0, hsz, show ([] : List (List Dat)).length + (w.size + s.size) = w.size + s.size from Nat.zero_add _, hs, hv, Nat.ble_eq_true_of_le (show w.size + s.size ≤ 9223372036854775807 by omega), show ((0 : Int)).toNat = 0 from rfl, ext_all,
    Nat.ble_eq_true_of_le (show (sR (w ++ s)).size ≤ 281474976710656 by omega), decide_eq_true (show (0 : Int) ≤ ((sR (w ++ s)).size : Int) by omega), decide_eq_true (Int.le_refl ((sR (w ++ s)).size : Int)), show addN' 1000000 ((sat ((n : Int)).toNat (sD (w ++ s)) : Nat) : Int) 0 = ((sat ((n : Int)).toNat (sD (w ++ s)) : Nat) : Int) from (add_sat (n := 0) (sat_le _ _)).trans (by rw [sat_zero (sat_le _ _)])]
  rfl
def gFeed (xs : List SV) (m : Mem) : Option (Bool × SV × Mem) :=
  match xs, m with
  | [.ptr 0 0, .v (.string s)], ⟨[[.v (.string w), .ptr 1 0], [.v (.int .i64 a), .v (.int .i64 v)]], [true, true], []⟩ => some (okFeed w s a v, .row 0, MF 23 (sR (w ++ s)) 1000000 ((sat v.toNat (sD (w ++ s)) : Nat) : Int) (sF (w ++ s)))
  | [.v (.pointer none), .v (.string s)], ⟨[], [], []⟩ => some (true, .row 0, ⟨[], [], [frT 23 []]⟩)
  | _, _ => none
theorem stopFeed (z : Base) : LoopOk ΛFeed Try.prog z bodyFeed → ∀ b ∈ loopsOf (Try.f18.body.getD .skip), LoopOk ΛFeed Try.prog z b := fun h => oneLoop loopsFeed h
/-- A stream that is none: its loop isn't come to. -/
theorem runFeedNil' (s : ByteArray) : runG ΓJa L0 Try.prog Try.f18 [.v nilV, .v (S s)] M0 = some (.row 0, ⟨[], [], [frT 23 []]⟩) := by kernel_rfl
theorem nilFeed (s : ByteArray) : CallOk Try.prog 18 [.v nilV, .v (S s)] M0 (.row 0) ⟨[], [], [frT 23 []]⟩ :=
  runOk (c := Try.f18.body.getD .skip) (Λ := L0) OkJa Try.func18 rfl (fun z h1 h2 b hb st e st' h => by cases h) (runFeedNil' s)
theorem gFeed_ok : ∀ xs m r m', gFeed xs m = some (true, r, m') → CallOk Try.prog 18 xs m r m' := by
  intro xs m r m' h
  unfold gFeed at h
  split at h
  · rename_i s w a v
    obtain ⟨hg, rfl, rfl⟩ := some_t2 h
    unfold okFeed at hg
    simp only [Bool.and_eq_true, beq_iff_eq] at hg
    obtain ⟨rfl, hv, hs⟩ := hg
    refine runOk (c := Try.f18.body.getD .skip) (Λ := ΛFeed) OkJa Try.func18 rfl (fun z h1 h2 => stopFeed z (loopOkFeed z h1 h2)) (feed_is hv hs)
  · rename_i s
    obtain ⟨_, rfl, rfl⟩ := some_t2 h
    exact nilFeed s
  · cases h
noncomputable def ΓM1 : Orc := addCl 18 gFeed ΓJa
theorem OkM1 : ΓM1.Ok Try.prog := addCl_ok OkJa gFeed_ok

/-! The document's scan. -/
def kScan : List Bool := maskOf 37 [0, 5, 6]
noncomputable def bodyScan : Code := loopAt (Try.f19.body.getD .skip) 0
theorem loopsScan : loopsOf (Try.f19.body.getD .skip) = [bodyScan] := by kernel_rfl
theorem loopsScan0 : loopsOf bodyScan = [] := by kernel_rfl
def EScan (e : Ex) (st : St) : Option (Ex × St) := some (e, cutC 0 0 kScan st)
def HScan (d : Int) (Q : List (List Dat)) (r : ByteArray) : St := mk kScan [.v (S r), .row 0, .v (I d)] ⟨[], [], [frT 27 Q]⟩
theorem stepScan (k : Nat) (d : Int) (Q : List (List Dat)) (r : ByteArray) : evLoop ΓM1 Try.prog L0 (cutC 0 0 kScan) bodyScan (k + 1) (HScan d Q r) EScan =
    bif decide ((r.size : Int) > 0) then (bif rdE r == 5 then some (.exit 0, HScan d Q r) else bif rdE r == 0 then
      (bif room Q 24 then (bif decide (0 ≤ rdN r) && (decide (rdN r ≤ (r.size : Int)) && decide ((r.size : Int) ≤ (r.size : Int))) then evLoop ΓM1 Try.prog L0 (cutC 0 0 kScan) bodyScan k (HScan d (Q ++ [fr r]) (r.extract (rdN r).toNat r.size)) EScan else none) else none) else
      (bif decide ((0 : Int) ≤ 1) && (decide (1 ≤ (r.size : Int)) && decide ((r.size : Int) ≤ (r.size : Int))) then evLoop ΓM1 Try.prog L0 (cutC 0 0 kScan) bodyScan k (HScan (wI (d + 1)) Q (r.extract (Int.toNat 1) r.size)) EScan else none))
    else some (.exit 0, HScan d Q r) := by kernel_rfl
theorem scanLoop {α : Type} (E : Nat → Int → List (List Dat) → ByteArray → Option α) (F : Int → List (List Dat) → ByteArray → α)
    (hE : ∀ k v Q r, E (k + 1) v Q r = bif decide ((r.size : Int) > 0) then (bif rdE r == 5 then some (F v Q r) else bif rdE r == 0 then
      (bif room Q 24 then (bif decide (0 ≤ rdN r) && (decide (rdN r ≤ (r.size : Int)) && decide ((r.size : Int) ≤ (r.size : Int))) then E k v (Q ++ [fr r]) (r.extract (rdN r).toNat r.size) else none) else none) else
      (bif decide ((0 : Int) ≤ 1) && (decide (1 ≤ (r.size : Int)) && decide ((r.size : Int) ≤ (r.size : Int))) then E k (wI (v + 1)) Q (r.extract (Int.toNat 1) r.size) else none)) else some (F v Q r)) :
    ∀ (r : ByteArray) (k v : Nat) (Q : List (List Dat)), r.size < k → v + r.size < 1099511627776 → Q.length + r.size < 1099511627776 → E k (v : Int) Q r = some (F ((v + sD r : Nat) : Int) (Q ++ sF r) (sR r)) := by
  refine scan_ind (fun s h k v Q hk hv hq => ?_) (fun s h ih k v Q hk hv hq => ?_) (fun s h h' ih k v Q hk hv hq => ?_)
  · obtain ⟨e1, e2, e3⟩ := scan5 h
    cases k with
    | zero => omega
    | succ k =>
      rw [hE, h, e1, e2, e3, Nat.add_zero, List.append_nil]
      cases decide ((s.size : Int) > 0) <;> rfl
  · obtain ⟨g1, g2, g3, _⟩ := rd_ok h
    obtain ⟨e1, e2, e3⟩ := scan0 h
    have hsz := ext_size g1
    cases k with
    | zero => omega
    | succ k =>
      rw [hE, decide_eq_true (show (s.size : Int) > 0 by omega), show (rdE s == 5) = false from by rw [h]; rfl, show (rdE s == 0) = true from by rw [h]; rfl, room_of (by omega) (by omega), decide_eq_true (show 0 ≤ rdN s by omega), decide_eq_true (show rdN s ≤ (s.size : Int) by omega), decide_eq_true (Int.le_refl (s.size : Int))]
      simp only [cond_true, cond_false, Bool.and_self]
      rw [ih k v (Q ++ [fr s]) (by omega) (by omega) (by simp only [List.length_append, List.length_cons, List.length_nil]; omega), e1, e2, e3, List.append_assoc]
      rfl
  · have hp := rd_some h
    obtain ⟨e1, e2, e3⟩ := scan1 h h'
    have hsz := ext_size (s := s) (n := 1) hp
    cases k with
    | zero => omega
    | succ k =>
      rw [hE, decide_eq_true (show (s.size : Int) > 0 by omega), show (rdE s == 5) = false from beq_eq_false_iff_ne.2 h, show (rdE s == 0) = false from beq_eq_false_iff_ne.2 h', decide_eq_true (show (1 : Int) ≤ (s.size : Int) by omega), decide_eq_true (Int.le_refl (s.size : Int)), decide_eq_true (show (0 : Int) ≤ 1 by omega)]
      simp only [cond_true, cond_false, Bool.and_self]
      rw [wI_id (by omega), show ((v : Int) + 1) = ((v + 1 : Nat) : Int) by omega, show Int.toNat 1 = 1 from rfl, ih k (v + 1) Q (by omega) (by omega) (by omega), e1, e2, e3, show v + 1 + sD (s.extract 1 s.size) = v + (sD (s.extract 1 s.size) + 1) by omega]
def GScan (vals : List SV) (m : Mem) : Option (Bool × Ex × St) :=
  match vals, m with
  | [.v (.string r), .row 0, .v (.int .i64 d)], ⟨[], [], [.live ⟨27, [.num .i64, .str], Q, true, false⟩]⟩ =>
    some (inN 1000001 d && (Nat.ble r.size 1000000 && Nat.ble Q.length 1000000), .exit 0, HScan ((d.toNat + sD r : Nat) : Int) (Q ++ sF r) (sR r))
  | _, _ => none
noncomputable def ΛScan : LoopOrc := fun _ st => viaC 0 0 kScan GScan st
theorem loopOkScan (z : Base) (h1 : z.L.length = 0) (h2 : z.U.length = 0) : LoopOk ΛScan Try.prog z bodyScan := by
  refine loop_okC (Λ := L0) (kx := fun _ => kScan) OkM1 mixed h1 h2 (fun b hb => by rw [loopsScan0] at hb; cases hb) (G := GScan) (fun _ => rfl) ?_
  intro vals m e st' h
  unfold GScan at h
  split at h
  · rename_i r d Q
    obtain ⟨hg, rfl, rfl⟩ := some_t2 h
    simp only [Bool.and_eq_true] at hg
    obtain ⟨hv, hr, hq⟩ := hg
    obtain ⟨n, rfl, hn⟩ := inN_nat hv
    have hr := Nat.le_of_ble_eq_true hr
    have hq := Nat.le_of_ble_eq_true hq
    exact ⟨r.size + 1, scanLoop (fun k v Q r => evLoop ΓM1 Try.prog L0 (cutC 0 0 kScan) bodyScan k (HScan v Q r) EScan) (fun v Q r => (.exit 0, HScan v Q r)) (fun k v Q r => stepScan k v Q r) r (r.size + 1) n Q (by omega) (by omega) (by omega)⟩
  · cases h
theorem runScan (s : ByteArray) : runG ΓM1 ΛScan Try.prog Try.f19 [.v (S s)] M0 =
    bif inN 1000001 0 && (Nat.ble s.size 1000000 && Nat.ble ([] : List (List Dat)).length 1000000) then some (.tup [.one (.row 0), .one (.v (S (sR s))), .one (.v (I ((Int.toNat 0 + sD s : Nat) : Int)))], ⟨[], [], [frT 27 ([] ++ sF s)]⟩) else none := by kernel_rfl
def gScan (xs : List SV) (m : Mem) : Option (Bool × SV × Mem) :=
  match xs, m with
  | [.v (.string s)], ⟨[], [], []⟩ => some (Nat.ble s.size 1000000, .tup [.one (.row 0), .one (.v (S (sR s))), .one (.v (I ((sD s : Nat) : Int)))], ⟨[], [], [frT 27 (sF s)]⟩)
  | _, _ => none
theorem gScan_ok : ∀ xs m r m', gScan xs m = some (true, r, m') → CallOk Try.prog 19 xs m r m' := by
  intro xs m r m' h
  unfold gScan at h
  split at h
  · rename_i s
    obtain ⟨hg, rfl, rfl⟩ := some_t2 h
    refine runOk (c := Try.f19.body.getD .skip) (Λ := ΛScan) OkM1 Try.func19 rfl (fun z h1 h2 => oneLoop loopsScan (loopOkScan z h1 h2)) ((runScan s).trans ?_)
    rw [hg, show Int.toNat 0 + sD s = sD s from Nat.zero_add _]
    rfl
  · cases h
noncomputable def ΓM2 : Orc := addCl 19 gScan ΓM1
theorem OkM2 : ΓM2.Ok Try.prog := addCl_ok OkM1 gScan_ok
end Go.Proofs.Ytbfcnkelldbfbaa

namespace Go.Proofs.Ytbfcnkelldbfbaa
open Go Go.Proofs Go.Sx
noncomputable def Γx : Orc := exec Try.prog ΓJa.call ΓJa.rd ΓJa.eqv (fun _ => false) 30 3
theorem Okx : Γx.Ok Try.prog := exec_ok mixed names (ext := ΓJa.call) (rd := ΓJa.rd) (eqv := ΓJa.eqv) ⟨OkJa.call, OkJa.rd, OkJa.eqv⟩ 30 3
set_option maxRecDepth 100000 in
theorem runAwake : runG Γx (loopX Γx Try.prog 30 2) Try.prog Try.f9 [] M0 = some (.v (Bo true), M0) := by kernel_rfl
def gAwake (vs : List Value) : Option (Bool × Value) :=
  match vs with
  | [] => some (true, Bo true)
  | _ => none
theorem gAwake_ok : ∀ vs r, gAwake vs = some (true, r) → ∀ m, CallOk Try.prog 9 (vs.map .v) m (.v r) m := by
  intro vs r h
  unfold gAwake at h
  split at h
  · obtain ⟨_, rfl⟩ := some_t h
    exact runV (vs := []) Okx Try.func9 rfl (fun z _ _ b hb => loopX_ok Okx mixed 30 2 b) runAwake
  · cases h
noncomputable def ΓL : Orc := addVal 9 gAwake ΓM2
theorem OkL : ΓL.Ok Try.prog := addVal_ok OkM2 gAwake_ok
end Go.Proofs.Ytbfcnkelldbfbaa

namespace Go.Proofs.Ytbfcnkelldbfbaa
open Go Go.Proofs Go.Sx
theorem u8_toNat {x : Int} (h0 : 0 ≤ x) (h1 : x ≤ 255) : ((UInt8.ofNat (IntKind.u8.wrap x).toNat).toNat : Int) = x := by
  obtain ⟨n, rfl⟩ : ∃ n : Nat, x = (n : Int) := ⟨x.toNat, by omega⟩
  rw [wrap8, Int.toNat_natCast, UInt8.toNat_ofNat']
  omega
theorem prt_list (k : Int) (p : ByteArray) : L (prt k p) = 165 :: 90 :: UInt8.ofNat (IntKind.u8.wrap k).toNat :: UInt8.ofNat (IntKind.u8.wrap (p.size : Int)).toNat :: (L p ++ L (sumT (bodyT k p))) := by
  unfold prt
  rw [L_app, L_app]
  have : L (bodyT k p) = UInt8.ofNat (IntKind.u8.wrap k).toNat :: UInt8.ofNat (IntKind.u8.wrap (p.size : Int)).toNat :: L p := by
    unfold bodyT
    rw [L_app, L_nums]
    rfl
  rw [this]
  rfl
/-- What is printed is read as it was, whatever stands behind it. -/
theorem rd_prt {k : Int} {p : ByteArray} (h : rightB k p = true) (t : ByteArray) : rdE (prt k p ++ t) = 0 ∧ rdK (prt k p ++ t) = k ∧ rdP (prt k p ++ t) = p ∧ rdN (prt k p ++ t) = ((prt k p).size : Int) := by
  obtain ⟨hp, hk0, hk1⟩ := right_size h
  have hsz := prt_size k p
  have hall : (prt k p ++ t).size = (prt k p).size + t.size := ByteArray.size_append
  have hl := prt_list k p
  have at0 : strAt (prt k p ++ t) 0 = 165 := by
    have := strAt_L (prt k p ++ t) 0
    rw [L_app, hl] at this
    exact this
  have at1 : strAt (prt k p ++ t) 1 = 90 := by
    have := strAt_L (prt k p ++ t) 1
    rw [L_app, hl] at this
    exact this
  have at2 : strAt (prt k p ++ t) 2 = k := by
    have := strAt_L (prt k p ++ t) 2
    rw [L_app, hl] at this
    exact this.trans (u8_toNat hk0 hk1)
  have at3 : strAt (prt k p ++ t) 3 = (p.size : Int) := by
    have := strAt_L (prt k p ++ t) 3
    rw [L_app, hl] at this
    exact this.trans (u8_toNat (by omega) (by omega))
  have hn : lenN (prt k p ++ t) = ((6 + p.size : Nat) : Int) := by
    unfold lenN
    rw [at3]
    omega
  have hbad : badB (prt k p ++ t) = false := by
    unfold badB
    rw [at0, at1, at3]
    simp only [Bool.or_eq_false_iff, Bool.and_eq_false_iff, decide_eq_false_iff_not]
    refine ⟨.inr rfl, .inr rfl, .inr (by omega)⟩
  have hsh : shortB (prt k p ++ t) = false := by
    unfold shortB
    rw [hn]
    simp only [Bool.or_eq_false_iff, decide_eq_false_iff_not]
    omega
  have hpo : pOf (prt k p ++ t) = p := by
    rw [← L_inj]
    have : L (prt k p ++ t) = 165 :: 90 :: UInt8.ofNat (IntKind.u8.wrap k).toNat :: UInt8.ofNat (IntKind.u8.wrap (p.size : Int)).toNat :: ((L p ++ L (sumT (bodyT k p))) ++ L t) := by
      rw [L_app, hl]
      rfl
    rw [pOf_list (d := p.size) this hn, List.append_assoc, List.take_append_of_le_length (by rw [L_len]; omega), List.take_of_length_le (by rw [L_len]; omega)]
  have hko : kOf (prt k p ++ t) = k := at2
  have hok : okB (prt k p ++ t) = true := by
    unfold okB
    rw [hko, hpo, hn, ext_app0 (by omega), show ((6 + p.size : Nat) : Int).toNat = (prt k p).size by omega, ext_all, beq_S]
  have hE : rdE (prt k p ++ t) = 0 := by
    unfold rdE
    rw [hbad, hsh, hok]
    rfl
  obtain ⟨_, _, _, g1, g2, g3, _⟩ := rd_ok hE
  exact ⟨hE, g1.trans hko, g2.trans hpo, by rw [g3, hn]; omega⟩
theorem printB_of {k : Int} {p : ByteArray} (h : rightB k p = true) : printB k p = prt k p := by unfold printB; rw [h]; rfl
theorem printB_size (k : Int) (p : ByteArray) : (printB k p).size ≤ 70 := by
  unfold printB
  cases h : rightB k p with
  | false => exact Nat.zero_le _
  | true =>
    have := right_size h
    have := prt_size k p
    show (prt k p).size ≤ 70
    omega
theorem treePrints (k : Int) (p t : ByteArray) : runG ΓL L0 Try.prog Try.f3 [.v (.agg #[I k, S p]), .v (S t)] M0 =
    bif decide ((p.size : Int) > 200) then oV (Bo true) else bif decide ((t.size : Int) > 300) then oV (Bo true) else bif Nat.ble ((printB k p).size + t.size) 9223372036854775807 then
      (bif (printB k p).toList == (printB k p).toList then (bif rightB k p == rightB k p then (bif !(((printB k p).toList == (⟨#[]⟩ : ByteArray).toList) == rightB k p) then (bif !rightB k p then oV (Bo true) else
        (bif rdK (printB k p ++ t) == k && (rdP (printB k p ++ t) == p && true) then (bif rdN (printB k p ++ t) == ((printB k p).size : Int) then oV (Bo (rdE (printB k p ++ t) == 0)) else oV (Bo false)) else oV (Bo false))) else oV (Bo false)) else oV (Bo false)) else oV (Bo false)) else none := by kernel_rfl
theorem framePrints (k : Int) (p t : ByteArray) : runG ΓL L0 Try.prog Try.f3 [.v (.agg #[I k, S p]), .v (S t)] M0 = some (.v (.bool true), M0) := by
  refine (treePrints k p t).trans ?_
  by_cases h1 : (p.size : Int) > 200
  · rw [decide_eq_true h1]; rfl
  by_cases h2 : (t.size : Int) > 300
  · rw [decide_eq_true h2, decide_eq_false h1]; rfl
  have hs := printB_size k p
  have hne : ((printB k p).toList == (⟨#[]⟩ : ByteArray).toList) = !rightB k p := by
    rw [beq_TS]
    cases h : rightB k p with
    | false => unfold printB; rw [h]; rfl
    | true =>
      rw [printB_of h]
      have : (prt k p == (⟨#[]⟩ : ByteArray)) = false := by
        rw [Bool.eq_false_iff]
        intro hc
        have := (beq_S _ _).1 hc
        have h0 := prt_size k p
        rw [this] at h0
        have : (⟨#[]⟩ : ByteArray).size = 0 := rfl
        omega
      rw [this]
      rfl
  rw [decide_eq_false h1, decide_eq_false h2, Nat.ble_eq_true_of_le (show (printB k p).size + t.size ≤ 9223372036854775807 by omega), hne, beq_self_eq_true, beq_self_eq_true]
  cases h : rightB k p with
  | false => rfl
  | true =>
    obtain ⟨e1, e2, e3, e4⟩ := rd_prt h t
    rw [printB_of h, e1, e2, e3, e4, (beq_S p p).2 rfl, beq_self_eq_true, beq_self_eq_true]
    rfl
theorem treeReads (s : ByteArray) : runG ΓL L0 Try.prog Try.f4 [.v (S s)] M0 =
    bif decide ((s.size : Int) > 500) then oV (Bo true) else bif rdK s == rdK s && (rdP s == rdP s && true) then (bif rdN s == rdN s then (bif rdE s == rdE s then (bif rdE s != 0 then oV (Bo true) else
      (bif decide ((0 : Int) ≤ 0) && (decide (0 ≤ rdN s) && decide (rdN s ≤ (s.size : Int))) then oV (Bo ((printB (rdK s) (rdP s)).toList == (s.extract (Int.toNat 0) (rdN s).toNat).toList)) else none)) else oV (Bo false)) else oV (Bo false)) else oV (Bo false) := by kernel_rfl
theorem frameReads (s : ByteArray) : runG ΓL L0 Try.prog Try.f4 [.v (S s)] M0 = some (.v (.bool true), M0) := by
  refine (treeReads s).trans ?_
  by_cases h1 : (s.size : Int) > 500
  · rw [decide_eq_true h1]; rfl
  rw [decide_eq_false h1, (beq_S (rdP s) (rdP s)).2 rfl, beq_self_eq_true, beq_self_eq_true, beq_self_eq_true]
  by_cases h0 : rdE s = 0
  · obtain ⟨g1, g2, g3, g4, g5, g6, _, _, _, _, g7, g8, g9⟩ := rd_ok h0
    have hr := good_right g7 g8
    rw [decide_eq_true (show 0 ≤ rdN s by omega), decide_eq_true (show rdN s ≤ (s.size : Int) by omega), beq_TS, g4, g5, g6, printB_of hr, show Int.toNat 0 = 0 from rfl]
    unfold okB at g9
    rw [g9, h0]
    rfl
  · rw [show (rdE s != 0) = true from bne_iff_ne.2 h0]
    rfl
end Go.Proofs.Ytbfcnkelldbfbaa

namespace Go.Proofs.Ytbfcnkelldbfbaa
open Go Go.Proofs Go.Sx
set_option linter.unusedVariables false
theorem wf_is {l : List Dat} (h : WfL [.num .i64, .str] l) : ∃ k p, l = [.n k, .s p] ∧ (Lit.int .i64 k).wf = true ∧ p.size ≤ maxLen := by
  match l, h with
  | [.n k, .s p], h => exact ⟨k, p, rfl, h.1, h.2.1⟩
theorem framePrintsLaw (l0 : List Dat) (z1 : ByteArray) (w0 : WfL [.num .i64, .str] l0) (n1 : z1.size ≤ 281474976710656) :
    ∃ m', runG ΓL L0 Try.prog Try.f3 (inArgs [.v (.agg (mkEl [.num .i64, .str] l0).toArray), .v (.string z1)] 0) (inMem [.v (.agg (mkEl [.num .i64, .str] l0).toArray), .v (.string z1)]) = some (.v (.bool true), m') := by
  obtain ⟨k, p, rfl, _⟩ := wf_is w0
  exact ⟨_, framePrints k p z1⟩
theorem frameReadsLaw (z0 : ByteArray) (n0 : z0.size ≤ 281474976710656) : ∃ m', runG ΓL L0 Try.prog Try.f4 (inArgs [.v (.string z0)] 0) (inMem [.v (.string z0)]) = some (.v (.bool true), m') := ⟨_, frameReads z0⟩
end Go.Proofs.Ytbfcnkelldbfbaa

