/-
  Contracts of frame: Right, Print, Read, New, Left, Dropped, drop, and the document's.
-/
import Derived.Test.YtbfcnkelldbfbaaYa
import Derived.Laws.Strings
namespace Go.Proofs.Ytbfcnkelldbfbaa
open Go Go.Proofs Go.Sx
/-! Texts as lists of bytes. -/
abbrev L (s : ByteArray) : List UInt8 := s.data.toList
theorem L_inj {a b : ByteArray} : L a = L b ↔ a = b := by
  constructor
  · intro h
    exact ByteArray.ext (Array.toList_inj.1 h)
  · rintro rfl; rfl
theorem L_len (s : ByteArray) : (L s).length = s.size := by simp [L]
theorem L_app (a b : ByteArray) : L (a ++ b) = L a ++ L b := by simp [L, ByteArray.data_append]
theorem L_ext (s : ByteArray) (a b : Nat) : L (s.extract a b) = ((L s).drop a).take (b - a) := by
  simp [L, ByteArray.data_extract, List.extract_eq_take_drop]
theorem L_nums (xs : List Int) : L (strOfNums xs) = xs.map fun n => UInt8.ofNat n.toNat := rfl
theorem beq_S (a b : ByteArray) : (a == b) = true ↔ a = b := by
  show ((a.data == b.data) = true) ↔ a = b
  rw [beq_iff_eq]
  exact ByteArray.ext_iff.symm
theorem beq_L (a b : ByteArray) : (a == b) = (L a == L b) := by
  rw [Bool.eq_iff_iff, beq_S]
  simp only [beq_iff_eq, L_inj]
/-- As the model asks it of two texts. -/
theorem beq_T (a b : ByteArray) : (a.toList == b.toList) = (L a == L b) := by rw [ByteArray.toList_eq, ByteArray.toList_eq]
theorem beq_TS (a b : ByteArray) : (a.toList == b.toList) = (a == b) := by rw [beq_T, beq_L]
theorem strAt_L (s : ByteArray) (k : Nat) : strAt s (k : Int) = (((L s)[k]?.map fun b => (b.toNat : Int)).getD 0) := by
  cases h : (L s)[k]? with
  | some b =>
    have h' : s.data[k]? = some b := by simpa [L] using h
    rw [strAt_some h']
    rfl
  | none =>
    unfold strAt
    rw [Int.toNat_natCast]
    have hk : s.size ≤ k := by
      rw [← L_len]
      simpa using h
    have : s[k]? = none := by rw [getElem?_neg]; omega
    rw [this]
    rfl
theorem ext_all (s : ByteArray) : s.extract 0 s.size = s := by
  rw [← L_inj, L_ext, List.drop_zero, List.take_of_length_le (by rw [L_len]; omega)]
theorem ext_app {s t : ByteArray} {n : Nat} (h : n ≤ s.size) : (s ++ t).extract n (s ++ t).size = s.extract n s.size ++ t := by
  rw [← L_inj, L_ext, L_app, L_app, L_ext, List.drop_append_of_le_length (by rw [L_len]; exact h), ByteArray.size_append, List.take_of_length_le (by simp only [List.length_append, List.length_drop, L_len]; omega), List.take_of_length_le (by simp only [List.length_drop, L_len]; omega)]
theorem ext_app0 {s t : ByteArray} {a b : Nat} (h : b ≤ s.size) : (s ++ t).extract a b = s.extract a b := by
  rw [← L_inj, L_ext, L_ext, L_app]
  rcases Nat.lt_or_ge a b with h1 | h1
  · rw [List.drop_append_of_le_length (by rw [L_len]; omega), List.take_append_of_le_length (by simp only [List.length_drop, L_len]; omega)]
  · rw [show b - a = 0 by omega]
    simp
theorem app_assoc (a b c : ByteArray) : (a ++ b) ++ c = a ++ (b ++ c) := by
  rw [← L_inj]
  simp only [L_app, List.append_assoc]
theorem app_nil (a : ByteArray) : a ++ (⟨#[]⟩ : ByteArray) = a := by rw [← L_inj, L_app]; simp [L]
theorem nil_app (a : ByteArray) : (⟨#[]⟩ : ByteArray) ++ a = a := by rw [← L_inj, L_app]; simp [L]
theorem wrap8 (n : Nat) : IntKind.u8.wrap (n : Int) = ((n % 256 : Nat) : Int) := by
  rw [← wr_eq true]; simp only [wr]; omega

/-! Frames. -/
def two16 (x : Int) : ByteArray := strOfNums [IntKind.u8.wrap (x.fdiv (2 ^ min (Int.toNat 8) IntKind.u16.bits)), IntKind.u8.wrap x]
def sumT (s : ByteArray) : ByteArray := two16 (R16 65535 s)
def bodyT (k : Int) (p : ByteArray) : ByteArray := strOfNums [IntKind.u8.wrap k, IntKind.u8.wrap (p.size : Int)] ++ p
def mark : ByteArray := ⟨#[165, 90]⟩
def prt (k : Int) (p : ByteArray) : ByteArray := (mark ++ bodyT k p) ++ sumT (bodyT k p)
def rightB (k : Int) (p : ByteArray) : Bool := decide (k ≥ 0) && (decide (k ≤ 255) && decide ((p.size : Int) ≤ 64))
def printB (k : Int) (p : ByteArray) : ByteArray := bif rightB k p then prt k p else ⟨#[]⟩
theorem two16_size (x : Int) : (two16 x).size = 2 := by simp [two16, strOfNums_size]
theorem bodyT_size (k : Int) (p : ByteArray) : (bodyT k p).size = p.size + 2 := by
  unfold bodyT
  rw [ByteArray.size_append, strOfNums_size]
  simp only [List.length_cons, List.length_nil]
  omega
theorem prt_size (k : Int) (p : ByteArray) : (prt k p).size = p.size + 6 := by
  unfold prt sumT
  rw [ByteArray.size_append, ByteArray.size_append, bodyT_size, two16_size]
  show 2 + _ + 2 = _
  omega

/-- What the bytes begin with may become no frame. -/
def badB (s : ByteArray) : Bool := (decide ((s.size : Int) > 0) && strAt s 0 != 165) || ((decide ((s.size : Int) > 1) && strAt s 1 != 90) || (decide ((s.size : Int) > 3) && decide (strAt s 3 > 64)))
def lenN (s : ByteArray) : Int := 6 + strAt s 3
def shortB (s : ByteArray) : Bool := decide ((s.size : Int) < 4) || decide ((s.size : Int) < lenN s)
def kOf (s : ByteArray) : Int := strAt s 2
def pOf (s : ByteArray) : ByteArray := s.extract 4 (lenN s - 2).toNat
def okB (s : ByteArray) : Bool := prt (kOf s) (pOf s) == s.extract 0 (lenN s).toNat
def rdE (s : ByteArray) : Int := bif badB s then 3 else bif shortB s then 5 else bif okB s then 0 else 4
def rdK (s : ByteArray) : Int := bif rdE s == 0 then kOf s else 0
def rdP (s : ByteArray) : ByteArray := bif rdE s == 0 then pOf s else ⟨#[]⟩
def rdN (s : ByteArray) : Int := bif rdE s == 0 then lenN s else 0

theorem strAt_range (s : ByteArray) (k : Nat) : 0 ≤ strAt s (k : Int) ∧ strAt s (k : Int) < 256 := by
  rw [strAt_L]
  cases (L s)[k]? with
  | none => simp
  | some b => have := byte_lt b; simp; omega
theorem strAt_app {s t : ByteArray} {k : Nat} (h : k < s.size) : strAt (s ++ t) (k : Int) = strAt s (k : Int) := by
  rw [strAt_L, strAt_L, L_app, List.getElem?_append_left (by rw [L_len]; exact h)]
theorem lenN_range (s : ByteArray) : 6 ≤ lenN s ∧ lenN s < 262 := by
  have := strAt_range s 3
  unfold lenN
  rw [show (3 : Int) = ((3 : Nat) : Int) from rfl]
  omega
theorem rdE_cases (s : ByteArray) : (rdE s = 3 ∧ badB s = true) ∨ (rdE s = 5 ∧ badB s = false ∧ shortB s = true) ∨ (rdE s = 0 ∧ badB s = false ∧ shortB s = false ∧ okB s = true) ∨ (rdE s = 4 ∧ badB s = false ∧ shortB s = false ∧ okB s = false) := by
  unfold rdE
  cases badB s <;> cases shortB s <;> cases okB s <;> simp
/-- What stands there alone decides. -/
theorem bad_app {s t : ByteArray} (h : badB s = true) : badB (s ++ t) = true := by
  unfold badB at *
  simp only [Bool.or_eq_true, Bool.and_eq_true, decide_eq_true_eq, bne_iff_ne, ne_eq] at *
  have hs : (s ++ t).size = s.size + t.size := ByteArray.size_append
  rcases h with ⟨h1, h2⟩ | ⟨h1, h2⟩ | ⟨h1, h2⟩
  · refine .inl ⟨by omega, ?_⟩
    rw [show (0 : Int) = ((0 : Nat) : Int) from rfl, strAt_app (by omega)]
    exact h2
  · refine .inr (.inl ⟨by omega, ?_⟩)
    rw [show (1 : Int) = ((1 : Nat) : Int) from rfl, strAt_app (by omega)]
    exact h2
  · refine .inr (.inr ⟨by omega, ?_⟩)
    rw [show (3 : Int) = ((3 : Nat) : Int) from rfl, strAt_app (by omega)]
    exact h2
theorem not_short {s : ByteArray} (h : shortB s = false) : 4 ≤ s.size ∧ (lenN s).toNat ≤ s.size ∧ 6 ≤ (lenN s).toNat := by
  unfold shortB at h
  simp only [Bool.or_eq_false_iff, decide_eq_false_iff_not] at h
  have := lenN_range s
  omega
theorem lenN_app {s t : ByteArray} (h : 4 ≤ s.size) : lenN (s ++ t) = lenN s := by
  unfold lenN
  rw [show (3 : Int) = ((3 : Nat) : Int) from rfl, strAt_app (by omega)]
theorem good_app {s t : ByteArray} (h : badB s = false) (h2 : shortB s = false) : badB (s ++ t) = false ∧ shortB (s ++ t) = false ∧ okB (s ++ t) = okB s ∧ kOf (s ++ t) = kOf s ∧ pOf (s ++ t) = pOf s ∧ lenN (s ++ t) = lenN s := by
  obtain ⟨h4, h5, h6⟩ := not_short h2
  have hs : (s ++ t).size = s.size + t.size := ByteArray.size_append
  have e1 : lenN (s ++ t) = lenN s := lenN_app h4
  have e2 : kOf (s ++ t) = kOf s := by
    unfold kOf
    rw [show (2 : Int) = ((2 : Nat) : Int) from rfl, strAt_app (by omega)]
  have e3 : pOf (s ++ t) = pOf s := by
    unfold pOf
    rw [e1, ext_app0 (by omega)]
  refine ⟨?_, ?_, ?_, e2, e3, e1⟩
  · unfold badB at *
    have a0 : strAt (s ++ t) 0 = strAt s 0 := strAt_app (k := 0) (by omega)
    have a1 : strAt (s ++ t) 1 = strAt s 1 := strAt_app (k := 1) (by omega)
    have a3 : strAt (s ++ t) 3 = strAt s 3 := strAt_app (k := 3) (by omega)
    rw [a0, a1, a3]
    simp only [Bool.or_eq_false_iff, Bool.and_eq_false_iff, decide_eq_false_iff_not, bne_eq_false_iff_eq] at *
    omega
  · unfold shortB
    rw [e1]
    simp only [Bool.or_eq_false_iff, decide_eq_false_iff_not]
    omega
  · unfold okB
    rw [e1, e2, e3, ext_app0 (by omega)]
theorem rd_app {s t : ByteArray} (h : rdE s ≠ 5) : rdE (s ++ t) = rdE s ∧ rdK (s ++ t) = rdK s ∧ rdP (s ++ t) = rdP s ∧ rdN (s ++ t) = rdN s := by
  have key : rdE (s ++ t) = rdE s := by
    rcases rdE_cases s with ⟨h1, h2⟩ | ⟨h1, h2, h3⟩ | ⟨h1, h2, h3, h4⟩ | ⟨h1, h2, h3, h4⟩
    · rw [h1]; unfold rdE; rw [bad_app h2]; rfl
    · exact absurd h1 h
    · obtain ⟨g1, g2, g3, _⟩ := good_app (t := t) h2 h3
      rw [h1]; unfold rdE; rw [g1, g2, g3, h4]; rfl
    · obtain ⟨g1, g2, g3, _⟩ := good_app (t := t) h2 h3
      rw [h1]; unfold rdE; rw [g1, g2, g3, h4]; rfl
  refine ⟨key, ?_⟩
  unfold rdK rdP rdN
  rw [key]
  rcases rdE_cases s with ⟨h1, h2⟩ | ⟨h1, h2, h3⟩ | ⟨h1, h2, h3, h4⟩ | ⟨h1, h2, h3, h4⟩
  · rw [h1]; exact ⟨rfl, rfl, rfl⟩
  · exact absurd h1 h
  · obtain ⟨g1, g2, g3, g4, g5, g6⟩ := good_app (t := t) h2 h3
    rw [h1, g4, g5, g6]
    exact ⟨rfl, rfl, rfl⟩
  · rw [h1]; exact ⟨rfl, rfl, rfl⟩
theorem rd_ok {s : ByteArray} (h : rdE s = 0) : (rdN s).toNat ≤ s.size ∧ 6 ≤ (rdN s).toNat ∧ rdN s = ((rdN s).toNat : Int) ∧ rdK s = kOf s ∧ rdP s = pOf s ∧ rdN s = lenN s ∧ (rdP s).size + 6 = (rdN s).toNat ∧ (rdP s).size ≤ 64 ∧ 0 ≤ rdK s ∧ rdK s ≤ 255 ∧ badB s = false ∧ shortB s = false ∧ okB s = true := by
  rcases rdE_cases s with ⟨h1, h2⟩ | ⟨h1, h2, h3⟩ | ⟨h1, h2, h3, h4⟩ | ⟨h1, h2, h3, h4⟩
  · omega
  · omega
  · obtain ⟨g1, g2, g3⟩ := not_short h3
    have e1 : rdN s = lenN s := by unfold rdN; rw [h]; rfl
    have e2 : rdK s = kOf s := by unfold rdK; rw [h]; rfl
    have e3 : rdP s = pOf s := by unfold rdP; rw [h]; rfl
    have hl := lenN_range s
    have hb := h2
    unfold badB at hb
    simp only [Bool.or_eq_false_iff, Bool.and_eq_false_iff, decide_eq_false_iff_not] at hb
    have h64 : strAt s 3 ≤ 64 := by omega
    have hp : (rdP s).size + 6 = (lenN s).toNat := by
      rw [e3]
      unfold pOf
      rw [ByteArray.size_extract]
      omega
    have hk := strAt_range s 2
    refine ⟨by rw [e1]; exact g2, by rw [e1]; exact g3, by rw [e1]; omega, e2, e3, e1, by rw [e1]; exact hp, ?_, ?_, ?_, h2, h3, h4⟩
    · unfold lenN at hp
      omega
    · rw [e2]; exact hk.1
    · rw [e2]; unfold kOf; have := hk.2; rw [show (2 : Int) = ((2 : Nat) : Int) from rfl]; omega
  · omega
theorem rd_short {s : ByteArray} (h : rdE s = 5) : s.size < 70 := by
  rcases rdE_cases s with ⟨h1, h2⟩ | ⟨h1, h2, h3⟩ | ⟨h1, h2, h3, h4⟩ | ⟨h1, h2, h3, h4⟩
  · omega
  · unfold shortB at h3
    unfold badB at h2
    simp only [Bool.or_eq_true, decide_eq_true_eq, Bool.or_eq_false_iff, Bool.and_eq_false_iff, decide_eq_false_iff_not] at h2 h3
    unfold lenN at h3
    omega
  · omega
  · omega
theorem rd_nil : rdE ⟨#[]⟩ = 5 := by rfl
theorem rd_some {s : ByteArray} (h : rdE s ≠ 5) : 0 < s.size := by
  apply Classical.byContradiction
  intro hn
  have : s = ⟨#[]⟩ := by
    rw [← L_inj]
    have : (L s).length = 0 := by rw [L_len]; omega
    exact List.eq_nil_of_length_eq_zero this
  rw [this] at h
  exact h rd_nil
end Go.Proofs.Ytbfcnkelldbfbaa

namespace Go.Proofs.Ytbfcnkelldbfbaa
open Go Go.Proofs Go.Sx
set_option linter.unusedVariables false
set_option maxRecDepth 20000 in
theorem runSum (s : ByteArray) : runG ΓK L0 Try.prog Try.f22 [.v (S s)] M0 = bif szS s then some (.v (S (sumT s)), M0) else none := by kernel_rfl
def gSum (vs : List Value) : Option (Bool × Value) :=
  match vs with
  | [.string s] => some (szS s, S (sumT s))
  | _ => none
theorem gSum_ok : ∀ vs r, gSum vs = some (true, r) → ∀ m, CallOk Try.prog 22 (vs.map .v) m (.v r) m := by
  intro vs r h
  unfold gSum at h
  split at h
  · rename_i s
    obtain ⟨h1, rfl⟩ := some_t h
    refine runV (vs := [S s]) (Λ := L0) (m' := M0) OkK Try.func22 rfl (fun z _ _ => noLoops (by kernel_rfl) z) ?_
    exact (runSum s).trans (by rw [h1]; rfl)
  · cases h
noncomputable def ΓF1 : Orc := addVal 22 gSum ΓK
theorem OkF1 : ΓF1.Ok Try.prog := addVal_ok OkK gSum_ok
set_option maxRecDepth 20000 in
theorem runTwo (x : Int) : runG ΓF1 L0 Try.prog Try.f26 [.v (U16 x)] M0 = some (.v (S (two16 x)), M0) := by kernel_rfl
def gTwo (vs : List Value) : Option (Bool × Value) :=
  match vs with
  | [.int .u16 x] => some (true, S (two16 x))
  | _ => none
theorem gTwo_ok : ∀ vs r, gTwo vs = some (true, r) → ∀ m, CallOk Try.prog 26 (vs.map .v) m (.v r) m := by
  intro vs r h
  unfold gTwo at h
  split at h
  · rename_i x
    obtain ⟨h1, rfl⟩ := some_t h
    refine runV (vs := [U16 x]) (Λ := L0) (m' := M0) OkF1 Try.func26 rfl (fun z _ _ => noLoops (by kernel_rfl) z) ?_
    exact (runTwo x).trans (rfl)
  · cases h
noncomputable def ΓF2 : Orc := addVal 26 gTwo ΓF1
theorem OkF2 : ΓF2.Ok Try.prog := addVal_ok OkF1 gTwo_ok
set_option maxRecDepth 20000 in
theorem runRight (k : Int) (p : ByteArray) : runG ΓF2 L0 Try.prog Try.f15 [.v (.agg #[I k, S p])] M0 = bif decide (k ≥ 0) then (bif decide (k ≤ 255) then some (.v (Bo (decide ((p.size : Int) ≤ 64))), M0) else some (.v (Bo false), M0)) else some (.v (Bo false), M0) := by kernel_rfl
def gRight (vs : List Value) : Option (Bool × Value) :=
  match vs with
  | [.agg ⟨[.int .i64 k, .string p]⟩] => some (true, Bo (rightB k p))
  | _ => none
theorem gRight_ok : ∀ vs r, gRight vs = some (true, r) → ∀ m, CallOk Try.prog 15 (vs.map .v) m (.v r) m := by
  intro vs r h
  unfold gRight at h
  split at h
  · rename_i k p
    obtain ⟨h1, rfl⟩ := some_t h
    refine runV (vs := [.agg #[I k, S p]]) (Λ := L0) (m' := M0) OkF2 Try.func15 rfl (fun z _ _ => noLoops (by kernel_rfl) z) ?_
    exact (runRight k p).trans (by unfold rightB; cases decide (k ≥ 0) <;> cases decide (k ≤ 255) <;> rfl)
  · cases h
noncomputable def ΓF3 : Orc := addVal 15 gRight ΓF2
theorem OkF3 : ΓF3.Ok Try.prog := addVal_ok OkF2 gRight_ok
set_option maxRecDepth 20000 in
theorem runRRight (k : Int) (p : ByteArray) : runG ΓF3 L0 Try.prog Try.f11 [.v (.agg #[I k, S p])] M0 = bif decide (k ≥ 0) then (bif decide (k ≤ 255) then some (.v (Bo (decide ((p.size : Int) ≤ 64))), M0) else some (.v (Bo false), M0)) else some (.v (Bo false), M0) := by kernel_rfl
def gRRight (vs : List Value) : Option (Bool × Value) :=
  match vs with
  | [.agg ⟨[.int .i64 k, .string p]⟩] => some (true, Bo (rightB k p))
  | _ => none
theorem gRRight_ok : ∀ vs r, gRRight vs = some (true, r) → ∀ m, CallOk Try.prog 11 (vs.map .v) m (.v r) m := by
  intro vs r h
  unfold gRRight at h
  split at h
  · rename_i k p
    obtain ⟨h1, rfl⟩ := some_t h
    refine runV (vs := [.agg #[I k, S p]]) (Λ := L0) (m' := M0) OkF3 Try.func11 rfl (fun z _ _ => noLoops (by kernel_rfl) z) ?_
    exact (runRRight k p).trans (by unfold rightB; cases decide (k ≥ 0) <;> cases decide (k ≤ 255) <;> rfl)
  · cases h
noncomputable def ΓF4 : Orc := addVal 11 gRRight ΓF3
theorem OkF4 : ΓF4.Ok Try.prog := addVal_ok OkF3 gRRight_ok
set_option maxRecDepth 20000 in
theorem runLike (k : Int) (p : ByteArray) : runG ΓF4 L0 Try.prog Try.f12 [.v (.agg #[I k, S p])] M0 = some (.v (.agg #[I k, S p]), M0) := by kernel_rfl
def gLike (vs : List Value) : Option (Bool × Value) :=
  match vs with
  | [.agg ⟨[.int .i64 k, .string p]⟩] => some (true, .agg #[I k, S p])
  | _ => none
theorem gLike_ok : ∀ vs r, gLike vs = some (true, r) → ∀ m, CallOk Try.prog 12 (vs.map .v) m (.v r) m := by
  intro vs r h
  unfold gLike at h
  split at h
  · rename_i k p
    obtain ⟨h1, rfl⟩ := some_t h
    refine runV (vs := [.agg #[I k, S p]]) (Λ := L0) (m' := M0) OkF4 Try.func12 rfl (fun z _ _ => noLoops (by kernel_rfl) z) ?_
    exact (runLike k p).trans (rfl)
  · cases h
noncomputable def ΓF5 : Orc := addVal 12 gLike ΓF4
theorem OkF5 : ΓF5.Ok Try.prog := addVal_ok OkF4 gLike_ok
def hasP (s t : ByteArray) : Bool := decide (t.size ≤ s.size) && (L (s.extract 0 t.size) == L t)
set_option maxRecDepth 20000 in
theorem runHasP0 (s t : ByteArray) : runG ΓF5 L0 Try.prog Try.f39 [.v (S s), .v (S t)] M0 = bif decide ((s.size : Int) ≥ (t.size : Int)) then (bif decide ((0 : Int) ≤ 0) && (decide (0 ≤ (t.size : Int)) && decide ((t.size : Int) ≤ (s.size : Int))) then some (.v (Bo ((s.extract (Int.toNat 0) (t.size : Int).toNat).toList == t.toList)), M0) else none) else some (.v (Bo false), M0) := by kernel_rfl
def gHasP0 (vs : List Value) : Option (Bool × Value) :=
  match vs with
  | [.string s, .string t] => some (true, Bo (hasP s t))
  | _ => none
theorem gHasP0_ok : ∀ vs r, gHasP0 vs = some (true, r) → ∀ m, CallOk Try.prog 39 (vs.map .v) m (.v r) m := by
  intro vs r h
  unfold gHasP0 at h
  split at h
  · rename_i s t
    obtain ⟨h1, rfl⟩ := some_t h
    refine runV (vs := [S s, S t]) (Λ := L0) (m' := M0) OkF5 Try.func39 rfl (fun z _ _ => noLoops (by kernel_rfl) z) ?_
    exact (runHasP0 s t).trans (by
      unfold hasP
      by_cases hc : t.size ≤ s.size
      · rw [decide_eq_true (show (s.size : Int) ≥ (t.size : Int) by omega), decide_eq_true (show (0 : Int) ≤ 0 by omega), decide_eq_true (show 0 ≤ (t.size : Int) by omega), decide_eq_true hc, beq_T]
        rfl
      · rw [decide_eq_false (show ¬ (s.size : Int) ≥ (t.size : Int) by omega), decide_eq_false hc]
        rfl)
  · cases h
noncomputable def ΓF6 : Orc := addVal 39 gHasP0 ΓF5
theorem OkF6 : ΓF6.Ok Try.prog := addVal_ok OkF5 gHasP0_ok
set_option maxRecDepth 20000 in
theorem runHasP (s t : ByteArray) : runG ΓF6 L0 Try.prog Try.f32 [.v (S s), .v (S t)] M0 = some (.v (Bo (hasP s t)), M0) := by kernel_rfl
def gHasP (vs : List Value) : Option (Bool × Value) :=
  match vs with
  | [.string s, .string t] => some (true, Bo (hasP s t))
  | _ => none
theorem gHasP_ok : ∀ vs r, gHasP vs = some (true, r) → ∀ m, CallOk Try.prog 32 (vs.map .v) m (.v r) m := by
  intro vs r h
  unfold gHasP at h
  split at h
  · rename_i s t
    obtain ⟨h1, rfl⟩ := some_t h
    refine runV (vs := [S s, S t]) (Λ := L0) (m' := M0) OkF6 Try.func32 rfl (fun z _ _ => noLoops (by kernel_rfl) z) ?_
    exact (runHasP s t).trans (rfl)
  · cases h
noncomputable def ΓF7 : Orc := addVal 32 gHasP ΓF6
theorem OkF7 : ΓF7.Ok Try.prog := addVal_ok OkF6 gHasP_ok
set_option maxRecDepth 20000 in
theorem runClone1 (s : ByteArray) : runG ΓF7 L0 Try.prog Try.f25 [.v (S s)] M0 = bif Nat.ble s.size 281474976710656 then some (.v (S s), M0) else none := by kernel_rfl
def gClone1 (vs : List Value) : Option (Bool × Value) :=
  match vs with
  | [.string s] => some (Nat.ble s.size 281474976710656, S s)
  | _ => none
theorem gClone1_ok : ∀ vs r, gClone1 vs = some (true, r) → ∀ m, CallOk Try.prog 25 (vs.map .v) m (.v r) m := by
  intro vs r h
  unfold gClone1 at h
  split at h
  · rename_i s
    obtain ⟨h1, rfl⟩ := some_t h
    refine runV (vs := [S s]) (Λ := L0) (m' := M0) OkF7 Try.func25 rfl (fun z _ _ => noLoops (by kernel_rfl) z) ?_
    exact (runClone1 s).trans (by rw [h1]; rfl)
  · cases h
noncomputable def ΓF8 : Orc := addVal 25 gClone1 ΓF7
theorem OkF8 : ΓF8.Ok Try.prog := addVal_ok OkF7 gClone1_ok
set_option maxRecDepth 20000 in
theorem runSize (s : ByteArray) : runG ΓF8 L0 Try.prog Try.f24 [.v (S s)] M0 = bif decide ((0 : Int) ≤ 3) && decide (3 < (s.size : Int)) then some (.v (I (IntKind.i64.wrap (IntKind.i64.wrap (4 + IntKind.i64.wrap (strAt s 3)) + 2))), M0) else none := by kernel_rfl
def gSize (vs : List Value) : Option (Bool × Value) :=
  match vs with
  | [.string s] => some (decide (3 < (s.size : Int)), I (lenN s))
  | _ => none
theorem gSize_ok : ∀ vs r, gSize vs = some (true, r) → ∀ m, CallOk Try.prog 24 (vs.map .v) m (.v r) m := by
  intro vs r h
  unfold gSize at h
  split at h
  · rename_i s
    obtain ⟨h1, rfl⟩ := some_t h
    refine runV (vs := [S s]) (Λ := L0) (m' := M0) OkF8 Try.func24 rfl (fun z _ _ => noLoops (by kernel_rfl) z) ?_
    exact (runSize s).trans (by
      have h3 := strAt_range s 3
      rw [show ((3 : Nat) : Int) = 3 from rfl] at h3
      have e : IntKind.i64.wrap (IntKind.i64.wrap (4 + IntKind.i64.wrap (strAt s 3)) + 2) = lenN s := by
        show wI (wI (4 + wI (strAt s 3)) + 2) = _
        rw [wI_id (n := strAt s 3) (by omega), wI_id (n := 4 + strAt s 3) (by omega), wI_id (by omega)]
        unfold lenN
        omega
      rw [e, show decide ((0 : Int) ≤ 3) = true from rfl, h1]
      rfl)
  · cases h
noncomputable def ΓF9 : Orc := addVal 24 gSize ΓF8
theorem OkF9 : ΓF9.Ok Try.prog := addVal_ok OkF8 gSize_ok
noncomputable def ΓFa : Orc := ΓF9
theorem OkFa : ΓFa.Ok Try.prog := OkF9
end Go.Proofs.Ytbfcnkelldbfbaa

namespace Go.Proofs.Ytbfcnkelldbfbaa
open Go Go.Proofs Go.Sx
theorem byte_eq (a : UInt8) (n : Nat) (hn : n < 256) : ((a.toNat : Int) != (n : Int)) = (a != UInt8.ofNat n) := by
  have e : ((a.toNat : Int) = (n : Int)) ↔ a = UInt8.ofNat n := by
    constructor
    · intro h
      rw [← UInt8.toNat_inj, UInt8.toNat_ofNat', Nat.mod_eq_of_lt hn]
      omega
    · rintro rfl
      rw [UInt8.toNat_ofNat', Nat.mod_eq_of_lt hn]
  by_cases h : a = UInt8.ofNat n
  · rw [bne_eq_false_iff_eq.2 (e.2 h), bne_eq_false_iff_eq.2 h]
  · rw [bne_iff_ne.2 (fun q => h (e.1 q)), bne_iff_ne.2 h]
theorem hasMark (s : ByteArray) : hasP s (mark.extract (Int.toNat 0) (if (2 : Int) < (s.size : Int) then 2 else (s.size : Int)).toNat) =
    !((decide ((s.size : Int) > 0) && strAt s 0 != 165) || (decide ((s.size : Int) > 1) && strAt s 1 != 90)) := by
  have h0 := strAt_L s 0
  have h1 := strAt_L s 1
  rw [show ((0 : Nat) : Int) = 0 from rfl] at h0
  rw [show ((1 : Nat) : Int) = 1 from rfl] at h1
  have hl := L_len s
  unfold hasP
  rw [L_ext, L_ext]
  have hmk : L mark = [165, 90] := rfl
  rw [hmk, h0, h1]
  generalize hx : L s = l at *
  match l with
  | [] =>
    have hs : s.size = 0 := by rw [← hl]; rfl
    rw [hs]
    rfl
  | [a] =>
    have hs : s.size = 1 := by rw [← hl]; rfl
    rw [hs]
    have e : (mark.extract (Int.toNat 0) (if (2 : Int) < ((1 : Nat) : Int) then 2 else ((1 : Nat) : Int)).toNat).size = 1 := rfl
    rw [e]
    have := byte_eq a 165 (by omega)
    simp only [List.getElem?_cons_zero, Option.map_some, Option.getD_some]
    rw [show ((165 : Nat) : Int) = 165 from rfl] at this
    rw [this]
    simp [bne]
  | a :: b :: r =>
    have hs : 2 ≤ s.size := by rw [← hl]; simp
    have e0 : (if (2 : Int) < (s.size : Int) then 2 else (s.size : Int)).toNat = 2 := by split <;> omega
    rw [e0]
    have e : (mark.extract (Int.toNat 0) 2).size = 2 := rfl
    rw [e]
    have t0 := byte_eq a 165 (by omega)
    have t1 := byte_eq b 90 (by omega)
    rw [show ((165 : Nat) : Int) = 165 from rfl] at t0
    rw [show ((90 : Nat) : Int) = 90 from rfl] at t1
    simp only [List.getElem?_cons_zero, List.getElem?_cons_succ, Option.map_some, Option.getD_some]
    rw [t0, t1, decide_eq_true (show (s.size : Int) > 0 by omega), decide_eq_true (show (s.size : Int) > 1 by omega), decide_eq_true hs]
    simp [bne]
theorem may_eq (s : ByteArray) : (!badB s) = (hasP s (mark.extract (Int.toNat 0) (if (2 : Int) < (s.size : Int) then 2 else (s.size : Int)).toNat) && (decide ((s.size : Int) < 4) || decide (strAt s 3 ≤ 64))) := by
  rw [hasMark]
  unfold badB
  generalize (decide ((s.size : Int) > 0) && strAt s 0 != 165) = x
  generalize (decide ((s.size : Int) > 1) && strAt s 1 != 90) = y
  have : (decide ((s.size : Int) > 3) && decide (strAt s 3 > 64)) = !(decide ((s.size : Int) < 4) || decide (strAt s 3 ≤ 64)) := by
    by_cases h1 : (s.size : Int) < 4 <;> by_cases h2 : strAt s 3 ≤ 64 <;> simp [h1, h2] <;> omega
  rw [this]
  cases x <;> cases y <;> cases (decide ((s.size : Int) < 4) || decide (strAt s 3 ≤ 64)) <;> rfl
theorem szS_of {s : ByteArray} (h : s.size ≤ 9223372036854775807) : szS s = true := Nat.ble_eq_true_of_le h
theorem right_size {k : Int} {p : ByteArray} (h : rightB k p = true) : p.size ≤ 64 ∧ 0 ≤ k ∧ k ≤ 255 := by
  unfold rightB at h
  simp only [Bool.and_eq_true, decide_eq_true_eq] at h
  omega
theorem mark_eq : strOfNums [165, 90] = mark := rfl
end Go.Proofs.Ytbfcnkelldbfbaa

namespace Go.Proofs.Ytbfcnkelldbfbaa
open Go Go.Proofs Go.Sx
set_option linter.unusedVariables false
set_option maxRecDepth 20000 in
theorem runMay (s : ByteArray) : runG ΓFa L0 Try.prog Try.f23 [.v (S s)] M0 = bif decide ((0 : Int) ≤ 0) && (decide ((0 : Int) ≤ (if (2 : Int) < (s.size : Int) then 2 else (s.size : Int))) && decide ((if (2 : Int) < (s.size : Int) then 2 else (s.size : Int)) ≤ (mark.size : Int))) then
      (bif !hasP s (mark.extract (Int.toNat 0) (if (2 : Int) < (s.size : Int) then 2 else (s.size : Int)).toNat) then some (.v (Bo false), M0) else
        (bif decide ((s.size : Int) < 4) then some (.v (Bo true), M0) else (bif decide ((0 : Int) ≤ 3) && decide (3 < (s.size : Int)) then some (.v (Bo (decide (strAt s 3 ≤ 64))), M0) else none))) else none := by kernel_rfl
def gMay (vs : List Value) : Option (Bool × Value) :=
  match vs with
  | [.string s] => some (true, Bo (!badB s))
  | _ => none
theorem gMay_ok : ∀ vs r, gMay vs = some (true, r) → ∀ m, CallOk Try.prog 23 (vs.map .v) m (.v r) m := by
  intro vs r h
  unfold gMay at h
  split at h
  · rename_i s
    obtain ⟨h1, rfl⟩ := some_t h
    refine runV (vs := [S s]) (Λ := L0) (m' := M0) OkFa Try.func23 rfl (fun z _ _ => noLoops (by kernel_rfl) z) ?_
    exact (runMay s).trans (by
      have hm : mark.size = 2 := rfl
      have e1 : (0 : Int) ≤ (if (2 : Int) < (s.size : Int) then 2 else (s.size : Int)) := by split <;> omega
      have e2 : (if (2 : Int) < (s.size : Int) then 2 else (s.size : Int)) ≤ (mark.size : Int) := by rw [hm]; split <;> omega
      rw [decide_eq_true e1, decide_eq_true e2, may_eq s]
      generalize hasP s (mark.extract (Int.toNat 0) (if (2 : Int) < (s.size : Int) then 2 else (s.size : Int)).toNat) = q
      by_cases h4 : (s.size : Int) < 4
      · rw [decide_eq_true h4]
        cases q <;> rfl
      · rw [decide_eq_false h4, decide_eq_true (show (3 : Int) < (s.size : Int) by omega)]
        cases q <;> rfl)
  · cases h
noncomputable def ΓG1 : Orc := addVal 23 gMay ΓFa
theorem OkG1 : ΓG1.Ok Try.prog := addVal_ok OkFa gMay_ok
set_option maxRecDepth 20000 in
theorem runPrint (k : Int) (p : ByteArray) : runG ΓG1 L0 Try.prog Try.f10 [.v (.agg #[I k, S p])] M0 = bif !rightB k p then some (.v (S ⟨#[]⟩), M0) else
      (bif Nat.ble ((strOfNums [IntKind.u8.wrap k, IntKind.u8.wrap (p.size : Int)]).size + p.size) 9223372036854775807 then (bif Nat.ble (mark.size + (bodyT k p).size) 9223372036854775807 then (bif szS (bodyT k p) then (bif Nat.ble ((mark ++ bodyT k p).size + (sumT (bodyT k p)).size) 9223372036854775807 then some (.v (S ((mark ++ bodyT k p) ++ sumT (bodyT k p))), M0) else none) else none) else none) else none) := by kernel_rfl
def gPrint (vs : List Value) : Option (Bool × Value) :=
  match vs with
  | [.agg ⟨[.int .i64 k, .string p]⟩] => some (true, S (printB k p))
  | _ => none
theorem gPrint_ok : ∀ vs r, gPrint vs = some (true, r) → ∀ m, CallOk Try.prog 10 (vs.map .v) m (.v r) m := by
  intro vs r h
  unfold gPrint at h
  split at h
  · rename_i k p
    obtain ⟨h1, rfl⟩ := some_t h
    refine runV (vs := [.agg #[I k, S p]]) (Λ := L0) (m' := M0) OkG1 Try.func10 rfl (fun z _ _ => noLoops (by kernel_rfl) z) ?_
    exact (runPrint k p).trans (by
      unfold printB
      cases hr : rightB k p with
      | false => rfl
      | true =>
        obtain ⟨hp, _, _⟩ := right_size hr
        have hb := bodyT_size k p
        have hm : mark.size = 2 := rfl
        have h2 : (sumT (bodyT k p)).size = 2 := two16_size _
        have hma : (mark ++ bodyT k p).size = 2 + (p.size + 2) := by rw [ByteArray.size_append, hm, hb]
        rw [strOfNums_size, hma, h2, hm, hb, szS_of (by omega)]
        rw [show Nat.ble ([IntKind.u8.wrap k, IntKind.u8.wrap (p.size : Int)].length + p.size) 9223372036854775807 = true from Nat.ble_eq_true_of_le (by simp only [List.length_cons, List.length_nil]; omega), show Nat.ble (2 + (p.size + 2)) 9223372036854775807 = true from Nat.ble_eq_true_of_le (by omega), show Nat.ble (2 + (p.size + 2) + 2) 9223372036854775807 = true from Nat.ble_eq_true_of_le (by omega)]
        rfl)
  · cases h
noncomputable def ΓG2 : Orc := addVal 10 gPrint ΓG1
theorem OkG2 : ΓG2.Ok Try.prog := addVal_ok OkG1 gPrint_ok
set_option maxRecDepth 20000 in
theorem runRPrint (k : Int) (p : ByteArray) : runG ΓG2 L0 Try.prog Try.f14 [.v (.agg #[I k, S p])] M0 = bif !rightB k p then some (.v (S ⟨#[]⟩), M0) else
      (bif Nat.ble ((strOfNums [IntKind.u8.wrap k, IntKind.u8.wrap (p.size : Int)]).size + p.size) 9223372036854775807 then (bif Nat.ble ((strOfNums [165, 90]).size + (bodyT k p).size) 9223372036854775807 then (bif in16 65535 && szS (bodyT k p) then (bif Nat.ble (((strOfNums [165, 90]) ++ bodyT k p).size + (sumT (bodyT k p)).size) 9223372036854775807 then some (.v (S (((strOfNums [165, 90]) ++ bodyT k p) ++ sumT (bodyT k p))), M0) else none) else none) else none) else none) := by kernel_rfl
def gRPrint (vs : List Value) : Option (Bool × Value) :=
  match vs with
  | [.agg ⟨[.int .i64 k, .string p]⟩] => some (true, S (printB k p))
  | _ => none
theorem gRPrint_ok : ∀ vs r, gRPrint vs = some (true, r) → ∀ m, CallOk Try.prog 14 (vs.map .v) m (.v r) m := by
  intro vs r h
  unfold gRPrint at h
  split at h
  · rename_i k p
    obtain ⟨h1, rfl⟩ := some_t h
    refine runV (vs := [.agg #[I k, S p]]) (Λ := L0) (m' := M0) OkG2 Try.func14 rfl (fun z _ _ => noLoops (by kernel_rfl) z) ?_
    exact (runRPrint k p).trans (by
      unfold printB
      cases hr : rightB k p with
      | false => rfl
      | true =>
        obtain ⟨hp, _, _⟩ := right_size hr
        have hb := bodyT_size k p
        have hm : (strOfNums [165, 90]).size = 2 := rfl
        have h2 : (sumT (bodyT k p)).size = 2 := two16_size _
        have hma : ((strOfNums [165, 90]) ++ bodyT k p).size = 2 + (p.size + 2) := by rw [ByteArray.size_append, hm, hb]
        rw [strOfNums_size, hma, h2, hm, hb, szS_of (by omega)]
        rw [show Nat.ble ([IntKind.u8.wrap k, IntKind.u8.wrap (p.size : Int)].length + p.size) 9223372036854775807 = true from Nat.ble_eq_true_of_le (by simp only [List.length_cons, List.length_nil]; omega), show Nat.ble (2 + (p.size + 2)) 9223372036854775807 = true from Nat.ble_eq_true_of_le (by omega), show Nat.ble (2 + (p.size + 2) + 2) 9223372036854775807 = true from Nat.ble_eq_true_of_le (by omega)]
        rfl)
  · cases h
noncomputable def ΓG3 : Orc := addVal 14 gRPrint ΓG2
theorem OkG3 : ΓG3.Ok Try.prog := addVal_ok OkG2 gRPrint_ok
noncomputable def ΓGa : Orc := ΓG3
theorem OkGa : ΓGa.Ok Try.prog := OkG3
end Go.Proofs.Ytbfcnkelldbfbaa

namespace Go.Proofs.Ytbfcnkelldbfbaa
open Go Go.Proofs Go.Sx
theorem body_bytes (c d : UInt8) (p : ByteArray) (hp : p.size = d.toNat) : L (bodyT (c.toNat : Int) p) = c :: d :: L p := by
  unfold bodyT
  rw [L_app, L_nums, hp, wrap8, wrap8, Nat.mod_eq_of_lt (byte_lt c), Nat.mod_eq_of_lt (byte_lt d)]
  simp only [List.map_cons, List.map_nil, Int.toNat_natCast, UInt8.ofNat_toNat, List.cons_append, List.nil_append]
/-- A text that may be a frame, byte by byte. -/
theorem frame_list {s : ByteArray} (h1 : badB s = false) (h2 : shortB s = false) : ∃ c d r, L s = 165 :: 90 :: c :: d :: r ∧ kOf s = (c.toNat : Int) ∧ strAt s 3 = (d.toNat : Int) ∧ d.toNat ≤ 64 ∧ lenN s = ((6 + d.toNat : Nat) : Int) ∧ d.toNat + 2 ≤ r.length := by
  obtain ⟨h4, h5, h6⟩ := not_short h2
  have hl := L_len s
  have a0 := strAt_L s 0
  have a1 := strAt_L s 1
  have a2 := strAt_L s 2
  have a3 := strAt_L s 3
  generalize hx : L s = l at *
  match l, hl with
  | [], hl => simp at hl; omega
  | [_], hl => simp at hl; omega
  | [_, _], hl => simp at hl; omega
  | [_, _, _], hl => simp at hl; omega
  | a :: b :: c :: d :: r, hl =>
    simp only [List.getElem?_cons_zero, List.getElem?_cons_succ, Option.map_some, Option.getD_some] at a0 a1 a2 a3
    unfold badB at h1
    rw [show (0 : Int) = ((0 : Nat) : Int) from rfl, show (1 : Int) = ((1 : Nat) : Int) from rfl, show (3 : Int) = ((3 : Nat) : Int) from rfl] at h1
    rw [a0, a1, a3] at h1
    have b0 := byte_eq a 165 (by omega)
    have b1 := byte_eq b 90 (by omega)
    rw [show ((165 : Nat) : Int) = 165 from rfl] at b0
    rw [show ((90 : Nat) : Int) = 90 from rfl] at b1
    rw [b0, b1] at h1
    simp only [Bool.or_eq_false_iff, Bool.and_eq_false_iff, decide_eq_false_iff_not, bne_eq_false_iff_eq] at h1
    obtain ⟨g0, g1, g3⟩ := h1
    have e0 : a = 165 := by
      rcases g0 with g0 | g0
      · omega
      · exact g0
    have e1 : b = 90 := by
      rcases g1 with g1 | g1
      · omega
      · exact g1
    subst e0 e1
    have hlen : lenN s = ((6 + d.toNat : Nat) : Int) := by
      unfold lenN
      rw [show (3 : Int) = ((3 : Nat) : Int) from rfl, a3]
      omega
    refine ⟨c, d, r, rfl, ?_, a3, by omega, hlen, ?_⟩
    · unfold kOf; exact a2
    · rw [hlen] at h5
      simp only [List.length_cons] at hl
      omega
theorem pOf_list {s : ByteArray} {d : Nat} {x y z u : UInt8} {r : List UInt8} (hl : L s = x :: y :: z :: u :: r) (hn : lenN s = ((6 + d : Nat) : Int)) : L (pOf s) = r.take d := by
  unfold pOf
  rw [hn, L_ext, hl, show (((6 + d : Nat) : Int) - 2).toNat - 4 = d by omega]
  rfl
theorem ok_eq {s : ByteArray} (h1 : badB s = false) (h2 : shortB s = false) : ((sumT (s.extract 2 (lenN s - 2).toNat)).toList == (s.extract (lenN s - 2).toNat (lenN s).toNat).toList) = okB s := by
  obtain ⟨c, d, r, hl, hk, hd, hd64, hn, hr⟩ := frame_list h1 h2
  have hp := pOf_list hl hn
  have hps : (pOf s).size = d.toNat := by
    rw [← L_len, hp, List.length_take]
    omega
  have e1 : s.extract 2 (lenN s - 2).toNat = bodyT (kOf s) (pOf s) := by
    rw [← L_inj, hk, body_bytes c d _ hps, hp, L_ext, hl, hn, show (((6 + d.toNat : Nat) : Int) - 2).toNat - 2 = d.toNat + 2 by omega]
    rfl
  have e2 : L (s.extract (lenN s - 2).toNat (lenN s).toNat) = (r.drop d.toNat).take 2 := by
    rw [L_ext, hl, hn, show (((6 + d.toNat : Nat) : Int) - 2).toNat = d.toNat + 4 by omega, show (((6 + d.toNat : Nat) : Int)).toNat - (d.toNat + 4) = 2 by omega]
    rw [Nat.add_comm d.toNat 4, ← List.drop_drop]
    rfl
  have e3 : L (s.extract 0 (lenN s).toNat) = 165 :: 90 :: c :: d :: (r.take d.toNat ++ (r.drop d.toNat).take 2) := by
    rw [L_ext, hl, hn, show (((6 + d.toNat : Nat) : Int)).toNat - 0 = (d.toNat + 2) + 4 by omega, ← List.take_add]
    rfl
  have e4 : L (prt (kOf s) (pOf s)) = 165 :: 90 :: c :: d :: (r.take d.toNat ++ L (sumT (bodyT (kOf s) (pOf s)))) := by
    unfold prt
    rw [L_app, L_app, hk, body_bytes c d _ hps, hp]
    rfl
  rw [e1, beq_T, e2]
  unfold okB
  rw [beq_L, e3, e4, Bool.eq_iff_iff]
  simp only [beq_iff_eq, List.cons.injEq, true_and, List.append_cancel_left_eq]
theorem good_right {s : ByteArray} (h1 : badB s = false) (h2 : shortB s = false) : rightB (kOf s) (pOf s) = true := by
  obtain ⟨c, d, r, hl, hk, hd, hd64, hn, hr⟩ := frame_list h1 h2
  have hp := pOf_list hl hn
  have hps : (pOf s).size = d.toNat := by
    rw [← L_len, hp, List.length_take]
    omega
  have := byte_lt c
  unfold rightB
  rw [hk, hps, decide_eq_true (by omega), decide_eq_true (by omega), decide_eq_true (by omega)]
  rfl
/-- What Read tells. -/
def rdV (s : ByteArray) : Value := .tuple #[.agg #[I (rdK s), S (rdP s)], I (rdN s), I (rdE s)]
theorem rdV_err {s : ByteArray} {e : Int} (h : rdE s = e) (h0 : e ≠ 0) : rdV s = .tuple #[.agg #[I 0, S ⟨#[]⟩], I 0, I e] := by
  subst h
  unfold rdV rdK rdP rdN
  rw [show (rdE s == 0) = false from beq_eq_false_iff_ne.2 h0]
  rfl
theorem rdV_ok {s : ByteArray} (h : rdE s = 0) : rdV s = .tuple #[.agg #[I (kOf s), S (pOf s)], I (lenN s), I 0] := by
  unfold rdV rdK rdP rdN
  rw [h]
  rfl
def oV (v : Value) : Option (SV × Mem) := some (.v v, M0)
def rErr (e : Int) : Option (SV × Mem) := oV (.tuple #[.agg #[I 0, S ⟨#[]⟩], I 0, I e])
def w2 (s : ByteArray) : Int := wI (lenN s - 2)
def rdTree (s : ByteArray) : Option (SV × Mem) :=
  bif !!badB s then rErr 3 else bif decide ((s.size : Int) < 4) then rErr 5 else bif decide (3 < (s.size : Int)) then (bif decide ((s.size : Int) < lenN s) then rErr 5 else bif decide (3 < (s.size : Int)) then
    (bif decide ((0 : Int) ≤ 2) && (decide (2 ≤ w2 s) && decide (w2 s ≤ (s.size : Int))) then (bif szS (s.extract (Int.toNat 2) (w2 s).toNat) then (bif decide (0 ≤ w2 s) && (decide (w2 s ≤ lenN s) && decide (lenN s ≤ (s.size : Int))) then
      (bif !((sumT (s.extract (Int.toNat 2) (w2 s).toNat)).toList == (s.extract (w2 s).toNat (lenN s).toNat).toList) then rErr 4 else
        (bif decide ((0 : Int) ≤ 2) && decide (2 < (s.size : Int)) then (bif decide ((0 : Int) ≤ 4) && (decide (4 ≤ w2 s) && decide (w2 s ≤ (s.size : Int))) then (bif Nat.ble (s.extract (Int.toNat 4) (w2 s).toNat).size 281474976710656 then
          oV (.tuple #[.agg #[I (wI (strAt s 2)), S (s.extract (Int.toNat 4) (w2 s).toNat)], I (lenN s), I 0]) else none) else none) else none))
      else none) else none) else none) else none) else none
theorem w2_eq (s : ByteArray) : w2 s = lenN s - 2 := by
  have := lenN_range s
  unfold w2
  rw [wI_id (by omega)]
theorem k_eq (s : ByteArray) : wI (strAt s 2) = kOf s := by
  have := strAt_range s 2
  rw [show ((2 : Nat) : Int) = 2 from rfl] at this
  unfold kOf
  rw [wI_id (by omega)]
theorem rdTree_eq (s : ByteArray) : rdTree s = oV (rdV s) := by
  unfold rdTree
  rcases rdE_cases s with ⟨h1, h2⟩ | ⟨h1, h2, h3⟩ | ⟨h1, h2, h3, h4⟩ | ⟨h1, h2, h3, h4⟩
  · rw [rdV_err h1 (by decide), h2]; rfl
  · rw [rdV_err h1 (by decide), h2]
    unfold shortB at h3
    by_cases h5 : (s.size : Int) < 4
    · rw [decide_eq_true h5]; rfl
    · rw [decide_eq_false h5, decide_eq_true (show 3 < (s.size : Int) by omega)]
      rw [decide_eq_false h5, Bool.false_or] at h3
      rw [h3]; rfl
  all_goals
    obtain ⟨g1, g2, g3⟩ := not_short h3
    have hr := lenN_range s
    have he := ok_eq h2 h3
    have hx : (s.extract 4 (lenN s - 2).toNat).size ≤ 281474976710656 := by rw [ByteArray.size_extract]; omega
    have hy : (s.extract 2 (lenN s - 2).toNat).size ≤ 9223372036854775807 := by rw [ByteArray.size_extract]; omega
    rw [w2_eq, show Int.toNat 2 = 2 from rfl, show Int.toNat 4 = 4 from rfl, he, h4, k_eq, szS_of hy, Nat.ble_eq_true_of_le hx, h2, decide_eq_false (show ¬ (s.size : Int) < 4 by omega), decide_eq_true (show 3 < (s.size : Int) by omega), decide_eq_false (show ¬ (s.size : Int) < lenN s by omega),
      decide_eq_true (show (2 : Int) ≤ lenN s - 2 by omega), decide_eq_true (show lenN s - 2 ≤ (s.size : Int) by omega), decide_eq_true (show 0 ≤ lenN s - 2 by omega), decide_eq_true (show lenN s - 2 ≤ lenN s by omega), decide_eq_true (show lenN s ≤ (s.size : Int) by omega), decide_eq_true (show 2 < (s.size : Int) by omega), decide_eq_true (show (4 : Int) ≤ lenN s - 2 by omega)]
  · rw [rdV_ok h1]; rfl
  · rw [rdV_err h1 (by decide)]; rfl

def wN (s : ByteArray) : Int := wI (6 + wI (strAt s 3))
def wP (s : ByteArray) : Int := wI (wN s - 2)
def tT (s : ByteArray) : Option (SV × Mem) :=
  bif decide ((s.size : Int) < 4) then rErr 5 else bif decide ((0 : Int) ≤ 3) && decide (3 < (s.size : Int)) then (bif decide ((s.size : Int) < wN s) then rErr 5 else
    bif decide ((0 : Int) ≤ 3) && decide (3 < (s.size : Int)) then (bif decide ((0 : Int) ≤ 2) && decide (2 < (s.size : Int)) then (bif decide ((0 : Int) ≤ 4) && (decide (4 ≤ wP s) && decide (wP s ≤ (s.size : Int))) then
      (bif decide ((0 : Int) ≤ 0) && (decide (0 ≤ wN s) && decide (wN s ≤ (s.size : Int))) then
        (bif !((printB (wI (strAt s 2)) (s.extract (Int.toNat 4) (wP s).toNat)).toList == (s.extract (Int.toNat 0) (wN s).toNat).toList) then rErr 4 else
          oV (.tuple #[.agg #[I (wI (strAt s 2)), S (s.extract (Int.toNat 4) (wP s).toNat)], I (wN s), I 0])) else none) else none) else none) else none) else none
def tX (s : ByteArray) : Option (SV × Mem) :=
  bif decide ((s.size : Int) > 3) then (bif decide ((0 : Int) ≤ 3) && decide (3 < (s.size : Int)) then (bif decide (strAt s 3 > 64) then rErr 3 else tT s) else none) else tT s
def tY (s : ByteArray) : Option (SV × Mem) :=
  bif decide ((s.size : Int) > 1) then (bif decide ((0 : Int) ≤ 1) && decide (1 < (s.size : Int)) then (bif strAt s 1 != 90 then rErr 3 else tX s) else none) else tX s
def tZ (s : ByteArray) : Option (SV × Mem) :=
  bif decide ((s.size : Int) > 0) then (bif decide ((0 : Int) ≤ 0) && decide (0 < (s.size : Int)) then (bif strAt s 0 != 165 then rErr 3 else tY s) else none) else tY s
theorem wN_eq (s : ByteArray) : wN s = lenN s := by
  have := strAt_range s 3
  rw [show ((3 : Nat) : Int) = 3 from rfl] at this
  unfold wN lenN
  rw [wI_id (n := strAt s 3) (by omega), wI_id (by omega)]
theorem tT_eq {s : ByteArray} (h2 : badB s = false) : tT s = oV (rdV s) := by
  have hr := lenN_range s
  have hw : wP s = lenN s - 2 := by unfold wP; rw [wN_eq, wI_id (by omega)]
  unfold tT
  rw [wN_eq, hw, k_eq, show Int.toNat 4 = 4 from rfl, show Int.toNat 0 = 0 from rfl]
  rcases rdE_cases s with ⟨h1, h2'⟩ | ⟨h1, _, h3⟩ | ⟨h1, _, h3, h4⟩ | ⟨h1, _, h3, h4⟩
  · rw [h2] at h2'; cases h2'
  · rw [rdV_err h1 (by decide)]
    unfold shortB at h3
    by_cases h5 : (s.size : Int) < 4
    · rw [decide_eq_true h5]; rfl
    · rw [decide_eq_false h5, decide_eq_true (show 3 < (s.size : Int) by omega)]
      rw [decide_eq_false h5, Bool.false_or] at h3
      rw [h3]; rfl
  all_goals
    obtain ⟨g1, g2, g3⟩ := not_short h3
    have hg := good_right h2 h3
    have he : ((printB (kOf s) (s.extract 4 (lenN s - 2).toNat)).toList == (s.extract 0 (lenN s).toNat).toList) = okB s := by
      rw [beq_TS]
      unfold printB okB
      have : rightB (kOf s) (s.extract 4 (lenN s - 2).toNat) = true := hg
      rw [this]
      rfl
    rw [he, h4, decide_eq_false (show ¬ (s.size : Int) < 4 by omega), decide_eq_true (show 3 < (s.size : Int) by omega), decide_eq_false (show ¬ (s.size : Int) < lenN s by omega),
      decide_eq_true (show (2 : Int) < (s.size : Int) by omega), decide_eq_true (show (4 : Int) ≤ lenN s - 2 by omega), decide_eq_true (show lenN s - 2 ≤ (s.size : Int) by omega), decide_eq_true (show 0 ≤ lenN s by omega), decide_eq_true (show lenN s ≤ (s.size : Int) by omega)]
  · rw [rdV_ok h1]; rfl
  · rw [rdV_err h1 (by decide)]; rfl
theorem tZ_eq (s : ByteArray) : tZ s = oV (rdV s) := by
  have hb : ∀ {x : Bool}, badB s = x → x = true → rErr 3 = oV (rdV s) := by
    rintro x h rfl
    have : rdE s = 3 := by unfold rdE; rw [h]; rfl
    rw [rdV_err this (by decide)]
    rfl
  have hX : (decide ((s.size : Int) > 0) && strAt s 0 != 165) = false → (decide ((s.size : Int) > 1) && strAt s 1 != 90) = false → tX s = oV (rdV s) := by
    intro e0 e1
    have e2 : badB s = (decide ((s.size : Int) > 3) && decide (strAt s 3 > 64)) := by unfold badB; rw [e0, e1]; rfl
    unfold tX
    by_cases h3 : (s.size : Int) > 3
    · rw [decide_eq_true h3] at e2 ⊢
      by_cases h64 : strAt s 3 > 64
      · rw [decide_eq_true h64] at e2 ⊢
        exact hb e2 rfl
      · rw [decide_eq_false h64] at e2 ⊢
        exact tT_eq e2
    · rw [decide_eq_false h3] at e2 ⊢
      exact tT_eq e2
  have hY : (decide ((s.size : Int) > 0) && strAt s 0 != 165) = false → tY s = oV (rdV s) := by
    intro e0
    unfold tY
    by_cases h1 : (s.size : Int) > 1
    · have e3 : decide ((s.size : Int) > 1) = true := decide_eq_true h1
      rw [e3]
      cases h : strAt s 1 != 90 with
      | true => exact hb (x := badB s) rfl (by unfold badB; rw [e0, e3, h]; rfl)
      | false => exact hX e0 (by rw [e3, h]; rfl)
    · have e3 : decide ((s.size : Int) > 1) = false := decide_eq_false h1
      rw [e3]
      exact hX e0 (by rw [e3]; rfl)
  unfold tZ
  by_cases h1 : (s.size : Int) > 0
  · have e3 : decide ((s.size : Int) > 0) = true := decide_eq_true h1
    rw [e3]
    cases h : strAt s 0 != 165 with
    | true => exact hb (x := badB s) rfl (by unfold badB; rw [e3, h]; rfl)
    | false => exact hY (by rw [e3, h]; rfl)
  · have e3 : decide ((s.size : Int) > 0) = false := decide_eq_false h1
    rw [e3]
    exact hY (by rw [e3]; rfl)
end Go.Proofs.Ytbfcnkelldbfbaa

namespace Go.Proofs.Ytbfcnkelldbfbaa
open Go Go.Proofs Go.Sx
set_option linter.unusedVariables false
set_option maxRecDepth 20000 in
theorem runRead (s : ByteArray) : runG ΓGa L0 Try.prog Try.f13 [.v (S s)] M0 = rdTree s := by kernel_rfl
def gRead (vs : List Value) : Option (Bool × Value) :=
  match vs with
  | [.string s] => some (true, rdV s)
  | _ => none
theorem gRead_ok : ∀ vs r, gRead vs = some (true, r) → ∀ m, CallOk Try.prog 13 (vs.map .v) m (.v r) m := by
  intro vs r h
  unfold gRead at h
  split at h
  · rename_i s
    obtain ⟨h1, rfl⟩ := some_t h
    refine runV (vs := [S s]) (Λ := L0) (m' := M0) OkGa Try.func13 rfl (fun z _ _ => noLoops (by kernel_rfl) z) ?_
    exact (runRead s).trans (rdTree_eq s)
  · cases h
noncomputable def ΓH1 : Orc := addVal 13 gRead ΓGa
theorem OkH1 : ΓH1.Ok Try.prog := addVal_ok OkGa gRead_ok
set_option maxRecDepth 20000 in
theorem runRRead (s : ByteArray) : runG ΓH1 L0 Try.prog Try.f16 [.v (S s)] M0 = tZ s := by kernel_rfl
def gRRead (vs : List Value) : Option (Bool × Value) :=
  match vs with
  | [.string s] => some (true, rdV s)
  | _ => none
theorem gRRead_ok : ∀ vs r, gRRead vs = some (true, r) → ∀ m, CallOk Try.prog 16 (vs.map .v) m (.v r) m := by
  intro vs r h
  unfold gRRead at h
  split at h
  · rename_i s
    obtain ⟨h1, rfl⟩ := some_t h
    refine runV (vs := [S s]) (Λ := L0) (m' := M0) OkH1 Try.func16 rfl (fun z _ _ => noLoops (by kernel_rfl) z) ?_
    exact (runRRead s).trans (tZ_eq s)
  · cases h
noncomputable def ΓH2 : Orc := addVal 16 gRRead ΓH1
theorem OkH2 : ΓH2.Ok Try.prog := addVal_ok OkH1 gRRead_ok
noncomputable def ΓHa : Orc := ΓH2
theorem OkHa : ΓHa.Ok Try.prog := OkH2
end Go.Proofs.Ytbfcnkelldbfbaa

namespace Go.Proofs.Ytbfcnkelldbfbaa
open Go Go.Proofs Go.Sx
set_option linter.unusedVariables false
/-- A stream: the bytes that wait, and its counter. -/
def MS (w : ByteArray) (a b : Int) : Mem := ⟨[[.v (S w), .ptr 1 0], [.v (I a), .v (I b)]], [true, true], []⟩
abbrev nilV : Value := .pointer none
set_option maxRecDepth 20000 in
theorem runLeft0 (w : ByteArray) (a b : Int) : runG ΓHa L0 Try.prog Try.f20 [.ptr 0 0] (MS w a b) = some (.v (I (w.size : Int)), MS w a b) := by kernel_rfl
set_option maxRecDepth 20000 in
theorem runLeft1  : runG ΓHa L0 Try.prog Try.f20 [.v nilV] M0 = some (.v (I 0), M0) := by kernel_rfl
def gLeft (xs : List SV) (m : Mem) : Option (Bool × Value) :=
  match xs, m with
  | [.ptr 0 0], ⟨[[.v (.string w), .ptr 1 0], [.v (.int .i64 a), .v (.int .i64 b)]], [true, true], []⟩ => some (true, I (w.size : Int))
  | [.v (.pointer none)], _ => some (true, I 0)
  | _, _ => none
theorem gLeft_ok : ∀ xs m r, gLeft xs m = some (true, r) → CallOk Try.prog 20 xs m (.v r) m := by
  intro xs m r h
  unfold gLeft at h
  split at h
  · rename_i w a b
    obtain ⟨h1, rfl⟩ := some_t h
    refine runOk (Λ := L0) OkHa Try.func20 rfl (fun z _ _ => noLoops (by kernel_rfl) z) ?_
    exact (runLeft0 w a b).trans (rfl)
  · obtain ⟨h1, rfl⟩ := some_t h
    exact runV (vs := [nilV]) (Λ := L0) (m' := M0) OkHa Try.func20 rfl (fun z _ _ => noLoops (by kernel_rfl) z) ((runLeft1 ).trans (rfl)) m
  · cases h
noncomputable def ΓJ1 : Orc := addRd 20 gLeft ΓHa
theorem OkJ1 : ΓJ1.Ok Try.prog := addRd_ok OkHa gLeft_ok
set_option maxRecDepth 20000 in
theorem runDropped0 (w : ByteArray) (a b : Int) : runG ΓJ1 L0 Try.prog Try.f21 [.ptr 0 0] (MS w a b) = some (.v (I b), MS w a b) := by kernel_rfl
set_option maxRecDepth 20000 in
theorem runDropped1  : runG ΓJ1 L0 Try.prog Try.f21 [.v nilV] M0 = some (.v (I 0), M0) := by kernel_rfl
def gDropped (xs : List SV) (m : Mem) : Option (Bool × Value) :=
  match xs, m with
  | [.ptr 0 0], ⟨[[.v (.string w), .ptr 1 0], [.v (.int .i64 a), .v (.int .i64 b)]], [true, true], []⟩ => some (true, I b)
  | [.v (.pointer none)], _ => some (true, I 0)
  | _, _ => none
theorem gDropped_ok : ∀ xs m r, gDropped xs m = some (true, r) → CallOk Try.prog 21 xs m (.v r) m := by
  intro xs m r h
  unfold gDropped at h
  split at h
  · rename_i w a b
    obtain ⟨h1, rfl⟩ := some_t h
    refine runOk (Λ := L0) OkJ1 Try.func21 rfl (fun z _ _ => noLoops (by kernel_rfl) z) ?_
    exact (runDropped0 w a b).trans (rfl)
  · obtain ⟨h1, rfl⟩ := some_t h
    exact runV (vs := [nilV]) (Λ := L0) (m' := M0) OkJ1 Try.func21 rfl (fun z _ _ => noLoops (by kernel_rfl) z) ((runDropped1 ).trans (rfl)) m
  · cases h
noncomputable def ΓJ2 : Orc := addRd 21 gDropped ΓJ1
theorem OkJ2 : ΓJ2.Ok Try.prog := addRd_ok OkJ1 gDropped_ok
set_option maxRecDepth 20000 in
theorem runDrop0 (r : ByteArray) (n : Int) (w : ByteArray) (a b : Int) : runG ΓJ2 L0 Try.prog Try.f29 [.ptr 0 0, .v (S r), .v (I n)] (MS w a b) = bif decide (0 ≤ n) && (decide (n ≤ (r.size : Int)) && decide ((r.size : Int) ≤ (r.size : Int))) then some (.v (S (r.extract n.toNat r.size)), MS w a (addN' a b n)) else none := by kernel_rfl
def gDrop (xs : List SV) (m : Mem) : Option (Bool × SV × Mem) :=
  match xs, m with
  | [.ptr 0 0, .v (.string r), .v (.int .i64 n)], ⟨[[.v (.string w), .ptr 1 0], [.v (.int .i64 a), .v (.int .i64 b)]], [true, true], []⟩ => some (decide (0 ≤ n) && (decide (n ≤ (r.size : Int)) && decide ((r.size : Int) ≤ (r.size : Int))), .v (S (r.extract n.toNat r.size)), MS w a (addN' a b n))
  | _, _ => none
theorem gDrop_ok : ∀ xs m r m', gDrop xs m = some (true, r, m') → CallOk Try.prog 29 xs m r m' := by
  intro xs m r m' h
  unfold gDrop at h
  split at h
  · rename_i r n w a b
    obtain ⟨h1, rfl, rfl⟩ := some_t2 h
    refine runOk (Λ := L0) OkJ2 Try.func29 rfl (fun z _ _ => noLoops (by kernel_rfl) z) ?_
    exact (runDrop0 r n w a b).trans (by rw [h1]; rfl)
  · cases h
noncomputable def ΓJ3 : Orc := addCl 29 gDrop ΓJ2
theorem OkJ3 : ΓJ3.Ok Try.prog := addCl_ok OkJ2 gDrop_ok
set_option maxRecDepth 20000 in
theorem runNewS0  : runG ΓJ3 L0 Try.prog Try.f17 [] M0 = some (.ptr 0 0, MS ⟨#[]⟩ 1000000 0) := by kernel_rfl
def gNewS (xs : List SV) (m : Mem) : Option (Bool × SV × Mem) :=
  match xs, m with
  | [], ⟨[], [], []⟩ => some (true, .ptr 0 0, MS ⟨#[]⟩ 1000000 0)
  | _, _ => none
theorem gNewS_ok : ∀ xs m r m', gNewS xs m = some (true, r, m') → CallOk Try.prog 17 xs m r m' := by
  intro xs m r m' h
  unfold gNewS at h
  split at h
  · obtain ⟨h1, rfl, rfl⟩ := some_t2 h
    refine runOk (Λ := L0) OkJ3 Try.func17 rfl (fun z _ _ => noLoops (by kernel_rfl) z) ?_
    exact (runNewS0 ).trans (rfl)
  · cases h
noncomputable def ΓJ4 : Orc := addCl 17 gNewS ΓJ3
theorem OkJ4 : ΓJ4.Ok Try.prog := addCl_ok OkJ3 gNewS_ok
noncomputable def ΓJa : Orc := ΓJ4
theorem OkJa : ΓJa.Ok Try.prog := OkJ4
end Go.Proofs.Ytbfcnkelldbfbaa

