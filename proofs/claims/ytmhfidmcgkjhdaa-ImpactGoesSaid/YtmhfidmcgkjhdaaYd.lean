/-
  What is known of this program: contracts of fall, box and impact, the law package's own; five laws of impact over values.
-/
import Derived.Test.YtmhfidmcgkjhdaaYc
import Derived.Test.YtmhfidmcgkjhdaaTw
import Derived.Test.YtmhfidmcgkjhdaaTx
import Derived.DataShut
namespace Go.Proofs.Ytmhfidmcgkjhdaa
open Go Go.Proofs Go.Sx
set_option linter.unusedVariables false
/-! norm -/
/-! cast -/
/-! Falls. -/
def twG (z v g t : Int) : Bool := frX z v g && decide (-33554432 ≤ t ∧ t ≤ 33554432)
theorem twG_iff {z v g t : Int} : twG z v g t = true ↔ frX z v g = true ∧ -33554432 ≤ t ∧ t ≤ 33554432 := by simp [twG]
theorem tw_eq {z v g t : Int} (h : twG z v g t = true) : wI (wI (wI ((2 : Int) * z) + wI (wI ((2 : Int) * v) * t)) - wI (wI (g * t) * t)) = Ab z v g t := by
  obtain ⟨h1, h2, h3⟩ := twG_iff.1 h
  obtain ⟨a1, a2, a3⟩ := ab_in h1 h2 h3
  have hx := frX_iff.1 h1
  rw [wI_id (n := 2 * z) (by omega), wI_id (n := 2 * v) (by omega), wI_id (n := 2 * v * t) (by omega), wI_id (n := g * t) (by omega), wI_id (n := g * t * t) (by omega), wI_id (n := 2 * z + 2 * v * t) (by omega), wI_id (by omega)]
  rfl
theorem rk_in {z v g : Int} (h : frX z v g = true) : wI (wI (v * v) + wI (wI ((2 : Int) * g) * z)) = v * v + 2 * g * z ∧ inI (v * v + 2 * g * z) = true := by
  obtain ⟨n1, n2⟩ := frN h
  have hx := frX_iff.1 h
  refine ⟨?_, by rw [inI_iff]; omega⟩
  rw [wI_id (n := 2 * g) (by omega), wI_id (n := v * v) (by omega), wI_id (n := 2 * g * z) (by omega), wI_id (by omega)]
theorem rk_eq {z v g : Int} (h : frX z v g = true) (hz : ¬ z < 0) : wI ((wI (v + rtW (v * v + 2 * g * z))).tdiv g) = tmF z v g := by
  obtain ⟨s, e, h0, h1, h2, h3, h4⟩ := tm_root h (by omega)
  obtain ⟨n1, n2⟩ := frN h
  have hx := frX_iff.1 h
  have gz : 0 ≤ 2 * g * z := Int.mul_nonneg (by omega) (by omega)
  have es : rtW (v * v + 2 * g * z) = s := rt_uniq (by omega) h0 h3 h4
  have t1 := tm_nonneg h
  have t2 := tm_le h
  obtain ⟨r0, r1⟩ := rtW_I (n := v * v + 2 * g * z) (by rw [inI_iff]; omega)
  rw [es] at r1 ⊢
  rw [wI_id (n := v + s) (by omega), Int.tdiv_eq_ediv_of_nonneg (by omega), ← e, wI_id (by omega)]
def mx2 (a b : Int) : Int := if b > a then b else a
def topF (z v g : Int) : Int := bif decide (v < 0) then 2 * z else mx2 (mx2 (2 * z) (Ab z v g (v / g))) (Ab z v g (v / g + 1))
theorem twG_R {z v g t : Int} (h : frR z v g = true) (h1 : -33554432 ≤ t) (h2 : t ≤ 33554432) : twG z v g t = true := twG_iff.2 ⟨frR_X h, h1, h2⟩
theorem frX_e {z v g d c : Int} (h : frR z v g = true) (h1 : -2048 ≤ d) (h2 : d ≤ 2048) (h3 : -2048 ≤ c) (h4 : c ≤ 2048) : frX (z + d) (v + c) g = true := by
  rw [frR_iff] at h; rw [frX_iff]; omega
theorem vdg {z v g : Int} (h : frR z v g = true) (hv : ¬ v < 0) : wI (v.tdiv g) = v / g ∧ wI (v / g + 1) = v / g + 1 ∧ twG z v g (v / g) = true ∧ twG z v g (v / g + 1) = true := by
  have hx := frR_iff.1 h
  have d0 : 0 ≤ v / g := Int.ediv_nonneg (by omega) (by omega)
  have d1 : v / g ≤ v := Int.ediv_le_self _ (by omega)
  rw [Int.tdiv_eq_ediv_of_nonneg (by omega), wI_id (by omega), wI_id (by omega)]
  exact ⟨rfl, rfl, twG_R h (by omega) (by omega), twG_R h (by omega) (by omega)⟩
theorem Ab0 (z v g : Int) : Ab z v g 0 = 2 * z := by unfold Ab; omega
theorem may_eq (z v g : Int) : (bif decide (z ≥ (-2147483648 : Int)) then (bif decide (z ≤ (2147483648 : Int)) then (bif decide (v ≥ (-131072 : Int)) then (bif decide (v ≤ (131072 : Int)) then (bif decide (g ≥ (1 : Int)) then some (.v (Bo (decide (g ≤ (100 : Int)))), M0) else some (.v (Bo false), M0)) else some (.v (Bo false), M0)) else some (.v (Bo false), M0)) else some (.v (Bo false), M0)) else some (.v (Bo false), M0)) = (some (SV.v (Bo (frR z v g)), M0) : Option (SV × Mem)) := by
  unfold frR
  by_cases h1 : -2147483648 ≤ z <;> by_cases h2 : z ≤ 2147483648 <;> by_cases h3 : -131072 ≤ v <;> by_cases h4 : v ≤ 131072 <;> by_cases h5 : 1 ≤ g <;> by_cases h6 : g ≤ 100 <;> simp [h1, h2, h3, h4, h5, h6]
set_option maxRecDepth 20000 in
theorem runFaR (z : Int) (v : Int) (g : Int) : runG ΓRt L0 Try.prog Try.f80 [.v (I z), .v (I v), .v (I g)] M0 = 
    (bif decide (z ≥ (-2147483648 : Int)) then (bif decide (z ≤ (2147483648 : Int)) then (bif decide (v ≥ (-131072 : Int)) then (bif decide (v ≤ (131072 : Int)) then (bif decide (g ≥ (1 : Int)) then some (.v (Bo (decide (g ≤ (100 : Int)))), M0) else some (.v (Bo false), M0)) else some (.v (Bo false), M0)) else some (.v (Bo false), M0)) else some (.v (Bo false), M0)) else some (.v (Bo false), M0)) := by kernel_rfl
def gFaR (vs : List Value) : Option (Bool × Value) :=
  match vs with
  | [.int .i64 z, .int .i64 v, .int .i64 g] => some (true, Bo (frR z v g))
  | _ => none
theorem gFaR_ok : ∀ vs r, gFaR vs = some (true, r) → ∀ m, CallOk Try.prog 80 (vs.map .v) m (.v r) m := by
  intro vs r h
  unfold gFaR at h
  split at h
  · rename_i z v g
    obtain ⟨h1, rfl⟩ := some_t h
    refine runV (vs := [I z, I v, I g]) (Λ := L0) (m' := M0) OkRt Try.func80 rfl (fun z _ _ => l0Ok' _ z) ?_
    exact (runFaR z v g).trans (may_eq z v g)
  · cases h
noncomputable def ΓA1 : Orc := addVal 80 gFaR ΓRt
theorem OkA1 : ΓA1.Ok Try.prog := addVal_ok OkRt gFaR_ok
set_option maxRecDepth 20000 in
theorem runFaW (z : Int) (v : Int) (g : Int) (t : Int) : runG ΓA1 L0 Try.prog Try.f95 [.v (I z), .v (I v), .v (I g), .v (I t)] M0 = 
    some (.v (I (wI (wI (wI ((2 : Int) * z) + wI (wI ((2 : Int) * v) * t)) - wI (wI (g * t) * t)))), M0) := by kernel_rfl
def gFaW (vs : List Value) : Option (Bool × Value) :=
  match vs with
  | [.int .i64 z, .int .i64 v, .int .i64 g, .int .i64 t] => some (twG z v g t, I (Ab z v g t))
  | _ => none
theorem gFaW_ok : ∀ vs r, gFaW vs = some (true, r) → ∀ m, CallOk Try.prog 95 (vs.map .v) m (.v r) m := by
  intro vs r h
  unfold gFaW at h
  split at h
  · rename_i z v g t
    obtain ⟨h1, rfl⟩ := some_t h
    refine runV (vs := [I z, I v, I g, I t]) (Λ := L0) (m' := M0) OkA1 Try.func95 rfl (fun z _ _ => l0Ok' _ z) ?_
    exact (runFaW z v g t).trans (vI (tw_eq h1))
  · cases h
noncomputable def ΓA2 : Orc := addVal 95 gFaW ΓA1
theorem OkA2 : ΓA2.Ok Try.prog := addVal_ok OkA1 gFaW_ok
set_option maxRecDepth 20000 in
theorem runFaK (z : Int) (v : Int) (g : Int) : runG ΓA2 L0 Try.prog Try.f81 [.v (I z), .v (I v), .v (I g)] M0 = 
    (bif decide (z < (0 : Int)) then some (.v (I 0), M0) else (bif inI (wI (wI (v * v) + wI (wI ((2 : Int) * g) * z))) then (bif g == (0 : Int) then none else some (.v (I (wI ((wI (v + rtW (wI (wI (v * v) + wI (wI ((2 : Int) * g) * z))))).tdiv g))), M0)) else none)) := by kernel_rfl
def gFaK (vs : List Value) : Option (Bool × Value) :=
  match vs with
  | [.int .i64 z, .int .i64 v, .int .i64 g] => some (frX z v g, I (tmF z v g))
  | _ => none
theorem gFaK_ok : ∀ vs r, gFaK vs = some (true, r) → ∀ m, CallOk Try.prog 81 (vs.map .v) m (.v r) m := by
  intro vs r h
  unfold gFaK at h
  split at h
  · rename_i z v g
    obtain ⟨h1, rfl⟩ := some_t h
    refine runV (vs := [I z, I v, I g]) (Λ := L0) (m' := M0) OkA2 Try.func81 rfl (fun z _ _ => l0Ok' _ z) ?_
    exact (runFaK z v g).trans (by
      obtain ⟨e1, e2⟩ := rk_in h1
      by_cases hz : z < 0
      · rw [decide_eq_true hz]
        unfold tmF
        rw [decide_eq_true hz]
        rfl
      · rw [decide_eq_false hz, e1, e2, beq_eq_false_iff_ne.2 (show g ≠ 0 by have := frX_iff.1 h1; omega), rk_eq h1 hz]
        rfl)
  · cases h
noncomputable def ΓA3 : Orc := addVal 81 gFaK ΓA2
theorem OkA3 : ΓA3.Ok Try.prog := addVal_ok OkA2 gFaK_ok
noncomputable def ΓA4 : Orc := ΓA3
theorem OkA4 : ΓA4.Ok Try.prog := OkA3
set_option maxRecDepth 20000 in
theorem runFaA (z : Int) (v : Int) (g : Int) (t : Int) : runG ΓA4 L0 Try.prog Try.f42 [.v (I z), .v (I v), .v (I g), .v (I t)] M0 = 
    some (.v (I (wI (wI (wI ((2 : Int) * z) + wI (wI ((2 : Int) * v) * t)) - wI (wI (g * t) * t)))), M0) := by kernel_rfl
def gFaA (vs : List Value) : Option (Bool × Value) :=
  match vs with
  | [.int .i64 z, .int .i64 v, .int .i64 g, .int .i64 t] => some (twG z v g t, I (Ab z v g t))
  | _ => none
theorem gFaA_ok : ∀ vs r, gFaA vs = some (true, r) → ∀ m, CallOk Try.prog 42 (vs.map .v) m (.v r) m := by
  intro vs r h
  unfold gFaA at h
  split at h
  · rename_i z v g t
    obtain ⟨h1, rfl⟩ := some_t h
    refine runV (vs := [I z, I v, I g, I t]) (Λ := L0) (m' := M0) OkA4 Try.func42 rfl (fun z _ _ => l0Ok' _ z) ?_
    exact (runFaA z v g t).trans (vI (tw_eq h1))
  · cases h
noncomputable def ΓA5 : Orc := addVal 42 gFaA ΓA4
theorem OkA5 : ΓA5.Ok Try.prog := addVal_ok OkA4 gFaA_ok
set_option maxRecDepth 20000 in
theorem runFaT (z : Int) (v : Int) (g : Int) : runG ΓA5 L0 Try.prog Try.f41 [.v (I z), .v (I v), .v (I g)] M0 = 
    (bif decide (z < (0 : Int)) then some (.v (I 0), M0) else (bif inI (wI (wI (v * v) + wI (wI ((2 : Int) * g) * z))) then (bif inW (hiW (wI (wI (v * v) + wI (wI ((2 : Int) * g) * z)))) (loW (wI (wI (v * v) + wI (wI ((2 : Int) * g) * z)))) && decide (wv (hiW (wI (wI (v * v) + wI (wI ((2 : Int) * g) * z)))) (loW (wI (wI (v * v) + wI (wI ((2 : Int) * g) * z)))) < (21267647932558653966460912964485513216 : Int)) then (bif g == (0 : Int) then none else some (.v (I (wI ((wI (v + rtW (wv (hiW (wI (wI (v * v) + wI (wI ((2 : Int) * g) * z)))) (loW (wI (wI (v * v) + wI (wI ((2 : Int) * g) * z))))))).tdiv g))), M0)) else none) else none)) := by kernel_rfl
def gFaT (vs : List Value) : Option (Bool × Value) :=
  match vs with
  | [.int .i64 z, .int .i64 v, .int .i64 g] => some (frX z v g, I (tmF z v g))
  | _ => none
theorem gFaT_ok : ∀ vs r, gFaT vs = some (true, r) → ∀ m, CallOk Try.prog 41 (vs.map .v) m (.v r) m := by
  intro vs r h
  unfold gFaT at h
  split at h
  · rename_i z v g
    obtain ⟨h1, rfl⟩ := some_t h
    refine runV (vs := [I z, I v, I g]) (Λ := L0) (m' := M0) OkA5 Try.func41 rfl (fun z _ _ => l0Ok' _ z) ?_
    exact (runFaT z v g).trans (by
      obtain ⟨e1, e2⟩ := rk_in h1
      obtain ⟨e3, e4⟩ := wv_Wn (okW_I e2)
      obtain ⟨n1, n2⟩ := frN h1
      by_cases hz : z < 0
      · rw [decide_eq_true hz]
        unfold tmF
        rw [decide_eq_true hz]
        rfl
      · rw [decide_eq_false hz, e1, e2, e4, e3, decide_eq_true (show v * v + 2 * g * z < 21267647932558653966460912964485513216 by omega), beq_eq_false_iff_ne.2 (show g ≠ 0 by have := frX_iff.1 h1; omega), rk_eq h1 hz]
        rfl)
  · cases h
noncomputable def ΓA6 : Orc := addVal 41 gFaT ΓA5
theorem OkA6 : ΓA6.Ok Try.prog := addVal_ok OkA5 gFaT_ok
set_option maxRecDepth 20000 in
theorem runFTime (z : Int) (v : Int) (g : Int) : runG ΓA6 L0 Try.prog Try.f68 [.v (I z), .v (I v), .v (I g)] M0 = 
    (bif !frR z v g then some (.v (.tuple #[(I 0), (Bo false)]), M0) else (bif frX z v g then some (.v (.tuple #[(I (tmF z v g)), (Bo true)]), M0) else none)) := by kernel_rfl
def gFTime (vs : List Value) : Option (Bool × Value) :=
  match vs with
  | [.int .i64 z, .int .i64 v, .int .i64 g] => some (true, .tuple #[I (bif frR z v g then tmF z v g else 0), Bo (frR z v g)])
  | _ => none
theorem gFTime_ok : ∀ vs r, gFTime vs = some (true, r) → ∀ m, CallOk Try.prog 68 (vs.map .v) m (.v r) m := by
  intro vs r h
  unfold gFTime at h
  split at h
  · rename_i z v g
    obtain ⟨h1, rfl⟩ := some_t h
    refine runV (vs := [I z, I v, I g]) (Λ := L0) (m' := M0) OkA6 Try.func68 rfl (fun z _ _ => l0Ok' _ z) ?_
    exact (runFTime z v g).trans (by
      cases h : frR z v g
      · rfl
      · rw [frR_X h]; rfl)
  · cases h
noncomputable def ΓA7 : Orc := addVal 68 gFTime ΓA6
theorem OkA7 : ΓA7.Ok Try.prog := addVal_ok OkA6 gFTime_ok
set_option maxRecDepth 20000 in
theorem runFAbove (z : Int) (v : Int) (g : Int) (t : Int) : runG ΓA7 L0 Try.prog Try.f83 [.v (I z), .v (I v), .v (I g), .v (I t)] M0 = 
    (bif !frR z v g then some (.v (.tuple #[(I 0), (Bo false)]), M0) else (bif decide (t < (0 : Int)) then some (.v (.tuple #[(I 0), (Bo false)]), M0) else (bif decide (t > (16777216 : Int)) then some (.v (.tuple #[(I 0), (Bo false)]), M0) else (bif twG z v g t then some (.v (.tuple #[(I (Ab z v g t)), (Bo true)]), M0) else none)))) := by kernel_rfl
def gFAbove (vs : List Value) : Option (Bool × Value) :=
  match vs with
  | [.int .i64 z, .int .i64 v, .int .i64 g, .int .i64 t] => some (true, .tuple #[I (bif frR z v g && decide (0 ≤ t ∧ t ≤ 16777216) then Ab z v g t else 0), Bo (frR z v g && decide (0 ≤ t ∧ t ≤ 16777216))])
  | _ => none
theorem gFAbove_ok : ∀ vs r, gFAbove vs = some (true, r) → ∀ m, CallOk Try.prog 83 (vs.map .v) m (.v r) m := by
  intro vs r h
  unfold gFAbove at h
  split at h
  · rename_i z v g t
    obtain ⟨h1, rfl⟩ := some_t h
    refine runV (vs := [I z, I v, I g, I t]) (Λ := L0) (m' := M0) OkA7 Try.func83 rfl (fun z _ _ => l0Ok' _ z) ?_
    exact (runFAbove z v g t).trans (by
      cases h : frR z v g
      · rfl
      · simp only [Bool.not_true, cond_false, Bool.true_and]
        by_cases h2 : t < 0
        · rw [decide_eq_true h2, decide_eq_false (show ¬ (0 ≤ t ∧ t ≤ 16777216) by omega)]; rfl
        · by_cases h3 : t > 16777216
          · rw [decide_eq_false h2, decide_eq_true h3, decide_eq_false (show ¬ (0 ≤ t ∧ t ≤ 16777216) by omega)]; rfl
          · rw [decide_eq_false h2, decide_eq_false h3, decide_eq_true (show (0 ≤ t ∧ t ≤ 16777216) by omega), twG_R h (by omega) (by omega)]; rfl)
  · cases h
noncomputable def ΓA8 : Orc := addVal 83 gFAbove ΓA7
theorem OkA8 : ΓA8.Ok Try.prog := addVal_ok OkA7 gFAbove_ok
set_option maxRecDepth 20000 in
theorem runFSpan (z : Int) (v : Int) (g : Int) (e : Int) : runG ΓA8 L0 Try.prog Try.f62 [.v (I z), .v (I v), .v (I g), .v (I e)] M0 = 
    (bif !frR z v g then some (.v (.tuple #[(I 0), (I 0), (Bo false)]), M0) else (bif decide (e < (0 : Int)) then some (.v (.tuple #[(I 0), (I 0), (Bo false)]), M0) else (bif decide (e > (2048 : Int)) then some (.v (.tuple #[(I 0), (I 0), (Bo false)]), M0) else (bif frX (wI (z - e)) (wI (v - e)) g then (bif frX (wI (z + e)) (wI (v + e)) g then some (.v (.tuple #[(I (tmF (wI (z - e)) (wI (v - e)) g)), (I (wI (tmF (wI (z + e)) (wI (v + e)) g + (2 : Int)))), (Bo true)]), M0) else none) else none)))) := by kernel_rfl
def gFSpan (vs : List Value) : Option (Bool × Value) :=
  match vs with
  | [.int .i64 z, .int .i64 v, .int .i64 g, .int .i64 e] => some (true, .tuple #[I (bif frR z v g && decide (0 ≤ e ∧ e ≤ 2048) then tmF (z - e) (v - e) g else 0), I (bif frR z v g && decide (0 ≤ e ∧ e ≤ 2048) then tmF (z + e) (v + e) g + 2 else 0), Bo (frR z v g && decide (0 ≤ e ∧ e ≤ 2048))])
  | _ => none
theorem gFSpan_ok : ∀ vs r, gFSpan vs = some (true, r) → ∀ m, CallOk Try.prog 62 (vs.map .v) m (.v r) m := by
  intro vs r h
  unfold gFSpan at h
  split at h
  · rename_i z v g e
    obtain ⟨h1, rfl⟩ := some_t h
    refine runV (vs := [I z, I v, I g, I e]) (Λ := L0) (m' := M0) OkA8 Try.func62 rfl (fun z _ _ => l0Ok' _ z) ?_
    exact (runFSpan z v g e).trans (by
      cases h : frR z v g
      · rfl
      · simp only [Bool.not_true, cond_false, Bool.true_and]
        by_cases h2 : e < 0
        · rw [decide_eq_true h2, decide_eq_false (show ¬ (0 ≤ e ∧ e ≤ 2048) by omega)]; rfl
        · by_cases h3 : e > 2048
          · rw [decide_eq_false h2, decide_eq_true h3, decide_eq_false (show ¬ (0 ≤ e ∧ e ≤ 2048) by omega)]; rfl
          · have hx := frR_iff.1 h
            have k1 : frX (z - e) (v - e) g = true := by rw [Int.sub_eq_add_neg, Int.sub_eq_add_neg]; exact frX_e h (by omega) (by omega) (by omega) (by omega)
            have k2 : frX (z + e) (v + e) g = true := frX_e h (by omega) (by omega) (by omega) (by omega)
            have k3 := tm_nonneg k2
            have k4 := tm_le k2
            rw [decide_eq_false h2, decide_eq_false h3, decide_eq_true (show (0 ≤ e ∧ e ≤ 2048) by omega), wI_id (n := z - e) (by omega), wI_id (n := v - e) (by omega), wI_id (n := z + e) (by omega), wI_id (n := v + e) (by omega), k1, k2, wI_id (n := tmF (z + e) (v + e) g + 2) (by omega)]; rfl)
  · cases h
noncomputable def ΓA9 : Orc := addVal 62 gFSpan ΓA8
theorem OkA9 : ΓA9.Ok Try.prog := addVal_ok OkA8 gFSpan_ok
noncomputable def ΓA10 : Orc := ΓA9
theorem OkA10 : ΓA10.Ok Try.prog := OkA9
noncomputable def ΓA11 : Orc := ΓA10
theorem OkA11 : ΓA11.Ok Try.prog := OkA10
noncomputable def ΓFa : Orc := ΓA11
theorem OkFa : ΓFa.Ok Try.prog := OkA11
end Go.Proofs.Ytmhfidmcgkjhdaa

namespace Go.Proofs.Ytmhfidmcgkjhdaa
open Go Go.Proofs Go.Sx
set_option linter.unusedVariables false
/-! norm -/
/-! cast -/
/-! Boxes, as far as impacts have them. -/
def ofG (x y n : Int) : Bool := decide (0 ≤ n ∧ n ≤ 4096) && (decide (-1099511623680 ≤ x ∧ x ≤ 1099511623680) && decide (-1099511623680 ≤ y ∧ y ≤ 1099511623680))
def boR (a b c d : Int) : Bool := plR a b && (plR c d && (decide (a ≤ c) && decide (b ≤ d)))
def upB (n m : Int) : Bool := decide (n ≥ wI (0 - m)) && decide (n ≤ m)
theorem upB_iff {n m : Int} (h0 : 0 ≤ m) (h1 : m < 9223372036854775808) : upB n m = true ↔ -m ≤ n ∧ n ≤ m := by
  unfold upB
  rw [wI_id (n := 0 - m) (by omega), Bool.and_eq_true, decide_eq_true_iff, decide_eq_true_iff]
  omega
def nvR (x y vx vy : Int) : Bool := upB x 2147483648 && (upB y 2147483648 && (upB vx 131072 && upB vy 131072))
theorem nvR_iff {x y vx vy : Int} : nvR x y vx vy = true ↔ (-2147483648 ≤ x ∧ x ≤ 2147483648) ∧ (-2147483648 ≤ y ∧ y ≤ 2147483648) ∧ (-131072 ≤ vx ∧ vx ≤ 131072) ∧ -131072 ≤ vy ∧ vy ≤ 131072 := by
  unfold nvR
  rw [Bool.and_eq_true, Bool.and_eq_true, Bool.and_eq_true, upB_iff (by decide) (by decide), upB_iff (by decide) (by decide), upB_iff (by decide) (by decide), upB_iff (by decide) (by decide)]
def rcG (x y vx vy f t : Int) : Bool := decide (-4294967296 ≤ x ∧ x ≤ 4294967296) && (decide (-4294967296 ≤ y ∧ y ≤ 4294967296) && (decide (-262144 ≤ vx ∧ vx ≤ 262144) && (decide (-262144 ≤ vy ∧ vy ≤ 262144) && (decide (-4096 ≤ f ∧ f ≤ 4096) && decide (0 ≤ t ∧ t ≤ 4194304)))))
theorem rcG_iff {x y vx vy f t : Int} : rcG x y vx vy f t = true ↔ (-4294967296 ≤ x ∧ x ≤ 4294967296) ∧ (-4294967296 ≤ y ∧ y ≤ 4294967296) ∧ (-262144 ≤ vx ∧ vx ≤ 262144) ∧ (-262144 ≤ vy ∧ vy ≤ 262144) ∧ (-4096 ≤ f ∧ f ≤ 4096) ∧ 0 ≤ t ∧ t ≤ 4194304 := by
  unfold rcG
  simp only [Bool.and_eq_true, decide_eq_true_eq]
theorem reach1 {x v f t : Int} (h1 : -4294967296 ≤ x ∧ x ≤ 4294967296) (h2 : -262144 ≤ v ∧ v ≤ 262144) (h3 : -4096 ≤ f ∧ f ≤ 4096) (h4 : 0 ≤ t ∧ t ≤ 4194304) : wI (x + wI (wI (v + f) * t)) = x + (v + f) * t ∧ -1129576398848 ≤ x + (v + f) * t ∧ x + (v + f) * t ≤ 1129576398848 := by
  have p := mulB (a := v + f) (b := t) (A := 266240) (B := 4194304) (by omega) (by omega) (by omega) (by omega)
  rw [wI_id (n := v + f) (by omega), wI_id (n := (v + f) * t) (by omega), wI_id (by omega)]
  omega
def hasB (a b c d x y : Int) : Bool := boR a b c d && (plR x y && (decide (x ≥ a) && (decide (x ≤ c) && (decide (y ≥ b) && decide (y ≤ d)))))
def inBx (a b c d a' b' c' d' : Int) : Bool := boR a b c d && (hasB a' b' c' d' a b && hasB a' b' c' d' c d)
theorem boR_iff {a b c d : Int} : boR a b c d = true ↔ plR a b = true ∧ plR c d = true ∧ a ≤ c ∧ b ≤ d := by
  unfold boR
  simp only [Bool.and_eq_true, decide_eq_true_eq]
theorem hasB_iff {a b c d x y : Int} : hasB a b c d x y = true ↔ boR a b c d = true ∧ plR x y = true ∧ a ≤ x ∧ x ≤ c ∧ b ≤ y ∧ y ≤ d := by
  unfold hasB
  simp only [Bool.and_eq_true, decide_eq_true_eq]
theorem ofG_iff {x y n : Int} : ofG x y n = true ↔ (0 ≤ n ∧ n ≤ 4096) ∧ (-1099511623680 ≤ x ∧ x ≤ 1099511623680) ∧ (-1099511623680 ≤ y ∧ y ≤ 1099511623680) := by
  unfold ofG
  simp only [Bool.and_eq_true, decide_eq_true_eq]
theorem clI_in {n lo hi : Int} (h1 : lo ≤ n) (h2 : n ≤ hi) : clI n lo hi = n := by
  unfold clI
  rw [decide_eq_false (show ¬ n < lo by omega), decide_eq_false (show ¬ n > hi by omega)]
  rfl

set_option maxRecDepth 20000 in
theorem runBRt (a : Int) (b : Int) (c : Int) (d : Int) : runG ΓFa L0 Try.prog Try.f17 [.v (.agg #[I a, I b, I c, I d])] M0 = 
    (bif plR a b then (bif plR c d then (bif decide (a ≤ c) then some (.v (Bo (decide (b ≤ d))), M0) else some (.v (Bo false), M0)) else some (.v (Bo false), M0)) else some (.v (Bo false), M0)) := by kernel_rfl
def gBRt (vs : List Value) : Option (Bool × Value) :=
  match vs with
  | [.agg ⟨[.int .i64 a, .int .i64 b, .int .i64 c, .int .i64 d]⟩] => some (true, Bo (boR a b c d))
  | _ => none
theorem gBRt_ok : ∀ vs r, gBRt vs = some (true, r) → ∀ m, CallOk Try.prog 17 (vs.map .v) m (.v r) m := by
  intro vs r h
  unfold gBRt at h
  split at h
  · rename_i a b c d
    obtain ⟨h1, rfl⟩ := some_t h
    refine runV (vs := [.agg #[I a, I b, I c, I d]]) (Λ := L0) (m' := M0) OkFa Try.func17 rfl (fun z _ _ => l0Ok' _ z) ?_
    exact (runBRt a b c d).trans (by unfold boR; cases plR a b <;> cases plR c d <;> cases decide (a ≤ c) <;> rfl)
  · cases h
noncomputable def ΓB1 : Orc := addVal 17 gBRt ΓFa
theorem OkB1 : ΓB1.Ok Try.prog := addVal_ok OkFa gBRt_ok
set_option maxRecDepth 20000 in
theorem runRBRt (a : Int) (b : Int) (c : Int) (d : Int) : runG ΓB1 L0 Try.prog Try.f18 [.v (.agg #[I a, I b, I c, I d])] M0 = 
    (bif plR a b then (bif plR c d then (bif decide (a ≤ c) then some (.v (Bo (decide (b ≤ d))), M0) else some (.v (Bo false), M0)) else some (.v (Bo false), M0)) else some (.v (Bo false), M0)) := by kernel_rfl
def gRBRt (vs : List Value) : Option (Bool × Value) :=
  match vs with
  | [.agg ⟨[.int .i64 a, .int .i64 b, .int .i64 c, .int .i64 d]⟩] => some (true, Bo (boR a b c d))
  | _ => none
theorem gRBRt_ok : ∀ vs r, gRBRt vs = some (true, r) → ∀ m, CallOk Try.prog 18 (vs.map .v) m (.v r) m := by
  intro vs r h
  unfold gRBRt at h
  split at h
  · rename_i a b c d
    obtain ⟨h1, rfl⟩ := some_t h
    refine runV (vs := [.agg #[I a, I b, I c, I d]]) (Λ := L0) (m' := M0) OkB1 Try.func18 rfl (fun z _ _ => l0Ok' _ z) ?_
    exact (runRBRt a b c d).trans (by unfold boR; cases plR a b <;> cases plR c d <;> cases decide (a ≤ c) <;> rfl)
  · cases h
noncomputable def ΓB2 : Orc := addVal 18 gRBRt ΓB1
theorem OkB2 : ΓB2.Ok Try.prog := addVal_ok OkB1 gRBRt_ok
set_option maxRecDepth 20000 in
theorem runRBHas (a : Int) (b : Int) (c : Int) (d : Int) (x : Int) (y : Int) : runG ΓB2 L0 Try.prog Try.f21 [.v (.agg #[I a, I b, I c, I d]), .v (.agg #[I x, I y])] M0 = 
    (bif boR a b c d then (bif plR x y then (bif decide (x ≥ a) then (bif decide (x ≤ c) then (bif decide (y ≥ b) then some (.v (Bo (decide (y ≤ d))), M0) else some (.v (Bo false), M0)) else some (.v (Bo false), M0)) else some (.v (Bo false), M0)) else some (.v (Bo false), M0)) else some (.v (Bo false), M0)) := by kernel_rfl
def gRBHas (vs : List Value) : Option (Bool × Value) :=
  match vs with
  | [.agg ⟨[.int .i64 a, .int .i64 b, .int .i64 c, .int .i64 d]⟩, .agg ⟨[.int .i64 x, .int .i64 y]⟩] => some (true, Bo (hasB a b c d x y))
  | _ => none
theorem gRBHas_ok : ∀ vs r, gRBHas vs = some (true, r) → ∀ m, CallOk Try.prog 21 (vs.map .v) m (.v r) m := by
  intro vs r h
  unfold gRBHas at h
  split at h
  · rename_i a b c d x y
    obtain ⟨h1, rfl⟩ := some_t h
    refine runV (vs := [.agg #[I a, I b, I c, I d], .agg #[I x, I y]]) (Λ := L0) (m' := M0) OkB2 Try.func21 rfl (fun z _ _ => l0Ok' _ z) ?_
    exact (runRBHas a b c d x y).trans (by unfold hasB; cases boR a b c d <;> cases plR x y <;> cases decide (x ≥ a) <;> cases decide (x ≤ c) <;> cases decide (y ≥ b) <;> rfl)
  · cases h
noncomputable def ΓB3 : Orc := addVal 21 gRBHas ΓB2
theorem OkB3 : ΓB3.Ok Try.prog := addVal_ok OkB2 gRBHas_ok
set_option maxRecDepth 20000 in
theorem runRBIn (a : Int) (b : Int) (c : Int) (d : Int) (a' : Int) (b' : Int) (c' : Int) (d' : Int) : runG ΓB3 L0 Try.prog Try.f23 [.v (.agg #[I a, I b, I c, I d]), .v (.agg #[I a', I b', I c', I d'])] M0 = 
    (bif boR a b c d then (bif hasB a' b' c' d' a b then some (.v (Bo (hasB a' b' c' d' c d)), M0) else some (.v (Bo false), M0)) else some (.v (Bo false), M0)) := by kernel_rfl
def gRBIn (vs : List Value) : Option (Bool × Value) :=
  match vs with
  | [.agg ⟨[.int .i64 a, .int .i64 b, .int .i64 c, .int .i64 d]⟩, .agg ⟨[.int .i64 a', .int .i64 b', .int .i64 c', .int .i64 d']⟩] => some (true, Bo (inBx a b c d a' b' c' d'))
  | _ => none
theorem gRBIn_ok : ∀ vs r, gRBIn vs = some (true, r) → ∀ m, CallOk Try.prog 23 (vs.map .v) m (.v r) m := by
  intro vs r h
  unfold gRBIn at h
  split at h
  · rename_i a b c d a' b' c' d'
    obtain ⟨h1, rfl⟩ := some_t h
    refine runV (vs := [.agg #[I a, I b, I c, I d], .agg #[I a', I b', I c', I d']]) (Λ := L0) (m' := M0) OkB3 Try.func23 rfl (fun z _ _ => l0Ok' _ z) ?_
    exact (runRBIn a b c d a' b' c' d').trans (by unfold inBx; cases boR a b c d <;> cases hasB a' b' c' d' a b <;> rfl)
  · cases h
noncomputable def ΓB4 : Orc := addVal 23 gRBIn ΓB3
theorem OkB4 : ΓB4.Ok Try.prog := addVal_ok OkB3 gRBIn_ok
set_option maxRecDepth 20000 in
theorem runBHd (x : Int) (y : Int) : runG ΓB4 L0 Try.prog Try.f51 [.v (I x), .v (I y)] M0 = 
    some (.v (.agg #[(I (clI x (-1099511627776 : Int) (1099511627776 : Int))), (I (clI y (-1099511627776 : Int) (1099511627776 : Int)))]), M0) := by kernel_rfl
def gBHd (vs : List Value) : Option (Bool × Value) :=
  match vs with
  | [.int .i64 x, .int .i64 y] => some (true, .agg #[I (clI x (-1099511627776) 1099511627776), I (clI y (-1099511627776) 1099511627776)])
  | _ => none
theorem gBHd_ok : ∀ vs r, gBHd vs = some (true, r) → ∀ m, CallOk Try.prog 51 (vs.map .v) m (.v r) m := by
  intro vs r h
  unfold gBHd at h
  split at h
  · rename_i x y
    obtain ⟨h1, rfl⟩ := some_t h
    refine runV (vs := [I x, I y]) (Λ := L0) (m' := M0) OkB4 Try.func51 rfl (fun z _ _ => l0Ok' _ z) ?_
    exact (runBHd x y).trans (rfl)
  · cases h
noncomputable def ΓB5 : Orc := addVal 51 gBHd ΓB4
theorem OkB5 : ΓB5.Ok Try.prog := addVal_ok OkB4 gBHd_ok
set_option maxRecDepth 20000 in
theorem runBOf (x : Int) (y : Int) (n : Int) : runG ΓB5 L0 Try.prog Try.f19 [.v (.agg #[I x, I y]), .v (I n)] M0 = 
    (bif !plR x y then some (.v (.agg #[(I 0), (I 0), (I 0), (I 0)]), M0) else some (.v (.agg #[(I (clI (wI (x - clI n (0 : Int) (2199023255552 : Int))) (-1099511627776 : Int) (1099511627776 : Int))), (I (clI (wI (y - clI n (0 : Int) (2199023255552 : Int))) (-1099511627776 : Int) (1099511627776 : Int))), (I (clI (wI (x + clI n (0 : Int) (2199023255552 : Int))) (-1099511627776 : Int) (1099511627776 : Int))), (I (clI (wI (y + clI n (0 : Int) (2199023255552 : Int))) (-1099511627776 : Int) (1099511627776 : Int)))]), M0)) := by kernel_rfl
def gBOf (vs : List Value) : Option (Bool × Value) :=
  match vs with
  | [.agg ⟨[.int .i64 x, .int .i64 y]⟩, .int .i64 n] => some (ofG x y n, .agg #[I (x - n), I (y - n), I (x + n), I (y + n)])
  | _ => none
theorem gBOf_ok : ∀ vs r, gBOf vs = some (true, r) → ∀ m, CallOk Try.prog 19 (vs.map .v) m (.v r) m := by
  intro vs r h
  unfold gBOf at h
  split at h
  · rename_i x y n
    obtain ⟨h1, rfl⟩ := some_t h
    refine runV (vs := [.agg #[I x, I y], I n]) (Λ := L0) (m' := M0) OkB5 Try.func19 rfl (fun z _ _ => l0Ok' _ z) ?_
    exact (runBOf x y n).trans (by
      obtain ⟨h2, h3, h4⟩ := ofG_iff.1 h1
      rw [plR_iff.2 (by omega), clI_in (n := n) (by omega) (by omega), wI_id (n := x - n) (by omega), wI_id (n := y - n) (by omega), wI_id (n := x + n) (by omega), wI_id (n := y + n) (by omega), clI_in (n := x - n) (by omega) (by omega), clI_in (n := y - n) (by omega) (by omega), clI_in (n := x + n) (by omega) (by omega), clI_in (n := y + n) (by omega) (by omega)]
      rfl)
  · cases h
noncomputable def ΓB6 : Orc := addVal 19 gBOf ΓB5
theorem OkB6 : ΓB6.Ok Try.prog := addVal_ok OkB5 gBOf_ok
set_option maxRecDepth 20000 in
theorem runBJn (a : Int) (b : Int) (c : Int) (d : Int) (a' : Int) (b' : Int) (c' : Int) (d' : Int) : runG ΓB6 L0 Try.prog Try.f24 [.v (.agg #[I a, I b, I c, I d]), .v (.agg #[I a', I b', I c', I d'])] M0 = 
    (bif boR a b c d then (bif boR a' b' c' d' then some (.v (.agg #[(I (if a' < a then a' else a)), (I (if b' < b then b' else b)), (I (if c' > c then c' else c)), (I (if d' > d then d' else d))]), M0) else (bif boR a b c d then some (.v (.agg #[(I a), (I b), (I c), (I d)]), M0) else (bif boR a' b' c' d' then some (.v (.agg #[(I a'), (I b'), (I c'), (I d')]), M0) else some (.v (.agg #[(I 0), (I 0), (I 0), (I 0)]), M0)))) else (bif boR a b c d then some (.v (.agg #[(I a), (I b), (I c), (I d)]), M0) else (bif boR a' b' c' d' then some (.v (.agg #[(I a'), (I b'), (I c'), (I d')]), M0) else some (.v (.agg #[(I 0), (I 0), (I 0), (I 0)]), M0)))) := by kernel_rfl
def gBJn (vs : List Value) : Option (Bool × Value) :=
  match vs with
  | [.agg ⟨[.int .i64 a, .int .i64 b, .int .i64 c, .int .i64 d]⟩, .agg ⟨[.int .i64 a', .int .i64 b', .int .i64 c', .int .i64 d']⟩] => some (boR a b c d && boR a' b' c' d', Value.agg #[I (mn a a'), I (mn b b'), I (mx c c'), I (mx d d')])
  | _ => none
theorem gBJn_ok : ∀ vs r, gBJn vs = some (true, r) → ∀ m, CallOk Try.prog 24 (vs.map .v) m (.v r) m := by
  intro vs r h
  unfold gBJn at h
  split at h
  · rename_i a b c d a' b' c' d'
    obtain ⟨h1, rfl⟩ := some_t h
    refine runV (vs := [.agg #[I a, I b, I c, I d], .agg #[I a', I b', I c', I d']]) (Λ := L0) (m' := M0) OkB6 Try.func24 rfl (fun z _ _ => l0Ok' _ z) ?_
    exact (runBJn a b c d a' b' c' d').trans (by
      rw [Bool.and_eq_true] at h1
      rw [h1.1, h1.2]
      rfl)
  · cases h
noncomputable def ΓB7 : Orc := addVal 24 gBJn ΓB6
theorem OkB7 : ΓB7.Ok Try.prog := addVal_ok OkB6 gBJn_ok
set_option maxRecDepth 20000 in
theorem runIUp (n : Int) (m : Int) : runG ΓB7 L0 Try.prog Try.f82 [.v (I n), .v (I m)] M0 = 
    (bif decide (n ≥ wI ((0 : Int) - m)) then some (.v (Bo (decide (n ≤ m))), M0) else some (.v (Bo false), M0)) := by kernel_rfl
def gIUp (vs : List Value) : Option (Bool × Value) :=
  match vs with
  | [.int .i64 n, .int .i64 m] => some (true, Bo (upB n m))
  | _ => none
theorem gIUp_ok : ∀ vs r, gIUp vs = some (true, r) → ∀ m, CallOk Try.prog 82 (vs.map .v) m (.v r) m := by
  intro vs r h
  unfold gIUp at h
  split at h
  · rename_i n m
    obtain ⟨h1, rfl⟩ := some_t h
    refine runV (vs := [I n, I m]) (Λ := L0) (m' := M0) OkB7 Try.func82 rfl (fun z _ _ => l0Ok' _ z) ?_
    exact (runIUp n m).trans (by unfold upB; cases decide (n ≥ wI (0 - m)) <;> rfl)
  · cases h
noncomputable def ΓB8 : Orc := addVal 82 gIUp ΓB7
theorem OkB8 : ΓB8.Ok Try.prog := addVal_ok OkB7 gIUp_ok
set_option maxRecDepth 20000 in
theorem runIRt (p : Int) (q : Int) (x : Int) (y : Int) (z : Int) (vx : Int) (vy : Int) (vz : Int) : runG ΓB8 L0 Try.prog Try.f63 [.v (.agg #[I p, I q, I x, I y, I z, I vx, I vy, I vz])] M0 = 
    (bif upB x (2147483648 : Int) then (bif upB y (2147483648 : Int) then (bif upB vx (131072 : Int) then some (.v (Bo (upB vy (131072 : Int))), M0) else some (.v (Bo false), M0)) else some (.v (Bo false), M0)) else some (.v (Bo false), M0)) := by kernel_rfl
def gIRt (vs : List Value) : Option (Bool × Value) :=
  match vs with
  | [.agg ⟨[.int .i64 p, .int .i64 q, .int .i64 x, .int .i64 y, .int .i64 z, .int .i64 vx, .int .i64 vy, .int .i64 vz]⟩] => some (true, Bo (nvR x y vx vy))
  | _ => none
theorem gIRt_ok : ∀ vs r, gIRt vs = some (true, r) → ∀ m, CallOk Try.prog 63 (vs.map .v) m (.v r) m := by
  intro vs r h
  unfold gIRt at h
  split at h
  · rename_i p q x y z vx vy vz
    obtain ⟨h1, rfl⟩ := some_t h
    refine runV (vs := [.agg #[I p, I q, I x, I y, I z, I vx, I vy, I vz]]) (Λ := L0) (m' := M0) OkB8 Try.func63 rfl (fun z _ _ => l0Ok' _ z) ?_
    exact (runIRt p q x y z vx vy vz).trans (by unfold nvR; cases upB x 2147483648 <;> cases upB y 2147483648 <;> cases upB vx 131072 <;> rfl)
  · cases h
noncomputable def ΓB9 : Orc := addVal 63 gIRt ΓB8
theorem OkB9 : ΓB9.Ok Try.prog := addVal_ok OkB8 gIRt_ok
set_option maxRecDepth 20000 in
theorem runIRc (p : Int) (q : Int) (x : Int) (y : Int) (z : Int) (vx : Int) (vy : Int) (vz : Int) (f : Int) (t : Int) : runG ΓB9 L0 Try.prog Try.f64 [.v (.agg #[I p, I q, I x, I y, I z, I vx, I vy, I vz]), .v (I f), .v (I t)] M0 = 
    some (.v (.agg #[(I (wI (x + wI (wI (vx + f) * t)))), (I (wI (y + wI (wI (vy + f) * t))))]), M0) := by kernel_rfl
def gIRc (vs : List Value) : Option (Bool × Value) :=
  match vs with
  | [.agg ⟨[.int .i64 p, .int .i64 q, .int .i64 x, .int .i64 y, .int .i64 z, .int .i64 vx, .int .i64 vy, .int .i64 vz]⟩, .int .i64 f, .int .i64 t] => some (rcG x y vx vy f t, Value.agg #[I (x + (vx + f) * t), I (y + (vy + f) * t)])
  | _ => none
theorem gIRc_ok : ∀ vs r, gIRc vs = some (true, r) → ∀ m, CallOk Try.prog 64 (vs.map .v) m (.v r) m := by
  intro vs r h
  unfold gIRc at h
  split at h
  · rename_i p q x y z vx vy vz f t
    obtain ⟨h1, rfl⟩ := some_t h
    refine runV (vs := [.agg #[I p, I q, I x, I y, I z, I vx, I vy, I vz], I f, I t]) (Λ := L0) (m' := M0) OkB9 Try.func64 rfl (fun z _ _ => l0Ok' _ z) ?_
    exact (runIRc p q x y z vx vy vz f t).trans (by
      obtain ⟨h2, h3, h4, h5, h6, h7⟩ := rcG_iff.1 h1
      rw [(reach1 h2 h4 h6 h7).1, (reach1 h3 h5 h6 h7).1])
  · cases h
noncomputable def ΓB10 : Orc := addVal 64 gIRc ΓB9
theorem OkB10 : ΓB10.Ok Try.prog := addVal_ok OkB9 gIRc_ok
set_option maxRecDepth 20000 in
theorem runRWy (p : Int) (q : Int) (x : Int) (y : Int) (z : Int) (vx : Int) (vy : Int) (vz : Int) (t : Int) : runG ΓB10 L0 Try.prog Try.f43 [.v (.agg #[I p, I q, I x, I y, I z, I vx, I vy, I vz]), .v (I t)] M0 = 
    some (.v (.agg #[(I (wI (x + wI (vx * t)))), (I (wI (y + wI (vy * t))))]), M0) := by kernel_rfl
def gRWy (vs : List Value) : Option (Bool × Value) :=
  match vs with
  | [.agg ⟨[.int .i64 p, .int .i64 q, .int .i64 x, .int .i64 y, .int .i64 z, .int .i64 vx, .int .i64 vy, .int .i64 vz]⟩, .int .i64 t] => some (rcG x y vx vy 0 t, Value.agg #[I (x + vx * t), I (y + vy * t)])
  | _ => none
theorem gRWy_ok : ∀ vs r, gRWy vs = some (true, r) → ∀ m, CallOk Try.prog 43 (vs.map .v) m (.v r) m := by
  intro vs r h
  unfold gRWy at h
  split at h
  · rename_i p q x y z vx vy vz t
    obtain ⟨h1, rfl⟩ := some_t h
    refine runV (vs := [.agg #[I p, I q, I x, I y, I z, I vx, I vy, I vz], I t]) (Λ := L0) (m' := M0) OkB10 Try.func43 rfl (fun z _ _ => l0Ok' _ z) ?_
    exact (runRWy p q x y z vx vy vz t).trans (by
      obtain ⟨h2, h3, h4, h5, h6, h7⟩ := rcG_iff.1 h1
      have e1 := (reach1 h2 h4 h6 h7).1
      have e2 := (reach1 h3 h5 h6 h7).1
      rw [Int.add_zero, wI_id (n := vx) (by omega)] at e1
      rw [Int.add_zero, wI_id (n := vy) (by omega)] at e2
      rw [e1, e2])
  · cases h
noncomputable def ΓB11 : Orc := addVal 43 gRWy ΓB10
theorem OkB11 : ΓB11.Ok Try.prog := addVal_ok OkB10 gRWy_ok
noncomputable def ΓBx : Orc := ΓB11
theorem OkBx : ΓBx.Ok Try.prog := OkB11
end Go.Proofs.Ytmhfidmcgkjhdaa

namespace Go.Proofs.Ytmhfidmcgkjhdaa
open Go Go.Proofs Go.Sx
set_option linter.unusedVariables false
/-! norm -/
/-! cast -/
/-! Impacts: the box. -/
noncomputable def bdIm : Code := loopAt (Try.f38.body.getD .skip) 0
theorem loopsIm : loopsOf (Try.f38.body.getD .skip) = [bdIm] := by kernel_rfl
def kIm : List Bool := maskOf 64 [2, 3, 6, 11, 42, 43]
def xIm (e : Ex) : List Bool := match e with
  | .exit _ => maskOf 64 [6, 11]
  | .ret => maskOf 64 [6]
  | .normal => maskOf 64 [2, 3, 6, 11, 42, 43]
def KIm (e : Ex) (st : St) : Option (Ex × St) := some (e, cutC 0 0 (xIm e) st)
def MIm (p q x y z vx vy vz a b c d : Int) : Mem := ⟨[[.v (I p), .v (I q), .v (I x), .v (I y), .v (I z), .v (I vx), .v (I vy), .v (I vz)], [.v (I 0), .v (I 0), .v (I 0), .v (I 0)], [.v (I a), .v (I b), .v (I c), .v (I d)]], [true, true, true], []⟩
set_option maxRecDepth 20000 in
theorem stepIm0 (p q x y z vx vy vz a b c d e lo hi : Int) (n : Nat) : evLoop ΓBx Try.prog L0 (cutC 0 0 kIm) bdIm (n + 1) (mk kIm [.v (I e), .ptr 0 0, .ptr 1 0, .ptr 2 0, .v (.agg #[I lo, I hi]), .v (I 0)] (MIm p q x y z vx vy vz a b c d)) KIm =
    (bif rcG x y vx vy (wI ((0 : Int) - e)) lo then (bif ofG (x + (vx + wI ((0 : Int) - e)) * lo) (y + (vy + wI ((0 : Int) - e)) * lo) e then (bif boR a b c d && boR (x + (vx + wI ((0 : Int) - e)) * lo - e) (y + (vy + wI ((0 : Int) - e)) * lo - e) (x + (vx + wI ((0 : Int) - e)) * lo + e) (y + (vy + wI ((0 : Int) - e)) * lo + e) then (bif rcG x y vx vy e lo then (bif ofG (x + (vx + e) * lo) (y + (vy + e) * lo) e then (bif boR (mn a (x + (vx + wI ((0 : Int) - e)) * lo - e)) (mn b (y + (vy + wI ((0 : Int) - e)) * lo - e)) (mx c (x + (vx + wI ((0 : Int) - e)) * lo + e)) (mx d (y + (vy + wI ((0 : Int) - e)) * lo + e)) && boR (x + (vx + e) * lo - e) (y + (vy + e) * lo - e) (x + (vx + e) * lo + e) (y + (vy + e) * lo + e) then evLoop ΓBx Try.prog L0 (cutC 0 0 kIm) bdIm n (mk kIm [.v (I e), .ptr 0 0, .ptr 1 0, .ptr 2 0, .v (.agg #[(I lo), (I hi)]), .v (I 1)] ⟨[[.v (I p), .v (I q), .v (I x), .v (I y), .v (I z), .v (I vx), .v (I vy), .v (I vz)], [.v (I 0), .v (I 0), .v (I 0), .v (I 0)], [.v (I (mn (mn a (x + (vx + wI ((0 : Int) - e)) * lo - e)) (x + (vx + e) * lo - e))), .v (I (mn (mn b (y + (vy + wI ((0 : Int) - e)) * lo - e)) (y + (vy + e) * lo - e))), .v (I (mx (mx c (x + (vx + wI ((0 : Int) - e)) * lo + e)) (x + (vx + e) * lo + e))), .v (I (mx (mx d (y + (vy + wI ((0 : Int) - e)) * lo + e)) (y + (vy + e) * lo + e)))]], [true, true, true], []⟩) KIm else none) else none) else none) else none) else none) else none) := by kernel_rfl
set_option maxRecDepth 20000 in
theorem stepIm1 (p q x y z vx vy vz a b c d e lo hi : Int) (n : Nat) : evLoop ΓBx Try.prog L0 (cutC 0 0 kIm) bdIm (n + 1) (mk kIm [.v (I e), .ptr 0 0, .ptr 1 0, .ptr 2 0, .v (.agg #[I lo, I hi]), .v (I 1)] (MIm p q x y z vx vy vz a b c d)) KIm =
    (bif rcG x y vx vy (wI ((0 : Int) - e)) hi then (bif ofG (x + (vx + wI ((0 : Int) - e)) * hi) (y + (vy + wI ((0 : Int) - e)) * hi) e then (bif boR a b c d && boR (x + (vx + wI ((0 : Int) - e)) * hi - e) (y + (vy + wI ((0 : Int) - e)) * hi - e) (x + (vx + wI ((0 : Int) - e)) * hi + e) (y + (vy + wI ((0 : Int) - e)) * hi + e) then (bif rcG x y vx vy e hi then (bif ofG (x + (vx + e) * hi) (y + (vy + e) * hi) e then (bif boR (mn a (x + (vx + wI ((0 : Int) - e)) * hi - e)) (mn b (y + (vy + wI ((0 : Int) - e)) * hi - e)) (mx c (x + (vx + wI ((0 : Int) - e)) * hi + e)) (mx d (y + (vy + wI ((0 : Int) - e)) * hi + e)) && boR (x + (vx + e) * hi - e) (y + (vy + e) * hi - e) (x + (vx + e) * hi + e) (y + (vy + e) * hi + e) then evLoop ΓBx Try.prog L0 (cutC 0 0 kIm) bdIm n (mk kIm [.v (I e), .ptr 0 0, .ptr 1 0, .ptr 2 0, .v (.agg #[(I lo), (I hi)]), .v (I 2)] ⟨[[.v (I p), .v (I q), .v (I x), .v (I y), .v (I z), .v (I vx), .v (I vy), .v (I vz)], [.v (I 0), .v (I 0), .v (I 0), .v (I 0)], [.v (I (mn (mn a (x + (vx + wI ((0 : Int) - e)) * hi - e)) (x + (vx + e) * hi - e))), .v (I (mn (mn b (y + (vy + wI ((0 : Int) - e)) * hi - e)) (y + (vy + e) * hi - e))), .v (I (mx (mx c (x + (vx + wI ((0 : Int) - e)) * hi + e)) (x + (vx + e) * hi + e))), .v (I (mx (mx d (y + (vy + wI ((0 : Int) - e)) * hi + e)) (y + (vy + e) * hi + e)))]], [true, true, true], []⟩) KIm else none) else none) else none) else none) else none) else none) := by kernel_rfl
set_option maxRecDepth 20000 in
theorem stepIm2 (p q x y z vx vy vz a b c d e lo hi : Int) (n : Nat) : evLoop ΓBx Try.prog L0 (cutC 0 0 kIm) bdIm (n + 1) (mk kIm [.v (I e), .ptr 0 0, .ptr 1 0, .ptr 2 0, .v (.agg #[I lo, I hi]), .v (I 2)] (MIm p q x y z vx vy vz a b c d)) KIm =
    some ((.exit 0), mk (xIm (.exit 0)) [.ptr 0 0, .ptr 1 0] ⟨[[.v (I 0), .v (I 0), .v (I 0), .v (I 0)], [.v (I a), .v (I b), .v (I c), .v (I d)]], [true, true], []⟩) := by kernel_rfl
theorem inP {x v f t : Int} (h1 : -2147483648 ≤ x ∧ x ≤ 2147483648) (h2 : -131072 ≤ v ∧ v ≤ 131072) (h3 : -2048 ≤ f ∧ f ≤ 2048) (h4 : 0 ≤ t ∧ t ≤ 2097154) : -300000000000 ≤ x + (v + f) * t ∧ x + (v + f) * t ≤ 300000000000 := by
  have p := mulB (a := v + f) (b := t) (A := 133120) (B := 2097154) (by omega) (by omega) (by omega) (by omega)
  omega
/-- A box that is near enough. -/
def Bd (a b c d : Int) : Prop := a ≤ c ∧ b ≤ d ∧ (-310000000000 ≤ a ∧ c ≤ 310000000000) ∧ -310000000000 ≤ b ∧ d ≤ 310000000000
def bdB (a b c d : Int) : Bool := decide (a ≤ c ∧ b ≤ d ∧ (-310000000000 ≤ a ∧ c ≤ 310000000000) ∧ -310000000000 ≤ b ∧ d ≤ 310000000000)
theorem bdB_iff {a b c d : Int} : bdB a b c d = true ↔ Bd a b c d := decide_eq_true_iff
theorem Bd.bo {a b c d : Int} (h : Bd a b c d) : boR a b c d = true := by
  obtain ⟨h1, h2, h3, h4⟩ := h
  exact boR_iff.2 ⟨plR_iff.2 (by omega), plR_iff.2 (by omega), h1, h2⟩
theorem Bd.of {x y e : Int} (he : 0 ≤ e ∧ e ≤ 2048) (hx : -300000000000 ≤ x ∧ x ≤ 300000000000) (hy : -300000000000 ≤ y ∧ y ≤ 300000000000) : Bd (x - e) (y - e) (x + e) (y + e) := ⟨by omega, by omega, by omega, by omega⟩
theorem Bd.join {a b c d a' b' c' d' : Int} (h : Bd a b c d) (h' : Bd a' b' c' d') : Bd (mn a a') (mn b b') (mx c c') (mx d d') := by
  obtain ⟨h1, h2, h3, h4⟩ := h
  obtain ⟨k1, k2, k3, k4⟩ := h'
  have m1 := mn_le a a'
  have m2 := mn_le b b'
  have m3 := le_mx c c'
  have m4 := le_mx d d'
  exact ⟨by omega, by omega, by omega, by omega⟩
theorem ofG_of {x y e : Int} (he : 0 ≤ e ∧ e ≤ 2048) (hx : -300000000000 ≤ x ∧ x ≤ 300000000000) (hy : -300000000000 ≤ y ∧ y ≤ 300000000000) : ofG x y e = true := ofG_iff.2 ⟨by omega, by omega, by omega⟩
theorem rcG_of {x y vx vy f t : Int} (h : nvR x y vx vy = true) (h3 : -2048 ≤ f ∧ f ≤ 2048) (h4 : 0 ≤ t ∧ t ≤ 2097154) : rcG x y vx vy f t = true := by
  have := nvR_iff.1 h
  exact rcG_iff.2 ⟨by omega, by omega, by omega, by omega, by omega, by omega⟩
def jL (a x v e t : Int) : Int := mn (mn a (x + (v + -e) * t - e)) (x + (v + e) * t - e)
def jH (a x v e t : Int) : Int := mx (mx a (x + (v + -e) * t + e)) (x + (v + e) * t + e)
theorem jBd {a b c d x y vx vy e t : Int} (h : Bd a b c d) (hn : nvR x y vx vy = true) (he : 0 ≤ e ∧ e ≤ 2048) (ht : 0 ≤ t ∧ t ≤ 2097154) : Bd (jL a x vx e t) (jL b y vy e t) (jH c x vx e t) (jH d y vy e t) := by
  have n := nvR_iff.1 hn
  refine (h.join (Bd.of he (inP n.1 n.2.2.1 (f := -e) ?_ ht) (inP n.2.1 n.2.2.2 (f := -e) ?_ ht))).join (Bd.of he (inP n.1 n.2.2.1 (f := e) ?_ ht) (inP n.2.1 n.2.2.2 (f := e) ?_ ht)) <;> omega
theorem rndIm0 (p q x y z vx vy vz a b c d e lo hi : Int) (n : Nat) (h : Bd a b c d) (hn : nvR x y vx vy = true) (he : 0 ≤ e ∧ e ≤ 2048) (ht : 0 ≤ lo ∧ lo ≤ 2097154) :
    evLoop ΓBx Try.prog L0 (cutC 0 0 kIm) bdIm (n + 1) (mk kIm [.v (I e), .ptr 0 0, .ptr 1 0, .ptr 2 0, .v (.agg #[I lo, I hi]), .v (I 0)] (MIm p q x y z vx vy vz a b c d)) KIm =
    evLoop ΓBx Try.prog L0 (cutC 0 0 kIm) bdIm n (mk kIm [.v (I e), .ptr 0 0, .ptr 1 0, .ptr 2 0, .v (.agg #[I lo, I hi]), .v (I 1)] (MIm p q x y z vx vy vz (jL a x vx e lo) (jL b y vy e lo) (jH c x vx e lo) (jH d y vy e lo))) KIm := by
  refine (stepIm0 p q x y z vx vy vz a b c d e lo hi n).trans ?_
  have nn := nvR_iff.1 hn
  have q1 := inP nn.1 nn.2.2.1 (f := -e) (t := lo) (by omega) ht
  have q2 := inP nn.2.1 nn.2.2.2 (f := -e) (t := lo) (by omega) ht
  have q3 := inP nn.1 nn.2.2.1 (f := e) (t := lo) (by omega) ht
  have q4 := inP nn.2.1 nn.2.2.2 (f := e) (t := lo) (by omega) ht
  have b1 := Bd.of he q1 q2
  have b2 := Bd.of he q3 q4
  rw [show wI (0 - e) = -e by rw [wI_id (by omega)]; omega, rcG_of hn (by omega) ht, rcG_of hn (by omega) ht, ofG_of he q1 q2, ofG_of he q3 q4, h.bo, b1.bo, (h.join b1).bo, b2.bo]
  rfl
theorem rndIm1 (p q x y z vx vy vz a b c d e lo hi : Int) (n : Nat) (h : Bd a b c d) (hn : nvR x y vx vy = true) (he : 0 ≤ e ∧ e ≤ 2048) (ht : 0 ≤ hi ∧ hi ≤ 2097154) :
    evLoop ΓBx Try.prog L0 (cutC 0 0 kIm) bdIm (n + 1) (mk kIm [.v (I e), .ptr 0 0, .ptr 1 0, .ptr 2 0, .v (.agg #[I lo, I hi]), .v (I 1)] (MIm p q x y z vx vy vz a b c d)) KIm =
    evLoop ΓBx Try.prog L0 (cutC 0 0 kIm) bdIm n (mk kIm [.v (I e), .ptr 0 0, .ptr 1 0, .ptr 2 0, .v (.agg #[I lo, I hi]), .v (I 2)] (MIm p q x y z vx vy vz (jL a x vx e hi) (jL b y vy e hi) (jH c x vx e hi) (jH d y vy e hi))) KIm := by
  refine (stepIm1 p q x y z vx vy vz a b c d e lo hi n).trans ?_
  have nn := nvR_iff.1 hn
  have q1 := inP nn.1 nn.2.2.1 (f := -e) (t := hi) (by omega) ht
  have q2 := inP nn.2.1 nn.2.2.2 (f := -e) (t := hi) (by omega) ht
  have q3 := inP nn.1 nn.2.2.1 (f := e) (t := hi) (by omega) ht
  have q4 := inP nn.2.1 nn.2.2.2 (f := e) (t := hi) (by omega) ht
  have b1 := Bd.of he q1 q2
  have b2 := Bd.of he q3 q4
  rw [show wI (0 - e) = -e by rw [wI_id (by omega)]; omega, rcG_of hn (by omega) ht, rcG_of hn (by omega) ht, ofG_of he q1 q2, ofG_of he q3 q4, h.bo, b1.bo, (h.join b1).bo, b2.bo]
  rfl
def XIm (a b c d : Int) : St := mk (xIm (.exit 0)) [.ptr 0 0, .ptr 1 0] ⟨[[.v (I 0), .v (I 0), .v (I 0), .v (I 0)], [.v (I a), .v (I b), .v (I c), .v (I d)]], [true, true], []⟩
def GIm (vals : List SV) (m : Mem) : Option (Bool × Ex × St) :=
  match vals, m with
  | [.v (.int .i64 e), .ptr 0 0, .ptr 1 0, .ptr 2 0, .v (.agg ⟨[.int .i64 lo, .int .i64 hi]⟩), .v (.int .i64 0)], ⟨[[.v (.int .i64 p), .v (.int .i64 q), .v (.int .i64 x), .v (.int .i64 y), .v (.int .i64 z), .v (.int .i64 vx), .v (.int .i64 vy), .v (.int .i64 vz)], [.v (.int .i64 0), .v (.int .i64 0), .v (.int .i64 0), .v (.int .i64 0)], [.v (.int .i64 a), .v (.int .i64 b), .v (.int .i64 c), .v (.int .i64 d)]], [true, true, true], []⟩ =>
    some (bdB a b c d && (nvR x y vx vy && (decide (0 ≤ e ∧ e ≤ 2048) && (decide (0 ≤ lo ∧ lo ≤ 2097154) && decide (0 ≤ hi ∧ hi ≤ 2097154)))), .exit 0, XIm (jL (jL a x vx e lo) x vx e hi) (jL (jL b y vy e lo) y vy e hi) (jH (jH c x vx e lo) x vx e hi) (jH (jH d y vy e lo) y vy e hi))
  | _, _ => none
noncomputable def ΛIm : LoopOrc := fun _ st => viaC 0 0 kIm GIm st
theorem loopOkIm (z : Base) (z1 : z.L.length = 0) (z2 : z.U.length = 0) : LoopOk ΛIm Try.prog z bdIm := by
  refine loop_okC (Λ := L0) (kx := xIm) OkBx mixed z1 z2 (fun b hb st e st' h => by cases h) (G := GIm) (fun _ => rfl) ?_
  intro vals m e st' h
  unfold GIm at h
  split at h
  · rename_i e lo hi p q x y z vx vy vz a b c d
    obtain ⟨h1, rfl, rfl⟩ := some_t2 h
    simp only [Bool.and_eq_true, decide_eq_true_eq] at h1
    obtain ⟨hb, hn, he, hlo, hhi⟩ := h1
    have hB := bdB_iff.1 hb
    exact ⟨3, ((rndIm0 p q x y z vx vy vz a b c d e lo hi 2 hB hn he hlo).trans (rndIm1 p q x y z vx vy vz _ _ _ _ e lo hi 1 (jBd hB hn he hlo) hn he hhi)).trans (stepIm2 p q x y z vx vy vz _ _ _ _ e lo hi 0)⟩
  · cases h
set_option maxRecDepth 20000 in
theorem runIBox (p q x y z vx vy vz g e : Int) : runG ΓBx ΛIm Try.prog Try.f38 [.v (.agg #[I p, I q, I x, I y, I z, I vx, I vy, I vz]), .v (I g), .v (I e)] M0 = 
    (bif !(frR z vz g && decide ((0 : Int) ≤ e ∧ e ≤ (2048 : Int))) then some (.v (.tuple #[(.agg #[(I 0), (I 0), (I 0), (I 0)]), (Bo false)]), M0) else (bif !nvR x y vx vy then some (.v (.tuple #[(.agg #[(I 0), (I 0), (I 0), (I 0)]), (Bo false)]), M0) else (bif rcG x y vx vy (0 : Int) (bif frR z vz g && decide ((0 : Int) ≤ e ∧ e ≤ (2048 : Int)) then tmF (z - e) (vz - e) g else (0 : Int)) then (bif ofG (x + (vx + (0 : Int)) * bif frR z vz g && decide ((0 : Int) ≤ e ∧ e ≤ (2048 : Int)) then tmF (z - e) (vz - e) g else (0 : Int)) (y + (vy + (0 : Int)) * bif frR z vz g && decide ((0 : Int) ≤ e ∧ e ≤ (2048 : Int)) then tmF (z - e) (vz - e) g else (0 : Int)) e then (bif bdB ((x + (vx + (0 : Int)) * bif frR z vz g && decide ((0 : Int) ≤ e ∧ e ≤ (2048 : Int)) then tmF (z - e) (vz - e) g else (0 : Int)) - e) ((y + (vy + (0 : Int)) * bif frR z vz g && decide ((0 : Int) ≤ e ∧ e ≤ (2048 : Int)) then tmF (z - e) (vz - e) g else (0 : Int)) - e) ((x + (vx + (0 : Int)) * bif frR z vz g && decide ((0 : Int) ≤ e ∧ e ≤ (2048 : Int)) then tmF (z - e) (vz - e) g else (0 : Int)) + e) ((y + (vy + (0 : Int)) * bif frR z vz g && decide ((0 : Int) ≤ e ∧ e ≤ (2048 : Int)) then tmF (z - e) (vz - e) g else (0 : Int)) + e) && (nvR x y vx vy && (decide ((0 : Int) ≤ e ∧ e ≤ (2048 : Int)) && (decide (((0 : Int) ≤ bif frR z vz g && decide ((0 : Int) ≤ e ∧ e ≤ (2048 : Int)) then tmF (z - e) (vz - e) g else (0 : Int)) ∧ (bif frR z vz g && decide ((0 : Int) ≤ e ∧ e ≤ (2048 : Int)) then tmF (z - e) (vz - e) g else (0 : Int)) ≤ (2097154 : Int)) && decide (((0 : Int) ≤ bif frR z vz g && decide ((0 : Int) ≤ e ∧ e ≤ (2048 : Int)) then tmF (z + e) (vz + e) g + (2 : Int) else (0 : Int)) ∧ (bif frR z vz g && decide ((0 : Int) ≤ e ∧ e ≤ (2048 : Int)) then tmF (z + e) (vz + e) g + (2 : Int) else (0 : Int)) ≤ (2097154 : Int))))) then some (.v (.tuple #[(.agg #[(I (jL (jL ((x + (vx + (0 : Int)) * bif frR z vz g && decide ((0 : Int) ≤ e ∧ e ≤ (2048 : Int)) then tmF (z - e) (vz - e) g else (0 : Int)) - e) x vx e (bif frR z vz g && decide ((0 : Int) ≤ e ∧ e ≤ (2048 : Int)) then tmF (z - e) (vz - e) g else (0 : Int))) x vx e (bif frR z vz g && decide ((0 : Int) ≤ e ∧ e ≤ (2048 : Int)) then tmF (z + e) (vz + e) g + (2 : Int) else (0 : Int)))), (I (jL (jL ((y + (vy + (0 : Int)) * bif frR z vz g && decide ((0 : Int) ≤ e ∧ e ≤ (2048 : Int)) then tmF (z - e) (vz - e) g else (0 : Int)) - e) y vy e (bif frR z vz g && decide ((0 : Int) ≤ e ∧ e ≤ (2048 : Int)) then tmF (z - e) (vz - e) g else (0 : Int))) y vy e (bif frR z vz g && decide ((0 : Int) ≤ e ∧ e ≤ (2048 : Int)) then tmF (z + e) (vz + e) g + (2 : Int) else (0 : Int)))), (I (jH (jH ((x + (vx + (0 : Int)) * bif frR z vz g && decide ((0 : Int) ≤ e ∧ e ≤ (2048 : Int)) then tmF (z - e) (vz - e) g else (0 : Int)) + e) x vx e (bif frR z vz g && decide ((0 : Int) ≤ e ∧ e ≤ (2048 : Int)) then tmF (z - e) (vz - e) g else (0 : Int))) x vx e (bif frR z vz g && decide ((0 : Int) ≤ e ∧ e ≤ (2048 : Int)) then tmF (z + e) (vz + e) g + (2 : Int) else (0 : Int)))), (I (jH (jH ((y + (vy + (0 : Int)) * bif frR z vz g && decide ((0 : Int) ≤ e ∧ e ≤ (2048 : Int)) then tmF (z - e) (vz - e) g else (0 : Int)) + e) y vy e (bif frR z vz g && decide ((0 : Int) ≤ e ∧ e ≤ (2048 : Int)) then tmF (z - e) (vz - e) g else (0 : Int))) y vy e (bif frR z vz g && decide ((0 : Int) ≤ e ∧ e ≤ (2048 : Int)) then tmF (z + e) (vz + e) g + (2 : Int) else (0 : Int))))]), (Bo true)]), M0) else none) else none) else none))) := by kernel_rfl
end Go.Proofs.Ytmhfidmcgkjhdaa

namespace Go.Proofs.Ytmhfidmcgkjhdaa
open Go Go.Proofs Go.Sx
set_option linter.unusedVariables false
/-! norm -/
/-! cast -/
def hX (x : Int) : Int := x.tmod 1073741824
def hZ (z : Int) : Int := wI ((BitVec.ofInt 64 z &&& BitVec.ofInt 64 1073741823).toNat : Int)
def hV (v : Int) : Int := v.tmod 65536
def oI (x d e : Int) : Int := wI (x + d.tmod (e + 1))
set_option maxRecDepth 20000 in
theorem runLHeld (p : Int) (q : Int) (x : Int) (y : Int) (z : Int) (vx : Int) (vy : Int) (vz : Int) : runG ΓBx L0 Try.prog Try.f37 [.v (.agg #[I p, I q, I x, I y, I z, I vx, I vy, I vz])] M0 = 
    some (.v (.agg #[(I p), (I q), (I (x.tmod (1073741824 : Int))), (I (y.tmod (1073741824 : Int))), (I (wI ((BitVec.ofInt (64 : Nat) z &&& BitVec.ofInt (64 : Nat) (1073741823 : Int)).toNat : Int))), (I (vx.tmod (65536 : Int))), (I (vy.tmod (65536 : Int))), (I (vz.tmod (65536 : Int)))]), M0) := by kernel_rfl
def gLHeld (vs : List Value) : Option (Bool × Value) :=
  match vs with
  | [.agg ⟨[.int .i64 p, .int .i64 q, .int .i64 x, .int .i64 y, .int .i64 z, .int .i64 vx, .int .i64 vy, .int .i64 vz]⟩] => some (true, .agg #[I p, I q, I (hX x), I (hX y), I (hZ z), I (hV vx), I (hV vy), I (hV vz)])
  | _ => none
theorem gLHeld_ok : ∀ vs r, gLHeld vs = some (true, r) → ∀ m, CallOk Try.prog 37 (vs.map .v) m (.v r) m := by
  intro vs r h
  unfold gLHeld at h
  split at h
  · rename_i p q x y z vx vy vz
    obtain ⟨h1, rfl⟩ := some_t h
    refine runV (vs := [.agg #[I p, I q, I x, I y, I z, I vx, I vy, I vz]]) (Λ := L0) (m' := M0) OkBx Try.func37 rfl (fun z _ _ => l0Ok' _ z) ?_
    exact (runLHeld p q x y z vx vy vz).trans (rfl)
  · cases h
noncomputable def ΓO1 : Orc := addVal 37 gLHeld ΓBx
theorem OkO1 : ΓO1.Ok Try.prog := addVal_ok OkBx gLHeld_ok
set_option maxRecDepth 20000 in
theorem runLOff (p : Int) (q : Int) (x : Int) (y : Int) (z : Int) (vx : Int) (vy : Int) (vz : Int) (d0 : Int) (d1 : Int) (d2 : Int) (d3 : Int) (d4 : Int) (d5 : Int) (e : Int) : runG ΓO1 L0 Try.prog Try.f40 [.v (.agg #[I p, I q, I x, I y, I z, I vx, I vy, I vz]), .v (.agg #[I d0, I d1, I d2, I d3, I d4, I d5]), .v (I e)] M0 = 
    (bif wI (e + (1 : Int)) == (0 : Int) then none else (same ((bif wI (e + (1 : Int)) == (0 : Int) then none else (same ((bif wI (e + (1 : Int)) == (0 : Int) then none else (bif wI (e + (1 : Int)) == (0 : Int) then none else (same ((bif wI (e + (1 : Int)) == (0 : Int) then none else (same ((bif wI (e + (1 : Int)) == (0 : Int) then none else some (.v (.agg #[(I p), (I q), (I (wI (x + d0.tmod (wI (e + (1 : Int)))))), (I (wI (y + d1.tmod (wI (e + (1 : Int)))))), (I (wI (z + d2.tmod (wI (e + (1 : Int)))))), (I (wI (vx + d3.tmod (wI (e + (1 : Int)))))), (I (wI (vy + d4.tmod (wI (e + (1 : Int)))))), (I (wI (vz + d5.tmod (wI (e + (1 : Int))))))]), M0))) ((same ((bif wI (e + (1 : Int)) == (0 : Int) then none else some (.v (.agg #[(I p), (I q), (I (wI (x + d0.tmod (wI (e + (1 : Int)))))), (I (wI (y + d1.tmod (wI (e + (1 : Int)))))), (I (wI (z + d2.tmod (wI (e + (1 : Int)))))), (I (wI (vx + d3.tmod (wI (e + (1 : Int)))))), (I (wI (vy + d4.tmod (wI (e + (1 : Int)))))), (I (wI (vz + d5.tmod (wI (e + (1 : Int))))))]), M0))) ((bif wI (e + (1 : Int)) == (0 : Int) then none else some (.v (.agg #[(I p), (I q), (I (wI (x + d0.tmod (wI (e + (1 : Int)))))), (I (wI (y + d1.tmod (wI (e + (1 : Int)))))), (I (wI (z + d2.tmod (wI (e + (1 : Int)))))), (I (wI (vx + d3.tmod (wI (e + (1 : Int)))))), (I (wI (vy + d4.tmod (wI (e + (1 : Int)))))), (I (wI (vz + d5.tmod (wI (e + (1 : Int))))))]), M0)))))))) ((same ((bif wI (e + (1 : Int)) == (0 : Int) then none else (same ((bif wI (e + (1 : Int)) == (0 : Int) then none else some (.v (.agg #[(I p), (I q), (I (wI (x + d0.tmod (wI (e + (1 : Int)))))), (I (wI (y + d1.tmod (wI (e + (1 : Int)))))), (I (wI (z + d2.tmod (wI (e + (1 : Int)))))), (I (wI (vx + d3.tmod (wI (e + (1 : Int)))))), (I (wI (vy + d4.tmod (wI (e + (1 : Int)))))), (I (wI (vz + d5.tmod (wI (e + (1 : Int))))))]), M0))) ((bif wI (e + (1 : Int)) == (0 : Int) then none else some (.v (.agg #[(I p), (I q), (I (wI (x + d0.tmod (wI (e + (1 : Int)))))), (I (wI (y + d1.tmod (wI (e + (1 : Int)))))), (I (wI (z + d2.tmod (wI (e + (1 : Int)))))), (I (wI (vx + d3.tmod (wI (e + (1 : Int)))))), (I (wI (vy + d4.tmod (wI (e + (1 : Int)))))), (I (wI (vz + d5.tmod (wI (e + (1 : Int))))))]), M0)))))) ((bif wI (e + (1 : Int)) == (0 : Int) then none else (same ((bif wI (e + (1 : Int)) == (0 : Int) then none else some (.v (.agg #[(I p), (I q), (I (wI (x + d0.tmod (wI (e + (1 : Int)))))), (I (wI (y + d1.tmod (wI (e + (1 : Int)))))), (I (wI (z + d2.tmod (wI (e + (1 : Int)))))), (I (wI (vx + d3.tmod (wI (e + (1 : Int)))))), (I (wI (vy + d4.tmod (wI (e + (1 : Int)))))), (I (wI (vz + d5.tmod (wI (e + (1 : Int))))))]), M0))) ((bif wI (e + (1 : Int)) == (0 : Int) then none else some (.v (.agg #[(I p), (I q), (I (wI (x + d0.tmod (wI (e + (1 : Int)))))), (I (wI (y + d1.tmod (wI (e + (1 : Int)))))), (I (wI (z + d2.tmod (wI (e + (1 : Int)))))), (I (wI (vx + d3.tmod (wI (e + (1 : Int)))))), (I (wI (vy + d4.tmod (wI (e + (1 : Int)))))), (I (wI (vz + d5.tmod (wI (e + (1 : Int))))))]), M0)))))))))))) ((same ((bif wI (e + (1 : Int)) == (0 : Int) then none else (bif wI (e + (1 : Int)) == (0 : Int) then none else (same ((bif wI (e + (1 : Int)) == (0 : Int) then none else (same ((bif wI (e + (1 : Int)) == (0 : Int) then none else some (.v (.agg #[(I p), (I q), (I (wI (x + d0.tmod (wI (e + (1 : Int)))))), (I (wI (y + d1.tmod (wI (e + (1 : Int)))))), (I (wI (z + d2.tmod (wI (e + (1 : Int)))))), (I (wI (vx + d3.tmod (wI (e + (1 : Int)))))), (I (wI (vy + d4.tmod (wI (e + (1 : Int)))))), (I (wI (vz + d5.tmod (wI (e + (1 : Int))))))]), M0))) ((same ((bif wI (e + (1 : Int)) == (0 : Int) then none else some (.v (.agg #[(I p), (I q), (I (wI (x + d0.tmod (wI (e + (1 : Int)))))), (I (wI (y + d1.tmod (wI (e + (1 : Int)))))), (I (wI (z + d2.tmod (wI (e + (1 : Int)))))), (I (wI (vx + d3.tmod (wI (e + (1 : Int)))))), (I (wI (vy + d4.tmod (wI (e + (1 : Int)))))), (I (wI (vz + d5.tmod (wI (e + (1 : Int))))))]), M0))) ((bif wI (e + (1 : Int)) == (0 : Int) then none else some (.v (.agg #[(I p), (I q), (I (wI (x + d0.tmod (wI (e + (1 : Int)))))), (I (wI (y + d1.tmod (wI (e + (1 : Int)))))), (I (wI (z + d2.tmod (wI (e + (1 : Int)))))), (I (wI (vx + d3.tmod (wI (e + (1 : Int)))))), (I (wI (vy + d4.tmod (wI (e + (1 : Int)))))), (I (wI (vz + d5.tmod (wI (e + (1 : Int))))))]), M0)))))))) ((same ((bif wI (e + (1 : Int)) == (0 : Int) then none else (same ((bif wI (e + (1 : Int)) == (0 : Int) then none else some (.v (.agg #[(I p), (I q), (I (wI (x + d0.tmod (wI (e + (1 : Int)))))), (I (wI (y + d1.tmod (wI (e + (1 : Int)))))), (I (wI (z + d2.tmod (wI (e + (1 : Int)))))), (I (wI (vx + d3.tmod (wI (e + (1 : Int)))))), (I (wI (vy + d4.tmod (wI (e + (1 : Int)))))), (I (wI (vz + d5.tmod (wI (e + (1 : Int))))))]), M0))) ((bif wI (e + (1 : Int)) == (0 : Int) then none else some (.v (.agg #[(I p), (I q), (I (wI (x + d0.tmod (wI (e + (1 : Int)))))), (I (wI (y + d1.tmod (wI (e + (1 : Int)))))), (I (wI (z + d2.tmod (wI (e + (1 : Int)))))), (I (wI (vx + d3.tmod (wI (e + (1 : Int)))))), (I (wI (vy + d4.tmod (wI (e + (1 : Int)))))), (I (wI (vz + d5.tmod (wI (e + (1 : Int))))))]), M0)))))) ((bif wI (e + (1 : Int)) == (0 : Int) then none else (same ((bif wI (e + (1 : Int)) == (0 : Int) then none else some (.v (.agg #[(I p), (I q), (I (wI (x + d0.tmod (wI (e + (1 : Int)))))), (I (wI (y + d1.tmod (wI (e + (1 : Int)))))), (I (wI (z + d2.tmod (wI (e + (1 : Int)))))), (I (wI (vx + d3.tmod (wI (e + (1 : Int)))))), (I (wI (vy + d4.tmod (wI (e + (1 : Int)))))), (I (wI (vz + d5.tmod (wI (e + (1 : Int))))))]), M0))) ((bif wI (e + (1 : Int)) == (0 : Int) then none else some (.v (.agg #[(I p), (I q), (I (wI (x + d0.tmod (wI (e + (1 : Int)))))), (I (wI (y + d1.tmod (wI (e + (1 : Int)))))), (I (wI (z + d2.tmod (wI (e + (1 : Int)))))), (I (wI (vx + d3.tmod (wI (e + (1 : Int)))))), (I (wI (vy + d4.tmod (wI (e + (1 : Int)))))), (I (wI (vz + d5.tmod (wI (e + (1 : Int))))))]), M0)))))))))))) ((bif wI (e + (1 : Int)) == (0 : Int) then none else (bif wI (e + (1 : Int)) == (0 : Int) then none else (same ((bif wI (e + (1 : Int)) == (0 : Int) then none else (same ((bif wI (e + (1 : Int)) == (0 : Int) then none else some (.v (.agg #[(I p), (I q), (I (wI (x + d0.tmod (wI (e + (1 : Int)))))), (I (wI (y + d1.tmod (wI (e + (1 : Int)))))), (I (wI (z + d2.tmod (wI (e + (1 : Int)))))), (I (wI (vx + d3.tmod (wI (e + (1 : Int)))))), (I (wI (vy + d4.tmod (wI (e + (1 : Int)))))), (I (wI (vz + d5.tmod (wI (e + (1 : Int))))))]), M0))) ((same ((bif wI (e + (1 : Int)) == (0 : Int) then none else some (.v (.agg #[(I p), (I q), (I (wI (x + d0.tmod (wI (e + (1 : Int)))))), (I (wI (y + d1.tmod (wI (e + (1 : Int)))))), (I (wI (z + d2.tmod (wI (e + (1 : Int)))))), (I (wI (vx + d3.tmod (wI (e + (1 : Int)))))), (I (wI (vy + d4.tmod (wI (e + (1 : Int)))))), (I (wI (vz + d5.tmod (wI (e + (1 : Int))))))]), M0))) ((bif wI (e + (1 : Int)) == (0 : Int) then none else some (.v (.agg #[(I p), (I q), (I (wI (x + d0.tmod (wI (e + (1 : Int)))))), (I (wI (y + d1.tmod (wI (e + (1 : Int)))))), (I (wI (z + d2.tmod (wI (e + (1 : Int)))))), (I (wI (vx + d3.tmod (wI (e + (1 : Int)))))), (I (wI (vy + d4.tmod (wI (e + (1 : Int)))))), (I (wI (vz + d5.tmod (wI (e + (1 : Int))))))]), M0)))))))) ((same ((bif wI (e + (1 : Int)) == (0 : Int) then none else (same ((bif wI (e + (1 : Int)) == (0 : Int) then none else some (.v (.agg #[(I p), (I q), (I (wI (x + d0.tmod (wI (e + (1 : Int)))))), (I (wI (y + d1.tmod (wI (e + (1 : Int)))))), (I (wI (z + d2.tmod (wI (e + (1 : Int)))))), (I (wI (vx + d3.tmod (wI (e + (1 : Int)))))), (I (wI (vy + d4.tmod (wI (e + (1 : Int)))))), (I (wI (vz + d5.tmod (wI (e + (1 : Int))))))]), M0))) ((bif wI (e + (1 : Int)) == (0 : Int) then none else some (.v (.agg #[(I p), (I q), (I (wI (x + d0.tmod (wI (e + (1 : Int)))))), (I (wI (y + d1.tmod (wI (e + (1 : Int)))))), (I (wI (z + d2.tmod (wI (e + (1 : Int)))))), (I (wI (vx + d3.tmod (wI (e + (1 : Int)))))), (I (wI (vy + d4.tmod (wI (e + (1 : Int)))))), (I (wI (vz + d5.tmod (wI (e + (1 : Int))))))]), M0)))))) ((bif wI (e + (1 : Int)) == (0 : Int) then none else (same ((bif wI (e + (1 : Int)) == (0 : Int) then none else some (.v (.agg #[(I p), (I q), (I (wI (x + d0.tmod (wI (e + (1 : Int)))))), (I (wI (y + d1.tmod (wI (e + (1 : Int)))))), (I (wI (z + d2.tmod (wI (e + (1 : Int)))))), (I (wI (vx + d3.tmod (wI (e + (1 : Int)))))), (I (wI (vy + d4.tmod (wI (e + (1 : Int)))))), (I (wI (vz + d5.tmod (wI (e + (1 : Int))))))]), M0))) ((bif wI (e + (1 : Int)) == (0 : Int) then none else some (.v (.agg #[(I p), (I q), (I (wI (x + d0.tmod (wI (e + (1 : Int)))))), (I (wI (y + d1.tmod (wI (e + (1 : Int)))))), (I (wI (z + d2.tmod (wI (e + (1 : Int)))))), (I (wI (vx + d3.tmod (wI (e + (1 : Int)))))), (I (wI (vy + d4.tmod (wI (e + (1 : Int)))))), (I (wI (vz + d5.tmod (wI (e + (1 : Int))))))]), M0))))))))))))))))) ((same ((bif wI (e + (1 : Int)) == (0 : Int) then none else (same ((bif wI (e + (1 : Int)) == (0 : Int) then none else (bif wI (e + (1 : Int)) == (0 : Int) then none else (same ((bif wI (e + (1 : Int)) == (0 : Int) then none else (same ((bif wI (e + (1 : Int)) == (0 : Int) then none else some (.v (.agg #[(I p), (I q), (I (wI (x + d0.tmod (wI (e + (1 : Int)))))), (I (wI (y + d1.tmod (wI (e + (1 : Int)))))), (I (wI (z + d2.tmod (wI (e + (1 : Int)))))), (I (wI (vx + d3.tmod (wI (e + (1 : Int)))))), (I (wI (vy + d4.tmod (wI (e + (1 : Int)))))), (I (wI (vz + d5.tmod (wI (e + (1 : Int))))))]), M0))) ((same ((bif wI (e + (1 : Int)) == (0 : Int) then none else some (.v (.agg #[(I p), (I q), (I (wI (x + d0.tmod (wI (e + (1 : Int)))))), (I (wI (y + d1.tmod (wI (e + (1 : Int)))))), (I (wI (z + d2.tmod (wI (e + (1 : Int)))))), (I (wI (vx + d3.tmod (wI (e + (1 : Int)))))), (I (wI (vy + d4.tmod (wI (e + (1 : Int)))))), (I (wI (vz + d5.tmod (wI (e + (1 : Int))))))]), M0))) ((bif wI (e + (1 : Int)) == (0 : Int) then none else some (.v (.agg #[(I p), (I q), (I (wI (x + d0.tmod (wI (e + (1 : Int)))))), (I (wI (y + d1.tmod (wI (e + (1 : Int)))))), (I (wI (z + d2.tmod (wI (e + (1 : Int)))))), (I (wI (vx + d3.tmod (wI (e + (1 : Int)))))), (I (wI (vy + d4.tmod (wI (e + (1 : Int)))))), (I (wI (vz + d5.tmod (wI (e + (1 : Int))))))]), M0)))))))) ((same ((bif wI (e + (1 : Int)) == (0 : Int) then none else (same ((bif wI (e + (1 : Int)) == (0 : Int) then none else some (.v (.agg #[(I p), (I q), (I (wI (x + d0.tmod (wI (e + (1 : Int)))))), (I (wI (y + d1.tmod (wI (e + (1 : Int)))))), (I (wI (z + d2.tmod (wI (e + (1 : Int)))))), (I (wI (vx + d3.tmod (wI (e + (1 : Int)))))), (I (wI (vy + d4.tmod (wI (e + (1 : Int)))))), (I (wI (vz + d5.tmod (wI (e + (1 : Int))))))]), M0))) ((bif wI (e + (1 : Int)) == (0 : Int) then none else some (.v (.agg #[(I p), (I q), (I (wI (x + d0.tmod (wI (e + (1 : Int)))))), (I (wI (y + d1.tmod (wI (e + (1 : Int)))))), (I (wI (z + d2.tmod (wI (e + (1 : Int)))))), (I (wI (vx + d3.tmod (wI (e + (1 : Int)))))), (I (wI (vy + d4.tmod (wI (e + (1 : Int)))))), (I (wI (vz + d5.tmod (wI (e + (1 : Int))))))]), M0)))))) ((bif wI (e + (1 : Int)) == (0 : Int) then none else (same ((bif wI (e + (1 : Int)) == (0 : Int) then none else some (.v (.agg #[(I p), (I q), (I (wI (x + d0.tmod (wI (e + (1 : Int)))))), (I (wI (y + d1.tmod (wI (e + (1 : Int)))))), (I (wI (z + d2.tmod (wI (e + (1 : Int)))))), (I (wI (vx + d3.tmod (wI (e + (1 : Int)))))), (I (wI (vy + d4.tmod (wI (e + (1 : Int)))))), (I (wI (vz + d5.tmod (wI (e + (1 : Int))))))]), M0))) ((bif wI (e + (1 : Int)) == (0 : Int) then none else some (.v (.agg #[(I p), (I q), (I (wI (x + d0.tmod (wI (e + (1 : Int)))))), (I (wI (y + d1.tmod (wI (e + (1 : Int)))))), (I (wI (z + d2.tmod (wI (e + (1 : Int)))))), (I (wI (vx + d3.tmod (wI (e + (1 : Int)))))), (I (wI (vy + d4.tmod (wI (e + (1 : Int)))))), (I (wI (vz + d5.tmod (wI (e + (1 : Int))))))]), M0)))))))))))) ((bif wI (e + (1 : Int)) == (0 : Int) then none else (bif wI (e + (1 : Int)) == (0 : Int) then none else (same ((bif wI (e + (1 : Int)) == (0 : Int) then none else (same ((bif wI (e + (1 : Int)) == (0 : Int) then none else some (.v (.agg #[(I p), (I q), (I (wI (x + d0.tmod (wI (e + (1 : Int)))))), (I (wI (y + d1.tmod (wI (e + (1 : Int)))))), (I (wI (z + d2.tmod (wI (e + (1 : Int)))))), (I (wI (vx + d3.tmod (wI (e + (1 : Int)))))), (I (wI (vy + d4.tmod (wI (e + (1 : Int)))))), (I (wI (vz + d5.tmod (wI (e + (1 : Int))))))]), M0))) ((same ((bif wI (e + (1 : Int)) == (0 : Int) then none else some (.v (.agg #[(I p), (I q), (I (wI (x + d0.tmod (wI (e + (1 : Int)))))), (I (wI (y + d1.tmod (wI (e + (1 : Int)))))), (I (wI (z + d2.tmod (wI (e + (1 : Int)))))), (I (wI (vx + d3.tmod (wI (e + (1 : Int)))))), (I (wI (vy + d4.tmod (wI (e + (1 : Int)))))), (I (wI (vz + d5.tmod (wI (e + (1 : Int))))))]), M0))) ((bif wI (e + (1 : Int)) == (0 : Int) then none else some (.v (.agg #[(I p), (I q), (I (wI (x + d0.tmod (wI (e + (1 : Int)))))), (I (wI (y + d1.tmod (wI (e + (1 : Int)))))), (I (wI (z + d2.tmod (wI (e + (1 : Int)))))), (I (wI (vx + d3.tmod (wI (e + (1 : Int)))))), (I (wI (vy + d4.tmod (wI (e + (1 : Int)))))), (I (wI (vz + d5.tmod (wI (e + (1 : Int))))))]), M0)))))))) ((same ((bif wI (e + (1 : Int)) == (0 : Int) then none else (same ((bif wI (e + (1 : Int)) == (0 : Int) then none else some (.v (.agg #[(I p), (I q), (I (wI (x + d0.tmod (wI (e + (1 : Int)))))), (I (wI (y + d1.tmod (wI (e + (1 : Int)))))), (I (wI (z + d2.tmod (wI (e + (1 : Int)))))), (I (wI (vx + d3.tmod (wI (e + (1 : Int)))))), (I (wI (vy + d4.tmod (wI (e + (1 : Int)))))), (I (wI (vz + d5.tmod (wI (e + (1 : Int))))))]), M0))) ((bif wI (e + (1 : Int)) == (0 : Int) then none else some (.v (.agg #[(I p), (I q), (I (wI (x + d0.tmod (wI (e + (1 : Int)))))), (I (wI (y + d1.tmod (wI (e + (1 : Int)))))), (I (wI (z + d2.tmod (wI (e + (1 : Int)))))), (I (wI (vx + d3.tmod (wI (e + (1 : Int)))))), (I (wI (vy + d4.tmod (wI (e + (1 : Int)))))), (I (wI (vz + d5.tmod (wI (e + (1 : Int))))))]), M0)))))) ((bif wI (e + (1 : Int)) == (0 : Int) then none else (same ((bif wI (e + (1 : Int)) == (0 : Int) then none else some (.v (.agg #[(I p), (I q), (I (wI (x + d0.tmod (wI (e + (1 : Int)))))), (I (wI (y + d1.tmod (wI (e + (1 : Int)))))), (I (wI (z + d2.tmod (wI (e + (1 : Int)))))), (I (wI (vx + d3.tmod (wI (e + (1 : Int)))))), (I (wI (vy + d4.tmod (wI (e + (1 : Int)))))), (I (wI (vz + d5.tmod (wI (e + (1 : Int))))))]), M0))) ((bif wI (e + (1 : Int)) == (0 : Int) then none else some (.v (.agg #[(I p), (I q), (I (wI (x + d0.tmod (wI (e + (1 : Int)))))), (I (wI (y + d1.tmod (wI (e + (1 : Int)))))), (I (wI (z + d2.tmod (wI (e + (1 : Int)))))), (I (wI (vx + d3.tmod (wI (e + (1 : Int)))))), (I (wI (vy + d4.tmod (wI (e + (1 : Int)))))), (I (wI (vz + d5.tmod (wI (e + (1 : Int))))))]), M0))))))))))))))) ((bif wI (e + (1 : Int)) == (0 : Int) then none else (same ((bif wI (e + (1 : Int)) == (0 : Int) then none else (bif wI (e + (1 : Int)) == (0 : Int) then none else (same ((bif wI (e + (1 : Int)) == (0 : Int) then none else (same ((bif wI (e + (1 : Int)) == (0 : Int) then none else some (.v (.agg #[(I p), (I q), (I (wI (x + d0.tmod (wI (e + (1 : Int)))))), (I (wI (y + d1.tmod (wI (e + (1 : Int)))))), (I (wI (z + d2.tmod (wI (e + (1 : Int)))))), (I (wI (vx + d3.tmod (wI (e + (1 : Int)))))), (I (wI (vy + d4.tmod (wI (e + (1 : Int)))))), (I (wI (vz + d5.tmod (wI (e + (1 : Int))))))]), M0))) ((same ((bif wI (e + (1 : Int)) == (0 : Int) then none else some (.v (.agg #[(I p), (I q), (I (wI (x + d0.tmod (wI (e + (1 : Int)))))), (I (wI (y + d1.tmod (wI (e + (1 : Int)))))), (I (wI (z + d2.tmod (wI (e + (1 : Int)))))), (I (wI (vx + d3.tmod (wI (e + (1 : Int)))))), (I (wI (vy + d4.tmod (wI (e + (1 : Int)))))), (I (wI (vz + d5.tmod (wI (e + (1 : Int))))))]), M0))) ((bif wI (e + (1 : Int)) == (0 : Int) then none else some (.v (.agg #[(I p), (I q), (I (wI (x + d0.tmod (wI (e + (1 : Int)))))), (I (wI (y + d1.tmod (wI (e + (1 : Int)))))), (I (wI (z + d2.tmod (wI (e + (1 : Int)))))), (I (wI (vx + d3.tmod (wI (e + (1 : Int)))))), (I (wI (vy + d4.tmod (wI (e + (1 : Int)))))), (I (wI (vz + d5.tmod (wI (e + (1 : Int))))))]), M0)))))))) ((same ((bif wI (e + (1 : Int)) == (0 : Int) then none else (same ((bif wI (e + (1 : Int)) == (0 : Int) then none else some (.v (.agg #[(I p), (I q), (I (wI (x + d0.tmod (wI (e + (1 : Int)))))), (I (wI (y + d1.tmod (wI (e + (1 : Int)))))), (I (wI (z + d2.tmod (wI (e + (1 : Int)))))), (I (wI (vx + d3.tmod (wI (e + (1 : Int)))))), (I (wI (vy + d4.tmod (wI (e + (1 : Int)))))), (I (wI (vz + d5.tmod (wI (e + (1 : Int))))))]), M0))) ((bif wI (e + (1 : Int)) == (0 : Int) then none else some (.v (.agg #[(I p), (I q), (I (wI (x + d0.tmod (wI (e + (1 : Int)))))), (I (wI (y + d1.tmod (wI (e + (1 : Int)))))), (I (wI (z + d2.tmod (wI (e + (1 : Int)))))), (I (wI (vx + d3.tmod (wI (e + (1 : Int)))))), (I (wI (vy + d4.tmod (wI (e + (1 : Int)))))), (I (wI (vz + d5.tmod (wI (e + (1 : Int))))))]), M0)))))) ((bif wI (e + (1 : Int)) == (0 : Int) then none else (same ((bif wI (e + (1 : Int)) == (0 : Int) then none else some (.v (.agg #[(I p), (I q), (I (wI (x + d0.tmod (wI (e + (1 : Int)))))), (I (wI (y + d1.tmod (wI (e + (1 : Int)))))), (I (wI (z + d2.tmod (wI (e + (1 : Int)))))), (I (wI (vx + d3.tmod (wI (e + (1 : Int)))))), (I (wI (vy + d4.tmod (wI (e + (1 : Int)))))), (I (wI (vz + d5.tmod (wI (e + (1 : Int))))))]), M0))) ((bif wI (e + (1 : Int)) == (0 : Int) then none else some (.v (.agg #[(I p), (I q), (I (wI (x + d0.tmod (wI (e + (1 : Int)))))), (I (wI (y + d1.tmod (wI (e + (1 : Int)))))), (I (wI (z + d2.tmod (wI (e + (1 : Int)))))), (I (wI (vx + d3.tmod (wI (e + (1 : Int)))))), (I (wI (vy + d4.tmod (wI (e + (1 : Int)))))), (I (wI (vz + d5.tmod (wI (e + (1 : Int))))))]), M0)))))))))))) ((bif wI (e + (1 : Int)) == (0 : Int) then none else (bif wI (e + (1 : Int)) == (0 : Int) then none else (same ((bif wI (e + (1 : Int)) == (0 : Int) then none else (same ((bif wI (e + (1 : Int)) == (0 : Int) then none else some (.v (.agg #[(I p), (I q), (I (wI (x + d0.tmod (wI (e + (1 : Int)))))), (I (wI (y + d1.tmod (wI (e + (1 : Int)))))), (I (wI (z + d2.tmod (wI (e + (1 : Int)))))), (I (wI (vx + d3.tmod (wI (e + (1 : Int)))))), (I (wI (vy + d4.tmod (wI (e + (1 : Int)))))), (I (wI (vz + d5.tmod (wI (e + (1 : Int))))))]), M0))) ((same ((bif wI (e + (1 : Int)) == (0 : Int) then none else some (.v (.agg #[(I p), (I q), (I (wI (x + d0.tmod (wI (e + (1 : Int)))))), (I (wI (y + d1.tmod (wI (e + (1 : Int)))))), (I (wI (z + d2.tmod (wI (e + (1 : Int)))))), (I (wI (vx + d3.tmod (wI (e + (1 : Int)))))), (I (wI (vy + d4.tmod (wI (e + (1 : Int)))))), (I (wI (vz + d5.tmod (wI (e + (1 : Int))))))]), M0))) ((bif wI (e + (1 : Int)) == (0 : Int) then none else some (.v (.agg #[(I p), (I q), (I (wI (x + d0.tmod (wI (e + (1 : Int)))))), (I (wI (y + d1.tmod (wI (e + (1 : Int)))))), (I (wI (z + d2.tmod (wI (e + (1 : Int)))))), (I (wI (vx + d3.tmod (wI (e + (1 : Int)))))), (I (wI (vy + d4.tmod (wI (e + (1 : Int)))))), (I (wI (vz + d5.tmod (wI (e + (1 : Int))))))]), M0)))))))) ((same ((bif wI (e + (1 : Int)) == (0 : Int) then none else (same ((bif wI (e + (1 : Int)) == (0 : Int) then none else some (.v (.agg #[(I p), (I q), (I (wI (x + d0.tmod (wI (e + (1 : Int)))))), (I (wI (y + d1.tmod (wI (e + (1 : Int)))))), (I (wI (z + d2.tmod (wI (e + (1 : Int)))))), (I (wI (vx + d3.tmod (wI (e + (1 : Int)))))), (I (wI (vy + d4.tmod (wI (e + (1 : Int)))))), (I (wI (vz + d5.tmod (wI (e + (1 : Int))))))]), M0))) ((bif wI (e + (1 : Int)) == (0 : Int) then none else some (.v (.agg #[(I p), (I q), (I (wI (x + d0.tmod (wI (e + (1 : Int)))))), (I (wI (y + d1.tmod (wI (e + (1 : Int)))))), (I (wI (z + d2.tmod (wI (e + (1 : Int)))))), (I (wI (vx + d3.tmod (wI (e + (1 : Int)))))), (I (wI (vy + d4.tmod (wI (e + (1 : Int)))))), (I (wI (vz + d5.tmod (wI (e + (1 : Int))))))]), M0)))))) ((bif wI (e + (1 : Int)) == (0 : Int) then none else (same ((bif wI (e + (1 : Int)) == (0 : Int) then none else some (.v (.agg #[(I p), (I q), (I (wI (x + d0.tmod (wI (e + (1 : Int)))))), (I (wI (y + d1.tmod (wI (e + (1 : Int)))))), (I (wI (z + d2.tmod (wI (e + (1 : Int)))))), (I (wI (vx + d3.tmod (wI (e + (1 : Int)))))), (I (wI (vy + d4.tmod (wI (e + (1 : Int)))))), (I (wI (vz + d5.tmod (wI (e + (1 : Int))))))]), M0))) ((bif wI (e + (1 : Int)) == (0 : Int) then none else some (.v (.agg #[(I p), (I q), (I (wI (x + d0.tmod (wI (e + (1 : Int)))))), (I (wI (y + d1.tmod (wI (e + (1 : Int)))))), (I (wI (z + d2.tmod (wI (e + (1 : Int)))))), (I (wI (vx + d3.tmod (wI (e + (1 : Int)))))), (I (wI (vy + d4.tmod (wI (e + (1 : Int)))))), (I (wI (vz + d5.tmod (wI (e + (1 : Int))))))]), M0))))))))))))))))))) := by kernel_rfl
def gLOff (vs : List Value) : Option (Bool × Value) :=
  match vs with
  | [.agg ⟨[.int .i64 p, .int .i64 q, .int .i64 x, .int .i64 y, .int .i64 z, .int .i64 vx, .int .i64 vy, .int .i64 vz]⟩, .agg ⟨[.int .i64 d0, .int .i64 d1, .int .i64 d2, .int .i64 d3, .int .i64 d4, .int .i64 d5]⟩, .int .i64 e] => some (decide (0 ≤ e ∧ e ≤ 4096), .agg #[I p, I q, I (oI x d0 e), I (oI y d1 e), I (oI z d2 e), I (oI vx d3 e), I (oI vy d4 e), I (oI vz d5 e)])
  | _ => none
theorem gLOff_ok : ∀ vs r, gLOff vs = some (true, r) → ∀ m, CallOk Try.prog 40 (vs.map .v) m (.v r) m := by
  intro vs r h
  unfold gLOff at h
  split at h
  · rename_i p q x y z vx vy vz d0 d1 d2 d3 d4 d5 e
    obtain ⟨h1, rfl⟩ := some_t h
    refine runV (vs := [.agg #[I p, I q, I x, I y, I z, I vx, I vy, I vz], .agg #[I d0, I d1, I d2, I d3, I d4, I d5], I e]) (Λ := L0) (m' := M0) OkO1 Try.func40 rfl (fun z _ _ => l0Ok' _ z) ?_
    exact (runLOff p q x y z vx vy vz d0 d1 d2 d3 d4 d5 e).trans (by
      have he : 0 ≤ e ∧ e ≤ 4096 := of_decide_eq_true h1
      rw [wI_id (n := e + 1) (by omega), beq_eq_false_iff_ne.2 (show e + 1 ≠ 0 by omega)]
      simp only [same_self, cond_false]
      rfl)
  · cases h
noncomputable def ΓO2 : Orc := addVal 40 gLOff ΓO1
theorem OkO2 : ΓO2.Ok Try.prog := addVal_ok OkO1 gLOff_ok
noncomputable def ΓOf : Orc := ΓO2
theorem OkOf : ΓOf.Ok Try.prog := OkO2
end Go.Proofs.Ytmhfidmcgkjhdaa

namespace Go.Proofs.Ytmhfidmcgkjhdaa
open Go Go.Proofs Go.Sx
set_option linter.unusedVariables false
/-! norm -/
/-! cast -/
def loT (z vz g e : Int) : Int := tmF (z - e) (vz - e) g
def hiT (z vz g e : Int) : Int := tmF (z + e) (vz + e) g + 2
def imR (x y z vx vy vz g e : Int) : Bool := (frR z vz g && decide (0 ≤ e ∧ e ≤ 2048)) && nvR x y vx vy
def boL (x v e a b : Int) : Int := x - e + mn4 v e a b
def boH (x v e a b : Int) : Int := x + e + mx4 v e a b
theorem imR_iff {x y z vx vy vz g e : Int} : imR x y z vx vy vz g e = true ↔ (frR z vz g = true ∧ 0 ≤ e ∧ e ≤ 2048) ∧ nvR x y vx vy = true := by
  unfold imR
  simp only [Bool.and_eq_true, decide_eq_true_eq]
theorem times {z vz g e : Int} (h : frR z vz g = true) (he : 0 ≤ e ∧ e ≤ 2048) : (0 ≤ loT z vz g e ∧ loT z vz g e ≤ 2097154) ∧ (0 ≤ hiT z vz g e ∧ hiT z vz g e ≤ 2097154) ∧ loT z vz g e + 2 ≤ hiT z vz g e := by
  have k1 : frX (z - e) (vz - e) g = true := by rw [Int.sub_eq_add_neg, Int.sub_eq_add_neg]; exact frX_e h (by omega) (by omega) (by omega) (by omega)
  have k2 : frX (z + e) (vz + e) g = true := frX_e h (by omega) (by omega) (by omega) (by omega)
  have a1 := tm_nonneg k1
  have a2 := tm_le k1
  have a3 := tm_nonneg k2
  have a4 := tm_le k2
  have a5 := tm_mono k1 k2 (by omega) (by omega)
  unfold loT hiT
  omega
theorem jj (x v : Int) {e a b : Int} (he : 0 ≤ e) (hab : a ≤ b) : jL (jL (x + (v + 0) * a - e) x v e a) x v e b = boL x v e a b ∧ jH (jH (x + (v + 0) * a + e) x v e a) x v e b = boH x v e a b := by
  have := jn_eq x v he hab
  unfold jL jH boL boH
  rw [Int.add_zero]
  exact this
theorem imR_0 {x y z vx vy vz g e : Int} (h : imR x y z vx vy vz g e = true) : imR x y z vx vy vz g 0 = true := by
  have := imR_iff.1 h
  exact imR_iff.2 ⟨⟨this.1.1, by omega⟩, this.2⟩
theorem boP {x v e a b : Int} (h1 : -2147483648 ≤ x ∧ x ≤ 2147483648) (h2 : -131072 ≤ v ∧ v ≤ 131072) (he : 0 ≤ e ∧ e ≤ 2048) (h3 : 0 ≤ a ∧ a ≤ 2097154) (h4 : 0 ≤ b ∧ b ≤ 2097154) : -320000000000 ≤ boL x v e a b ∧ boH x v e a b ≤ 320000000000 := by
  have p1 := inP h1 h2 (f := -e) (t := a) (by omega) h3
  have p2 := inP h1 h2 (f := -e) (t := b) (by omega) h4
  have p3 := inP h1 h2 (f := e) (t := a) (by omega) h3
  have p4 := inP h1 h2 (f := e) (t := b) (by omega) h4
  rw [show v + -e = v - e by omega] at p1 p2
  have m1 := mn4_is v e a b
  have m2 := mx4_is v e a b
  unfold boL boH
  omega
theorem boIn {x v e a b w t k : Int} (h1 : v - e ≤ w) (h2 : w ≤ v + e) (h3 : a ≤ t) (h4 : t ≤ b) (h5 : x - e ≤ k) (h6 : k ≤ x + e) : boL x v e a b ≤ k + w * t ∧ k + w * t ≤ boH x v e a b := by
  have := bil h1 h2 h3 h4
  unfold boL boH
  omega
def iLX (x y z vx vy vz g e : Int) : Int := bif imR x y z vx vy vz g e then boL x vx e (loT z vz g e) (hiT z vz g e) else 0
def iLY (x y z vx vy vz g e : Int) : Int := bif imR x y z vx vy vz g e then boL y vy e (loT z vz g e) (hiT z vz g e) else 0
def iHX (x y z vx vy vz g e : Int) : Int := bif imR x y z vx vy vz g e then boH x vx e (loT z vz g e) (hiT z vz g e) else 0
def iHY (x y z vx vy vz g e : Int) : Int := bif imR x y z vx vy vz g e then boH y vy e (loT z vz g e) (hiT z vz g e) else 0
def aX (x y z vx vy vz g : Int) : Int := bif imR x y z vx vy vz g 0 then x + vx * tmF z vz g else 0
def aY (x y z vx vy vz g : Int) : Int := bif imR x y z vx vy vz g 0 then y + vy * tmF z vz g else 0
def slk (lx hx px ly hy py : Int) : Int := mx (mx (mx (px - lx) (hx - px)) (py - ly)) (hy - py)
def sK (x y z vx vy vz g e : Int) : Int := bif imR x y z vx vy vz g e then slk (boL x vx e (loT z vz g e) (hiT z vz g e)) (boH x vx e (loT z vz g e) (hiT z vz g e)) (x + vx * tmF z vz g) (boL y vy e (loT z vz g e) (hiT z vz g e)) (boH y vy e (loT z vz g e) (hiT z vz g e)) (y + vy * tmF z vz g) else 0
def wyI (x vx t : Int) : Int := x + vx * t

set_option maxRecDepth 20000 in
def gIBox (vs : List Value) : Option (Bool × Value) :=
  match vs with
  | [.agg ⟨[.int .i64 p, .int .i64 q, .int .i64 x, .int .i64 y, .int .i64 z, .int .i64 vx, .int .i64 vy, .int .i64 vz]⟩, .int .i64 g, .int .i64 e] => some (true, .tuple #[.agg #[I (iLX x y z vx vy vz g e), I (iLY x y z vx vy vz g e), I (iHX x y z vx vy vz g e), I (iHY x y z vx vy vz g e)], Bo (imR x y z vx vy vz g e)])
  | _ => none
theorem gIBox_ok : ∀ vs r, gIBox vs = some (true, r) → ∀ m, CallOk Try.prog 38 (vs.map .v) m (.v r) m := by
  intro vs r h
  unfold gIBox at h
  split at h
  · rename_i p q x y z vx vy vz g e
    obtain ⟨_, rfl⟩ := some_t h
    refine runV (vs := [.agg #[I p, I q, I x, I y, I z, I vx, I vy, I vz], I g, I e]) (Λ := ΛIm) (m' := M0) OkBx Try.func38 rfl (fun z z1 z2 => oneLoop (c := Try.f38.body.getD .skip) loopsIm (loopOkIm z z1 z2)) ?_
    refine (runIBox p q x y z vx vy vz g e).trans ?_
    unfold iLX iLY iHX iHY imR
    cases h1 : frR z vz g && decide (0 ≤ e ∧ e ≤ 2048)
    · rfl
    · cases h2 : nvR x y vx vy
      · rfl
      · have h1' := h1
        simp only [Bool.and_eq_true, decide_eq_true_eq] at h1'
        obtain ⟨t1, t2, t3⟩ := times h1'.1 h1'.2
        have nn := nvR_iff.1 h2
        have q1 := inP nn.1 nn.2.2.1 (f := 0) (t := loT z vz g e) (by omega) t1
        have q2 := inP nn.2.1 nn.2.2.2 (f := 0) (t := loT z vz g e) (by omega) t1
        obtain ⟨j1, j2⟩ := jj x vx h1'.2.1 (a := loT z vz g e) (b := hiT z vz g e) (by omega)
        obtain ⟨j3, j4⟩ := jj y vy h1'.2.1 (a := loT z vz g e) (b := hiT z vz g e) (by omega)
        simp only [Bool.not_true, cond_true, cond_false, Bool.and_self]
        rw [show tmF (z - e) (vz - e) g = loT z vz g e from rfl, show tmF (z + e) (vz + e) g + 2 = hiT z vz g e from rfl, rcG_of h2 (by omega) t1, ofG_of h1'.2 q1 q2, bdB_iff.2 (Bd.of h1'.2 q1 q2), decide_eq_true h1'.2, decide_eq_true t1, decide_eq_true t2, j1, j2, j3, j4]
        rfl
  · cases h
noncomputable def ΓI0 : Orc := addVal 38 gIBox ΓOf
theorem OkI0 : ΓI0.Ok Try.prog := addVal_ok OkOf gIBox_ok
set_option maxRecDepth 20000 in
theorem runIAt (p : Int) (q : Int) (x : Int) (y : Int) (z : Int) (vx : Int) (vy : Int) (vz : Int) (g : Int) : runG ΓI0 L0 Try.prog Try.f45 [.v (.agg #[I p, I q, I x, I y, I z, I vx, I vy, I vz]), .v (I g)] M0 = 
    (bif !frR z vz g then some (.v (.tuple #[(.agg #[(I 0), (I 0)]), (Bo false)]), M0) else (bif !nvR x y vx vy then some (.v (.tuple #[(.agg #[(I 0), (I 0)]), (Bo false)]), M0) else (bif rcG x y vx vy (0 : Int) (bif frR z vz g then tmF z vz g else (0 : Int)) then some (.v (.tuple #[(.agg #[(I (x + (vx + (0 : Int)) * bif frR z vz g then tmF z vz g else (0 : Int))), (I (y + (vy + (0 : Int)) * bif frR z vz g then tmF z vz g else (0 : Int)))]), (Bo true)]), M0) else none))) := by kernel_rfl
def gIAt (vs : List Value) : Option (Bool × Value) :=
  match vs with
  | [.agg ⟨[.int .i64 p, .int .i64 q, .int .i64 x, .int .i64 y, .int .i64 z, .int .i64 vx, .int .i64 vy, .int .i64 vz]⟩, .int .i64 g] => some (true, .tuple #[.agg #[I (aX x y z vx vy vz g), I (aY x y z vx vy vz g)], Bo (imR x y z vx vy vz g 0)])
  | _ => none
theorem gIAt_ok : ∀ vs r, gIAt vs = some (true, r) → ∀ m, CallOk Try.prog 45 (vs.map .v) m (.v r) m := by
  intro vs r h
  unfold gIAt at h
  split at h
  · rename_i p q x y z vx vy vz g
    obtain ⟨h1, rfl⟩ := some_t h
    refine runV (vs := [.agg #[I p, I q, I x, I y, I z, I vx, I vy, I vz], I g]) (Λ := L0) (m' := M0) OkI0 Try.func45 rfl (fun z _ _ => l0Ok' _ z) ?_
    exact (runIAt p q x y z vx vy vz g).trans (by
      unfold aX aY imR
      rw [show decide ((0 : Int) ≤ 0 ∧ (0 : Int) ≤ 2048) = true from rfl]
      cases h2 : frR z vz g
      · rfl
      · cases h3 : nvR x y vx vy
        · rfl
        · have a1 := tm_nonneg (frR_X h2)
          have a2 := tm_le (frR_X h2)
          simp only [Bool.not_true, Bool.and_self, cond_true, cond_false, Int.add_zero]
          rw [rcG_of h3 (by omega) (by omega)]
          rfl)
  · cases h
noncomputable def ΓI1 : Orc := addVal 45 gIAt ΓI0
theorem OkI1 : ΓI1.Ok Try.prog := addVal_ok OkI0 gIAt_ok
set_option maxRecDepth 20000 in
theorem runIWay (p : Int) (q : Int) (x : Int) (y : Int) (z : Int) (vx : Int) (vy : Int) (vz : Int) (g : Int) (t : Int) : runG ΓI1 L0 Try.prog Try.f65 [.v (.agg #[I p, I q, I x, I y, I z, I vx, I vy, I vz]), .v (I g), .v (I t)] M0 = 
    (bif !(frR z vz g && decide ((0 : Int) ≤ t ∧ t ≤ (16777216 : Int))) then some (.v (.tuple #[(.agg #[(I 0), (I 0)]), (Bo false)]), M0) else (bif !nvR x y vx vy then some (.v (.tuple #[(.agg #[(I 0), (I 0)]), (Bo false)]), M0) else (bif rcG x y vx vy (0 : Int) t then some (.v (.tuple #[(.agg #[(I (x + (vx + (0 : Int)) * t)), (I (y + (vy + (0 : Int)) * t))]), (Bo true)]), M0) else none))) := by kernel_rfl
def gIWay (vs : List Value) : Option (Bool × Value) :=
  match vs with
  | [.agg ⟨[.int .i64 p, .int .i64 q, .int .i64 x, .int .i64 y, .int .i64 z, .int .i64 vx, .int .i64 vy, .int .i64 vz]⟩, .int .i64 g, .int .i64 t] => some (decide (t ≤ 4194304), .tuple #[.agg #[I (bif imR x y z vx vy vz g 0 && decide (0 ≤ t ∧ t ≤ 16777216) then wyI x vx t else 0), I (bif imR x y z vx vy vz g 0 && decide (0 ≤ t ∧ t ≤ 16777216) then wyI y vy t else 0)], Bo (imR x y z vx vy vz g 0 && decide (0 ≤ t ∧ t ≤ 16777216))])
  | _ => none
theorem gIWay_ok : ∀ vs r, gIWay vs = some (true, r) → ∀ m, CallOk Try.prog 65 (vs.map .v) m (.v r) m := by
  intro vs r h
  unfold gIWay at h
  split at h
  · rename_i p q x y z vx vy vz g t
    obtain ⟨h1, rfl⟩ := some_t h
    refine runV (vs := [.agg #[I p, I q, I x, I y, I z, I vx, I vy, I vz], I g, I t]) (Λ := L0) (m' := M0) OkI1 Try.func65 rfl (fun z _ _ => l0Ok' _ z) ?_
    exact (runIWay p q x y z vx vy vz g t).trans (by
      unfold imR wyI
      rw [show decide ((0 : Int) ≤ 0 ∧ (0 : Int) ≤ 2048) = true from rfl]
      cases h2 : frR z vz g
      · rfl
      · cases h3 : decide (0 ≤ t ∧ t ≤ 16777216)
        · cases nvR x y vx vy <;> rfl
        · cases h4 : nvR x y vx vy
          · rfl
          · have ht : 0 ≤ t ∧ t ≤ 16777216 := of_decide_eq_true h3
            have h5 : t ≤ 4194304 := of_decide_eq_true h1
            have n := nvR_iff.1 h4
            rw [rcG_iff.2 (show _ by omega), Int.add_zero, Int.add_zero]
            rfl)
  · cases h
noncomputable def ΓI2 : Orc := addVal 65 gIWay ΓI1
theorem OkI2 : ΓI2.Ok Try.prog := addVal_ok OkI1 gIWay_ok
set_option maxRecDepth 20000 in
theorem runISl (p : Int) (q : Int) (x : Int) (y : Int) (z : Int) (vx : Int) (vy : Int) (vz : Int) (g : Int) (e : Int) : runG ΓI2 L0 Try.prog Try.f44 [.v (.agg #[I p, I q, I x, I y, I z, I vx, I vy, I vz]), .v (I g), .v (I e)] M0 = 
    (bif !imR x y z vx vy vz g e then some (.v (.tuple #[(I 0), (Bo false)]), M0) else some (.v (.tuple #[(I (if wI (iHY x y z vx vy vz g e - aY x y z vx vy vz g) > if wI (aY x y z vx vy vz g - iLY x y z vx vy vz g e) > if wI (iHX x y z vx vy vz g e - aX x y z vx vy vz g) > wI (aX x y z vx vy vz g - iLX x y z vx vy vz g e) then wI (iHX x y z vx vy vz g e - aX x y z vx vy vz g) else wI (aX x y z vx vy vz g - iLX x y z vx vy vz g e) then wI (aY x y z vx vy vz g - iLY x y z vx vy vz g e) else if wI (iHX x y z vx vy vz g e - aX x y z vx vy vz g) > wI (aX x y z vx vy vz g - iLX x y z vx vy vz g e) then wI (iHX x y z vx vy vz g e - aX x y z vx vy vz g) else wI (aX x y z vx vy vz g - iLX x y z vx vy vz g e) then wI (iHY x y z vx vy vz g e - aY x y z vx vy vz g) else if wI (aY x y z vx vy vz g - iLY x y z vx vy vz g e) > if wI (iHX x y z vx vy vz g e - aX x y z vx vy vz g) > wI (aX x y z vx vy vz g - iLX x y z vx vy vz g e) then wI (iHX x y z vx vy vz g e - aX x y z vx vy vz g) else wI (aX x y z vx vy vz g - iLX x y z vx vy vz g e) then wI (aY x y z vx vy vz g - iLY x y z vx vy vz g e) else if wI (iHX x y z vx vy vz g e - aX x y z vx vy vz g) > wI (aX x y z vx vy vz g - iLX x y z vx vy vz g e) then wI (iHX x y z vx vy vz g e - aX x y z vx vy vz g) else wI (aX x y z vx vy vz g - iLX x y z vx vy vz g e))), (Bo true)]), M0)) := by kernel_rfl
def gISl (vs : List Value) : Option (Bool × Value) :=
  match vs with
  | [.agg ⟨[.int .i64 p, .int .i64 q, .int .i64 x, .int .i64 y, .int .i64 z, .int .i64 vx, .int .i64 vy, .int .i64 vz]⟩, .int .i64 g, .int .i64 e] => some (true, .tuple #[I (sK x y z vx vy vz g e), Bo (imR x y z vx vy vz g e)])
  | _ => none
theorem gISl_ok : ∀ vs r, gISl vs = some (true, r) → ∀ m, CallOk Try.prog 44 (vs.map .v) m (.v r) m := by
  intro vs r h
  unfold gISl at h
  split at h
  · rename_i p q x y z vx vy vz g e
    obtain ⟨h1, rfl⟩ := some_t h
    refine runV (vs := [.agg #[I p, I q, I x, I y, I z, I vx, I vy, I vz], I g, I e]) (Λ := L0) (m' := M0) OkI2 Try.func44 rfl (fun z _ _ => l0Ok' _ z) ?_
    exact (runISl p q x y z vx vy vz g e).trans (by
      unfold sK iLX iLY iHX iHY aX aY
      cases h2 : imR x y z vx vy vz g e
      · rfl
      · have h3 := imR_0 h2
        obtain ⟨⟨k1, k2⟩, k3⟩ := imR_iff.1 h2
        have n := nvR_iff.1 k3
        obtain ⟨t1, t2, t3⟩ := times k1 k2
        have b1 := boP n.1 n.2.2.1 k2 t1 t2
        have b2 := boP n.2.1 n.2.2.2 k2 t1 t2
        have a1 := tm_nonneg (frR_X k1)
        have a2 := tm_le (frR_X k1)
        have q1 := inP n.1 n.2.2.1 (f := 0) (t := tmF z vz g) (by omega) (by omega)
        have q2 := inP n.2.1 n.2.2.2 (f := 0) (t := tmF z vz g) (by omega) (by omega)
        have c1 : boL x vx e (loT z vz g e) (hiT z vz g e) ≤ boH x vx e (loT z vz g e) (hiT z vz g e) := by
          have := boIn (x := x) (v := vx) (e := e) (a := loT z vz g e) (b := hiT z vz g e) (w := vx) (t := loT z vz g e) (k := x) (by omega) (by omega) (by omega) (by omega) (by omega) (by omega)
          omega
        have c2 : boL y vy e (loT z vz g e) (hiT z vz g e) ≤ boH y vy e (loT z vz g e) (hiT z vz g e) := by
          have := boIn (x := y) (v := vy) (e := e) (a := loT z vz g e) (b := hiT z vz g e) (w := vy) (t := loT z vz g e) (k := y) (by omega) (by omega) (by omega) (by omega) (by omega) (by omega)
          omega
        rw [Int.add_zero] at q1 q2
        rw [h3]
        simp only [Bool.not_true, cond_true, cond_false]
        generalize boL x vx e (loT z vz g e) (hiT z vz g e) = A at *
        generalize boH x vx e (loT z vz g e) (hiT z vz g e) = B at *
        generalize boL y vy e (loT z vz g e) (hiT z vz g e) = C at *
        generalize boH y vy e (loT z vz g e) (hiT z vz g e) = D at *
        generalize x + vx * tmF z vz g = P at *
        generalize y + vy * tmF z vz g = Q at *
        rw [wI_id (n := P - A) (by omega), wI_id (n := B - P) (by omega), wI_id (n := Q - C) (by omega), wI_id (n := D - Q) (by omega)]
        rfl)
  · cases h
noncomputable def ΓI3 : Orc := addVal 44 gISl ΓI2
theorem OkI3 : ΓI3.Ok Try.prog := addVal_ok OkI2 gISl_ok
noncomputable def ΓIm : Orc := ΓI3
theorem OkIm : ΓIm.Ok Try.prog := OkI3
end Go.Proofs.Ytmhfidmcgkjhdaa

namespace Go.Proofs.Ytmhfidmcgkjhdaa
open Go Go.Proofs Go.Sx
noncomputable def Γx18 : Orc := exec Try.prog ΓIm.call ΓIm.rd ΓIm.eqv (fun _ => false) 30 3
theorem Okx18 : Γx18.Ok Try.prog := exec_ok mixed names (ext := ΓIm.call) (rd := ΓIm.rd) (eqv := ΓIm.eqv) ⟨OkIm.call, OkIm.rd, OkIm.eqv⟩ 30 3
set_option maxRecDepth 100000 in
theorem runAwake18 : runG Γx18 (loopX Γx18 Try.prog 30 2) Try.prog Try.f39 [] M0 = some (.v (Bo true), M0) := by kernel_rfl
def gAwake18 (vs : List Value) : Option (Bool × Value) :=
  match vs with
  | [] => some (true, Bo true)
  | _ => none
theorem gAwake18_ok : ∀ vs r, gAwake18 vs = some (true, r) → ∀ m, CallOk Try.prog 39 (vs.map .v) m (.v r) m := by
  intro vs r h
  unfold gAwake18 at h
  split at h
  · obtain ⟨_, rfl⟩ := some_t h
    exact runV (vs := []) Okx18 Try.func39 rfl (fun z _ _ b hb => loopX_ok Okx18 mixed 30 2 b) runAwake18
  · cases h
noncomputable def ΓIx : Orc := addVal 39 gAwake18 ΓIm
theorem OkIx : ΓIx.Ok Try.prog := addVal_ok OkIm gAwake18_ok
end Go.Proofs.Ytmhfidmcgkjhdaa

namespace Go.Proofs.Ytmhfidmcgkjhdaa
open Go Go.Proofs Go.Sx
abbrev gI (g k : Int) : Int := wI (1 + wI ((IntKind.u64.wrap g).tmod k))
abbrev eI (e : Int) : Int := wI ((BitVec.ofInt 64 e &&& BitVec.ofInt 64 1023).toNat : Int)
end Go.Proofs.Ytmhfidmcgkjhdaa

namespace Go.Proofs.Ytmhfidmcgkjhdaa
open Go Go.Proofs Go.Sx
set_option linter.unusedVariables false
/-! norm -/
/-! cast -/
/-! rep (wI ((1 : Int) + wI ((IntKind.u64.wrap g).tmod (100 : Int)))) => (gI g 100) -/
/-! rep wI ((1 : Int) + wI ((IntKind.u64.wrap g).tmod (100 : Int))) => gI g 100 -/
/-! rep wI ((1 : Int) + wI ((IntKind.u64.wrap g).tmod (50 : Int))) => gI g 50 -/
/-! rep wI ((BitVec.ofInt (64 : Nat) e &&& BitVec.ofInt (64 : Nat) (1023 : Int)).toNat : Int) => eI e -/
/-! rep wI ((BitVec.ofInt (64 : Nat) k &&& BitVec.ofInt (64 : Nat) (1023 : Int)).toNat : Int) => eI k -/
set_option maxRecDepth 40000 in
theorem treeImpactSure (p q x y z vx vy vz g e d0 d1 d2 d3 d4 d5 : Int) : runG ΓIx L0 Try.prog Try.f9 [.v (.agg #[I p, I q, I x, I y, I z, I vx, I vy, I vz]), .v (I g), .v (I e), .v (.agg #[I d0, I d1, I d2, I d3, I d4, I d5])] M0 = 
    (bif !imR (hX x) (hX y) (hZ z) (hV vx) (hV vy) (hV vz) (gI g 100) (eI e) then some (.v (Bo false), M0) else (bif decide ((0 : Int) ≤ eI e ∧ eI e ≤ (4096 : Int)) then (bif decide (oI (hZ z) d2 (eI e) < (0 : Int)) then some (.v (Bo true), M0) else (bif frX (oI (hZ z) d2 (eI e)) (oI (hV vz) d5 (eI e)) (gI g 100) then (bif twG (oI (hZ z) d2 (eI e)) (oI (hV vz) d5 (eI e)) (gI g 100) (tmF (oI (hZ z) d2 (eI e)) (oI (hV vz) d5 (eI e)) (gI g 100)) then (bif decide (Ab (oI (hZ z) d2 (eI e)) (oI (hV vz) d5 (eI e)) (gI g 100) (tmF (oI (hZ z) d2 (eI e)) (oI (hV vz) d5 (eI e)) (gI g 100)) < (0 : Int)) then some (.v (Bo false), M0) else (bif twG (oI (hZ z) d2 (eI e)) (oI (hV vz) d5 (eI e)) (gI g 100) (wI (tmF (oI (hZ z) d2 (eI e)) (oI (hV vz) d5 (eI e)) (gI g 100) + (2 : Int))) then (bif decide (Ab (oI (hZ z) d2 (eI e)) (oI (hV vz) d5 (eI e)) (gI g 100) (wI (tmF (oI (hZ z) d2 (eI e)) (oI (hV vz) d5 (eI e)) (gI g 100) + (2 : Int))) ≥ (0 : Int)) then some (.v (Bo false), M0) else (bif rcG (oI (hX x) d0 (eI e)) (oI (hX y) d1 (eI e)) (oI (hV vx) d3 (eI e)) (oI (hV vy) d4 (eI e)) (0 : Int) (tmF (oI (hZ z) d2 (eI e)) (oI (hV vz) d5 (eI e)) (gI g 100)) then (bif hasB (iLX (hX x) (hX y) (hZ z) (hV vx) (hV vy) (hV vz) (gI g 100) (eI e)) (iLY (hX x) (hX y) (hZ z) (hV vx) (hV vy) (hV vz) (gI g 100) (eI e)) (iHX (hX x) (hX y) (hZ z) (hV vx) (hV vy) (hV vz) (gI g 100) (eI e)) (iHY (hX x) (hX y) (hZ z) (hV vx) (hV vy) (hV vz) (gI g 100) (eI e)) (oI (hX x) d0 (eI e) + oI (hV vx) d3 (eI e) * tmF (oI (hZ z) d2 (eI e)) (oI (hV vz) d5 (eI e)) (gI g 100)) (oI (hX y) d1 (eI e) + oI (hV vy) d4 (eI e) * tmF (oI (hZ z) d2 (eI e)) (oI (hV vz) d5 (eI e)) (gI g 100)) then (bif rcG (oI (hX x) d0 (eI e)) (oI (hX y) d1 (eI e)) (oI (hV vx) d3 (eI e)) (oI (hV vy) d4 (eI e)) (0 : Int) (wI (tmF (oI (hZ z) d2 (eI e)) (oI (hV vz) d5 (eI e)) (gI g 100) + (1 : Int))) then (bif hasB (iLX (hX x) (hX y) (hZ z) (hV vx) (hV vy) (hV vz) (gI g 100) (eI e)) (iLY (hX x) (hX y) (hZ z) (hV vx) (hV vy) (hV vz) (gI g 100) (eI e)) (iHX (hX x) (hX y) (hZ z) (hV vx) (hV vy) (hV vz) (gI g 100) (eI e)) (iHY (hX x) (hX y) (hZ z) (hV vx) (hV vy) (hV vz) (gI g 100) (eI e)) (oI (hX x) d0 (eI e) + oI (hV vx) d3 (eI e) * wI (tmF (oI (hZ z) d2 (eI e)) (oI (hV vz) d5 (eI e)) (gI g 100) + (1 : Int))) (oI (hX y) d1 (eI e) + oI (hV vy) d4 (eI e) * wI (tmF (oI (hZ z) d2 (eI e)) (oI (hV vz) d5 (eI e)) (gI g 100) + (1 : Int))) then (bif rcG (oI (hX x) d0 (eI e)) (oI (hX y) d1 (eI e)) (oI (hV vx) d3 (eI e)) (oI (hV vy) d4 (eI e)) (0 : Int) (wI (tmF (oI (hZ z) d2 (eI e)) (oI (hV vz) d5 (eI e)) (gI g 100) + (2 : Int))) then some (.v (Bo (hasB (iLX (hX x) (hX y) (hZ z) (hV vx) (hV vy) (hV vz) (gI g 100) (eI e)) (iLY (hX x) (hX y) (hZ z) (hV vx) (hV vy) (hV vz) (gI g 100) (eI e)) (iHX (hX x) (hX y) (hZ z) (hV vx) (hV vy) (hV vz) (gI g 100) (eI e)) (iHY (hX x) (hX y) (hZ z) (hV vx) (hV vy) (hV vz) (gI g 100) (eI e)) (oI (hX x) d0 (eI e) + oI (hV vx) d3 (eI e) * wI (tmF (oI (hZ z) d2 (eI e)) (oI (hV vz) d5 (eI e)) (gI g 100) + (2 : Int))) (oI (hX y) d1 (eI e) + oI (hV vy) d4 (eI e) * wI (tmF (oI (hZ z) d2 (eI e)) (oI (hV vz) d5 (eI e)) (gI g 100) + (2 : Int))))), M0) else none) else some (.v (Bo false), M0)) else none) else some (.v (Bo false), M0)) else none)) else none)) else none) else none)) else none)) := by kernel_rfl
end Go.Proofs.Ytmhfidmcgkjhdaa

namespace Go.Proofs.Ytmhfidmcgkjhdaa
open Go Go.Proofs Go.Sx
set_option linter.unusedVariables false
/-! norm -/
/-! cast -/
/-! rep (wI ((1 : Int) + wI ((IntKind.u64.wrap g).tmod (100 : Int)))) => (gI g 100) -/
/-! rep wI ((1 : Int) + wI ((IntKind.u64.wrap g).tmod (100 : Int))) => gI g 100 -/
/-! rep wI ((1 : Int) + wI ((IntKind.u64.wrap g).tmod (50 : Int))) => gI g 50 -/
/-! rep wI ((BitVec.ofInt (64 : Nat) e &&& BitVec.ofInt (64 : Nat) (1023 : Int)).toNat : Int) => eI e -/
/-! rep wI ((BitVec.ofInt (64 : Nat) k &&& BitVec.ofInt (64 : Nat) (1023 : Int)).toNat : Int) => eI k -/
set_option maxRecDepth 40000 in
theorem treeImpactIn (p q x y z vx vy vz g e k d0 d1 d2 d3 d4 d5 : Int) : runG ΓIx L0 Try.prog Try.f10 [.v (.agg #[I p, I q, I x, I y, I z, I vx, I vy, I vz]), .v (I g), .v (I e), .v (I k), .v (.agg #[I d0, I d1, I d2, I d3, I d4, I d5])] M0 = 
    (bif decide ((0 : Int) ≤ eI k ∧ eI k ≤ (4096 : Int)) then (bif imR (oI (hX x) d0 (eI k)) (oI (hX y) d1 (eI k)) (oI (hZ z) d2 (eI k)) (oI (hV vx) d3 (eI k)) (oI (hV vy) d4 (eI k)) (oI (hV vz) d5 (eI k)) (gI g 100) (eI e) then (bif imR (hX x) (hX y) (hZ z) (hV vx) (hV vy) (hV vz) (gI g 100) (wI (eI e + eI k)) then some (.v (Bo (inBx (iLX (oI (hX x) d0 (eI k)) (oI (hX y) d1 (eI k)) (oI (hZ z) d2 (eI k)) (oI (hV vx) d3 (eI k)) (oI (hV vy) d4 (eI k)) (oI (hV vz) d5 (eI k)) (gI g 100) (eI e)) (iLY (oI (hX x) d0 (eI k)) (oI (hX y) d1 (eI k)) (oI (hZ z) d2 (eI k)) (oI (hV vx) d3 (eI k)) (oI (hV vy) d4 (eI k)) (oI (hV vz) d5 (eI k)) (gI g 100) (eI e)) (iHX (oI (hX x) d0 (eI k)) (oI (hX y) d1 (eI k)) (oI (hZ z) d2 (eI k)) (oI (hV vx) d3 (eI k)) (oI (hV vy) d4 (eI k)) (oI (hV vz) d5 (eI k)) (gI g 100) (eI e)) (iHY (oI (hX x) d0 (eI k)) (oI (hX y) d1 (eI k)) (oI (hZ z) d2 (eI k)) (oI (hV vx) d3 (eI k)) (oI (hV vy) d4 (eI k)) (oI (hV vz) d5 (eI k)) (gI g 100) (eI e)) (iLX (hX x) (hX y) (hZ z) (hV vx) (hV vy) (hV vz) (gI g 100) (wI (eI e + eI k))) (iLY (hX x) (hX y) (hZ z) (hV vx) (hV vy) (hV vz) (gI g 100) (wI (eI e + eI k))) (iHX (hX x) (hX y) (hZ z) (hV vx) (hV vy) (hV vz) (gI g 100) (wI (eI e + eI k))) (iHY (hX x) (hX y) (hZ z) (hV vx) (hV vy) (hV vz) (gI g 100) (wI (eI e + eI k))))), M0) else some (.v (Bo false), M0)) else some (.v (Bo false), M0)) else none) := by kernel_rfl
end Go.Proofs.Ytmhfidmcgkjhdaa

namespace Go.Proofs.Ytmhfidmcgkjhdaa
open Go Go.Proofs Go.Sx
set_option linter.unusedVariables false
/-! norm -/
/-! cast -/
/-! rep (wI ((1 : Int) + wI ((IntKind.u64.wrap g).tmod (100 : Int)))) => (gI g 100) -/
/-! rep wI ((1 : Int) + wI ((IntKind.u64.wrap g).tmod (100 : Int))) => gI g 100 -/
/-! rep wI ((1 : Int) + wI ((IntKind.u64.wrap g).tmod (50 : Int))) => gI g 50 -/
/-! rep wI ((BitVec.ofInt (64 : Nat) e &&& BitVec.ofInt (64 : Nat) (1023 : Int)).toNat : Int) => eI e -/
/-! rep wI ((BitVec.ofInt (64 : Nat) k &&& BitVec.ofInt (64 : Nat) (1023 : Int)).toNat : Int) => eI k -/
set_option maxRecDepth 40000 in
theorem treeImpactShift (p q x y z vx vy vz g e a b : Int) : runG ΓIx L0 Try.prog Try.f11 [.v (.agg #[I p, I q, I x, I y, I z, I vx, I vy, I vz]), .v (I g), .v (I e), .v (I a), .v (I b)] M0 = 
    (bif imR (hX x) (hX y) (hZ z) (hV vx) (hV vy) (hV vz) (gI g 100) (eI e) then (bif imR (wI (hX x + a.tmod (1073741824 : Int))) (wI (hX y + b.tmod (1073741824 : Int))) (hZ z) (hV vx) (hV vy) (hV vz) (gI g 100) (eI e) then (bif imR (wI ((0 : Int) - hX x)) (hX y) (hZ z) (wI ((0 : Int) - hV vx)) (hV vy) (hV vz) (gI g 100) (eI e) then (bif iLX (wI (hX x + a.tmod (1073741824 : Int))) (wI (hX y + b.tmod (1073741824 : Int))) (hZ z) (hV vx) (hV vy) (hV vz) (gI g 100) (eI e) == wI (iLX (hX x) (hX y) (hZ z) (hV vx) (hV vy) (hV vz) (gI g 100) (eI e) + a.tmod (1073741824 : Int)) && (iLY (wI (hX x + a.tmod (1073741824 : Int))) (wI (hX y + b.tmod (1073741824 : Int))) (hZ z) (hV vx) (hV vy) (hV vz) (gI g 100) (eI e) == wI (iLY (hX x) (hX y) (hZ z) (hV vx) (hV vy) (hV vz) (gI g 100) (eI e) + b.tmod (1073741824 : Int)) && true) && (iHX (wI (hX x + a.tmod (1073741824 : Int))) (wI (hX y + b.tmod (1073741824 : Int))) (hZ z) (hV vx) (hV vy) (hV vz) (gI g 100) (eI e) == wI (iHX (hX x) (hX y) (hZ z) (hV vx) (hV vy) (hV vz) (gI g 100) (eI e) + a.tmod (1073741824 : Int)) && (iHY (wI (hX x + a.tmod (1073741824 : Int))) (wI (hX y + b.tmod (1073741824 : Int))) (hZ z) (hV vx) (hV vy) (hV vz) (gI g 100) (eI e) == wI (iHY (hX x) (hX y) (hZ z) (hV vx) (hV vy) (hV vz) (gI g 100) (eI e) + b.tmod (1073741824 : Int)) && true) && true) then some (.v (Bo (iLX (wI ((0 : Int) - hX x)) (hX y) (hZ z) (wI ((0 : Int) - hV vx)) (hV vy) (hV vz) (gI g 100) (eI e) == wI ((0 : Int) - iHX (hX x) (hX y) (hZ z) (hV vx) (hV vy) (hV vz) (gI g 100) (eI e)) && (iLY (wI ((0 : Int) - hX x)) (hX y) (hZ z) (wI ((0 : Int) - hV vx)) (hV vy) (hV vz) (gI g 100) (eI e) == iLY (hX x) (hX y) (hZ z) (hV vx) (hV vy) (hV vz) (gI g 100) (eI e) && true) && (iHX (wI ((0 : Int) - hX x)) (hX y) (hZ z) (wI ((0 : Int) - hV vx)) (hV vy) (hV vz) (gI g 100) (eI e) == wI ((0 : Int) - iLX (hX x) (hX y) (hZ z) (hV vx) (hV vy) (hV vz) (gI g 100) (eI e)) && (iHY (wI ((0 : Int) - hX x)) (hX y) (hZ z) (wI ((0 : Int) - hV vx)) (hV vy) (hV vz) (gI g 100) (eI e) == iHY (hX x) (hX y) (hZ z) (hV vx) (hV vy) (hV vz) (gI g 100) (eI e) && true) && true))), M0) else some (.v (Bo false), M0)) else some (.v (Bo false), M0)) else some (.v (Bo false), M0)) else some (.v (Bo false), M0)) := by kernel_rfl
end Go.Proofs.Ytmhfidmcgkjhdaa

namespace Go.Proofs.Ytmhfidmcgkjhdaa
open Go Go.Proofs Go.Sx
set_option linter.unusedVariables false
/-! norm -/
/-! cast -/
/-! rep (wI ((1 : Int) + wI ((IntKind.u64.wrap g).tmod (100 : Int)))) => (gI g 100) -/
/-! rep wI ((1 : Int) + wI ((IntKind.u64.wrap g).tmod (100 : Int))) => gI g 100 -/
/-! rep wI ((1 : Int) + wI ((IntKind.u64.wrap g).tmod (50 : Int))) => gI g 50 -/
/-! rep wI ((BitVec.ofInt (64 : Nat) e &&& BitVec.ofInt (64 : Nat) (1023 : Int)).toNat : Int) => eI e -/
/-! rep wI ((BitVec.ofInt (64 : Nat) k &&& BitVec.ofInt (64 : Nat) (1023 : Int)).toNat : Int) => eI k -/
set_option maxRecDepth 40000 in
theorem treeImpactSlack (p q x y z vx vy vz g e k : Int) : runG ΓIx L0 Try.prog Try.f13 [.v (.agg #[I p, I q, I x, I y, I z, I vx, I vy, I vz]), .v (I g), .v (I e), .v (I k)] M0 = 
    (bif imR (hX x) (hX y) (hZ z) (hV vx) (hV vy) (hV vz) (gI g 100) (eI e) then (bif imR (hX x) (hX y) (hZ z) (hV vx) (hV vy) (hV vz) (gI g 100) (wI (eI e + eI k)) then (bif imR (hX x) (hX y) (hZ z) (hV vx) (hV vy) (hV vz) (gI g 100) (0 : Int) then (bif imR (hX x) (hX y) (hZ z) (hV vx) (hV vy) (hV vz) (gI g 100) (eI e) then (bif decide (sK (hX x) (hX y) (hZ z) (hV vx) (hV vy) (hV vz) (gI g 100) (eI e) ≥ (0 : Int)) then (bif decide (sK (hX x) (hX y) (hZ z) (hV vx) (hV vy) (hV vz) (gI g 100) (wI (eI e + eI k)) ≥ sK (hX x) (hX y) (hZ z) (hV vx) (hV vy) (hV vz) (gI g 100) (eI e)) then some (.v (Bo (hasB (iLX (hX x) (hX y) (hZ z) (hV vx) (hV vy) (hV vz) (gI g 100) (eI e)) (iLY (hX x) (hX y) (hZ z) (hV vx) (hV vy) (hV vz) (gI g 100) (eI e)) (iHX (hX x) (hX y) (hZ z) (hV vx) (hV vy) (hV vz) (gI g 100) (eI e)) (iHY (hX x) (hX y) (hZ z) (hV vx) (hV vy) (hV vz) (gI g 100) (eI e)) (aX (hX x) (hX y) (hZ z) (hV vx) (hV vy) (hV vz) (gI g 100)) (aY (hX x) (hX y) (hZ z) (hV vx) (hV vy) (hV vz) (gI g 100)))), M0) else some (.v (Bo false), M0)) else some (.v (Bo false), M0)) else some (.v (Bo false), M0)) else some (.v (Bo false), M0)) else some (.v (Bo false), M0)) else some (.v (Bo false), M0)) := by kernel_rfl
end Go.Proofs.Ytmhfidmcgkjhdaa

namespace Go.Proofs.Ytmhfidmcgkjhdaa
open Go Go.Proofs Go.Sx
set_option linter.unusedVariables false
theorem hX_in (x : Int) : -1073741824 < hX x ∧ hX x < 1073741824 := tmB x 1073741824 (by decide)
theorem hZ_in (z : Int) : 0 ≤ hZ z ∧ hZ z ≤ 1073741823 := andB z 1073741823 (by decide) (by decide)
theorem hV_in (v : Int) : -65536 < hV v ∧ hV v < 65536 := tmB v 65536 (by decide)
theorem gI_in (g : Int) : 1 ≤ gI g 100 ∧ gI g 100 ≤ 100 := gB g 100 (by decide) (by decide)
theorem eI_in (e : Int) : 0 ≤ eI e ∧ eI e ≤ 1023 := andB e 1023 (by decide) (by decide)
theorem oI_in {x d e : Int} (hx : -2147483648 ≤ x ∧ x ≤ 2147483648) (he : 0 ≤ e ∧ e ≤ 4096) : x - e ≤ oI x d e ∧ oI x d e ≤ x + e := by
  have := tmB d (e + 1) (by omega)
  unfold oI
  rw [wI_id (by omega)]
  omega
theorem box_ok {X Y VX VY E lo hi : Int} (hn : nvR X Y VX VY = true) (he : 0 ≤ E ∧ E ≤ 2048) (h3 : 0 ≤ lo ∧ lo ≤ 2097154) (h4 : 0 ≤ hi ∧ hi ≤ 2097154) (hl : lo ≤ hi) :
    boR (boL X VX E lo hi) (boL Y VY E lo hi) (boH X VX E lo hi) (boH Y VY E lo hi) = true := by
  have n := nvR_iff.1 hn
  have b1 := boP n.1 n.2.2.1 he h3 h4
  have b2 := boP n.2.1 n.2.2.2 he h3 h4
  have c1 := boIn (x := X) (v := VX) (e := E) (a := lo) (b := hi) (w := VX) (t := lo) (k := X) (by omega) (by omega) (by omega) (by omega) (by omega) (by omega)
  have c2 := boIn (x := Y) (v := VY) (e := E) (a := lo) (b := hi) (w := VY) (t := lo) (k := Y) (by omega) (by omega) (by omega) (by omega) (by omega) (by omega)
  exact boR_iff.2 ⟨plR_iff.2 (by omega), plR_iff.2 (by omega), by omega, by omega⟩
theorem has_of {X Y VX VY E lo hi X' Y' W U t : Int} (hn : nvR X Y VX VY = true) (he : 0 ≤ E ∧ E ≤ 2048) (h3 : 0 ≤ lo ∧ lo ≤ 2097154) (h4 : 0 ≤ hi ∧ hi ≤ 2097154) (ht : lo ≤ t ∧ t ≤ hi)
    (hX : X - E ≤ X' ∧ X' ≤ X + E) (hY : Y - E ≤ Y' ∧ Y' ≤ Y + E) (hW : VX - E ≤ W ∧ W ≤ VX + E) (hU : VY - E ≤ U ∧ U ≤ VY + E) :
    hasB (boL X VX E lo hi) (boL Y VY E lo hi) (boH X VX E lo hi) (boH Y VY E lo hi) (X' + W * t) (Y' + U * t) = true := by
  have n := nvR_iff.1 hn
  have b1 := boP n.1 n.2.2.1 he h3 h4
  have b2 := boP n.2.1 n.2.2.2 he h3 h4
  have c1 := boIn (x := X) (v := VX) (e := E) hW.1 hW.2 ht.1 ht.2 hX.1 hX.2
  have c2 := boIn (x := Y) (v := VY) (e := E) hU.1 hU.2 ht.1 ht.2 hY.1 hY.2
  exact hasB_iff.2 ⟨box_ok hn he h3 h4 (by omega), plR_iff.2 (by omega), by omega, by omega, by omega, by omega⟩
theorem iOn {x y z vx vy vz g e : Int} (h : imR x y z vx vy vz g e = true) : iLX x y z vx vy vz g e = boL x vx e (loT z vz g e) (hiT z vz g e) ∧ iLY x y z vx vy vz g e = boL y vy e (loT z vz g e) (hiT z vz g e) ∧ iHX x y z vx vy vz g e = boH x vx e (loT z vz g e) (hiT z vz g e) ∧ iHY x y z vx vy vz g e = boH y vy e (loT z vz g e) (hiT z vz g e) := by
  unfold iLX iLY iHX iHY
  rw [h]
  exact ⟨rfl, rfl, rfl, rfl⟩
theorem imR_of {x y z vx vy vz g e : Int} (h1 : -2147483648 ≤ x ∧ x ≤ 2147483648) (h2 : -2147483648 ≤ y ∧ y ≤ 2147483648) (h3 : -2147483648 ≤ z ∧ z ≤ 2147483648) (h4 : -131072 ≤ vx ∧ vx ≤ 131072) (h5 : -131072 ≤ vy ∧ vy ≤ 131072) (h6 : -131072 ≤ vz ∧ vz ≤ 131072) (h7 : 1 ≤ g ∧ g ≤ 100) (h8 : 0 ≤ e ∧ e ≤ 2048) : imR x y z vx vy vz g e = true :=
  imR_iff.2 ⟨⟨frR_iff.2 (by omega), h8⟩, nvR_iff.2 ⟨h1, h2, h4, h5⟩⟩
theorem rc_of {x y vx vy t : Int} (h1 : -4294967296 ≤ x ∧ x ≤ 4294967296) (h2 : -4294967296 ≤ y ∧ y ≤ 4294967296) (h3 : -262144 ≤ vx ∧ vx ≤ 262144) (h4 : -262144 ≤ vy ∧ vy ≤ 262144) (h5 : 0 ≤ t ∧ t ≤ 4194304) : rcG x y vx vy 0 t = true := rcG_iff.2 ⟨h1, h2, h3, h4, by omega, h5⟩
theorem impactSure (p q x y z vx vy vz g e d0 d1 d2 d3 d4 d5 : Int) : runG ΓIx L0 Try.prog Try.f9 [.v (.agg #[I p, I q, I x, I y, I z, I vx, I vy, I vz]), .v (I g), .v (I e), .v (.agg #[I d0, I d1, I d2, I d3, I d4, I d5])] M0 = some (.v (.bool true), M0) := (treeImpactSure p q x y z vx vy vz g e d0 d1 d2 d3 d4 d5).trans (by
  have rX := hX_in x
  have rY := hX_in y
  have rZ := hZ_in z
  have rU := hV_in vx
  have rV := hV_in vy
  have rW := hV_in vz
  have rG := gI_in g
  have rE := eI_in e
  generalize hX x = X at *
  generalize hX y = Y at *
  generalize hZ z = Z at *
  generalize hV vx = U at *
  generalize hV vy = V at *
  generalize hV vz = W at *
  generalize gI g 100 = G at *
  generalize eI e = E at *
  have oX := oI_in (x := X) (d := d0) (e := E) (by omega) (by omega)
  have oY := oI_in (x := Y) (d := d1) (e := E) (by omega) (by omega)
  have oZ := oI_in (x := Z) (d := d2) (e := E) (by omega) (by omega)
  have oU := oI_in (x := U) (d := d3) (e := E) (by omega) (by omega)
  have oV := oI_in (x := V) (d := d4) (e := E) (by omega) (by omega)
  have oW := oI_in (x := W) (d := d5) (e := E) (by omega) (by omega)
  generalize oI X d0 E = X' at *
  generalize oI Y d1 E = Y' at *
  generalize oI Z d2 E = Z' at *
  generalize oI U d3 E = U' at *
  generalize oI V d4 E = V' at *
  generalize oI W d5 E = W' at *
  have hR : imR X Y Z U V W G E = true := imR_of (by omega) (by omega) (by omega) (by omega) (by omega) (by omega) (by omega) (by omega)
  obtain ⟨⟨hf, he⟩, hn⟩ := imR_iff.1 hR
  obtain ⟨i1, i2, i3, i4⟩ := iOn hR
  obtain ⟨t1, t2, t3⟩ := times hf he
  rw [hR, i1, i2, i3, i4, decide_eq_true (show 0 ≤ E ∧ E ≤ 4096 by omega)]
  simp only [Bool.not_true, cond_true, cond_false]
  by_cases hz : Z' < 0
  · rw [decide_eq_true hz]; rfl
  have hm : frX Z' W' G = true := frX_iff.2 (by omega)
  have hl : frX (Z - E) (W - E) G = true := frX_iff.2 (by omega)
  have hh : frX (Z + E) (W + E) G = true := frX_iff.2 (by omega)
  have m1 : loT Z W G E ≤ tmF Z' W' G := tm_mono hl hm (by omega) (by omega)
  have m2 : tmF Z' W' G + 2 ≤ hiT Z W G E := by have := tm_mono hm hh (by omega) (by omega); unfold hiT; omega
  have u0 := tm_nonneg hm
  have u1 := tm_le hm
  have a0 := (tm_iff hm (by omega) u0).1 (Int.le_refl _)
  have a1 := mt (tm_iff hm (x := tmF Z' W' G + 2) (by omega) (by omega)).2 (by omega)
  have h0 := has_of (X' := X') (Y' := Y') (W := U') (U := V') (t := tmF Z' W' G) hn he t1 t2 (by omega) (by omega) (by omega) (by omega) (by omega)
  have h1 := has_of (X' := X') (Y' := Y') (W := U') (U := V') (t := tmF Z' W' G + 1) hn he t1 t2 (by omega) (by omega) (by omega) (by omega) (by omega)
  have h2 := has_of (X' := X') (Y' := Y') (W := U') (U := V') (t := tmF Z' W' G + 2) hn he t1 t2 (by omega) (by omega) (by omega) (by omega) (by omega)
  have e1 : wI (tmF Z' W' G + 1) = tmF Z' W' G + 1 := wI_id (by omega)
  have e2 : wI (tmF Z' W' G + 2) = tmF Z' W' G + 2 := wI_id (by omega)
  have g0 : twG Z' W' G (tmF Z' W' G) = true := twG_iff.2 ⟨hm, by omega, by omega⟩
  have g2 : twG Z' W' G (tmF Z' W' G + 2) = true := twG_iff.2 ⟨hm, by omega, by omega⟩
  have r0 := rc_of (x := X') (y := Y') (vx := U') (vy := V') (t := tmF Z' W' G) (by omega) (by omega) (by omega) (by omega) (by omega)
  have r1 := rc_of (x := X') (y := Y') (vx := U') (vy := V') (t := tmF Z' W' G + 1) (by omega) (by omega) (by omega) (by omega) (by omega)
  have r2 := rc_of (x := X') (y := Y') (vx := U') (vy := V') (t := tmF Z' W' G + 2) (by omega) (by omega) (by omega) (by omega) (by omega)
  simp only [hz, decide_false, e1, e2, hm, g0, g2, show ¬ Ab Z' W' G (tmF Z' W' G) < 0 by omega, show ¬ Ab Z' W' G (tmF Z' W' G + 2) ≥ 0 from a1, h0, h1, h2, r0, r1, r2, cond_true, cond_false]
  rfl)
theorem bo_in {x v e a b x' v' e' a' b' : Int} (he : 0 ≤ e) (h1 : x' - e' ≤ x - e) (h2 : x + e ≤ x' + e') (h3 : v' - e' ≤ v - e) (h4 : v + e ≤ v' + e') (h5 : a' ≤ a) (h6 : a ≤ b) (h7 : b ≤ b') : boL x' v' e' a' b' ≤ boL x v e a b ∧ boH x v e a b ≤ boH x' v' e' a' b' := by
  have := mn4_in he h3 h4 h5 h6 h7
  unfold boL boH
  omega
theorem times_in {z w g e z' w' e' : Int} (h : frR z w g = true) (he : 0 ≤ e ∧ e ≤ 2048) (h' : frR z' w' g = true) (he' : 0 ≤ e' ∧ e' ≤ 2048) (h1 : z' - e' ≤ z - e) (h2 : z + e ≤ z' + e') (h3 : w' - e' ≤ w - e) (h4 : w + e ≤ w' + e') : loT z' w' g e' ≤ loT z w g e ∧ hiT z w g e ≤ hiT z' w' g e' := by
  have k1 : frX (z - e) (w - e) g = true := by rw [Int.sub_eq_add_neg, Int.sub_eq_add_neg]; exact frX_e h (by omega) (by omega) (by omega) (by omega)
  have k2 : frX (z + e) (w + e) g = true := frX_e h (by omega) (by omega) (by omega) (by omega)
  have k3 : frX (z' - e') (w' - e') g = true := by rw [Int.sub_eq_add_neg, Int.sub_eq_add_neg]; exact frX_e h' (by omega) (by omega) (by omega) (by omega)
  have k4 : frX (z' + e') (w' + e') g = true := frX_e h' (by omega) (by omega) (by omega) (by omega)
  have m1 := tm_mono k3 k1 h1 h3
  have m2 := tm_mono k2 k4 h2 h4
  unfold loT hiT
  omega
/-- One impact's box in another one. -/
theorem im_in {x y z u v w g e x' y' z' u' v' w' e' : Int} (h : imR x y z u v w g e = true) (h' : imR x' y' z' u' v' w' g e' = true) (hx : x' - e' ≤ x - e ∧ x + e ≤ x' + e') (hy : y' - e' ≤ y - e ∧ y + e ≤ y' + e') (hz : z' - e' ≤ z - e ∧ z + e ≤ z' + e') (hu : u' - e' ≤ u - e ∧ u + e ≤ u' + e') (hv : v' - e' ≤ v - e ∧ v + e ≤ v' + e') (hw : w' - e' ≤ w - e ∧ w + e ≤ w' + e') :
    (boL x' u' e' (loT z' w' g e') (hiT z' w' g e') ≤ boL x u e (loT z w g e) (hiT z w g e) ∧ boH x u e (loT z w g e) (hiT z w g e) ≤ boH x' u' e' (loT z' w' g e') (hiT z' w' g e')) ∧ boL y' v' e' (loT z' w' g e') (hiT z' w' g e') ≤ boL y v e (loT z w g e) (hiT z w g e) ∧ boH y v e (loT z w g e) (hiT z w g e) ≤ boH y' v' e' (loT z' w' g e') (hiT z' w' g e') := by
  obtain ⟨⟨hf, he⟩, hn⟩ := imR_iff.1 h
  obtain ⟨⟨hf', he'⟩, hn'⟩ := imR_iff.1 h'
  obtain ⟨t1, t2, t3⟩ := times hf he
  obtain ⟨s1, s2⟩ := times_in hf he hf' he' hz.1 hz.2 hw.1 hw.2
  exact ⟨bo_in he.1 hx.1 hx.2 hu.1 hu.2 s1 (by omega) s2, bo_in he.1 hy.1 hy.2 hv.1 hv.2 s1 (by omega) s2⟩
theorem im_box {x y z u v w g e : Int} (h : imR x y z u v w g e = true) : boR (boL x u e (loT z w g e) (hiT z w g e)) (boL y v e (loT z w g e) (hiT z w g e)) (boH x u e (loT z w g e) (hiT z w g e)) (boH y v e (loT z w g e) (hiT z w g e)) = true := by
  obtain ⟨⟨hf, he⟩, hn⟩ := imR_iff.1 h
  obtain ⟨t1, t2, t3⟩ := times hf he
  exact box_ok hn he t1 t2 (by omega)
theorem inBx_of {a b c d a' b' c' d' : Int} (h : boR a b c d = true) (h' : boR a' b' c' d' = true) (h1 : a' ≤ a ∧ c ≤ c') (h2 : b' ≤ b ∧ d ≤ d') : inBx a b c d a' b' c' d' = true := by
  obtain ⟨p1, p2, p3, p4⟩ := boR_iff.1 h
  unfold inBx
  rw [h, hasB_iff.2 ⟨h', p1, by omega, by omega, by omega, by omega⟩, hasB_iff.2 ⟨h', p2, by omega, by omega, by omega, by omega⟩]
  rfl
theorem impactIn (p q x y z vx vy vz g e k d0 d1 d2 d3 d4 d5 : Int) : runG ΓIx L0 Try.prog Try.f10 [.v (.agg #[I p, I q, I x, I y, I z, I vx, I vy, I vz]), .v (I g), .v (I e), .v (I k), .v (.agg #[I d0, I d1, I d2, I d3, I d4, I d5])] M0 = some (.v (.bool true), M0) := (treeImpactIn p q x y z vx vy vz g e k d0 d1 d2 d3 d4 d5).trans (by
  have rX := hX_in x
  have rY := hX_in y
  have rZ := hZ_in z
  have rU := hV_in vx
  have rV := hV_in vy
  have rW := hV_in vz
  have rG := gI_in g
  have rE := eI_in e
  have rK := eI_in k
  generalize hX x = X at *
  generalize hX y = Y at *
  generalize hZ z = Z at *
  generalize hV vx = U at *
  generalize hV vy = V at *
  generalize hV vz = W at *
  generalize gI g 100 = G at *
  generalize eI e = E at *
  generalize eI k = K at *
  have oX := oI_in (x := X) (d := d0) (e := K) (by omega) (by omega)
  have oY := oI_in (x := Y) (d := d1) (e := K) (by omega) (by omega)
  have oZ := oI_in (x := Z) (d := d2) (e := K) (by omega) (by omega)
  have oU := oI_in (x := U) (d := d3) (e := K) (by omega) (by omega)
  have oV := oI_in (x := V) (d := d4) (e := K) (by omega) (by omega)
  have oW := oI_in (x := W) (d := d5) (e := K) (by omega) (by omega)
  generalize oI X d0 K = X' at *
  generalize oI Y d1 K = Y' at *
  generalize oI Z d2 K = Z' at *
  generalize oI U d3 K = U' at *
  generalize oI V d4 K = V' at *
  generalize oI W d5 K = W' at *
  have hR : imR X' Y' Z' U' V' W' G E = true := imR_of (by omega) (by omega) (by omega) (by omega) (by omega) (by omega) (by omega) (by omega)
  have hS : imR X Y Z U V W G (E + K) = true := imR_of (by omega) (by omega) (by omega) (by omega) (by omega) (by omega) (by omega) (by omega)
  obtain ⟨i1, i2, i3, i4⟩ := iOn hR
  obtain ⟨j1, j2, j3, j4⟩ := iOn hS
  obtain ⟨⟨l1, l2⟩, l3, l4⟩ := im_in hR hS (by omega) (by omega) (by omega) (by omega) (by omega) (by omega)
  rw [wI_id (n := E + K) (by omega), hR, hS, i1, i2, i3, i4, j1, j2, j3, j4, inBx_of (im_box hR) (im_box hS) ⟨l1, l2⟩ ⟨l3, l4⟩, decide_eq_true (show 0 ≤ K ∧ K ≤ 4096 by omega)]
  rfl)
theorem slk_mono {a b c d e f a' b' d' e' : Int} (h1 : a' ≤ a) (h2 : b ≤ b') (h3 : d' ≤ d) (h4 : e ≤ e') : slk a b c d e f ≤ slk a' b' c d' e' f := by
  unfold slk
  have m1 := le_mx (c - a) (b - c)
  have m2 := le_mx (mx (c - a) (b - c)) (f - d)
  have m3 := le_mx (mx (mx (c - a) (b - c)) (f - d)) (e - f)
  have n1 := le_mx (c - a') (b' - c)
  have n2 := le_mx (mx (c - a') (b' - c)) (f - d')
  have n3 := le_mx (mx (mx (c - a') (b' - c)) (f - d')) (e' - f)
  omega
theorem slk_nonneg {a b c d e f : Int} (h1 : a ≤ c) : 0 ≤ slk a b c d e f := by
  unfold slk
  have m1 := le_mx (c - a) (b - c)
  have m2 := le_mx (mx (c - a) (b - c)) (f - d)
  have m3 := le_mx (mx (mx (c - a) (b - c)) (f - d)) (e - f)
  omega
theorem impactSlack (p q x y z vx vy vz g e k : Int) : runG ΓIx L0 Try.prog Try.f13 [.v (.agg #[I p, I q, I x, I y, I z, I vx, I vy, I vz]), .v (I g), .v (I e), .v (I k)] M0 = some (.v (.bool true), M0) := (treeImpactSlack p q x y z vx vy vz g e k).trans (by
  have rX := hX_in x
  have rY := hX_in y
  have rZ := hZ_in z
  have rU := hV_in vx
  have rV := hV_in vy
  have rW := hV_in vz
  have rG := gI_in g
  have rE := eI_in e
  have rK := eI_in k
  generalize hX x = X at *
  generalize hX y = Y at *
  generalize hZ z = Z at *
  generalize hV vx = U at *
  generalize hV vy = V at *
  generalize hV vz = W at *
  generalize gI g 100 = G at *
  generalize eI e = E at *
  generalize eI k = K at *
  have hR : imR X Y Z U V W G E = true := imR_of (by omega) (by omega) (by omega) (by omega) (by omega) (by omega) (by omega) (by omega)
  have hS : imR X Y Z U V W G (E + K) = true := imR_of (by omega) (by omega) (by omega) (by omega) (by omega) (by omega) (by omega) (by omega)
  have hT : imR X Y Z U V W G 0 = true := imR_0 hR
  obtain ⟨i1, i2, i3, i4⟩ := iOn hR
  obtain ⟨⟨hf, he⟩, hn⟩ := imR_iff.1 hR
  obtain ⟨t1, t2, t3⟩ := times hf he
  obtain ⟨⟨l1, l2⟩, l3, l4⟩ := im_in hR hS (by omega) (by omega) (by omega) (by omega) (by omega) (by omega)
  have hm := frR_X hf
  have hl : frX (Z - E) (W - E) G = true := frX_iff.2 (by omega)
  have hh : frX (Z + E) (W + E) G = true := frX_iff.2 (by omega)
  have m1 : loT Z W G E ≤ tmF Z W G := tm_mono hl hm (by omega) (by omega)
  have m2 : tmF Z W G + 2 ≤ hiT Z W G E := by have := tm_mono hm hh (by omega) (by omega); unfold hiT; omega
  have h0 := has_of (X' := X) (Y' := Y) (W := U) (U := V) (t := tmF Z W G) hn he t1 t2 (by omega) (by omega) (by omega) (by omega) (by omega)
  have hb := hasB_iff.1 h0
  have eS : sK X Y Z U V W G E = slk (boL X U E (loT Z W G E) (hiT Z W G E)) (boH X U E (loT Z W G E) (hiT Z W G E)) (X + U * tmF Z W G) (boL Y V E (loT Z W G E) (hiT Z W G E)) (boH Y V E (loT Z W G E) (hiT Z W G E)) (Y + V * tmF Z W G) := by unfold sK; rw [hR]; rfl
  have eT : sK X Y Z U V W G (E + K) = slk (boL X U (E + K) (loT Z W G (E + K)) (hiT Z W G (E + K))) (boH X U (E + K) (loT Z W G (E + K)) (hiT Z W G (E + K))) (X + U * tmF Z W G) (boL Y V (E + K) (loT Z W G (E + K)) (hiT Z W G (E + K))) (boH Y V (E + K) (loT Z W G (E + K)) (hiT Z W G (E + K))) (Y + V * tmF Z W G) := by unfold sK; rw [hS]; rfl
  have s1 : 0 ≤ sK X Y Z U V W G E := by rw [eS]; exact slk_nonneg hb.2.2.1
  have s2 : sK X Y Z U V W G E ≤ sK X Y Z U V W G (E + K) := by rw [eS, eT]; exact slk_mono l1 l2 l3 l4
  have eA : aX X Y Z U V W G = X + U * tmF Z W G := by unfold aX; rw [hT]; rfl
  have eB : aY X Y Z U V W G = Y + V * tmF Z W G := by unfold aY; rw [hT]; rfl
  rw [wI_id (n := E + K) (by omega), hR, hS, hT, i1, i2, i3, i4, eA, eB, h0, decide_eq_true (show sK X Y Z U V W G E ≥ 0 from s1), decide_eq_true (show sK X Y Z U V W G (E + K) ≥ sK X Y Z U V W G E from s2)]
  rfl)
theorem impactShift (p q x y z vx vy vz g e a b : Int) : runG ΓIx L0 Try.prog Try.f11 [.v (.agg #[I p, I q, I x, I y, I z, I vx, I vy, I vz]), .v (I g), .v (I e), .v (I a), .v (I b)] M0 = some (.v (.bool true), M0) := (treeImpactShift p q x y z vx vy vz g e a b).trans (by
  have rX := hX_in x
  have rY := hX_in y
  have rZ := hZ_in z
  have rU := hV_in vx
  have rV := hV_in vy
  have rW := hV_in vz
  have rG := gI_in g
  have rE := eI_in e
  have rA := tmB a 1073741824 (by decide)
  have rB := tmB b 1073741824 (by decide)
  generalize hX x = X at *
  generalize hX y = Y at *
  generalize hZ z = Z at *
  generalize hV vx = U at *
  generalize hV vy = V at *
  generalize hV vz = W at *
  generalize gI g 100 = G at *
  generalize eI e = E at *
  generalize a.tmod 1073741824 = A at *
  generalize b.tmod 1073741824 = B at *
  have hR : imR X Y Z U V W G E = true := imR_of (by omega) (by omega) (by omega) (by omega) (by omega) (by omega) (by omega) (by omega)
  have hS : imR (X + A) (Y + B) Z U V W G E = true := imR_of (by omega) (by omega) (by omega) (by omega) (by omega) (by omega) (by omega) (by omega)
  have hT : imR (0 - X) Y Z (0 - U) V W G E = true := imR_of (by omega) (by omega) (by omega) (by omega) (by omega) (by omega) (by omega) (by omega)
  obtain ⟨i1, i2, i3, i4⟩ := iOn hR
  obtain ⟨j1, j2, j3, j4⟩ := iOn hS
  obtain ⟨k1, k2, k3, k4⟩ := iOn hT
  obtain ⟨⟨hf, he⟩, hn⟩ := imR_iff.1 hR
  obtain ⟨t1, t2, t3⟩ := times hf he
  have n := nvR_iff.1 hn
  have b1 := boP n.1 n.2.2.1 he t1 t2
  have b2 := boP n.2.1 n.2.2.2 he t1 t2
  have c := boR_iff.1 (im_box hR)
  have m := mn4_neg U E (loT Z W G E) (hiT Z W G E)
  rw [wI_id (n := X + A) (by omega), wI_id (n := Y + B) (by omega), wI_id (n := 0 - X) (by omega), wI_id (n := 0 - U) (by omega), hR, hS, hT, i1, i2, i3, i4, j1, j2, j3, j4, k1, k2, k3, k4]
  have e1 : boL (X + A) U E (loT Z W G E) (hiT Z W G E) = wI (boL X U E (loT Z W G E) (hiT Z W G E) + A) := by rw [wI_id (by omega)]; unfold boL; omega
  have e2 : boL (Y + B) V E (loT Z W G E) (hiT Z W G E) = wI (boL Y V E (loT Z W G E) (hiT Z W G E) + B) := by rw [wI_id (by omega)]; unfold boL; omega
  have e3 : boH (X + A) U E (loT Z W G E) (hiT Z W G E) = wI (boH X U E (loT Z W G E) (hiT Z W G E) + A) := by rw [wI_id (by omega)]; unfold boH; omega
  have e4 : boH (Y + B) V E (loT Z W G E) (hiT Z W G E) = wI (boH Y V E (loT Z W G E) (hiT Z W G E) + B) := by rw [wI_id (by omega)]; unfold boH; omega
  have e5 : boL (0 - X) (0 - U) E (loT Z W G E) (hiT Z W G E) = wI (0 - boH X U E (loT Z W G E) (hiT Z W G E)) := by
    rw [wI_id (by omega)]
    unfold boL boH
    rw [Int.zero_sub, Int.zero_sub]
    omega
  have e6 : boH (0 - X) (0 - U) E (loT Z W G E) (hiT Z W G E) = wI (0 - boL X U E (loT Z W G E) (hiT Z W G E)) := by
    rw [wI_id (by omega)]
    unfold boL boH
    rw [Int.zero_sub, Int.zero_sub]
    omega
  rw [e1, e2, e3, e4, e5, e6]
  simp only [beq_self_eq_true, Bool.and_self, cond_true]
  rfl)
end Go.Proofs.Ytmhfidmcgkjhdaa

namespace Go.Proofs.Ytmhfidmcgkjhdaa
open Go Go.Proofs Go.Sx
set_option linter.unusedVariables false
abbrev ksNv : List CK := [.num .i64, .num .i64, .num .i64, .num .i64, .num .i64, .num .i64, .num .i64, .num .i64]
theorem nv_is {l : List Dat} (h : WfL ksNv l) : ∃ a b c d e f g q, l = [.n a, .n b, .n c, .n d, .n e, .n f, .n g, .n q] := by
  match l, h with
  | [.n a, .n b, .n c, .n d, .n e, .n f, .n g, .n q], _ => exact ⟨a, b, c, d, e, f, g, q, rfl⟩
abbrev ksA6 : List CK := [.num .i64, .num .i64, .num .i64, .num .i64, .num .i64, .num .i64]
theorem a6_is {l : List Dat} (h : WfL ksA6 l) : ∃ a b c d e f, l = [.n a, .n b, .n c, .n d, .n e, .n f] := by
  match l, h with
  | [.n a, .n b, .n c, .n d, .n e, .n f], _ => exact ⟨a, b, c, d, e, f, rfl⟩
theorem impactSureLaw (l0 : List Dat) (a1 : Int) (a2 : Int) (l3 : List Dat) (w0 : WfL ksNv l0) (u1 : (Lit.int .i64 a1).wf = true) (u2 : (Lit.int .i64 a2).wf = true) (w3 : WfL ksA6 l3) : ∃ m', runG ΓIx L0 Try.prog Try.f9 (inArgs [.v (.agg (mkEl ksNv l0).toArray), .v (.int .i64 a1), .v (.int .i64 a2), .v (.agg (mkEl ksA6 l3).toArray)] 0) (inMem [.v (.agg (mkEl ksNv l0).toArray), .v (.int .i64 a1), .v (.int .i64 a2), .v (.agg (mkEl ksA6 l3).toArray)]) = some (.v (.bool true), m') := by
  obtain ⟨n0, n1, n2, n3, n4, n5, n6, n7, rfl⟩ := nv_is w0
  obtain ⟨c0, c1, c2, c3, c4, c5, rfl⟩ := a6_is w3
  exact ⟨_, impactSure n0 n1 n2 n3 n4 n5 n6 n7 a1 a2 c0 c1 c2 c3 c4 c5⟩
theorem impactInLaw (l0 : List Dat) (a1 : Int) (a2 : Int) (a3 : Int) (l4 : List Dat) (w0 : WfL ksNv l0) (u1 : (Lit.int .i64 a1).wf = true) (u2 : (Lit.int .i64 a2).wf = true) (u3 : (Lit.int .i64 a3).wf = true) (w4 : WfL ksA6 l4) : ∃ m', runG ΓIx L0 Try.prog Try.f10 (inArgs [.v (.agg (mkEl ksNv l0).toArray), .v (.int .i64 a1), .v (.int .i64 a2), .v (.int .i64 a3), .v (.agg (mkEl ksA6 l4).toArray)] 0) (inMem [.v (.agg (mkEl ksNv l0).toArray), .v (.int .i64 a1), .v (.int .i64 a2), .v (.int .i64 a3), .v (.agg (mkEl ksA6 l4).toArray)]) = some (.v (.bool true), m') := by
  obtain ⟨n0, n1, n2, n3, n4, n5, n6, n7, rfl⟩ := nv_is w0
  obtain ⟨c0, c1, c2, c3, c4, c5, rfl⟩ := a6_is w4
  exact ⟨_, impactIn n0 n1 n2 n3 n4 n5 n6 n7 a1 a2 a3 c0 c1 c2 c3 c4 c5⟩
theorem impactShiftLaw (l0 : List Dat) (a1 : Int) (a2 : Int) (a3 : Int) (a4 : Int) (w0 : WfL ksNv l0) (u1 : (Lit.int .i64 a1).wf = true) (u2 : (Lit.int .i64 a2).wf = true) (u3 : (Lit.int .i64 a3).wf = true) (u4 : (Lit.int .i64 a4).wf = true) : ∃ m', runG ΓIx L0 Try.prog Try.f11 (inArgs [.v (.agg (mkEl ksNv l0).toArray), .v (.int .i64 a1), .v (.int .i64 a2), .v (.int .i64 a3), .v (.int .i64 a4)] 0) (inMem [.v (.agg (mkEl ksNv l0).toArray), .v (.int .i64 a1), .v (.int .i64 a2), .v (.int .i64 a3), .v (.int .i64 a4)]) = some (.v (.bool true), m') := by
  obtain ⟨n0, n1, n2, n3, n4, n5, n6, n7, rfl⟩ := nv_is w0
  exact ⟨_, impactShift n0 n1 n2 n3 n4 n5 n6 n7 a1 a2 a3 a4⟩
theorem impactSlackLaw (l0 : List Dat) (a1 : Int) (a2 : Int) (a3 : Int) (w0 : WfL ksNv l0) (u1 : (Lit.int .i64 a1).wf = true) (u2 : (Lit.int .i64 a2).wf = true) (u3 : (Lit.int .i64 a3).wf = true) : ∃ m', runG ΓIx L0 Try.prog Try.f13 (inArgs [.v (.agg (mkEl ksNv l0).toArray), .v (.int .i64 a1), .v (.int .i64 a2), .v (.int .i64 a3)] 0) (inMem [.v (.agg (mkEl ksNv l0).toArray), .v (.int .i64 a1), .v (.int .i64 a2), .v (.int .i64 a3)]) = some (.v (.bool true), m') := by
  obtain ⟨n0, n1, n2, n3, n4, n5, n6, n7, rfl⟩ := nv_is w0
  exact ⟨_, impactSlack n0 n1 n2 n3 n4 n5 n6 n7 a1 a2 a3⟩
end Go.Proofs.Ytmhfidmcgkjhdaa

namespace Go.Proofs.Ytmhfidmcgkjhdaa
open Go Go.Proofs Go.Sx
set_option linter.unusedVariables false
abbrev gW (g : Int) : Int := wI (wI (1 + wI ((IntKind.u64.wrap g).tmod 50)) * 2)
def goesT (X Y Z U V W G X' Y' Z' W' : Int) : Option (SV × Mem) :=
  bif !imR X Y Z U V W G 0 then some (.v (Bo false), M0) else (bif decide (Z' < 0) then some (.v (Bo true), M0) else (bif !imR X' Y' Z' U V W' G 0 then some (.v (Bo false), M0) else (bif frX Z' W' G then (bif frX Z W G then (bif wI (tmF Z' W' G + 1) == tmF Z W G then some (.v (Bo ((iLX X' Y' Z' U V W' G 0 == iLX X Y Z U V W G 0 && (iLY X' Y' Z' U V W' G 0 == iLY X Y Z U V W G 0 && true)) && ((iHX X' Y' Z' U V W' G 0 == iHX X Y Z U V W G 0 && (iHY X' Y' Z' U V W' G 0 == iHY X Y Z U V W G 0 && true)) && true))), M0) else some (.v (Bo false), M0)) else none) else none)))
theorem mn_sub (x y c : Int) : mn (x - c) (y - c) = mn x y - c ∧ mx (x - c) (y - c) = mx x y - c := by
  unfold mn mx
  constructor <;> split <;> split <;> omega
theorem mn4_back (v a b : Int) : mn4 v 0 (a - 1) (b - 1) = mn4 v 0 a b - v ∧ mx4 v 0 (a - 1) (b - 1) = mx4 v 0 a b - v := by
  unfold mn4 mx4
  rw [Int.sub_zero, Int.add_zero, Int.mul_sub, Int.mul_sub, Int.mul_one, (mn_sub (v * a) (v * b) v).1, (mn_sub (v * a) (v * b) v).2, (mn_sub _ _ v).1, (mn_sub _ _ v).2]
  exact ⟨rfl, rfl⟩
theorem bo_back (x v a b : Int) : boL (x + v) v 0 (a - 1) (b - 1) = boL x v 0 a b ∧ boH (x + v) v 0 (a - 1) (b - 1) = boH x v 0 a b := by
  unfold boL boH
  rw [(mn4_back v a b).1, (mn4_back v a b).2]
  omega
theorem ab_next (z w h t : Int) : Ab z w (2 * h) (t + 1) = Ab (z + w - h) (w - 2 * h) (2 * h) t := by
  unfold Ab
  grind
theorem gW_in (g : Int) : ∃ h, gW g = 2 * h ∧ 1 ≤ h ∧ h ≤ 50 := by
  have := gB g 50 (by decide) (by decide)
  refine ⟨wI (1 + wI ((IntKind.u64.wrap g).tmod 50)), ?_, this.1, this.2⟩
  show wI (wI (1 + wI ((IntKind.u64.wrap g).tmod 50)) * 2) = _
  generalize wI (1 + wI ((IntKind.u64.wrap g).tmod 50)) = h at *
  rw [wI_id (by omega)]
  omega
theorem goes_true {X Y Z U V W h : Int} (rX : -1073741824 < X ∧ X < 1073741824) (rY : -1073741824 < Y ∧ Y < 1073741824) (rZ : 0 ≤ Z ∧ Z ≤ 1073741823) (rU : -65536 < U ∧ U < 65536) (rV : -65536 < V ∧ V < 65536) (rW : -65536 < W ∧ W < 65536) (rH : 1 ≤ h ∧ h ≤ 50) :
    goesT X Y Z U V W (2 * h) (X + U) (Y + V) (Z + W - h) (W - 2 * h) = some (.v (.bool true), M0) := by
  unfold goesT
  have hR : imR X Y Z U V W (2 * h) 0 = true := imR_of (by omega) (by omega) (by omega) (by omega) (by omega) (by omega) (by omega) (by omega)
  rw [hR]
  simp only [Bool.not_true, cond_false]
  by_cases hz : Z + W - h < 0
  · rw [decide_eq_true hz]; rfl
  have hS : imR (X + U) (Y + V) (Z + W - h) U V (W - 2 * h) (2 * h) 0 = true := imR_of (by omega) (by omega) (by omega) (by omega) (by omega) (by omega) (by omega) (by omega)
  have h1 : frX (Z + W - h) (W - 2 * h) (2 * h) = true := frX_iff.2 (by omega)
  have h2 : frX Z W (2 * h) = true := frX_iff.2 (by omega)
  have t0 := tm_nonneg h1
  have t1 := tm_le h1
  have s0 := tm_nonneg h2
  have a0 := (tm_iff h1 (by omega) t0).1 (Int.le_refl _)
  have a1 := mt (tm_iff h1 (x := tmF (Z + W - h) (W - 2 * h) (2 * h) + 1) (by omega) (by omega)).2 (by omega)
  rw [← ab_next] at a0 a1
  have b0 := (tm_iff h2 (by omega) (by omega)).2 a0
  have b1 := mt (tm_iff h2 (x := tmF (Z + W - h) (W - 2 * h) (2 * h) + 1 + 1) (by omega) (by omega)).1 a1
  have e : tmF Z W (2 * h) = tmF (Z + W - h) (W - 2 * h) (2 * h) + 1 := by omega
  obtain ⟨i1, i2, i3, i4⟩ := iOn hR
  obtain ⟨j1, j2, j3, j4⟩ := iOn hS
  have l1 : loT (Z + W - h) (W - 2 * h) (2 * h) 0 = loT Z W (2 * h) 0 - 1 := by
    unfold loT
    rw [Int.sub_zero, Int.sub_zero, Int.sub_zero, Int.sub_zero]
    omega
  have l2 : hiT (Z + W - h) (W - 2 * h) (2 * h) 0 = hiT Z W (2 * h) 0 - 1 := by
    unfold hiT
    rw [Int.add_zero, Int.add_zero, Int.add_zero, Int.add_zero]
    omega
  have c1 := bo_back X U (loT Z W (2 * h) 0) (hiT Z W (2 * h) 0)
  have c2 := bo_back Y V (loT Z W (2 * h) 0) (hiT Z W (2 * h) 0)
  rw [decide_eq_false hz, hS, h1, h2, e, wI_id (n := tmF (Z + W - h) (W - 2 * h) (2 * h) + 1) (by omega), i1, i2, i3, i4, j1, j2, j3, j4, l1, l2, c1.1, c1.2, c2.1, c2.2]
  simp only [beq_self_eq_true, Bool.not_true, Bool.and_self, cond_true, cond_false]
  rfl
set_option maxRecDepth 40000 in
theorem treeImpactGoes (p q x y z vx vy vz g : Int) : runG ΓIx L0 Try.prog Try.f12 [.v (.agg #[I p, I q, I x, I y, I z, I vx, I vy, I vz]), .v (I g)] M0 =
    goesT (hX x) (hX y) (hZ z) (hV vx) (hV vy) (hV vz) (gW g) (wI (hX x + hV vx)) (wI (hX y + hV vy)) (wI (wI (hZ z + hV vz) - wI ((gW g).tdiv 2))) (wI (hV vz - gW g)) := by kernel_rfl
theorem impactGoes (p q x y z vx vy vz g : Int) : runG ΓIx L0 Try.prog Try.f12 [.v (.agg #[I p, I q, I x, I y, I z, I vx, I vy, I vz]), .v (I g)] M0 = some (.v (.bool true), M0) := (treeImpactGoes p q x y z vx vy vz g).trans (by
  have rX := hX_in x
  have rY := hX_in y
  have rZ := hZ_in z
  have rU := hV_in vx
  have rV := hV_in vy
  have rW := hV_in vz
  obtain ⟨h, hG, hh⟩ := gW_in g
  rw [hG]
  generalize hX x = X at *
  generalize hX y = Y at *
  generalize hZ z = Z at *
  generalize hV vx = U at *
  generalize hV vy = V at *
  generalize hV vz = W at *
  have e2 : (2 * h).tdiv 2 = h := Int.mul_tdiv_cancel_left h (by decide)
  have e3 : wI (wI (Z + W) - wI h) = Z + W - h := by
    rw [wI_id (n := Z + W) (by omega), wI_id (n := h) (by omega), wI_id (by omega)]
  rw [e2, wI_id (n := X + U) (by omega), wI_id (n := Y + V) (by omega), e3, wI_id (n := W - 2 * h) (by omega)]
  exact goes_true rX rY rZ rU rV rW hh)
theorem impactGoesLaw (l0 : List Dat) (a1 : Int) (w0 : WfL ksNv l0) (u1 : (Lit.int .i64 a1).wf = true) : ∃ m', runG ΓIx L0 Try.prog Try.f12 (inArgs [.v (.agg (mkEl ksNv l0).toArray), .v (.int .i64 a1)] 0) (inMem [.v (.agg (mkEl ksNv l0).toArray), .v (.int .i64 a1)]) = some (.v (.bool true), m') := by
  obtain ⟨n0, n1, n2, n3, n4, n5, n6, n7, rfl⟩ := nv_is w0
  exact ⟨_, impactGoes n0 n1 n2 n3 n4 n5 n6 n7 a1⟩
end Go.Proofs.Ytmhfidmcgkjhdaa

