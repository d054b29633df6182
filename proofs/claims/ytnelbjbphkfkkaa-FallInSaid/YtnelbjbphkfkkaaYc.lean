/-
  The six laws of fall over values.
-/
import Derived.Test.YtnelbjbphkfkkaaYa
import Derived.Test.YtnelbjbphkfkkaaSw
import Derived.Test.YtnelbjbphkfkkaaSx
namespace Go.Proofs.Ytnelbjbphkfkkaa
open Go Go.Proofs Go.Sx
set_option linter.unusedVariables false
/-! norm -/
/-! cast -/
/-! Falls. -/
def twG (z v g t : Int) : Bool := frX z v g && decide (-33554432 ≤ t ∧ t ≤ 33554432)
theorem twG_iff {z v g t : Int} : twG z v g t = true ↔ frX z v g = true ∧ -33554432 ≤ t ∧ t ≤ 33554432 := by simp [twG]
theorem tw_eq {z v g t : Int} (h : twG z v g t = true) : wI (wI (wI ((2 : Int) * z) + wI (wI ((2 : Int) * v) * t)) - wI (wI (g * t) * t)) = Ab z v g t := by
  obtain ⟨h1, h2, h3⟩ := twG_iff.1 h
  obtain ⟨a1, a2, a3⟩ := ab_in h1 h2 h3
  have hx := frX_iff.1 h1
  rw [wI_id (n := 2 * z) (by omega), wI_id (n := 2 * v) (by omega), wI_id (n := 2 * v * t) (by omega), wI_id (n := g * t) (by omega), wI_id (n := g * t * t) (by omega), wI_id (n := 2 * z + 2 * v * t) (by omega), wI_id (by omega)]
  rfl
theorem rk_in {z v g : Int} (h : frX z v g = true) : wI (wI (v * v) + wI (wI ((2 : Int) * g) * z)) = v * v + 2 * g * z ∧ inI (v * v + 2 * g * z) = true := by
  obtain ⟨n1, n2⟩ := frN h
  have hx := frX_iff.1 h
  refine ⟨?_, by rw [inI_iff]; omega⟩
  rw [wI_id (n := 2 * g) (by omega), wI_id (n := v * v) (by omega), wI_id (n := 2 * g * z) (by omega), wI_id (by omega)]
theorem rk_eq {z v g : Int} (h : frX z v g = true) (hz : ¬ z < 0) : wI ((wI (v + rtW (v * v + 2 * g * z))).tdiv g) = tmF z v g := by
  obtain ⟨s, e, h0, h1, h2, h3, h4⟩ := tm_root h (by omega)
  obtain ⟨n1, n2⟩ := frN h
  have hx := frX_iff.1 h
  have gz : 0 ≤ 2 * g * z := Int.mul_nonneg (by omega) (by omega)
  have es : rtW (v * v + 2 * g * z) = s := rt_uniq (by omega) h0 h3 h4
  have t1 := tm_nonneg h
  have t2 := tm_le h
  obtain ⟨r0, r1⟩ := rtW_I (n := v * v + 2 * g * z) (by rw [inI_iff]; omega)
  rw [es] at r1 ⊢
  rw [wI_id (n := v + s) (by omega), Int.tdiv_eq_ediv_of_nonneg (by omega), ← e, wI_id (by omega)]
def mx2 (a b : Int) : Int := if b > a then b else a
def topF (z v g : Int) : Int := bif decide (v < 0) then 2 * z else mx2 (mx2 (2 * z) (Ab z v g (v / g))) (Ab z v g (v / g + 1))
theorem twG_R {z v g t : Int} (h : frR z v g = true) (h1 : -33554432 ≤ t) (h2 : t ≤ 33554432) : twG z v g t = true := twG_iff.2 ⟨frR_X h, h1, h2⟩
theorem frX_e {z v g d c : Int} (h : frR z v g = true) (h1 : -2048 ≤ d) (h2 : d ≤ 2048) (h3 : -2048 ≤ c) (h4 : c ≤ 2048) : frX (z + d) (v + c) g = true := by
  rw [frR_iff] at h; rw [frX_iff]; omega
theorem vdg {z v g : Int} (h : frR z v g = true) (hv : ¬ v < 0) : wI (v.tdiv g) = v / g ∧ wI (v / g + 1) = v / g + 1 ∧ twG z v g (v / g) = true ∧ twG z v g (v / g + 1) = true := by
  have hx := frR_iff.1 h
  have d0 : 0 ≤ v / g := Int.ediv_nonneg (by omega) (by omega)
  have d1 : v / g ≤ v := Int.ediv_le_self _ (by omega)
  rw [Int.tdiv_eq_ediv_of_nonneg (by omega), wI_id (by omega), wI_id (by omega)]
  exact ⟨rfl, rfl, twG_R h (by omega) (by omega), twG_R h (by omega) (by omega)⟩
theorem Ab0 (z v g : Int) : Ab z v g 0 = 2 * z := by unfold Ab; omega
theorem may_eq (z v g : Int) : (bif decide (z ≥ (-2147483648 : Int)) then (bif decide (z ≤ (2147483648 : Int)) then (bif decide (v ≥ (-131072 : Int)) then (bif decide (v ≤ (131072 : Int)) then (bif decide (g ≥ (1 : Int)) then some (.v (Bo (decide (g ≤ (100 : Int)))), M0) else some (.v (Bo false), M0)) else some (.v (Bo false), M0)) else some (.v (Bo false), M0)) else some (.v (Bo false), M0)) else some (.v (Bo false), M0)) = (some (SV.v (Bo (frR z v g)), M0) : Option (SV × Mem)) := by
  unfold frR
  by_cases h1 : -2147483648 ≤ z <;> by_cases h2 : z ≤ 2147483648 <;> by_cases h3 : -131072 ≤ v <;> by_cases h4 : v ≤ 131072 <;> by_cases h5 : 1 ≤ g <;> by_cases h6 : g ≤ 100 <;> simp [h1, h2, h3, h4, h5, h6]
set_option maxRecDepth 20000 in
theorem runFaR (z : Int) (v : Int) (g : Int) : runG ΓRt L0 Try.prog Try.f59 [.v (I z), .v (I v), .v (I g)] M0 = 
    (bif decide (z ≥ (-2147483648 : Int)) then (bif decide (z ≤ (2147483648 : Int)) then (bif decide (v ≥ (-131072 : Int)) then (bif decide (v ≤ (131072 : Int)) then (bif decide (g ≥ (1 : Int)) then some (.v (Bo (decide (g ≤ (100 : Int)))), M0) else some (.v (Bo false), M0)) else some (.v (Bo false), M0)) else some (.v (Bo false), M0)) else some (.v (Bo false), M0)) else some (.v (Bo false), M0)) := by kernel_rfl
def gFaR (vs : List Value) : Option (Bool × Value) :=
  match vs with
  | [.int .i64 z, .int .i64 v, .int .i64 g] => some (true, Bo (frR z v g))
  | _ => none
theorem gFaR_ok : ∀ vs r, gFaR vs = some (true, r) → ∀ m, CallOk Try.prog 59 (vs.map .v) m (.v r) m := by
  intro vs r h
  unfold gFaR at h
  split at h
  · rename_i z v g
    obtain ⟨h1, rfl⟩ := some_t h
    refine runV (vs := [I z, I v, I g]) (Λ := L0) (m' := M0) OkRt Try.func59 rfl (fun z _ _ => l0Ok' _ z) ?_
    exact (runFaR z v g).trans (may_eq z v g)
  · cases h
noncomputable def ΓA1 : Orc := addVal 59 gFaR ΓRt
theorem OkA1 : ΓA1.Ok Try.prog := addVal_ok OkRt gFaR_ok
set_option maxRecDepth 20000 in
theorem runFaW (z : Int) (v : Int) (g : Int) (t : Int) : runG ΓA1 L0 Try.prog Try.f61 [.v (I z), .v (I v), .v (I g), .v (I t)] M0 = 
    some (.v (I (wI (wI (wI ((2 : Int) * z) + wI (wI ((2 : Int) * v) * t)) - wI (wI (g * t) * t)))), M0) := by kernel_rfl
def gFaW (vs : List Value) : Option (Bool × Value) :=
  match vs with
  | [.int .i64 z, .int .i64 v, .int .i64 g, .int .i64 t] => some (twG z v g t, I (Ab z v g t))
  | _ => none
theorem gFaW_ok : ∀ vs r, gFaW vs = some (true, r) → ∀ m, CallOk Try.prog 61 (vs.map .v) m (.v r) m := by
  intro vs r h
  unfold gFaW at h
  split at h
  · rename_i z v g t
    obtain ⟨h1, rfl⟩ := some_t h
    refine runV (vs := [I z, I v, I g, I t]) (Λ := L0) (m' := M0) OkA1 Try.func61 rfl (fun z _ _ => l0Ok' _ z) ?_
    exact (runFaW z v g t).trans (vI (tw_eq h1))
  · cases h
noncomputable def ΓA2 : Orc := addVal 61 gFaW ΓA1
theorem OkA2 : ΓA2.Ok Try.prog := addVal_ok OkA1 gFaW_ok
set_option maxRecDepth 20000 in
theorem runFaK (z : Int) (v : Int) (g : Int) : runG ΓA2 L0 Try.prog Try.f60 [.v (I z), .v (I v), .v (I g)] M0 = 
    (bif decide (z < (0 : Int)) then some (.v (I 0), M0) else (bif inI (wI (wI (v * v) + wI (wI ((2 : Int) * g) * z))) then (bif g == (0 : Int) then none else some (.v (I (wI ((wI (v + rtW (wI (wI (v * v) + wI (wI ((2 : Int) * g) * z))))).tdiv g))), M0)) else none)) := by kernel_rfl
def gFaK (vs : List Value) : Option (Bool × Value) :=
  match vs with
  | [.int .i64 z, .int .i64 v, .int .i64 g] => some (frX z v g, I (tmF z v g))
  | _ => none
theorem gFaK_ok : ∀ vs r, gFaK vs = some (true, r) → ∀ m, CallOk Try.prog 60 (vs.map .v) m (.v r) m := by
  intro vs r h
  unfold gFaK at h
  split at h
  · rename_i z v g
    obtain ⟨h1, rfl⟩ := some_t h
    refine runV (vs := [I z, I v, I g]) (Λ := L0) (m' := M0) OkA2 Try.func60 rfl (fun z _ _ => l0Ok' _ z) ?_
    exact (runFaK z v g).trans (by
      obtain ⟨e1, e2⟩ := rk_in h1
      by_cases hz : z < 0
      · rw [decide_eq_true hz]
        unfold tmF
        rw [decide_eq_true hz]
        rfl
      · rw [decide_eq_false hz, e1, e2, beq_eq_false_iff_ne.2 (show g ≠ 0 by have := frX_iff.1 h1; omega), rk_eq h1 hz]
        rfl)
  · cases h
noncomputable def ΓA3 : Orc := addVal 60 gFaK ΓA2
theorem OkA3 : ΓA3.Ok Try.prog := addVal_ok OkA2 gFaK_ok
set_option maxRecDepth 20000 in
theorem runFaM (z : Int) (v : Int) (g : Int) : runG ΓA3 L0 Try.prog Try.f30 [.v (I z), .v (I v), .v (I g)] M0 = 
    (bif decide (z ≥ (-2147483648 : Int)) then (bif decide (z ≤ (2147483648 : Int)) then (bif decide (v ≥ (-131072 : Int)) then (bif decide (v ≤ (131072 : Int)) then (bif decide (g ≥ (1 : Int)) then some (.v (Bo (decide (g ≤ (100 : Int)))), M0) else some (.v (Bo false), M0)) else some (.v (Bo false), M0)) else some (.v (Bo false), M0)) else some (.v (Bo false), M0)) else some (.v (Bo false), M0)) := by kernel_rfl
def gFaM (vs : List Value) : Option (Bool × Value) :=
  match vs with
  | [.int .i64 z, .int .i64 v, .int .i64 g] => some (true, Bo (frR z v g))
  | _ => none
theorem gFaM_ok : ∀ vs r, gFaM vs = some (true, r) → ∀ m, CallOk Try.prog 30 (vs.map .v) m (.v r) m := by
  intro vs r h
  unfold gFaM at h
  split at h
  · rename_i z v g
    obtain ⟨h1, rfl⟩ := some_t h
    refine runV (vs := [I z, I v, I g]) (Λ := L0) (m' := M0) OkA3 Try.func30 rfl (fun z _ _ => l0Ok' _ z) ?_
    exact (runFaM z v g).trans (may_eq z v g)
  · cases h
noncomputable def ΓA4 : Orc := addVal 30 gFaM ΓA3
theorem OkA4 : ΓA4.Ok Try.prog := addVal_ok OkA3 gFaM_ok
set_option maxRecDepth 20000 in
theorem runFaA (z : Int) (v : Int) (g : Int) (t : Int) : runG ΓA4 L0 Try.prog Try.f34 [.v (I z), .v (I v), .v (I g), .v (I t)] M0 = 
    some (.v (I (wI (wI (wI ((2 : Int) * z) + wI (wI ((2 : Int) * v) * t)) - wI (wI (g * t) * t)))), M0) := by kernel_rfl
def gFaA (vs : List Value) : Option (Bool × Value) :=
  match vs with
  | [.int .i64 z, .int .i64 v, .int .i64 g, .int .i64 t] => some (twG z v g t, I (Ab z v g t))
  | _ => none
theorem gFaA_ok : ∀ vs r, gFaA vs = some (true, r) → ∀ m, CallOk Try.prog 34 (vs.map .v) m (.v r) m := by
  intro vs r h
  unfold gFaA at h
  split at h
  · rename_i z v g t
    obtain ⟨h1, rfl⟩ := some_t h
    refine runV (vs := [I z, I v, I g, I t]) (Λ := L0) (m' := M0) OkA4 Try.func34 rfl (fun z _ _ => l0Ok' _ z) ?_
    exact (runFaA z v g t).trans (vI (tw_eq h1))
  · cases h
noncomputable def ΓA5 : Orc := addVal 34 gFaA ΓA4
theorem OkA5 : ΓA5.Ok Try.prog := addVal_ok OkA4 gFaA_ok
set_option maxRecDepth 20000 in
theorem runFaT (z : Int) (v : Int) (g : Int) : runG ΓA5 L0 Try.prog Try.f32 [.v (I z), .v (I v), .v (I g)] M0 = 
    (bif decide (z < (0 : Int)) then some (.v (I 0), M0) else (bif inI (wI (wI (v * v) + wI (wI ((2 : Int) * g) * z))) then (bif inW (hiW (wI (wI (v * v) + wI (wI ((2 : Int) * g) * z)))) (loW (wI (wI (v * v) + wI (wI ((2 : Int) * g) * z)))) && decide (wv (hiW (wI (wI (v * v) + wI (wI ((2 : Int) * g) * z)))) (loW (wI (wI (v * v) + wI (wI ((2 : Int) * g) * z)))) < (21267647932558653966460912964485513216 : Int)) then (bif g == (0 : Int) then none else some (.v (I (wI ((wI (v + rtW (wv (hiW (wI (wI (v * v) + wI (wI ((2 : Int) * g) * z)))) (loW (wI (wI (v * v) + wI (wI ((2 : Int) * g) * z))))))).tdiv g))), M0)) else none) else none)) := by kernel_rfl
def gFaT (vs : List Value) : Option (Bool × Value) :=
  match vs with
  | [.int .i64 z, .int .i64 v, .int .i64 g] => some (frX z v g, I (tmF z v g))
  | _ => none
theorem gFaT_ok : ∀ vs r, gFaT vs = some (true, r) → ∀ m, CallOk Try.prog 32 (vs.map .v) m (.v r) m := by
  intro vs r h
  unfold gFaT at h
  split at h
  · rename_i z v g
    obtain ⟨h1, rfl⟩ := some_t h
    refine runV (vs := [I z, I v, I g]) (Λ := L0) (m' := M0) OkA5 Try.func32 rfl (fun z _ _ => l0Ok' _ z) ?_
    exact (runFaT z v g).trans (by
      obtain ⟨e1, e2⟩ := rk_in h1
      obtain ⟨e3, e4⟩ := wv_Wn (okW_I e2)
      obtain ⟨n1, n2⟩ := frN h1
      by_cases hz : z < 0
      · rw [decide_eq_true hz]
        unfold tmF
        rw [decide_eq_true hz]
        rfl
      · rw [decide_eq_false hz, e1, e2, e4, e3, decide_eq_true (show v * v + 2 * g * z < 21267647932558653966460912964485513216 by omega), beq_eq_false_iff_ne.2 (show g ≠ 0 by have := frX_iff.1 h1; omega), rk_eq h1 hz]
        rfl)
  · cases h
noncomputable def ΓA6 : Orc := addVal 32 gFaT ΓA5
theorem OkA6 : ΓA6.Ok Try.prog := addVal_ok OkA5 gFaT_ok
set_option maxRecDepth 20000 in
theorem runFTime (z : Int) (v : Int) (g : Int) : runG ΓA6 L0 Try.prog Try.f27 [.v (I z), .v (I v), .v (I g)] M0 = 
    (bif !frR z v g then some (.v (.tuple #[(I 0), (Bo false)]), M0) else (bif frX z v g then some (.v (.tuple #[(I (tmF z v g)), (Bo true)]), M0) else none)) := by kernel_rfl
def gFTime (vs : List Value) : Option (Bool × Value) :=
  match vs with
  | [.int .i64 z, .int .i64 v, .int .i64 g] => some (true, .tuple #[I (bif frR z v g then tmF z v g else 0), Bo (frR z v g)])
  | _ => none
theorem gFTime_ok : ∀ vs r, gFTime vs = some (true, r) → ∀ m, CallOk Try.prog 27 (vs.map .v) m (.v r) m := by
  intro vs r h
  unfold gFTime at h
  split at h
  · rename_i z v g
    obtain ⟨h1, rfl⟩ := some_t h
    refine runV (vs := [I z, I v, I g]) (Λ := L0) (m' := M0) OkA6 Try.func27 rfl (fun z _ _ => l0Ok' _ z) ?_
    exact (runFTime z v g).trans (by
      cases h : frR z v g
      · rfl
      · rw [frR_X h]; rfl)
  · cases h
noncomputable def ΓA7 : Orc := addVal 27 gFTime ΓA6
theorem OkA7 : ΓA7.Ok Try.prog := addVal_ok OkA6 gFTime_ok
set_option maxRecDepth 20000 in
theorem runFAbove (z : Int) (v : Int) (g : Int) (t : Int) : runG ΓA7 L0 Try.prog Try.f28 [.v (I z), .v (I v), .v (I g), .v (I t)] M0 = 
    (bif !frR z v g then some (.v (.tuple #[(I 0), (Bo false)]), M0) else (bif decide (t < (0 : Int)) then some (.v (.tuple #[(I 0), (Bo false)]), M0) else (bif decide (t > (16777216 : Int)) then some (.v (.tuple #[(I 0), (Bo false)]), M0) else (bif twG z v g t then some (.v (.tuple #[(I (Ab z v g t)), (Bo true)]), M0) else none)))) := by kernel_rfl
def gFAbove (vs : List Value) : Option (Bool × Value) :=
  match vs with
  | [.int .i64 z, .int .i64 v, .int .i64 g, .int .i64 t] => some (true, .tuple #[I (bif frR z v g && decide (0 ≤ t ∧ t ≤ 16777216) then Ab z v g t else 0), Bo (frR z v g && decide (0 ≤ t ∧ t ≤ 16777216))])
  | _ => none
theorem gFAbove_ok : ∀ vs r, gFAbove vs = some (true, r) → ∀ m, CallOk Try.prog 28 (vs.map .v) m (.v r) m := by
  intro vs r h
  unfold gFAbove at h
  split at h
  · rename_i z v g t
    obtain ⟨h1, rfl⟩ := some_t h
    refine runV (vs := [I z, I v, I g, I t]) (Λ := L0) (m' := M0) OkA7 Try.func28 rfl (fun z _ _ => l0Ok' _ z) ?_
    exact (runFAbove z v g t).trans (by
      cases h : frR z v g
      · rfl
      · simp only [Bool.not_true, cond_false, Bool.true_and]
        by_cases h2 : t < 0
        · rw [decide_eq_true h2, decide_eq_false (show ¬ (0 ≤ t ∧ t ≤ 16777216) by omega)]; rfl
        · by_cases h3 : t > 16777216
          · rw [decide_eq_false h2, decide_eq_true h3, decide_eq_false (show ¬ (0 ≤ t ∧ t ≤ 16777216) by omega)]; rfl
          · rw [decide_eq_false h2, decide_eq_false h3, decide_eq_true (show (0 ≤ t ∧ t ≤ 16777216) by omega), twG_R h (by omega) (by omega)]; rfl)
  · cases h
noncomputable def ΓA8 : Orc := addVal 28 gFAbove ΓA7
theorem OkA8 : ΓA8.Ok Try.prog := addVal_ok OkA7 gFAbove_ok
set_option maxRecDepth 20000 in
theorem runFSpan (z : Int) (v : Int) (g : Int) (e : Int) : runG ΓA8 L0 Try.prog Try.f35 [.v (I z), .v (I v), .v (I g), .v (I e)] M0 = 
    (bif !frR z v g then some (.v (.tuple #[(I 0), (I 0), (Bo false)]), M0) else (bif decide (e < (0 : Int)) then some (.v (.tuple #[(I 0), (I 0), (Bo false)]), M0) else (bif decide (e > (2048 : Int)) then some (.v (.tuple #[(I 0), (I 0), (Bo false)]), M0) else (bif frX (wI (z - e)) (wI (v - e)) g then (bif frX (wI (z + e)) (wI (v + e)) g then some (.v (.tuple #[(I (tmF (wI (z - e)) (wI (v - e)) g)), (I (wI (tmF (wI (z + e)) (wI (v + e)) g + (2 : Int)))), (Bo true)]), M0) else none) else none)))) := by kernel_rfl
def gFSpan (vs : List Value) : Option (Bool × Value) :=
  match vs with
  | [.int .i64 z, .int .i64 v, .int .i64 g, .int .i64 e] => some (true, .tuple #[I (bif frR z v g && decide (0 ≤ e ∧ e ≤ 2048) then tmF (z - e) (v - e) g else 0), I (bif frR z v g && decide (0 ≤ e ∧ e ≤ 2048) then tmF (z + e) (v + e) g + 2 else 0), Bo (frR z v g && decide (0 ≤ e ∧ e ≤ 2048))])
  | _ => none
theorem gFSpan_ok : ∀ vs r, gFSpan vs = some (true, r) → ∀ m, CallOk Try.prog 35 (vs.map .v) m (.v r) m := by
  intro vs r h
  unfold gFSpan at h
  split at h
  · rename_i z v g e
    obtain ⟨h1, rfl⟩ := some_t h
    refine runV (vs := [I z, I v, I g, I e]) (Λ := L0) (m' := M0) OkA8 Try.func35 rfl (fun z _ _ => l0Ok' _ z) ?_
    exact (runFSpan z v g e).trans (by
      cases h : frR z v g
      · rfl
      · simp only [Bool.not_true, cond_false, Bool.true_and]
        by_cases h2 : e < 0
        · rw [decide_eq_true h2, decide_eq_false (show ¬ (0 ≤ e ∧ e ≤ 2048) by omega)]; rfl
        · by_cases h3 : e > 2048
          · rw [decide_eq_false h2, decide_eq_true h3, decide_eq_false (show ¬ (0 ≤ e ∧ e ≤ 2048) by omega)]; rfl
          · have hx := frR_iff.1 h
            have k1 : frX (z - e) (v - e) g = true := by rw [Int.sub_eq_add_neg, Int.sub_eq_add_neg]; exact frX_e h (by omega) (by omega) (by omega) (by omega)
            have k2 : frX (z + e) (v + e) g = true := frX_e h (by omega) (by omega) (by omega) (by omega)
            have k3 := tm_nonneg k2
            have k4 := tm_le k2
            rw [decide_eq_false h2, decide_eq_false h3, decide_eq_true (show (0 ≤ e ∧ e ≤ 2048) by omega), wI_id (n := z - e) (by omega), wI_id (n := v - e) (by omega), wI_id (n := z + e) (by omega), wI_id (n := v + e) (by omega), k1, k2, wI_id (n := tmF (z + e) (v + e) g + 2) (by omega)]; rfl)
  · cases h
noncomputable def ΓA9 : Orc := addVal 35 gFSpan ΓA8
theorem OkA9 : ΓA9.Ok Try.prog := addVal_ok OkA8 gFSpan_ok
set_option maxRecDepth 20000 in
theorem runFTop (z : Int) (v : Int) (g : Int) : runG ΓA9 L0 Try.prog Try.f29 [.v (I z), .v (I v), .v (I g)] M0 = 
    (bif !frR z v g then some (.v (.tuple #[(I 0), (Bo false)]), M0) else (bif decide (v < (0 : Int)) then (bif twG z v g (0 : Int) then some (.v (.tuple #[(I (Ab z v g (0 : Int))), (Bo true)]), M0) else none) else (bif g == (0 : Int) then none else (bif twG z v g (0 : Int) then (bif twG z v g (wI (v.tdiv g)) then (bif twG z v g (wI (wI (v.tdiv g) + (1 : Int))) then some (.v (.tuple #[(I (if Ab z v g (wI (wI (v.tdiv g) + (1 : Int))) > if Ab z v g (wI (v.tdiv g)) > Ab z v g (0 : Int) then Ab z v g (wI (v.tdiv g)) else Ab z v g (0 : Int) then Ab z v g (wI (wI (v.tdiv g) + (1 : Int))) else if Ab z v g (wI (v.tdiv g)) > Ab z v g (0 : Int) then Ab z v g (wI (v.tdiv g)) else Ab z v g (0 : Int))), (Bo true)]), M0) else none) else none) else none)))) := by kernel_rfl
def gFTop (vs : List Value) : Option (Bool × Value) :=
  match vs with
  | [.int .i64 z, .int .i64 v, .int .i64 g] => some (true, .tuple #[I (bif frR z v g then topF z v g else 0), Bo (frR z v g)])
  | _ => none
theorem gFTop_ok : ∀ vs r, gFTop vs = some (true, r) → ∀ m, CallOk Try.prog 29 (vs.map .v) m (.v r) m := by
  intro vs r h
  unfold gFTop at h
  split at h
  · rename_i z v g
    obtain ⟨h1, rfl⟩ := some_t h
    refine runV (vs := [I z, I v, I g]) (Λ := L0) (m' := M0) OkA9 Try.func29 rfl (fun z _ _ => l0Ok' _ z) ?_
    exact (runFTop z v g).trans (by
      cases h : frR z v g
      · rfl
      · simp only [Bool.not_true, cond_false, cond_true]
        unfold topF
        rw [twG_R h (by omega) (by omega), Ab0]
        by_cases h2 : v < 0
        · rw [decide_eq_true h2]; rfl
        · obtain ⟨e1, e2, e3, e4⟩ := vdg h h2
          rw [decide_eq_false h2, e1, e2, e3, e4, beq_eq_false_iff_ne.2 (show g ≠ 0 by have := frR_iff.1 h; omega)]
          rfl)
  · cases h
noncomputable def ΓA10 : Orc := addVal 29 gFTop ΓA9
theorem OkA10 : ΓA10.Ok Try.prog := addVal_ok OkA9 gFTop_ok
set_option maxRecDepth 20000 in
theorem runRFTop (z : Int) (v : Int) (g : Int) : runG ΓA10 L0 Try.prog Try.f33 [.v (I z), .v (I v), .v (I g)] M0 = 
    (bif decide (v < (0 : Int)) then some (.v (I (wI ((2 : Int) * z))), M0) else (bif g == (0 : Int) then none else (bif twG z v g (wI (v.tdiv g)) then (bif g == (0 : Int) then none else (bif twG z v g (wI (wI (v.tdiv g) + (1 : Int))) then some (.v (I (if Ab z v g (wI (wI (v.tdiv g) + (1 : Int))) > if Ab z v g (wI (v.tdiv g)) > wI ((2 : Int) * z) then Ab z v g (wI (v.tdiv g)) else wI ((2 : Int) * z) then Ab z v g (wI (wI (v.tdiv g) + (1 : Int))) else if Ab z v g (wI (v.tdiv g)) > wI ((2 : Int) * z) then Ab z v g (wI (v.tdiv g)) else wI ((2 : Int) * z))), M0) else none)) else none))) := by kernel_rfl
def gRFTop (vs : List Value) : Option (Bool × Value) :=
  match vs with
  | [.int .i64 z, .int .i64 v, .int .i64 g] => some (frR z v g, I (topF z v g))
  | _ => none
theorem gRFTop_ok : ∀ vs r, gRFTop vs = some (true, r) → ∀ m, CallOk Try.prog 33 (vs.map .v) m (.v r) m := by
  intro vs r h
  unfold gRFTop at h
  split at h
  · rename_i z v g
    obtain ⟨h1, rfl⟩ := some_t h
    refine runV (vs := [I z, I v, I g]) (Λ := L0) (m' := M0) OkA10 Try.func33 rfl (fun z _ _ => l0Ok' _ z) ?_
    exact (runRFTop z v g).trans (by
      have h := h1
      unfold topF
      have hx := frR_iff.1 h
      rw [wI_id (n := 2 * z) (by omega)]
      by_cases h2 : v < 0
      · rw [decide_eq_true h2]; rfl
      · obtain ⟨e1, e2, e3, e4⟩ := vdg h h2
        rw [decide_eq_false h2, e1, e2, e3, e4, beq_eq_false_iff_ne.2 (show g ≠ 0 by omega)]
        rfl)
  · cases h
noncomputable def ΓA11 : Orc := addVal 33 gRFTop ΓA10
theorem OkA11 : ΓA11.Ok Try.prog := addVal_ok OkA10 gRFTop_ok
noncomputable def ΓFa : Orc := ΓA11
theorem OkFa : ΓFa.Ok Try.prog := OkA11
end Go.Proofs.Ytnelbjbphkfkkaa

namespace Go.Proofs.Ytnelbjbphkfkkaa
open Go Go.Proofs Go.Sx
noncomputable def Γx17 : Orc := exec Try.prog ΓFa.call ΓFa.rd ΓFa.eqv (fun _ => false) 30 3
theorem Okx17 : Γx17.Ok Try.prog := exec_ok mixed names (ext := ΓFa.call) (rd := ΓFa.rd) (eqv := ΓFa.eqv) ⟨OkFa.call, OkFa.rd, OkFa.eqv⟩ 30 3
set_option maxRecDepth 100000 in
theorem runAwake17 : runG Γx17 (loopX Γx17 Try.prog 30 2) Try.prog Try.f31 [] M0 = some (.v (Bo true), M0) := by kernel_rfl
def gAwake17 (vs : List Value) : Option (Bool × Value) :=
  match vs with
  | [] => some (true, Bo true)
  | _ => none
theorem gAwake17_ok : ∀ vs r, gAwake17 vs = some (true, r) → ∀ m, CallOk Try.prog 31 (vs.map .v) m (.v r) m := by
  intro vs r h
  unfold gAwake17 at h
  split at h
  · obtain ⟨_, rfl⟩ := some_t h
    exact runV (vs := []) Okx17 Try.func31 rfl (fun z _ _ b hb => loopX_ok Okx17 mixed 30 2 b) runAwake17
  · cases h
noncomputable def ΓFx : Orc := addVal 31 gAwake17 ΓFa
theorem OkFx : ΓFx.Ok Try.prog := addVal_ok OkFa gAwake17_ok
end Go.Proofs.Ytnelbjbphkfkkaa

namespace Go.Proofs.Ytnelbjbphkfkkaa
open Go Go.Proofs Go.Sx
set_option linter.unusedVariables false
/-! norm -/
/-! cast -/
set_option maxRecDepth 40000 in
theorem treeFallTells (z v g t : Int) : runG ΓFx L0 Try.prog Try.f7 [.v (I z), .v (I v), .v (I g), .v (I t)] M0 = 
    (bif !frR z v g == frR z v g then some (.v (Bo false), M0) else (bif !frR z v g == frR z v g then some (.v (Bo false), M0) else (bif frR z v g then (bif decide (t ≥ (0 : Int)) then (bif !(frR z v g && decide ((0 : Int) ≤ t ∧ t ≤ (16777216 : Int))) == decide (t ≤ (16777216 : Int)) then some (.v (Bo false), M0) else (bif !frR z v g then (bif (bif frR z v g then tmF z v g else (0 : Int)) == (0 : Int) then (bif (bif frR z v g && decide ((0 : Int) ≤ t ∧ t ≤ (16777216 : Int)) then Ab z v g t else (0 : Int)) == (0 : Int) then some (.v (Bo ((bif frR z v g then topF z v g else (0 : Int)) == (0 : Int))), M0) else some (.v (Bo false), M0)) else some (.v (Bo false), M0)) else (bif frX z v g then (bif (bif frR z v g then tmF z v g else (0 : Int)) == tmF z v g then (bif frR z v g then (bif (bif frR z v g then topF z v g else (0 : Int)) == topF z v g then (bif !(frR z v g && decide ((0 : Int) ≤ t ∧ t ≤ (16777216 : Int))) then (bif (bif frR z v g && decide ((0 : Int) ≤ t ∧ t ≤ (16777216 : Int)) then Ab z v g t else (0 : Int)) == (0 : Int) then some (.v (Bo true), M0) else (bif frR z v g && decide ((0 : Int) ≤ t ∧ t ≤ (16777216 : Int)) then (bif twG z v g t then some (.v (Bo ((bif frR z v g && decide ((0 : Int) ≤ t ∧ t ≤ (16777216 : Int)) then Ab z v g t else (0 : Int)) == Ab z v g t)), M0) else none) else some (.v (Bo false), M0))) else (bif frR z v g && decide ((0 : Int) ≤ t ∧ t ≤ (16777216 : Int)) then (bif twG z v g t then some (.v (Bo ((bif frR z v g && decide ((0 : Int) ≤ t ∧ t ≤ (16777216 : Int)) then Ab z v g t else (0 : Int)) == Ab z v g t)), M0) else none) else some (.v (Bo false), M0))) else some (.v (Bo false), M0)) else none) else some (.v (Bo false), M0)) else none))) else (bif !(frR z v g && decide ((0 : Int) ≤ t ∧ t ≤ (16777216 : Int))) == false then some (.v (Bo false), M0) else (bif !frR z v g then (bif (bif frR z v g then tmF z v g else (0 : Int)) == (0 : Int) then (bif (bif frR z v g && decide ((0 : Int) ≤ t ∧ t ≤ (16777216 : Int)) then Ab z v g t else (0 : Int)) == (0 : Int) then some (.v (Bo ((bif frR z v g then topF z v g else (0 : Int)) == (0 : Int))), M0) else some (.v (Bo false), M0)) else some (.v (Bo false), M0)) else (bif frX z v g then (bif (bif frR z v g then tmF z v g else (0 : Int)) == tmF z v g then (bif frR z v g then (bif (bif frR z v g then topF z v g else (0 : Int)) == topF z v g then (bif !(frR z v g && decide ((0 : Int) ≤ t ∧ t ≤ (16777216 : Int))) then (bif (bif frR z v g && decide ((0 : Int) ≤ t ∧ t ≤ (16777216 : Int)) then Ab z v g t else (0 : Int)) == (0 : Int) then some (.v (Bo true), M0) else (bif frR z v g && decide ((0 : Int) ≤ t ∧ t ≤ (16777216 : Int)) then (bif twG z v g t then some (.v (Bo ((bif frR z v g && decide ((0 : Int) ≤ t ∧ t ≤ (16777216 : Int)) then Ab z v g t else (0 : Int)) == Ab z v g t)), M0) else none) else some (.v (Bo false), M0))) else (bif frR z v g && decide ((0 : Int) ≤ t ∧ t ≤ (16777216 : Int)) then (bif twG z v g t then some (.v (Bo ((bif frR z v g && decide ((0 : Int) ≤ t ∧ t ≤ (16777216 : Int)) then Ab z v g t else (0 : Int)) == Ab z v g t)), M0) else none) else some (.v (Bo false), M0))) else some (.v (Bo false), M0)) else none) else some (.v (Bo false), M0)) else none)))) else (bif !(frR z v g && decide ((0 : Int) ≤ t ∧ t ≤ (16777216 : Int))) == false then some (.v (Bo false), M0) else (bif !frR z v g then (bif (bif frR z v g then tmF z v g else (0 : Int)) == (0 : Int) then (bif (bif frR z v g && decide ((0 : Int) ≤ t ∧ t ≤ (16777216 : Int)) then Ab z v g t else (0 : Int)) == (0 : Int) then some (.v (Bo ((bif frR z v g then topF z v g else (0 : Int)) == (0 : Int))), M0) else some (.v (Bo false), M0)) else some (.v (Bo false), M0)) else (bif frX z v g then (bif (bif frR z v g then tmF z v g else (0 : Int)) == tmF z v g then (bif frR z v g then (bif (bif frR z v g then topF z v g else (0 : Int)) == topF z v g then (bif !(frR z v g && decide ((0 : Int) ≤ t ∧ t ≤ (16777216 : Int))) then (bif (bif frR z v g && decide ((0 : Int) ≤ t ∧ t ≤ (16777216 : Int)) then Ab z v g t else (0 : Int)) == (0 : Int) then some (.v (Bo true), M0) else (bif frR z v g && decide ((0 : Int) ≤ t ∧ t ≤ (16777216 : Int)) then (bif twG z v g t then some (.v (Bo ((bif frR z v g && decide ((0 : Int) ≤ t ∧ t ≤ (16777216 : Int)) then Ab z v g t else (0 : Int)) == Ab z v g t)), M0) else none) else some (.v (Bo false), M0))) else (bif frR z v g && decide ((0 : Int) ≤ t ∧ t ≤ (16777216 : Int)) then (bif twG z v g t then some (.v (Bo ((bif frR z v g && decide ((0 : Int) ≤ t ∧ t ≤ (16777216 : Int)) then Ab z v g t else (0 : Int)) == Ab z v g t)), M0) else none) else some (.v (Bo false), M0))) else some (.v (Bo false), M0)) else none) else some (.v (Bo false), M0)) else none)))))) := by kernel_rfl
set_option maxRecDepth 40000 in
theorem treeFallSure (z v g : Int) : runG ΓFx L0 Try.prog Try.f8 [.v (I z), .v (I v), .v (I g)] M0 = 
    (bif frR (wI ((BitVec.ofInt (64 : Nat) z &&& BitVec.ofInt (64 : Nat) (2147483647 : Int)).toNat : Int)) (v.tmod (131072 : Int)) (wI ((1 : Int) + wI ((IntKind.u64.wrap g).tmod (100 : Int)))) then (bif decide ((bif frR (wI ((BitVec.ofInt (64 : Nat) z &&& BitVec.ofInt (64 : Nat) (2147483647 : Int)).toNat : Int)) (v.tmod (131072 : Int)) (wI ((1 : Int) + wI ((IntKind.u64.wrap g).tmod (100 : Int)))) then tmF (wI ((BitVec.ofInt (64 : Nat) z &&& BitVec.ofInt (64 : Nat) (2147483647 : Int)).toNat : Int)) (v.tmod (131072 : Int)) (wI ((1 : Int) + wI ((IntKind.u64.wrap g).tmod (100 : Int)))) else (0 : Int)) ≥ (0 : Int)) then (bif twG (wI ((BitVec.ofInt (64 : Nat) z &&& BitVec.ofInt (64 : Nat) (2147483647 : Int)).toNat : Int)) (v.tmod (131072 : Int)) (wI ((1 : Int) + wI ((IntKind.u64.wrap g).tmod (100 : Int)))) (bif frR (wI ((BitVec.ofInt (64 : Nat) z &&& BitVec.ofInt (64 : Nat) (2147483647 : Int)).toNat : Int)) (v.tmod (131072 : Int)) (wI ((1 : Int) + wI ((IntKind.u64.wrap g).tmod (100 : Int)))) then tmF (wI ((BitVec.ofInt (64 : Nat) z &&& BitVec.ofInt (64 : Nat) (2147483647 : Int)).toNat : Int)) (v.tmod (131072 : Int)) (wI ((1 : Int) + wI ((IntKind.u64.wrap g).tmod (100 : Int)))) else (0 : Int)) then (bif decide (Ab (wI ((BitVec.ofInt (64 : Nat) z &&& BitVec.ofInt (64 : Nat) (2147483647 : Int)).toNat : Int)) (v.tmod (131072 : Int)) (wI ((1 : Int) + wI ((IntKind.u64.wrap g).tmod (100 : Int)))) (bif frR (wI ((BitVec.ofInt (64 : Nat) z &&& BitVec.ofInt (64 : Nat) (2147483647 : Int)).toNat : Int)) (v.tmod (131072 : Int)) (wI ((1 : Int) + wI ((IntKind.u64.wrap g).tmod (100 : Int)))) then tmF (wI ((BitVec.ofInt (64 : Nat) z &&& BitVec.ofInt (64 : Nat) (2147483647 : Int)).toNat : Int)) (v.tmod (131072 : Int)) (wI ((1 : Int) + wI ((IntKind.u64.wrap g).tmod (100 : Int)))) else (0 : Int)) ≥ (0 : Int)) then (bif twG (wI ((BitVec.ofInt (64 : Nat) z &&& BitVec.ofInt (64 : Nat) (2147483647 : Int)).toNat : Int)) (v.tmod (131072 : Int)) (wI ((1 : Int) + wI ((IntKind.u64.wrap g).tmod (100 : Int)))) (wI ((bif frR (wI ((BitVec.ofInt (64 : Nat) z &&& BitVec.ofInt (64 : Nat) (2147483647 : Int)).toNat : Int)) (v.tmod (131072 : Int)) (wI ((1 : Int) + wI ((IntKind.u64.wrap g).tmod (100 : Int)))) then tmF (wI ((BitVec.ofInt (64 : Nat) z &&& BitVec.ofInt (64 : Nat) (2147483647 : Int)).toNat : Int)) (v.tmod (131072 : Int)) (wI ((1 : Int) + wI ((IntKind.u64.wrap g).tmod (100 : Int)))) else (0 : Int)) + (2 : Int))) then some (.v (Bo (decide (Ab (wI ((BitVec.ofInt (64 : Nat) z &&& BitVec.ofInt (64 : Nat) (2147483647 : Int)).toNat : Int)) (v.tmod (131072 : Int)) (wI ((1 : Int) + wI ((IntKind.u64.wrap g).tmod (100 : Int)))) (wI ((bif frR (wI ((BitVec.ofInt (64 : Nat) z &&& BitVec.ofInt (64 : Nat) (2147483647 : Int)).toNat : Int)) (v.tmod (131072 : Int)) (wI ((1 : Int) + wI ((IntKind.u64.wrap g).tmod (100 : Int)))) then tmF (wI ((BitVec.ofInt (64 : Nat) z &&& BitVec.ofInt (64 : Nat) (2147483647 : Int)).toNat : Int)) (v.tmod (131072 : Int)) (wI ((1 : Int) + wI ((IntKind.u64.wrap g).tmod (100 : Int)))) else (0 : Int)) + (2 : Int))) < (0 : Int)))), M0) else none) else some (.v (Bo false), M0)) else none) else some (.v (Bo false), M0)) else some (.v (Bo false), M0)) := by kernel_rfl
set_option maxRecDepth 40000 in
theorem treeFallRises (z v g d e : Int) : runG ΓFx L0 Try.prog Try.f9 [.v (I z), .v (I v), .v (I g), .v (I d), .v (I e)] M0 = 
    (bif frR (z.tmod (1073741824 : Int)) (v.tmod (65536 : Int)) (wI ((1 : Int) + wI ((IntKind.u64.wrap g).tmod (99 : Int)))) then (bif frR (wI (z.tmod (1073741824 : Int) + wI ((BitVec.ofInt (64 : Nat) d &&& BitVec.ofInt (64 : Nat) (1073741823 : Int)).toNat : Int))) (v.tmod (65536 : Int)) (wI ((1 : Int) + wI ((IntKind.u64.wrap g).tmod (99 : Int)))) then (bif frR (z.tmod (1073741824 : Int)) (wI (v.tmod (65536 : Int) + wI ((BitVec.ofInt (64 : Nat) e &&& BitVec.ofInt (64 : Nat) (65535 : Int)).toNat : Int))) (wI ((1 : Int) + wI ((IntKind.u64.wrap g).tmod (99 : Int)))) then (bif frR (z.tmod (1073741824 : Int)) (v.tmod (65536 : Int)) (wI (wI ((1 : Int) + wI ((IntKind.u64.wrap g).tmod (99 : Int))) + (1 : Int))) then (bif decide ((bif frR (wI (z.tmod (1073741824 : Int) + wI ((BitVec.ofInt (64 : Nat) d &&& BitVec.ofInt (64 : Nat) (1073741823 : Int)).toNat : Int))) (v.tmod (65536 : Int)) (wI ((1 : Int) + wI ((IntKind.u64.wrap g).tmod (99 : Int)))) then tmF (wI (z.tmod (1073741824 : Int) + wI ((BitVec.ofInt (64 : Nat) d &&& BitVec.ofInt (64 : Nat) (1073741823 : Int)).toNat : Int))) (v.tmod (65536 : Int)) (wI ((1 : Int) + wI ((IntKind.u64.wrap g).tmod (99 : Int)))) else (0 : Int)) ≥ bif frR (z.tmod (1073741824 : Int)) (v.tmod (65536 : Int)) (wI ((1 : Int) + wI ((IntKind.u64.wrap g).tmod (99 : Int)))) then tmF (z.tmod (1073741824 : Int)) (v.tmod (65536 : Int)) (wI ((1 : Int) + wI ((IntKind.u64.wrap g).tmod (99 : Int)))) else (0 : Int)) then (bif decide ((bif frR (z.tmod (1073741824 : Int)) (wI (v.tmod (65536 : Int) + wI ((BitVec.ofInt (64 : Nat) e &&& BitVec.ofInt (64 : Nat) (65535 : Int)).toNat : Int))) (wI ((1 : Int) + wI ((IntKind.u64.wrap g).tmod (99 : Int)))) then tmF (z.tmod (1073741824 : Int)) (wI (v.tmod (65536 : Int) + wI ((BitVec.ofInt (64 : Nat) e &&& BitVec.ofInt (64 : Nat) (65535 : Int)).toNat : Int))) (wI ((1 : Int) + wI ((IntKind.u64.wrap g).tmod (99 : Int)))) else (0 : Int)) ≥ bif frR (z.tmod (1073741824 : Int)) (v.tmod (65536 : Int)) (wI ((1 : Int) + wI ((IntKind.u64.wrap g).tmod (99 : Int)))) then tmF (z.tmod (1073741824 : Int)) (v.tmod (65536 : Int)) (wI ((1 : Int) + wI ((IntKind.u64.wrap g).tmod (99 : Int)))) else (0 : Int)) then (bif decide (v.tmod (65536 : Int) < (0 : Int)) then some (.v (Bo true), M0) else some (.v (Bo (decide ((bif frR (z.tmod (1073741824 : Int)) (v.tmod (65536 : Int)) (wI (wI ((1 : Int) + wI ((IntKind.u64.wrap g).tmod (99 : Int))) + (1 : Int))) then tmF (z.tmod (1073741824 : Int)) (v.tmod (65536 : Int)) (wI (wI ((1 : Int) + wI ((IntKind.u64.wrap g).tmod (99 : Int))) + (1 : Int))) else (0 : Int)) ≤ wI ((bif frR (z.tmod (1073741824 : Int)) (v.tmod (65536 : Int)) (wI ((1 : Int) + wI ((IntKind.u64.wrap g).tmod (99 : Int)))) then tmF (z.tmod (1073741824 : Int)) (v.tmod (65536 : Int)) (wI ((1 : Int) + wI ((IntKind.u64.wrap g).tmod (99 : Int)))) else (0 : Int)) + (1 : Int))))), M0)) else some (.v (Bo false), M0)) else some (.v (Bo false), M0)) else some (.v (Bo false), M0)) else some (.v (Bo false), M0)) else some (.v (Bo false), M0)) else some (.v (Bo false), M0)) := by kernel_rfl
set_option maxRecDepth 40000 in
theorem treeFallSpan (z v g e d c : Int) : runG ΓFx L0 Try.prog Try.f10 [.v (I z), .v (I v), .v (I g), .v (I e), .v (I d), .v (I c)] M0 = 
    (bif !(frR (wI ((BitVec.ofInt (64 : Nat) z &&& BitVec.ofInt (64 : Nat) (1073741823 : Int)).toNat : Int)) (v.tmod (65536 : Int)) (wI ((1 : Int) + wI ((IntKind.u64.wrap g).tmod (100 : Int)))) && decide ((0 : Int) ≤ wI ((BitVec.ofInt (64 : Nat) e &&& BitVec.ofInt (64 : Nat) (1023 : Int)).toNat : Int) ∧ wI ((BitVec.ofInt (64 : Nat) e &&& BitVec.ofInt (64 : Nat) (1023 : Int)).toNat : Int) ≤ (2048 : Int))) then some (.v (Bo false), M0) else (bif decide ((bif frR (wI ((BitVec.ofInt (64 : Nat) z &&& BitVec.ofInt (64 : Nat) (1073741823 : Int)).toNat : Int)) (v.tmod (65536 : Int)) (wI ((1 : Int) + wI ((IntKind.u64.wrap g).tmod (100 : Int)))) && decide ((0 : Int) ≤ wI ((BitVec.ofInt (64 : Nat) e &&& BitVec.ofInt (64 : Nat) (1023 : Int)).toNat : Int) ∧ wI ((BitVec.ofInt (64 : Nat) e &&& BitVec.ofInt (64 : Nat) (1023 : Int)).toNat : Int) ≤ (2048 : Int)) then tmF (wI ((BitVec.ofInt (64 : Nat) z &&& BitVec.ofInt (64 : Nat) (1073741823 : Int)).toNat : Int) - wI ((BitVec.ofInt (64 : Nat) e &&& BitVec.ofInt (64 : Nat) (1023 : Int)).toNat : Int)) (v.tmod (65536 : Int) - wI ((BitVec.ofInt (64 : Nat) e &&& BitVec.ofInt (64 : Nat) (1023 : Int)).toNat : Int)) (wI ((1 : Int) + wI ((IntKind.u64.wrap g).tmod (100 : Int)))) else (0 : Int)) > bif frR (wI ((BitVec.ofInt (64 : Nat) z &&& BitVec.ofInt (64 : Nat) (1073741823 : Int)).toNat : Int)) (v.tmod (65536 : Int)) (wI ((1 : Int) + wI ((IntKind.u64.wrap g).tmod (100 : Int)))) && decide ((0 : Int) ≤ wI ((BitVec.ofInt (64 : Nat) e &&& BitVec.ofInt (64 : Nat) (1023 : Int)).toNat : Int) ∧ wI ((BitVec.ofInt (64 : Nat) e &&& BitVec.ofInt (64 : Nat) (1023 : Int)).toNat : Int) ≤ (2048 : Int)) then tmF (wI ((BitVec.ofInt (64 : Nat) z &&& BitVec.ofInt (64 : Nat) (1073741823 : Int)).toNat : Int) + wI ((BitVec.ofInt (64 : Nat) e &&& BitVec.ofInt (64 : Nat) (1023 : Int)).toNat : Int)) (v.tmod (65536 : Int) + wI ((BitVec.ofInt (64 : Nat) e &&& BitVec.ofInt (64 : Nat) (1023 : Int)).toNat : Int)) (wI ((1 : Int) + wI ((IntKind.u64.wrap g).tmod (100 : Int)))) + (2 : Int) else (0 : Int)) then some (.v (Bo false), M0) else (bif wI (wI ((BitVec.ofInt (64 : Nat) e &&& BitVec.ofInt (64 : Nat) (1023 : Int)).toNat : Int) + (1 : Int)) == (0 : Int) then none else (bif wI (wI ((BitVec.ofInt (64 : Nat) e &&& BitVec.ofInt (64 : Nat) (1023 : Int)).toNat : Int) + (1 : Int)) == (0 : Int) then none else (bif decide (wI (wI ((BitVec.ofInt (64 : Nat) z &&& BitVec.ofInt (64 : Nat) (1073741823 : Int)).toNat : Int) + d.tmod (wI (wI ((BitVec.ofInt (64 : Nat) e &&& BitVec.ofInt (64 : Nat) (1023 : Int)).toNat : Int) + (1 : Int)))) < (0 : Int)) then some (.v (Bo true), M0) else (bif twG (wI (wI ((BitVec.ofInt (64 : Nat) z &&& BitVec.ofInt (64 : Nat) (1073741823 : Int)).toNat : Int) + d.tmod (wI (wI ((BitVec.ofInt (64 : Nat) e &&& BitVec.ofInt (64 : Nat) (1023 : Int)).toNat : Int) + (1 : Int))))) (wI (v.tmod (65536 : Int) + c.tmod (wI (wI ((BitVec.ofInt (64 : Nat) e &&& BitVec.ofInt (64 : Nat) (1023 : Int)).toNat : Int) + (1 : Int))))) (wI ((1 : Int) + wI ((IntKind.u64.wrap g).tmod (100 : Int)))) (bif frR (wI ((BitVec.ofInt (64 : Nat) z &&& BitVec.ofInt (64 : Nat) (1073741823 : Int)).toNat : Int)) (v.tmod (65536 : Int)) (wI ((1 : Int) + wI ((IntKind.u64.wrap g).tmod (100 : Int)))) && decide ((0 : Int) ≤ wI ((BitVec.ofInt (64 : Nat) e &&& BitVec.ofInt (64 : Nat) (1023 : Int)).toNat : Int) ∧ wI ((BitVec.ofInt (64 : Nat) e &&& BitVec.ofInt (64 : Nat) (1023 : Int)).toNat : Int) ≤ (2048 : Int)) then tmF (wI ((BitVec.ofInt (64 : Nat) z &&& BitVec.ofInt (64 : Nat) (1073741823 : Int)).toNat : Int) - wI ((BitVec.ofInt (64 : Nat) e &&& BitVec.ofInt (64 : Nat) (1023 : Int)).toNat : Int)) (v.tmod (65536 : Int) - wI ((BitVec.ofInt (64 : Nat) e &&& BitVec.ofInt (64 : Nat) (1023 : Int)).toNat : Int)) (wI ((1 : Int) + wI ((IntKind.u64.wrap g).tmod (100 : Int)))) else (0 : Int)) then (bif decide (Ab (wI (wI ((BitVec.ofInt (64 : Nat) z &&& BitVec.ofInt (64 : Nat) (1073741823 : Int)).toNat : Int) + d.tmod (wI (wI ((BitVec.ofInt (64 : Nat) e &&& BitVec.ofInt (64 : Nat) (1023 : Int)).toNat : Int) + (1 : Int))))) (wI (v.tmod (65536 : Int) + c.tmod (wI (wI ((BitVec.ofInt (64 : Nat) e &&& BitVec.ofInt (64 : Nat) (1023 : Int)).toNat : Int) + (1 : Int))))) (wI ((1 : Int) + wI ((IntKind.u64.wrap g).tmod (100 : Int)))) (bif frR (wI ((BitVec.ofInt (64 : Nat) z &&& BitVec.ofInt (64 : Nat) (1073741823 : Int)).toNat : Int)) (v.tmod (65536 : Int)) (wI ((1 : Int) + wI ((IntKind.u64.wrap g).tmod (100 : Int)))) && decide ((0 : Int) ≤ wI ((BitVec.ofInt (64 : Nat) e &&& BitVec.ofInt (64 : Nat) (1023 : Int)).toNat : Int) ∧ wI ((BitVec.ofInt (64 : Nat) e &&& BitVec.ofInt (64 : Nat) (1023 : Int)).toNat : Int) ≤ (2048 : Int)) then tmF (wI ((BitVec.ofInt (64 : Nat) z &&& BitVec.ofInt (64 : Nat) (1073741823 : Int)).toNat : Int) - wI ((BitVec.ofInt (64 : Nat) e &&& BitVec.ofInt (64 : Nat) (1023 : Int)).toNat : Int)) (v.tmod (65536 : Int) - wI ((BitVec.ofInt (64 : Nat) e &&& BitVec.ofInt (64 : Nat) (1023 : Int)).toNat : Int)) (wI ((1 : Int) + wI ((IntKind.u64.wrap g).tmod (100 : Int)))) else (0 : Int)) ≥ (0 : Int)) then (bif twG (wI (wI ((BitVec.ofInt (64 : Nat) z &&& BitVec.ofInt (64 : Nat) (1073741823 : Int)).toNat : Int) + d.tmod (wI (wI ((BitVec.ofInt (64 : Nat) e &&& BitVec.ofInt (64 : Nat) (1023 : Int)).toNat : Int) + (1 : Int))))) (wI (v.tmod (65536 : Int) + c.tmod (wI (wI ((BitVec.ofInt (64 : Nat) e &&& BitVec.ofInt (64 : Nat) (1023 : Int)).toNat : Int) + (1 : Int))))) (wI ((1 : Int) + wI ((IntKind.u64.wrap g).tmod (100 : Int)))) (bif frR (wI ((BitVec.ofInt (64 : Nat) z &&& BitVec.ofInt (64 : Nat) (1073741823 : Int)).toNat : Int)) (v.tmod (65536 : Int)) (wI ((1 : Int) + wI ((IntKind.u64.wrap g).tmod (100 : Int)))) && decide ((0 : Int) ≤ wI ((BitVec.ofInt (64 : Nat) e &&& BitVec.ofInt (64 : Nat) (1023 : Int)).toNat : Int) ∧ wI ((BitVec.ofInt (64 : Nat) e &&& BitVec.ofInt (64 : Nat) (1023 : Int)).toNat : Int) ≤ (2048 : Int)) then tmF (wI ((BitVec.ofInt (64 : Nat) z &&& BitVec.ofInt (64 : Nat) (1073741823 : Int)).toNat : Int) + wI ((BitVec.ofInt (64 : Nat) e &&& BitVec.ofInt (64 : Nat) (1023 : Int)).toNat : Int)) (v.tmod (65536 : Int) + wI ((BitVec.ofInt (64 : Nat) e &&& BitVec.ofInt (64 : Nat) (1023 : Int)).toNat : Int)) (wI ((1 : Int) + wI ((IntKind.u64.wrap g).tmod (100 : Int)))) + (2 : Int) else (0 : Int)) then some (.v (Bo (decide (Ab (wI (wI ((BitVec.ofInt (64 : Nat) z &&& BitVec.ofInt (64 : Nat) (1073741823 : Int)).toNat : Int) + d.tmod (wI (wI ((BitVec.ofInt (64 : Nat) e &&& BitVec.ofInt (64 : Nat) (1023 : Int)).toNat : Int) + (1 : Int))))) (wI (v.tmod (65536 : Int) + c.tmod (wI (wI ((BitVec.ofInt (64 : Nat) e &&& BitVec.ofInt (64 : Nat) (1023 : Int)).toNat : Int) + (1 : Int))))) (wI ((1 : Int) + wI ((IntKind.u64.wrap g).tmod (100 : Int)))) (bif frR (wI ((BitVec.ofInt (64 : Nat) z &&& BitVec.ofInt (64 : Nat) (1073741823 : Int)).toNat : Int)) (v.tmod (65536 : Int)) (wI ((1 : Int) + wI ((IntKind.u64.wrap g).tmod (100 : Int)))) && decide ((0 : Int) ≤ wI ((BitVec.ofInt (64 : Nat) e &&& BitVec.ofInt (64 : Nat) (1023 : Int)).toNat : Int) ∧ wI ((BitVec.ofInt (64 : Nat) e &&& BitVec.ofInt (64 : Nat) (1023 : Int)).toNat : Int) ≤ (2048 : Int)) then tmF (wI ((BitVec.ofInt (64 : Nat) z &&& BitVec.ofInt (64 : Nat) (1073741823 : Int)).toNat : Int) + wI ((BitVec.ofInt (64 : Nat) e &&& BitVec.ofInt (64 : Nat) (1023 : Int)).toNat : Int)) (v.tmod (65536 : Int) + wI ((BitVec.ofInt (64 : Nat) e &&& BitVec.ofInt (64 : Nat) (1023 : Int)).toNat : Int)) (wI ((1 : Int) + wI ((IntKind.u64.wrap g).tmod (100 : Int)))) + (2 : Int) else (0 : Int)) < (0 : Int)))), M0) else none) else some (.v (Bo false), M0)) else none)))))) := by kernel_rfl
set_option maxRecDepth 40000 in
theorem treeFallIn (z v g e q d c : Int) : runG ΓFx L0 Try.prog Try.f11 [.v (I z), .v (I v), .v (I g), .v (I e), .v (I q), .v (I d), .v (I c)] M0 = 
    (bif wI (wI ((BitVec.ofInt (64 : Nat) q &&& BitVec.ofInt (64 : Nat) (511 : Int)).toNat : Int) + (1 : Int)) == (0 : Int) then none else (bif wI (wI ((BitVec.ofInt (64 : Nat) q &&& BitVec.ofInt (64 : Nat) (511 : Int)).toNat : Int) + (1 : Int)) == (0 : Int) then none else (bif frR (wI (z.tmod (1073741824 : Int) + d.tmod (wI (wI ((BitVec.ofInt (64 : Nat) q &&& BitVec.ofInt (64 : Nat) (511 : Int)).toNat : Int) + (1 : Int))))) (wI (v.tmod (65536 : Int) + c.tmod (wI (wI ((BitVec.ofInt (64 : Nat) q &&& BitVec.ofInt (64 : Nat) (511 : Int)).toNat : Int) + (1 : Int))))) (wI ((1 : Int) + wI ((IntKind.u64.wrap g).tmod (100 : Int)))) && decide ((0 : Int) ≤ wI ((BitVec.ofInt (64 : Nat) e &&& BitVec.ofInt (64 : Nat) (511 : Int)).toNat : Int) ∧ wI ((BitVec.ofInt (64 : Nat) e &&& BitVec.ofInt (64 : Nat) (511 : Int)).toNat : Int) ≤ (2048 : Int)) then (bif frR (z.tmod (1073741824 : Int)) (v.tmod (65536 : Int)) (wI ((1 : Int) + wI ((IntKind.u64.wrap g).tmod (100 : Int)))) && decide ((0 : Int) ≤ wI (wI ((BitVec.ofInt (64 : Nat) e &&& BitVec.ofInt (64 : Nat) (511 : Int)).toNat : Int) + wI ((BitVec.ofInt (64 : Nat) q &&& BitVec.ofInt (64 : Nat) (511 : Int)).toNat : Int)) ∧ wI (wI ((BitVec.ofInt (64 : Nat) e &&& BitVec.ofInt (64 : Nat) (511 : Int)).toNat : Int) + wI ((BitVec.ofInt (64 : Nat) q &&& BitVec.ofInt (64 : Nat) (511 : Int)).toNat : Int)) ≤ (2048 : Int)) then (bif decide ((bif frR (z.tmod (1073741824 : Int)) (v.tmod (65536 : Int)) (wI ((1 : Int) + wI ((IntKind.u64.wrap g).tmod (100 : Int)))) && decide ((0 : Int) ≤ wI (wI ((BitVec.ofInt (64 : Nat) e &&& BitVec.ofInt (64 : Nat) (511 : Int)).toNat : Int) + wI ((BitVec.ofInt (64 : Nat) q &&& BitVec.ofInt (64 : Nat) (511 : Int)).toNat : Int)) ∧ wI (wI ((BitVec.ofInt (64 : Nat) e &&& BitVec.ofInt (64 : Nat) (511 : Int)).toNat : Int) + wI ((BitVec.ofInt (64 : Nat) q &&& BitVec.ofInt (64 : Nat) (511 : Int)).toNat : Int)) ≤ (2048 : Int)) then tmF (z.tmod (1073741824 : Int) - wI (wI ((BitVec.ofInt (64 : Nat) e &&& BitVec.ofInt (64 : Nat) (511 : Int)).toNat : Int) + wI ((BitVec.ofInt (64 : Nat) q &&& BitVec.ofInt (64 : Nat) (511 : Int)).toNat : Int))) (v.tmod (65536 : Int) - wI (wI ((BitVec.ofInt (64 : Nat) e &&& BitVec.ofInt (64 : Nat) (511 : Int)).toNat : Int) + wI ((BitVec.ofInt (64 : Nat) q &&& BitVec.ofInt (64 : Nat) (511 : Int)).toNat : Int))) (wI ((1 : Int) + wI ((IntKind.u64.wrap g).tmod (100 : Int)))) else (0 : Int)) ≤ bif frR (wI (z.tmod (1073741824 : Int) + d.tmod (wI (wI ((BitVec.ofInt (64 : Nat) q &&& BitVec.ofInt (64 : Nat) (511 : Int)).toNat : Int) + (1 : Int))))) (wI (v.tmod (65536 : Int) + c.tmod (wI (wI ((BitVec.ofInt (64 : Nat) q &&& BitVec.ofInt (64 : Nat) (511 : Int)).toNat : Int) + (1 : Int))))) (wI ((1 : Int) + wI ((IntKind.u64.wrap g).tmod (100 : Int)))) && decide ((0 : Int) ≤ wI ((BitVec.ofInt (64 : Nat) e &&& BitVec.ofInt (64 : Nat) (511 : Int)).toNat : Int) ∧ wI ((BitVec.ofInt (64 : Nat) e &&& BitVec.ofInt (64 : Nat) (511 : Int)).toNat : Int) ≤ (2048 : Int)) then tmF (wI (z.tmod (1073741824 : Int) + d.tmod (wI (wI ((BitVec.ofInt (64 : Nat) q &&& BitVec.ofInt (64 : Nat) (511 : Int)).toNat : Int) + (1 : Int)))) - wI ((BitVec.ofInt (64 : Nat) e &&& BitVec.ofInt (64 : Nat) (511 : Int)).toNat : Int)) (wI (v.tmod (65536 : Int) + c.tmod (wI (wI ((BitVec.ofInt (64 : Nat) q &&& BitVec.ofInt (64 : Nat) (511 : Int)).toNat : Int) + (1 : Int)))) - wI ((BitVec.ofInt (64 : Nat) e &&& BitVec.ofInt (64 : Nat) (511 : Int)).toNat : Int)) (wI ((1 : Int) + wI ((IntKind.u64.wrap g).tmod (100 : Int)))) else (0 : Int)) then some (.v (Bo (decide ((bif frR (wI (z.tmod (1073741824 : Int) + d.tmod (wI (wI ((BitVec.ofInt (64 : Nat) q &&& BitVec.ofInt (64 : Nat) (511 : Int)).toNat : Int) + (1 : Int))))) (wI (v.tmod (65536 : Int) + c.tmod (wI (wI ((BitVec.ofInt (64 : Nat) q &&& BitVec.ofInt (64 : Nat) (511 : Int)).toNat : Int) + (1 : Int))))) (wI ((1 : Int) + wI ((IntKind.u64.wrap g).tmod (100 : Int)))) && decide ((0 : Int) ≤ wI ((BitVec.ofInt (64 : Nat) e &&& BitVec.ofInt (64 : Nat) (511 : Int)).toNat : Int) ∧ wI ((BitVec.ofInt (64 : Nat) e &&& BitVec.ofInt (64 : Nat) (511 : Int)).toNat : Int) ≤ (2048 : Int)) then tmF (wI (z.tmod (1073741824 : Int) + d.tmod (wI (wI ((BitVec.ofInt (64 : Nat) q &&& BitVec.ofInt (64 : Nat) (511 : Int)).toNat : Int) + (1 : Int)))) + wI ((BitVec.ofInt (64 : Nat) e &&& BitVec.ofInt (64 : Nat) (511 : Int)).toNat : Int)) (wI (v.tmod (65536 : Int) + c.tmod (wI (wI ((BitVec.ofInt (64 : Nat) q &&& BitVec.ofInt (64 : Nat) (511 : Int)).toNat : Int) + (1 : Int)))) + wI ((BitVec.ofInt (64 : Nat) e &&& BitVec.ofInt (64 : Nat) (511 : Int)).toNat : Int)) (wI ((1 : Int) + wI ((IntKind.u64.wrap g).tmod (100 : Int)))) + (2 : Int) else (0 : Int)) ≤ bif frR (z.tmod (1073741824 : Int)) (v.tmod (65536 : Int)) (wI ((1 : Int) + wI ((IntKind.u64.wrap g).tmod (100 : Int)))) && decide ((0 : Int) ≤ wI (wI ((BitVec.ofInt (64 : Nat) e &&& BitVec.ofInt (64 : Nat) (511 : Int)).toNat : Int) + wI ((BitVec.ofInt (64 : Nat) q &&& BitVec.ofInt (64 : Nat) (511 : Int)).toNat : Int)) ∧ wI (wI ((BitVec.ofInt (64 : Nat) e &&& BitVec.ofInt (64 : Nat) (511 : Int)).toNat : Int) + wI ((BitVec.ofInt (64 : Nat) q &&& BitVec.ofInt (64 : Nat) (511 : Int)).toNat : Int)) ≤ (2048 : Int)) then tmF (z.tmod (1073741824 : Int) + wI (wI ((BitVec.ofInt (64 : Nat) e &&& BitVec.ofInt (64 : Nat) (511 : Int)).toNat : Int) + wI ((BitVec.ofInt (64 : Nat) q &&& BitVec.ofInt (64 : Nat) (511 : Int)).toNat : Int))) (v.tmod (65536 : Int) + wI (wI ((BitVec.ofInt (64 : Nat) e &&& BitVec.ofInt (64 : Nat) (511 : Int)).toNat : Int) + wI ((BitVec.ofInt (64 : Nat) q &&& BitVec.ofInt (64 : Nat) (511 : Int)).toNat : Int))) (wI ((1 : Int) + wI ((IntKind.u64.wrap g).tmod (100 : Int)))) + (2 : Int) else (0 : Int)))), M0) else some (.v (Bo false), M0)) else some (.v (Bo false), M0)) else some (.v (Bo false), M0)))) := by kernel_rfl
set_option maxRecDepth 40000 in
theorem treeFallTop (z v g t : Int) : runG ΓFx L0 Try.prog Try.f12 [.v (I z), .v (I v), .v (I g), .v (I t)] M0 = 
    (bif frR (z.tmod (1073741824 : Int)) (v.tmod (65536 : Int)) (wI ((1 : Int) + wI ((IntKind.u64.wrap g).tmod (100 : Int)))) then (bif twG (z.tmod (1073741824 : Int)) (v.tmod (65536 : Int)) (wI ((1 : Int) + wI ((IntKind.u64.wrap g).tmod (100 : Int)))) (wI ((BitVec.ofInt (64 : Nat) t &&& BitVec.ofInt (64 : Nat) (1048575 : Int)).toNat : Int)) then (bif decide (Ab (z.tmod (1073741824 : Int)) (v.tmod (65536 : Int)) (wI ((1 : Int) + wI ((IntKind.u64.wrap g).tmod (100 : Int)))) (wI ((BitVec.ofInt (64 : Nat) t &&& BitVec.ofInt (64 : Nat) (1048575 : Int)).toNat : Int)) ≤ bif frR (z.tmod (1073741824 : Int)) (v.tmod (65536 : Int)) (wI ((1 : Int) + wI ((IntKind.u64.wrap g).tmod (100 : Int)))) then topF (z.tmod (1073741824 : Int)) (v.tmod (65536 : Int)) (wI ((1 : Int) + wI ((IntKind.u64.wrap g).tmod (100 : Int)))) else (0 : Int)) then some (.v (Bo (decide ((bif frR (z.tmod (1073741824 : Int)) (v.tmod (65536 : Int)) (wI ((1 : Int) + wI ((IntKind.u64.wrap g).tmod (100 : Int)))) then topF (z.tmod (1073741824 : Int)) (v.tmod (65536 : Int)) (wI ((1 : Int) + wI ((IntKind.u64.wrap g).tmod (100 : Int)))) else (0 : Int)) ≥ wI ((2 : Int) * z.tmod (1073741824 : Int))))), M0) else some (.v (Bo false), M0)) else none) else some (.v (Bo false), M0)) := by kernel_rfl
end Go.Proofs.Ytnelbjbphkfkkaa

namespace Go.Proofs.Ytnelbjbphkfkkaa
open Go Go.Proofs Go.Sx
set_option linter.unusedVariables false
theorem andB (n m : Int) (h0 : 0 ≤ m) (h1 : m < 9223372036854775808) : 0 ≤ wI ((BitVec.ofInt 64 n &&& BitVec.ofInt 64 m).toNat : Int) ∧ wI ((BitVec.ofInt 64 n &&& BitVec.ofInt 64 m).toNat : Int) ≤ m := by
  obtain ⟨k, rfl⟩ := Int.eq_ofNat_of_zero_le h0
  have e : (BitVec.ofInt 64 n &&& BitVec.ofInt 64 (k : Int)).toNat ≤ k := by
    rw [BitVec.toNat_and, BitVec.ofInt_natCast, BitVec.toNat_ofNat, Nat.mod_eq_of_lt (a := k) (by omega)]
    exact Nat.and_le_right
  rw [wI_id (by omega)]
  omega
theorem tmB (v k : Int) (hk : 0 < k) : -k < v.tmod k ∧ v.tmod k < k := ⟨Int.lt_tmod_of_pos v hk, Int.tmod_lt_of_pos v hk⟩
theorem gB (g k : Int) (hk : 0 < k) (h1 : k < 1000) : 1 ≤ wI (1 + wI ((IntKind.u64.wrap g).tmod k)) ∧ wI (1 + wI ((IntKind.u64.wrap g).tmod k)) ≤ k := by
  have h := inU_iff.1 (inU_wrap g)
  rw [Int.tmod_eq_emod_of_nonneg h.1]
  have a := Int.emod_nonneg (IntKind.u64.wrap g) (show k ≠ 0 by omega)
  have b := Int.emod_lt_of_pos (IntKind.u64.wrap g) hk
  rw [wI_id (n := (IntKind.u64.wrap g) % k) (by omega), wI_id (by omega)]
  omega
theorem fallTells (z v g t : Int) : runG ΓFx L0 Try.prog Try.f7 [.v (I z), .v (I v), .v (I g), .v (I t)] M0 = some (.v (.bool true), M0) := (treeFallTells z v g t).trans (by
  cases h : frR z v g
  · cases decide (t ≥ 0) <;> rfl
  · rw [frR_X h]
    by_cases h1 : 0 ≤ t
    · rw [decide_eq_true (show t ≥ 0 by omega)]
      by_cases h2 : t ≤ 16777216
      · rw [decide_eq_true h2, decide_eq_true (show 0 ≤ t ∧ t ≤ 16777216 by omega), twG_R h (by omega) (by omega)]
        simp
        rfl
      · rw [decide_eq_false h2, decide_eq_false (show ¬ (0 ≤ t ∧ t ≤ 16777216) by omega)]
        simp
        rfl
    · rw [decide_eq_false (show ¬ t ≥ 0 by omega), decide_eq_false (show ¬ (0 ≤ t ∧ t ≤ 16777216) by omega)]
      simp
      rfl)
theorem fallSure (z v g : Int) : runG ΓFx L0 Try.prog Try.f8 [.v (I z), .v (I v), .v (I g)] M0 = some (.v (.bool true), M0) := (treeFallSure z v g).trans (by
  have hZ := andB z 2147483647 (by decide) (by decide)
  have hV := tmB v 131072 (by decide)
  have hG := gB g 100 (by decide) (by decide)
  generalize wI ((BitVec.ofInt 64 z &&& BitVec.ofInt 64 2147483647).toNat : Int) = Z at *
  generalize v.tmod 131072 = V at *
  generalize wI (1 + wI ((IntKind.u64.wrap g).tmod 100)) = G at *
  have h : frR Z V G = true := frR_iff.2 (by omega)
  have x := frR_X h
  have t0 := tm_nonneg x
  have t1 := tm_le x
  have a0 := (tm_iff x (by omega) t0).1 (Int.le_refl _)
  have a1 := mt (tm_iff x (x := tmF Z V G + 2) (by omega) (by omega)).2 (by omega)
  rw [h]
  simp only [cond_true]
  simp only [wI_id (n := tmF Z V G + 2) (by omega), show tmF Z V G ≥ 0 from t0, twG_R (t := tmF Z V G) h (by omega) (by omega), twG_R (t := tmF Z V G + 2) h (by omega) (by omega), show Ab Z V G (tmF Z V G) ≥ 0 from a0, show Ab Z V G (tmF Z V G + 2) < 0 by omega, decide_true, cond_true]
  rfl)
theorem fallRises (z v g d e : Int) : runG ΓFx L0 Try.prog Try.f9 [.v (I z), .v (I v), .v (I g), .v (I d), .v (I e)] M0 = some (.v (.bool true), M0) := (treeFallRises z v g d e).trans (by
  have hD := andB d 1073741823 (by decide) (by decide)
  have hE := andB e 65535 (by decide) (by decide)
  have hZ := tmB z 1073741824 (by decide)
  have hV := tmB v 65536 (by decide)
  have hG := gB g 99 (by decide) (by decide)
  generalize wI ((BitVec.ofInt 64 d &&& BitVec.ofInt 64 1073741823).toNat : Int) = D at *
  generalize wI ((BitVec.ofInt 64 e &&& BitVec.ofInt 64 65535).toNat : Int) = E at *
  generalize z.tmod 1073741824 = Z at *
  generalize v.tmod 65536 = V at *
  generalize wI (1 + wI ((IntKind.u64.wrap g).tmod 99)) = G at *
  rw [wI_id (n := Z + D) (by omega), wI_id (n := V + E) (by omega), wI_id (n := G + 1) (by omega)]
  have h : frR Z V G = true := frR_iff.2 (by omega)
  have h2 : frR (Z + D) V G = true := frR_iff.2 (by omega)
  have h3 : frR Z (V + E) G = true := frR_iff.2 (by omega)
  have h4 : frR Z V (G + 1) = true := frR_iff.2 (by omega)
  have m1 := tm_mono (frR_X h) (frR_X h2) (by omega) (by omega)
  have m2 := tm_mono (frR_X h) (frR_X h3) (by omega) (by omega)
  have m3 := tm_grav (frR_X h) (frR_X h4)
  have t0 := tm_nonneg (frR_X h)
  have t1 := tm_le (frR_X h)
  rw [h, h2, h3, h4]
  simp only [cond_true]
  simp only [wI_id (n := tmF Z V G + 1) (by omega), show tmF (Z + D) V G ≥ tmF Z V G from m1, show tmF Z (V + E) G ≥ tmF Z V G from m2, show tmF Z V (G + 1) ≤ tmF Z V G + 1 by omega, decide_true, cond_true]
  cases decide (V < 0) <;> rfl)
theorem fallSpan (z v g e d c : Int) : runG ΓFx L0 Try.prog Try.f10 [.v (I z), .v (I v), .v (I g), .v (I e), .v (I d), .v (I c)] M0 = some (.v (.bool true), M0) := (treeFallSpan z v g e d c).trans (by
  have hZ := andB z 1073741823 (by decide) (by decide)
  have hE := andB e 1023 (by decide) (by decide)
  have hV := tmB v 65536 (by decide)
  have hG := gB g 100 (by decide) (by decide)
  generalize wI ((BitVec.ofInt 64 z &&& BitVec.ofInt 64 1073741823).toNat : Int) = Z at *
  generalize wI ((BitVec.ofInt 64 e &&& BitVec.ofInt 64 1023).toNat : Int) = E at *
  generalize v.tmod 65536 = V at *
  generalize wI (1 + wI ((IntKind.u64.wrap g).tmod 100)) = G at *
  rw [wI_id (n := E + 1) (by omega)]
  have hD := tmB d (E + 1) (by omega)
  have hC := tmB c (E + 1) (by omega)
  generalize d.tmod (E + 1) = D at *
  generalize c.tmod (E + 1) = C at *
  rw [wI_id (n := Z + D) (by omega), wI_id (n := V + C) (by omega)]
  have h : frR Z V G = true := frR_iff.2 (by omega)
  have hl : frX (Z - E) (V - E) G = true := frX_iff.2 (by omega)
  have hh : frX (Z + E) (V + E) G = true := frX_iff.2 (by omega)
  have hm : frX (Z + D) (V + C) G = true := frX_iff.2 (by omega)
  have m1 := tm_mono hl hh (by omega) (by omega)
  have t0 := tm_nonneg hl
  have t1 := tm_le hl
  have u0 := tm_nonneg hh
  have u1 := tm_le hh
  rw [h, decide_eq_true (show 0 ≤ E ∧ E ≤ 2048 by omega)]
  simp only [Bool.and_self, Bool.not_true, cond_true, cond_false]
  rw [decide_eq_false (show ¬ tmF (Z - E) (V - E) G > tmF (Z + E) (V + E) G + 2 by omega), beq_eq_false_iff_ne.2 (show E + 1 ≠ 0 by omega)]
  simp only [cond_false]
  by_cases hz : Z + D < 0
  · rw [decide_eq_true hz]; rfl
  · have m2 := tm_mono hl hm (by omega) (by omega)
    have m3 := tm_mono hm hh (by omega) (by omega)
    have a0 := (tm_iff hm (by omega) t0).1 m2
    have a1 := mt (tm_iff hm (x := tmF (Z + E) (V + E) G + 2) (by omega) (by omega)).2 (by omega)
    rw [decide_eq_false hz, twG_iff.2 ⟨hm, by omega, by omega⟩, twG_iff.2 ⟨hm, by omega, by omega⟩, decide_eq_true (show Ab (Z + D) (V + C) G (tmF (Z - E) (V - E) G) ≥ 0 from a0), decide_eq_true (show Ab (Z + D) (V + C) G (tmF (Z + E) (V + E) G + 2) < 0 by omega)]
    rfl)
theorem fallIn (z v g e q d c : Int) : runG ΓFx L0 Try.prog Try.f11 [.v (I z), .v (I v), .v (I g), .v (I e), .v (I q), .v (I d), .v (I c)] M0 = some (.v (.bool true), M0) := (treeFallIn z v g e q d c).trans (by
  have hQ := andB q 511 (by decide) (by decide)
  have hE := andB e 511 (by decide) (by decide)
  have hZ := tmB z 1073741824 (by decide)
  have hV := tmB v 65536 (by decide)
  have hG := gB g 100 (by decide) (by decide)
  generalize wI ((BitVec.ofInt 64 q &&& BitVec.ofInt 64 511).toNat : Int) = Q at *
  generalize wI ((BitVec.ofInt 64 e &&& BitVec.ofInt 64 511).toNat : Int) = E at *
  generalize z.tmod 1073741824 = Z at *
  generalize v.tmod 65536 = V at *
  generalize wI (1 + wI ((IntKind.u64.wrap g).tmod 100)) = G at *
  rw [wI_id (n := Q + 1) (by omega)]
  have hD := tmB d (Q + 1) (by omega)
  have hC := tmB c (Q + 1) (by omega)
  generalize d.tmod (Q + 1) = D at *
  generalize c.tmod (Q + 1) = C at *
  rw [wI_id (n := Z + D) (by omega), wI_id (n := V + C) (by omega), wI_id (n := E + Q) (by omega)]
  have h : frR Z V G = true := frR_iff.2 (by omega)
  have h' : frR (Z + D) (V + C) G = true := frR_iff.2 (by omega)
  have m1 := tm_mono (z := Z - (E + Q)) (v := V - (E + Q)) (z' := Z + D - E) (v' := V + C - E) (g := G) (frX_iff.2 (by omega)) (frX_iff.2 (by omega)) (by omega) (by omega)
  have m2 := tm_mono (z := Z + D + E) (v := V + C + E) (z' := Z + (E + Q)) (v' := V + (E + Q)) (g := G) (frX_iff.2 (by omega)) (frX_iff.2 (by omega)) (by omega) (by omega)
  rw [h, h', decide_eq_true (show 0 ≤ E ∧ E ≤ 2048 by omega), decide_eq_true (show 0 ≤ E + Q ∧ E + Q ≤ 2048 by omega), beq_eq_false_iff_ne.2 (show Q + 1 ≠ 0 by omega)]
  simp only [Bool.and_self, cond_true, cond_false]
  rw [decide_eq_true m1, decide_eq_true (show tmF (Z + D + E) (V + C + E) G + 2 ≤ tmF (Z + (E + Q)) (V + (E + Q)) G + 2 by omega)]
  rfl)
theorem mx2_le (a b : Int) : a ≤ mx2 a b ∧ b ≤ mx2 a b := by unfold mx2; split <;> omega
theorem fallTop (z v g t : Int) : runG ΓFx L0 Try.prog Try.f12 [.v (I z), .v (I v), .v (I g), .v (I t)] M0 = some (.v (.bool true), M0) := (treeFallTop z v g t).trans (by
  have hT := andB t 1048575 (by decide) (by decide)
  have hZ := tmB z 1073741824 (by decide)
  have hV := tmB v 65536 (by decide)
  have hG := gB g 100 (by decide) (by decide)
  generalize wI ((BitVec.ofInt 64 t &&& BitVec.ofInt 64 1048575).toNat : Int) = T at *
  generalize z.tmod 1073741824 = Z at *
  generalize v.tmod 65536 = V at *
  generalize wI (1 + wI ((IntKind.u64.wrap g).tmod 100)) = G at *
  have h : frR Z V G = true := frR_iff.2 (by omega)
  rw [h, twG_R h (by omega) (by omega), wI_id (n := 2 * Z) (by omega)]
  simp only [cond_true]
  have k : Ab Z V G T ≤ topF Z V G ∧ 2 * Z ≤ topF Z V G := by
    unfold topF
    by_cases hv : V < 0
    · rw [decide_eq_true hv]
      simp only [cond_true]
      unfold Ab
      have p1 := Int.mul_nonneg (show 0 ≤ -V by omega) (show 0 ≤ T by omega)
      have p2 := Int.mul_nonneg (Int.mul_nonneg (show 0 ≤ G by omega) (show 0 ≤ T by omega)) (show 0 ≤ T by omega)
      rw [Int.neg_mul] at p1
      rw [Int.mul_assoc 2 V T]
      omega
    · rw [decide_eq_false hv]
      simp only [cond_false]
      have q1 := Int.mul_ediv_add_emod V G
      have q2 := Int.emod_nonneg V (show G ≠ 0 by omega)
      have q3 := Int.emod_lt_of_pos V (show 0 < G by omega)
      have := top_ge (z := Z) (v := V) (g := G) (k := V / G) (t := T) (by omega) (by omega) (by omega)
      have a1 := mx2_le (2 * Z) (Ab Z V G (V / G))
      have a2 := mx2_le (mx2 (2 * Z) (Ab Z V G (V / G))) (Ab Z V G (V / G + 1))
      omega
  rw [decide_eq_true k.1, decide_eq_true (show topF Z V G ≥ 2 * Z from k.2)]
  rfl)
end Go.Proofs.Ytnelbjbphkfkkaa

namespace Go.Proofs.Ytnelbjbphkfkkaa
open Go Go.Proofs Go.Sx
set_option linter.unusedVariables false
theorem fallTellsLaw (a0 a1 a2 a3 : Int) (u0 : (Lit.int .i64 a0).wf = true) (u1 : (Lit.int .i64 a1).wf = true) (u2 : (Lit.int .i64 a2).wf = true) (u3 : (Lit.int .i64 a3).wf = true) : ∃ m', runG ΓFx L0 Try.prog Try.f7 (inArgs [.v (.int .i64 a0), .v (.int .i64 a1), .v (.int .i64 a2), .v (.int .i64 a3)] 0) (inMem [.v (.int .i64 a0), .v (.int .i64 a1), .v (.int .i64 a2), .v (.int .i64 a3)]) = some (.v (.bool true), m') := ⟨_, fallTells a0 a1 a2 a3⟩
theorem fallSureLaw (a0 a1 a2 : Int) (u0 : (Lit.int .i64 a0).wf = true) (u1 : (Lit.int .i64 a1).wf = true) (u2 : (Lit.int .i64 a2).wf = true) : ∃ m', runG ΓFx L0 Try.prog Try.f8 (inArgs [.v (.int .i64 a0), .v (.int .i64 a1), .v (.int .i64 a2)] 0) (inMem [.v (.int .i64 a0), .v (.int .i64 a1), .v (.int .i64 a2)]) = some (.v (.bool true), m') := ⟨_, fallSure a0 a1 a2⟩
theorem fallRisesLaw (a0 a1 a2 a3 a4 : Int) (u0 : (Lit.int .i64 a0).wf = true) (u1 : (Lit.int .i64 a1).wf = true) (u2 : (Lit.int .i64 a2).wf = true) (u3 : (Lit.int .i64 a3).wf = true) (u4 : (Lit.int .i64 a4).wf = true) : ∃ m', runG ΓFx L0 Try.prog Try.f9 (inArgs [.v (.int .i64 a0), .v (.int .i64 a1), .v (.int .i64 a2), .v (.int .i64 a3), .v (.int .i64 a4)] 0) (inMem [.v (.int .i64 a0), .v (.int .i64 a1), .v (.int .i64 a2), .v (.int .i64 a3), .v (.int .i64 a4)]) = some (.v (.bool true), m') := ⟨_, fallRises a0 a1 a2 a3 a4⟩
theorem fallSpanLaw (a0 a1 a2 a3 a4 a5 : Int) (u0 : (Lit.int .i64 a0).wf = true) (u1 : (Lit.int .i64 a1).wf = true) (u2 : (Lit.int .i64 a2).wf = true) (u3 : (Lit.int .i64 a3).wf = true) (u4 : (Lit.int .i64 a4).wf = true) (u5 : (Lit.int .i64 a5).wf = true) : ∃ m', runG ΓFx L0 Try.prog Try.f10 (inArgs [.v (.int .i64 a0), .v (.int .i64 a1), .v (.int .i64 a2), .v (.int .i64 a3), .v (.int .i64 a4), .v (.int .i64 a5)] 0) (inMem [.v (.int .i64 a0), .v (.int .i64 a1), .v (.int .i64 a2), .v (.int .i64 a3), .v (.int .i64 a4), .v (.int .i64 a5)]) = some (.v (.bool true), m') := ⟨_, fallSpan a0 a1 a2 a3 a4 a5⟩
theorem fallInLaw (a0 a1 a2 a3 a4 a5 a6 : Int) (u0 : (Lit.int .i64 a0).wf = true) (u1 : (Lit.int .i64 a1).wf = true) (u2 : (Lit.int .i64 a2).wf = true) (u3 : (Lit.int .i64 a3).wf = true) (u4 : (Lit.int .i64 a4).wf = true) (u5 : (Lit.int .i64 a5).wf = true) (u6 : (Lit.int .i64 a6).wf = true) : ∃ m', runG ΓFx L0 Try.prog Try.f11 (inArgs [.v (.int .i64 a0), .v (.int .i64 a1), .v (.int .i64 a2), .v (.int .i64 a3), .v (.int .i64 a4), .v (.int .i64 a5), .v (.int .i64 a6)] 0) (inMem [.v (.int .i64 a0), .v (.int .i64 a1), .v (.int .i64 a2), .v (.int .i64 a3), .v (.int .i64 a4), .v (.int .i64 a5), .v (.int .i64 a6)]) = some (.v (.bool true), m') := ⟨_, fallIn a0 a1 a2 a3 a4 a5 a6⟩
theorem fallTopLaw (a0 a1 a2 a3 : Int) (u0 : (Lit.int .i64 a0).wf = true) (u1 : (Lit.int .i64 a1).wf = true) (u2 : (Lit.int .i64 a2).wf = true) (u3 : (Lit.int .i64 a3).wf = true) : ∃ m', runG ΓFx L0 Try.prog Try.f12 (inArgs [.v (.int .i64 a0), .v (.int .i64 a1), .v (.int .i64 a2), .v (.int .i64 a3)] 0) (inMem [.v (.int .i64 a0), .v (.int .i64 a1), .v (.int .i64 a2), .v (.int .i64 a3)]) = some (.v (.bool true), m') := ⟨_, fallTop a0 a1 a2 a3⟩
end Go.Proofs.Ytnelbjbphkfkkaa

