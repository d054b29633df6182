/-
  FixSum: for every input the law returns true, and each argument reads behind the call as it read before. No condition.
-/
import Derived.Test.YtanjomncnbmgkaaRows
import Derived.WalkKit
import Derived.ProofKit
import Derived.OpenShut
import Derived.Lib.SmallJoins
import Derived.Test.YtanjomncnbmgkaaSz
import Derived.Test.YtanjomncnbmgkaaYr
namespace Go.Proofs.Ytanjomncnbmgkaa.fixSum
open Go.ChangeShapes Go.WideShapes Go.ChangeAt Go.RowKit Go.Joins Go.Sx
set_option linter.unusedVariables false

theorem own : ownKnob Try.prog.godebug = none := by kernel_rfl
theorem laid : laidOutB Try.prog = true := by kernel_rfl
theorem rowed : mapsRowed Try.prog = true := by kernel_rfl
theorem sizes : szOk Try.prog = true := by kernel_rfl
theorem few : ∀ t ∈ Try.f14.params.toList, t < Try.prog.types.size := by
  have h : (Try.f14.params.toList.all fun t => decide (t < Try.prog.types.size)) = true := by kernel_rfl
  intro t ht
  exact of_decide_eq_true (List.all_eq_true.1 h t ht)

theorem cellsE2 : Try.prog.cellsOf 2 = 1 := by kernel_rfl
theorem bytesE2 : Try.prog.bytesOf 2 = 8 := by kernel_rfl

theorem loops : loopsOf (Try.f14.body.getD .skip) = [] := by kernel_rfl
theorem walk {args : List Arg} {vs : List Value} (h : runA Γr L0 Try.prog Try.f14 args = some (.v (.bool true))) (w : World) (hA : ArgsOk w args vs) :
    Calls Try.prog 14 vs.toArray w fun e w' => e = .returned (.bool true) ∧ Kp w w' := by
  refine (run_sound Okr mixed Try.func14 rfl h w (fun b hb => ?_) hA).mono ?_
  · have hb' : b ∈ loopsOf (Try.f14.body.getD .skip) := hb
    rw [loops] at hb'; cases hb'
  · rintro e w' ⟨y, rfl, hy, hk⟩
    have hy' : y = .bool true := hy
    subst hy'
    exact ⟨rfl, hk⟩

set_option maxRecDepth 100000 in
theorem lifted (os : Os) (started : os.Started) (H : Type) (enc : TypeId × Value → H) :
    ReturnsInHanded {} Try.checked os 14 .any (Rows.fixSumSpec.pre6 enc Try.prog Try.f14 Rows.fixSumRow.domain false) (Rows.fixSumSpec.post enc Try.prog Try.f14 false true false false) := by
  refine returnsInHanded_of_change_sized (C := Try.checked) own started (by kernel_rfl) Try.func14
    (ChangeSpec.witness6 (enc := enc) (C := Try.checked) false ⟨#[], #[.slice none 0 0, .slice none 0 0], []⟩ 8 (by kernel_rfl) (by kernel_rfl) (by kernel_rfl) (by kernel_rfl)) ?_
  intro W0 base args ds gs before hval0 hW hcnd hsized _
  have hval : ∀ (j : Nat) t v, Try.f14.params[j]? = some t → args[j]? = some v → Value.okWide Try.prog W0 .any base t v := hval0
  have hW' := hW
  have hlt := hW.lt
  obtain ⟨p, q, hA0, hV, rfl, hfz, hnd⟩ := hW
  obtain ⟨rfl, rfl⟩ := trodVars_none hV
  simp only [List.append_nil] at hW' hlt
  have hsz : (DataW.weightsEach Try.prog Try.f14.params.toList ds).all (· ≤ reachBytes) = true := by
    have := hsized
    simp only [List.append_nil] at this
    exact this
  have hA : DataW.TrodAll enc Try.prog W0 0 (fun _ => true) true Try.f14.params.toList args.toList ds p := hA0
  have hback : ∀ (W' : World), Kp W0 W' → ∀ sp : Nat → Bool, (∀ q ∈ p, sp q.block = true) → DataW.TrodAll enc Try.prog W' 0 sp true Try.f14.params.toList args.toList ds p := fun W' hk sp hsp =>
    stayAll laid rowed sizes few hA (fun q hq => hk.1.same (hlt q hq)) hsp
  rw [Try.params14] at hA hval hsz
  obtain ⟨v0, vs0, d0, ds0, p0, q0, hargs, rfl, rfl, h0, r0⟩ := trodAll_cons hA
  obtain ⟨v1, vs1, d1, ds1, p1, q1, rfl, rfl, rfl, h1, r1⟩ := trodAll_cons r0
  obtain ⟨rfl, rfl, rfl⟩ := trodAll_nil r1
  obtain rfl : args = #[v0, v1] := by cases args; simp_all
  obtain ⟨L0, k0, w0, l0⟩ := open_row Try.underlying64 Try.underlying2 cellsE2 (hval 0 64 v0 rfl rfl) h0
  have n0 : L0.length ≤ 281474976710656 := by
    rcases l0 with l0 | ⟨elems, spare, l0, l0'⟩
    · rw [l0]; simp
    · have := sized_slice hsz (j := 0) rfl (by rw [l0]; rfl) Try.underlying64
      rw [bytesE2] at this
      have := reachBytes_lt
      omega
  have g0 : allI L0 = true := List.all_eq_true.2 fun x hx => i64_wf (w0 x hx)
  obtain ⟨L1, k1, w1, l1⟩ := open_row Try.underlying64 Try.underlying2 cellsE2 (hval 1 64 v1 rfl rfl) h1
  have n1 : L1.length ≤ 281474976710656 := by
    rcases l1 with l1 | ⟨elems, spare, l1, l1'⟩
    · rw [l1]; simp
    · have := sized_slice hsz (j := 1) rfl (by rw [l1]; rfl) Try.underlying64
      rw [bytesE2] at this
      have := reachBytes_lt
      omega
  have g1 : allI L1 = true := List.all_eq_true.2 fun x hx => i64_wf (w1 x hx)
  refine (walk (args := [.ints .i64 L0, .ints .i64 L1]) (vs := [v0, v1]) (fixSum L0 L1 g0 g1 n0 n1) W0 ⟨k0, k1, trivial⟩).mono fun e W' ⟨he, hk⟩ => ?_
  subst he
  exact ⟨_, rfl, post_of_same (pa := _) (pv := []) hW' (fun _ _ _ => (trodAll_cons_mk (shut_bool Try.underlying4 _) trodAll_mk0)) (fun sp hsp => hback W' hk sp hsp) (fun _ _ => rfl) (by simp)
    (hk.1.frame _) hk.2 (ok_one (by kernel_rfl) rfl (okWide_bool_mk Try.underlying4 _))⟩

theorem over : Rows.fixSumRow.holds Try.pinned (OpenSpec.ofChange Rows.fixSumSpec) :=
  OpenClaim.holds_of_wide 14 Try.f14 rfl rfl rfl rfl rfl rfl rfl ⟨rfl, rfl, rfl, rfl, rfl⟩ rfl rfl rfl rfl rfl (by kernel_rfl) Try.func14 (by kernel_rfl)
    (of_decide_eq_true (by kernel_rfl)) (by unfold Func.isWrapper; first | (rw [if_pos (by decide +kernel)]; kernel_rfl) | (rw [if_neg (by decide +kernel)]; exact ⟨rfl, rfl⟩))
    (fun os started H enc _ => lifted os started H enc)

/-- The statement. -/
theorem proved : Rows.FixSumSaid :=
  over
end Go.Proofs.Ytanjomncnbmgkaa.fixSum

