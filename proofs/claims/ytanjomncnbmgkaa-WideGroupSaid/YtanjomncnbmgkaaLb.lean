/-
  WideGroup: for every input the law returns true, and each argument reads behind the call as it read before. No condition.
-/
import Derived.Test.YtanjomncnbmgkaaRows
import Derived.WalkKit
import Derived.ProofKit
import Derived.OpenShut
import Derived.Lib.SmallJoins
import Derived.Test.YtanjomncnbmgkaaWd
namespace Go.Proofs.Ytanjomncnbmgkaa.wideGroup
open Go.ChangeShapes Go.WideShapes Go.ChangeAt Go.RowKit Go.Joins Go.Sx
set_option linter.unusedVariables false

theorem own : ownKnob Try.prog.godebug = none := by kernel_rfl

theorem cells24 : Try.prog.cellsOf 24 = 2 := by kernel_rfl

theorem loops : loopsOf (Try.f7.body.getD .skip) = [] := by kernel_rfl
theorem walk (a0 b0 : Int) (a1 b1 : Int) (a2 b2 : Int) (u0 : (Lit.int .i64 a0).wf = true) (v0 : (Lit.int .u64 b0).wf = true) (u1 : (Lit.int .i64 a1).wf = true) (v1 : (Lit.int .u64 b1).wf = true) (u2 : (Lit.int .i64 a2).wf = true) (v2 : (Lit.int .u64 b2).wf = true) (w : World) :
    Calls Try.prog 7 #[W a0 b0, W a1 b1, W a2 b2] w fun e w' => e = .returned (.bool true) ∧ Grown w w' := by
  have h : run Γ4 L0 Try.prog Try.f7 [W a0 b0, W a1 b1, W a2 b2] = some (.bool true) := wideGroup a0 b0 a1 b1 a2 b2 (inW_wf u0 v0) (inW_wf u1 v1) (inW_wf u2 v2)
  refine (run_sound Ok4 mixed Try.func7 rfl h w (fun b hb => ?_)).mono ?_
  · have hb' : b ∈ loopsOf (Try.f7.body.getD .skip) := hb
    rw [loops] at hb'; cases hb'
  · rintro e w' ⟨rfl, hk⟩
    exact ⟨rfl, hk.1.frame _, hk.2, hk.1.size⟩

set_option maxRecDepth 100000 in
theorem lifted (os : Os) (started : os.Started) (H : Type) (enc : TypeId × Value → H) :
    ReturnsInHanded {} Try.checked os 7 .any (Rows.wideGroupSpec.pre6 enc Try.prog Try.f7 Rows.wideGroupRow.domain false) (Rows.wideGroupSpec.post enc Try.prog Try.f7 false true false false) := by
  refine returnsInHanded_of_change (C := Try.checked) own started (by kernel_rfl) Try.func7
    (ChangeSpec.witness6 (enc := enc) (C := Try.checked) false ⟨#[], #[.agg #[.int .i64 0, .int .u64 0], .agg #[.int .i64 0, .int .u64 0], .agg #[.int .i64 0, .int .u64 0]], []⟩ 8 (by kernel_rfl) (by kernel_rfl) (by kernel_rfl) (by kernel_rfl)) ?_
  intro W0 base args ds gs before hval0 hW hcnd _
  have hval : ∀ (j : Nat) t v, Try.f7.params[j]? = some t → args[j]? = some v → Value.okWide Try.prog W0 .any base t v := hval0
  have hW' := hW
  obtain ⟨p, q, hA0, hV, rfl, hfz, hnd⟩ := hW
  have hA : DataW.TrodAll enc Try.prog W0 0 (fun _ => true) true Try.f7.params.toList args.toList ds p := hA0
  rw [Try.params7] at hA hval
  obtain ⟨v0, vs0, d0, ds0, p0, q0, hargs, rfl, rfl, h0, r0⟩ := trodAll_cons hA
  obtain ⟨v1, vs1, d1, ds1, p1, q1, rfl, rfl, rfl, h1, r1⟩ := trodAll_cons r0
  obtain ⟨v2, vs2, d2, ds2, p2, q2, rfl, rfl, rfl, h2, r2⟩ := trodAll_cons r1
  obtain ⟨rfl, rfl, rfl⟩ := trodAll_nil r2
  obtain rfl : args = #[v0, v1, v2] := by cases args; simp_all
  obtain ⟨rfl, rfl⟩ := trodVars_none hV
  obtain ⟨c00, c01, y00, y01, m0, rfl, rfl, rfl, hy00, hy01⟩ := open_agg2 Try.underlying24 (by kernel_rfl) cells24 (hval 0 24 v0 rfl rfl) h0
  obtain ⟨a0, e00, rfl, u0⟩ := DataW.trod_int Try.underlying2 hy00
  obtain ⟨b0, e01, rfl, x0⟩ := DataW.trod_int Try.underlying22 hy01
  simp at e00 e01
  subst e00 e01
  have s0 : ∀ (W' : World) (sp : Nat → Bool), DataW.Trod enc Try.prog W' 0 sp true 24 (.agg #[.int .i64 a0, .int .u64 b0]) (.agg [.lit (.int .i64 a0), .lit (.int .u64 b0)]) [] := fun W' sp =>
    shut_agg2 (y0 := (.lit (.int .i64 a0), [])) (y1 := (.lit (.int .u64 b0), [])) Try.underlying24 (by kernel_rfl) cells24 ⟨1, by simp [DataW.trod, Try.underlying2, u0]⟩ ⟨1, by simp [DataW.trod, Try.underlying22, x0]⟩
  obtain ⟨c10, c11, y10, y11, m1, rfl, rfl, rfl, hy10, hy11⟩ := open_agg2 Try.underlying24 (by kernel_rfl) cells24 (hval 1 24 v1 rfl rfl) h1
  obtain ⟨a1, e10, rfl, u1⟩ := DataW.trod_int Try.underlying2 hy10
  obtain ⟨b1, e11, rfl, x1⟩ := DataW.trod_int Try.underlying22 hy11
  simp at e10 e11
  subst e10 e11
  have s1 : ∀ (W' : World) (sp : Nat → Bool), DataW.Trod enc Try.prog W' 0 sp true 24 (.agg #[.int .i64 a1, .int .u64 b1]) (.agg [.lit (.int .i64 a1), .lit (.int .u64 b1)]) [] := fun W' sp =>
    shut_agg2 (y0 := (.lit (.int .i64 a1), [])) (y1 := (.lit (.int .u64 b1), [])) Try.underlying24 (by kernel_rfl) cells24 ⟨1, by simp [DataW.trod, Try.underlying2, u1]⟩ ⟨1, by simp [DataW.trod, Try.underlying22, x1]⟩
  obtain ⟨c20, c21, y20, y21, m2, rfl, rfl, rfl, hy20, hy21⟩ := open_agg2 Try.underlying24 (by kernel_rfl) cells24 (hval 2 24 v2 rfl rfl) h2
  obtain ⟨a2, e20, rfl, u2⟩ := DataW.trod_int Try.underlying2 hy20
  obtain ⟨b2, e21, rfl, x2⟩ := DataW.trod_int Try.underlying22 hy21
  simp at e20 e21
  subst e20 e21
  have s2 : ∀ (W' : World) (sp : Nat → Bool), DataW.Trod enc Try.prog W' 0 sp true 24 (.agg #[.int .i64 a2, .int .u64 b2]) (.agg [.lit (.int .i64 a2), .lit (.int .u64 b2)]) [] := fun W' sp =>
    shut_agg2 (y0 := (.lit (.int .i64 a2), [])) (y1 := (.lit (.int .u64 b2), [])) Try.underlying24 (by kernel_rfl) cells24 ⟨1, by simp [DataW.trod, Try.underlying2, u2]⟩ ⟨1, by simp [DataW.trod, Try.underlying22, x2]⟩
  clear hA0 hval0
  simp only [List.append_nil] at hW'
  refine (walk a0 b0 a1 b1 a2 b2 u0 x0 u1 x1 u2 x2 W0).mono fun e W' ⟨he, hg⟩ => ?_
  subst he
  exact ⟨_, rfl, post_of_same (pa := []) (pv := []) hW' (fun _ _ _ => (trodAll_cons_mk (shut_bool Try.underlying4 _) trodAll_mk0)) (fun sp _ => (trodAll_cons_mk (s0 W' sp) (trodAll_cons_mk (s1 W' sp) (trodAll_cons_mk (s2 W' sp) trodAll_mk0)))) (fun _ _ => rfl) rfl
    (hg.frame _) hg.2.1 (ok_one (by kernel_rfl) rfl (okWide_bool_mk Try.underlying4 _))⟩

theorem over : Rows.wideGroupRow.holds Try.pinned (OpenSpec.ofChange Rows.wideGroupSpec) :=
  OpenClaim.holds_of_wide 7 Try.f7 rfl rfl rfl rfl rfl rfl rfl ⟨rfl, rfl, rfl, rfl, rfl⟩ rfl rfl rfl rfl rfl (by kernel_rfl) Try.func7 (by kernel_rfl)
    (of_decide_eq_true (by kernel_rfl)) (by unfold Func.isWrapper; first | (rw [if_pos (by decide +kernel)]; kernel_rfl) | (rw [if_neg (by decide +kernel)]; exact ⟨rfl, rfl⟩))
    (fun os started H enc _ => lifted os started H enc)

/-- The statement. -/
theorem proved : Rows.WideGroupSaid :=
  over
end Go.Proofs.Ytanjomncnbmgkaa.wideGroup

