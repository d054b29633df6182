/-
  UnitNil: for every input the law returns true, and each argument reads behind the call as it read before. No condition.
-/
import Derived.Test.YtagaiddomhpdmaaGreatRows
import Derived.WalkKit
import Derived.ProofKit
import Derived.OpenShut
import Derived.Lib.SmallJoins
import Derived.Test.YtagaiddomhpdmaaGreatSx
import Derived.Test.YtagaiddomhpdmaaGreatYo
import Derived.Test.YtagaiddomhpdmaaGreatKf
set_option maxRecDepth 100000
namespace Go.Proofs.YtagaiddomhpdmaaGreat.unitNil
open Go.ChangeShapes Go.WideShapes Go.ChangeAt Go.RowKit Go.Joins Go.Sx
set_option linter.unusedVariables false

theorem own : ownKnob Tryz.prog.godebug = none := by kernel_rfl
theorem laid : laidOutB Tryz.prog = true := by kernel_rfl
theorem rowed : mapsRowed Tryz.prog = true := by kernel_rfl
theorem sizes : szOk Tryz.prog = true := by kernel_rfl
theorem few : ∀ t ∈ Tryz.f9.params.toList, t < Tryz.prog.types.size := by
  have h : (Tryz.f9.params.toList.all fun t => decide (t < Tryz.prog.types.size)) = true := by kernel_rfl
  intro t ht
  exact of_decide_eq_true (List.all_eq_true.1 h t ht)

theorem walk {l : List In} {m' : Mem} {vs : List Value} (hn : (inRows l).length = 0) (h : runG Hr.Γun L0 Tryz.prog Tryz.f9 (inArgs l 0) (inMem l) = some (.v (.bool true), m')) (w : World) (hA : InsOk w l vs) :
    Calls Tryz.prog 9 vs.toArray w fun e w' => e = .returned (.bool true) ∧ Kp w w' :=
  law_run (c := Tryz.f9.body.getD .skip) Hr.Okun mixed Tryz.func9 rfl h hA (fun z z1 z2 b hb => Hr.loopsOkUn z z1 (z2.trans hn) b hb)

theorem lifted (os : Os) (started : os.Started) (H : Type) (enc : TypeId × Value → H) :
    ReturnsInHanded {} Tryz.checked os 9 .any (Rows.unitNilSpec.pre6 enc Tryz.prog Tryz.f9 Rows.unitNilRow.domain false) (Rows.unitNilSpec.post enc Tryz.prog Tryz.f9 false true false false) := by
  refine returnsInHanded_of_change_sized (C := Tryz.checked) own started (by kernel_rfl) Tryz.func9
    (ChangeSpec.witness6 (enc := enc) (C := Tryz.checked) false ⟨#[], #[.int .i64 0, .agg #[.int .i64 0, .int .i64 0, .int .i64 0, .int .i64 0, .int .i64 0, .int .i64 0, .int .i64 0, .int .i64 0]], []⟩ 8 (by kernel_rfl) (by kernel_rfl) (by kernel_rfl) (by kernel_rfl)) ?_
  intro W0 base args ds gs before hval0 hW hcnd hsized _
  have hval : ∀ (j : Nat) t v, Tryz.f9.params[j]? = some t → args[j]? = some v → Value.okWide Tryz.prog W0 .any base t v := hval0
  have hW' := hW
  have hlt := hW.lt
  obtain ⟨p, q, hA0, hV, rfl, hfz, hnd⟩ := hW
  obtain ⟨rfl, rfl⟩ := trodVars_none hV
  simp only [List.append_nil] at hW' hlt
  have hsz : (DataW.weightsEach Tryz.prog Tryz.f9.params.toList ds).all (· ≤ reachBytes) = true := by
    have := hsized
    simp only [List.append_nil] at this
    exact this
  have hA : DataW.TrodAll enc Tryz.prog W0 0 (fun _ => true) true Tryz.f9.params.toList args.toList ds p := hA0
  have hback : ∀ (W' : World), Kp W0 W' → ∀ sp : Nat → Bool, (∀ q ∈ p, sp q.block = true) → DataW.TrodAll enc Tryz.prog W' 0 sp true Tryz.f9.params.toList args.toList ds p := fun W' hk sp hsp =>
    stayAll laid rowed sizes few hA (fun q hq => hk.1.same (hlt q hq)) hsp
  rw [Tryz.params9] at hA hval hsz
  obtain ⟨v0, vs0, d0, ds0, p0, q0, hargs, rfl, rfl, h0, r0⟩ := trodAll_cons hA
  obtain ⟨v1, vs1, d1, ds1, p1, q1, rfl, rfl, rfl, h1, r1⟩ := trodAll_cons r0
  obtain ⟨rfl, rfl, rfl⟩ := trodAll_nil r1
  obtain rfl : args = #[v0, v1] := by cases args; simp_all
  obtain ⟨a0, rfl, rfl, rfl, u0⟩ := open_int Tryz.underlying3 (hval 0 3 v0 rfl rfl) h0
  obtain ⟨l1, rfl, w1⟩ := open_flat (ks := [.num .i64, .num .i64, .num .i64, .num .i64, .num .i64, .num .i64, .num .i64, .num .i64]) Tryz.underlying51 (by kernel_rfl) (by kernel_rfl) (by kernel_rfl) (hval 1 51 v1 rfl rfl) h1
  obtain ⟨m', hlaw⟩ := unitNilLaw a0 l1 u0 w1
  refine (walk (l := [.v (.int .i64 a0), .v (.agg (mkEl [.num .i64, .num .i64, .num .i64, .num .i64, .num .i64, .num .i64, .num .i64, .num .i64] l1).toArray)]) (vs := [.int .i64 a0, .agg (mkEl [.num .i64, .num .i64, .num .i64, .num .i64, .num .i64, .num .i64, .num .i64, .num .i64] l1).toArray]) rfl hlaw W0 ⟨rfl, rfl, trivial⟩).mono fun e W' ⟨he, hk⟩ => ?_
  subst he
  exact ⟨_, rfl, post_of_same2 (pa := _) (pv := []) hW' (fun _ _ _ => (trodAll_cons_mk (shut_bool Tryz.underlying4 _) trodAll_mk0)) (fun sp hsp => hback W' hk sp hsp) (fun _ _ => rfl) (by simp)
    (hk.1.frame _) hk.2 (ok_one (by kernel_rfl) rfl (okWide_bool_mk Tryz.underlying4 _))⟩

theorem over : Rows.unitNilRow.holds Tryz.pinned (OpenSpec.ofChange Rows.unitNilSpec) :=
  OpenClaim.holds_of_wide 9 Tryz.f9 rfl rfl rfl rfl rfl rfl rfl ⟨rfl, rfl, rfl, rfl, rfl⟩ rfl rfl rfl rfl rfl (by kernel_rfl) Tryz.func9 closed
    (of_decide_eq_true (by kernel_rfl)) (by unfold Func.isWrapper; first | (rw [if_pos (by decide +kernel)]; kernel_rfl) | (rw [if_neg (by decide +kernel)]; exact ⟨rfl, rfl⟩))
    (fun os started H enc _ => lifted os started H enc)

/-- The statement. -/
theorem proved : Rows.UnitNilSaid :=
  over
end Go.Proofs.YtagaiddomhpdmaaGreat.unitNil

