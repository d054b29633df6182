/-
  CrcTables: for every input the law returns true, and each argument reads behind the call as it read before. No condition.
-/
import Derived.Test.YtjnkcojbeknpeaaRows
import Derived.WalkKit
import Derived.ProofKit
import Derived.OpenShut
import Derived.Lib.SmallJoins
import Derived.Test.YtjnkcojbeknpeaaSy
import Derived.Test.YtjnkcojbeknpeaaYf
namespace Go.Proofs.Ytjnkcojbeknpeaa.crcTables
open Go.ChangeShapes Go.WideShapes Go.ChangeAt Go.RowKit Go.Joins Go.Sx
set_option linter.unusedVariables false

theorem own : ownKnob Try.prog.godebug = none := by kernel_rfl
theorem laid : laidOutB Try.prog = true := by kernel_rfl
theorem rowed : mapsRowed Try.prog = true := by kernel_rfl
theorem sizes : szOk Try.prog = true := by kernel_rfl
theorem few : ∀ t ∈ Try.f8.params.toList, t < Try.prog.types.size := by
  have h : (Try.f8.params.toList.all fun t => decide (t < Try.prog.types.size)) = true := by kernel_rfl
  intro t ht
  exact of_decide_eq_true (List.all_eq_true.1 h t ht)

theorem cellsE9 : Try.prog.cellsOf 9 = 1 := by kernel_rfl
theorem bytesE9 : Try.prog.bytesOf 9 = 16 := by kernel_rfl

theorem walk {b : Bool} {args : List Arg} {vs : List Value} (h : runA Γd (Λ8 b) Try.prog Try.f8 args = some (.v (.bool true))) (w : World) (hA : ArgsOk w args vs) :
    Calls Try.prog 8 vs.toArray w fun e w' => e = .returned (.bool true) ∧ Kp w w' := by
  refine (run_sound Okd mixed Try.func8 rfl h w (fun c hb => ?_) hA).mono ?_
  · have hb' : c ∈ loopsOf (Try.f8.body.getD .skip) := hb
    rw [loops8, List.mem_singleton] at hb'
    subst hb'; exact loopOk8 b ⟨w, []⟩
  · rintro e w' ⟨y, rfl, hy, hk⟩
    have hy' : y = .bool true := hy
    subst hy'
    exact ⟨rfl, hk⟩

set_option maxRecDepth 100000 in
theorem lifted (os : Os) (started : os.Started) (H : Type) (enc : TypeId × Value → H) :
    ReturnsInHanded {} Try.checked os 8 .any (Rows.crcTablesSpec.pre6 enc Try.prog Try.f8 Rows.crcTablesRow.domain false) (Rows.crcTablesSpec.post enc Try.prog Try.f8 false true false false) := by
  refine returnsInHanded_of_change_sized (C := Try.checked) own started (by kernel_rfl) Try.func8
    (ChangeSpec.witness6 (enc := enc) (C := Try.checked) false ⟨#[], #[.slice none 0 0], []⟩ 8 (by kernel_rfl) (by kernel_rfl) (by kernel_rfl) (by kernel_rfl)) ?_
  intro W0 base args ds gs before hval0 hW hcnd hsized _
  have hval : ∀ (j : Nat) t v, Try.f8.params[j]? = some t → args[j]? = some v → Value.okWide Try.prog W0 .any base t v := hval0
  have hW' := hW
  have hlt := hW.lt
  obtain ⟨p, q, hA0, hV, rfl, hfz, hnd⟩ := hW
  obtain ⟨rfl, rfl⟩ := trodVars_none hV
  simp only [List.append_nil] at hW' hlt
  have hsz : (DataW.weightsEach Try.prog Try.f8.params.toList ds).all (· ≤ reachBytes) = true := by
    have := hsized
    simp only [List.append_nil] at this
    exact this
  have hA : DataW.TrodAll enc Try.prog W0 0 (fun _ => true) true Try.f8.params.toList args.toList ds p := hA0
  have hback : ∀ (W' : World), Kp W0 W' → ∀ sp : Nat → Bool, (∀ q ∈ p, sp q.block = true) → DataW.TrodAll enc Try.prog W' 0 sp true Try.f8.params.toList args.toList ds p := fun W' hk sp hsp =>
    stayAll laid rowed sizes few hA (fun q hq => hk.1.same (hlt q hq)) hsp
  rw [Try.params8] at hA hval hsz
  obtain ⟨v0, vs0, d0, ds0, p0, q0, hargs, rfl, rfl, h0, r0⟩ := trodAll_cons hA
  obtain ⟨rfl, rfl, rfl⟩ := trodAll_nil r0
  obtain rfl : args = #[v0] := by cases args; simp_all
  obtain ⟨L0, k0, w0, l0⟩ := open_texts Try.underlying41 Try.underlying9 cellsE9 (hval 0 41 v0 rfl rfl) h0
  have n0 : L0.length ≤ 281474976710656 := by
    rcases l0 with l0 | ⟨elems, spare, l0, l0'⟩
    · rw [l0]; simp
    · have := sized_slice hsz (j := 0) rfl (by rw [l0]; rfl) Try.underlying41
      rw [bytesE9] at this
      have := reachBytes_lt
      omega
  obtain ⟨b, hrun⟩ := crcTables L0 w0 n0
  refine (walk (args := [.wide [.str] L0]) (vs := [v0]) hrun W0 ⟨k0, trivial⟩).mono fun e W' ⟨he, hk⟩ => ?_
  subst he
  exact ⟨_, rfl, post_of_same2 (pa := _) (pv := []) hW' (fun _ _ _ => (trodAll_cons_mk (shut_bool Try.underlying4 _) trodAll_mk0)) (fun sp hsp => hback W' hk sp hsp) (fun _ _ => rfl) (by simp)
    (hk.1.frame _) hk.2 (ok_one (by kernel_rfl) rfl (okWide_bool_mk Try.underlying4 _))⟩

theorem over : Rows.crcTablesRow.holds Try.pinned (OpenSpec.ofChange Rows.crcTablesSpec) :=
  OpenClaim.holds_of_wide 8 Try.f8 rfl rfl rfl rfl rfl rfl rfl ⟨rfl, rfl, rfl, rfl, rfl⟩ rfl rfl rfl rfl rfl (by kernel_rfl) Try.func8 (by kernel_rfl)
    (of_decide_eq_true (by kernel_rfl)) (by unfold Func.isWrapper; first | (rw [if_pos (by decide +kernel)]; kernel_rfl) | (rw [if_neg (by decide +kernel)]; exact ⟨rfl, rfl⟩))
    (fun os started H enc _ => lifted os started H enc)

/-- The statement. -/
theorem proved : Rows.CrcTablesSaid :=
  over
end Go.Proofs.Ytjnkcojbeknpeaa.crcTables

