/-
  CountPlays: for every input the law returns true, and each argument reads behind the call as it read before. No condition.
-/
import Derived.Test.YtdlhgjkcfchpnaaRows
import Derived.WalkKit
import Derived.ProofKit
import Derived.OpenShut
import Derived.Lib.SmallJoins
import Derived.Test.YtdlhgjkcfchpnaaSy
import Derived.Test.YtdlhgjkcfchpnaaYe
namespace Go.Proofs.Ytdlhgjkcfchpnaa.countPlays
open Go.ChangeShapes Go.WideShapes Go.ChangeAt Go.RowKit Go.Joins Go.Sx
set_option linter.unusedVariables false

theorem own : ownKnob Try.prog.godebug = none := by kernel_rfl
theorem laid : laidOutB Try.prog = true := by kernel_rfl
theorem rowed : mapsRowed Try.prog = true := by kernel_rfl
theorem sizes : szOk Try.prog = true := by kernel_rfl
theorem few : ∀ t ∈ Try.f3.params.toList, t < Try.prog.types.size := by
  have h : (Try.f3.params.toList.all fun t => decide (t < Try.prog.types.size)) = true := by kernel_rfl
  intro t ht
  exact of_decide_eq_true (List.all_eq_true.1 h t ht)

theorem cellsE29 : Try.prog.cellsOf 29 = 2 := by kernel_rfl
theorem bytesE29 : Try.prog.bytesOf 29 = 16 := by kernel_rfl

theorem walk {args : List Arg} {vs : List Value} (h : runA Γ5 Λ3 Try.prog Try.f3 args = some (.v (.bool true))) (w : World) (hA : ArgsOk w args vs) :
    Calls Try.prog 3 vs.toArray w fun e w' => e = .returned (.bool true) ∧ Kp w w' := by
  refine (run_sound Ok5 mixed Try.func3 rfl h w (fun b hb => ?_) hA).mono ?_
  · have hb' : b ∈ loopsOf (Try.f3.body.getD .skip) := hb
    rw [loops3, List.mem_singleton] at hb'
    subst hb'; exact loopOk3 w
  · rintro e w' ⟨y, rfl, hy, hk⟩
    have hy' : y = .bool true := hy
    subst hy'
    exact ⟨rfl, hk⟩

set_option maxRecDepth 100000 in
theorem lifted (os : Os) (started : os.Started) (H : Type) (enc : TypeId × Value → H) :
    ReturnsInHanded {} Try.checked os 3 .any (Rows.countPlaysSpec.pre6 enc Try.prog Try.f3 Rows.countPlaysRow.domain false) (Rows.countPlaysSpec.post enc Try.prog Try.f3 false true false false) := by
  refine returnsInHanded_of_change_sized (C := Try.checked) own started (by kernel_rfl) Try.func3
    (ChangeSpec.witness6 (enc := enc) (C := Try.checked) false ⟨#[], #[.int .i64 0, .slice none 0 0], []⟩ 8 (by kernel_rfl) (by kernel_rfl) (by kernel_rfl) (by kernel_rfl)) ?_
  intro W0 base args ds gs before hval0 hW hcnd hsized _
  have hval : ∀ (j : Nat) t v, Try.f3.params[j]? = some t → args[j]? = some v → Value.okWide Try.prog W0 .any base t v := hval0
  have hW' := hW
  have hlt := hW.lt
  obtain ⟨p, q, hA0, hV, rfl, hfz, hnd⟩ := hW
  obtain ⟨rfl, rfl⟩ := trodVars_none hV
  simp only [List.append_nil] at hW' hlt
  have hsz : (DataW.weightsEach Try.prog Try.f3.params.toList ds).all (· ≤ reachBytes) = true := by
    have := hsized
    simp only [List.append_nil] at this
    exact this
  have hA : DataW.TrodAll enc Try.prog W0 0 (fun _ => true) true Try.f3.params.toList args.toList ds p := hA0
  have hback : ∀ (W' : World), Kp W0 W' → ∀ sp : Nat → Bool, (∀ q ∈ p, sp q.block = true) → DataW.TrodAll enc Try.prog W' 0 sp true Try.f3.params.toList args.toList ds p := fun W' hk sp hsp =>
    stayAll laid rowed sizes few hA (fun q hq => hk.1.same (hlt q hq)) hsp
  rw [Try.params3] at hA hval hsz
  obtain ⟨v0, vs0, d0, ds0, p0, q0, hargs, rfl, rfl, h0, r0⟩ := trodAll_cons hA
  obtain ⟨v1, vs1, d1, ds1, p1, q1, rfl, rfl, rfl, h1, r1⟩ := trodAll_cons r0
  obtain ⟨rfl, rfl, rfl⟩ := trodAll_nil r1
  obtain rfl : args = #[v0, v1] := by cases args; simp_all
  obtain ⟨a0, rfl, rfl, rfl, u0⟩ := open_int Try.underlying3 (hval 0 3 v0 rfl rfl) h0
  obtain ⟨L1, k1, w1, l1⟩ := open_wide2 Try.underlying22 Try.underlying29 (by kernel_rfl) Try.underlying3 Try.underlying3 cellsE29 (hval 1 22 v1 rfl rfl) h1
  have n1 : L1.length ≤ 281474976710656 := by
    rcases l1 with l1 | ⟨elems, spare, l1, l1'⟩
    · rw [l1]; simp
    · have := sized_slice hsz (j := 1) rfl (by rw [l1]; rfl) Try.underlying22
      rw [bytesE29] at this
      have := reachBytes_lt
      omega
  have g1 : Ops L1 := fun o ho => (w1 o ho).elim fun a h => h.elim fun b h => ⟨a, b, h.1, i64_wf h.2.1, i64_wf h.2.2⟩
  refine (walk (args := [.v (.int .i64 a0), .wide [.i64, .i64] L1]) (vs := [.int .i64 a0, v1]) (countPlays a0 L1 (i64_wf u0) g1 n1) W0 ⟨rfl, k1, trivial⟩).mono fun e W' ⟨he, hk⟩ => ?_
  subst he
  exact ⟨_, rfl, post_of_same (pa := _) (pv := []) hW' (fun _ _ _ => (trodAll_cons_mk (shut_bool Try.underlying4 _) trodAll_mk0)) (fun sp hsp => hback W' hk sp hsp) (fun _ _ => rfl) (by simp)
    (hk.1.frame _) hk.2 (ok_one (by kernel_rfl) rfl (okWide_bool_mk Try.underlying4 _))⟩

theorem over : Rows.countPlaysRow.holds Try.pinned (OpenSpec.ofChange Rows.countPlaysSpec) :=
  OpenClaim.holds_of_wide 3 Try.f3 rfl rfl rfl rfl rfl rfl rfl ⟨rfl, rfl, rfl, rfl, rfl⟩ rfl rfl rfl rfl rfl (by kernel_rfl) Try.func3 (by kernel_rfl)
    (of_decide_eq_true (by kernel_rfl)) (by unfold Func.isWrapper; first | (rw [if_pos (by decide +kernel)]; kernel_rfl) | (rw [if_neg (by decide +kernel)]; exact ⟨rfl, rfl⟩))
    (fun os started H enc _ => lifted os started H enc)

/-- The statement. -/
theorem proved : Rows.CountPlaysSaid :=
  over
end Go.Proofs.Ytdlhgjkcfchpnaa.countPlays

