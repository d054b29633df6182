/-
  PolyRound: for every input the law returns true, and each argument reads behind the call as it read before. No condition.
-/
import Derived.Test.YtcjkkfhdnealpaaRows
import Derived.WalkKit
import Derived.ProofKit
import Derived.OpenShut
import Derived.Lib.SmallJoins
import Derived.Test.YtcjkkfhdnealpaaSx
import Derived.Test.YtcjkkfhdnealpaaYf
namespace Go.Proofs.Ytcjkkfhdnealpaa.polyRound
open Go.ChangeShapes Go.WideShapes Go.ChangeAt Go.RowKit Go.Joins Go.Sx
set_option linter.unusedVariables false

theorem own : ownKnob Try.prog.godebug = none := by kernel_rfl
theorem laid : laidOutB Try.prog = true := by kernel_rfl
theorem rowed : mapsRowed Try.prog = true := by kernel_rfl
theorem sizes : szOk Try.prog = true := by kernel_rfl
theorem few : ∀ t ∈ Try.f4.params.toList, t < Try.prog.types.size := by
  have h : (Try.f4.params.toList.all fun t => decide (t < Try.prog.types.size)) = true := by kernel_rfl
  intro t ht
  exact of_decide_eq_true (List.all_eq_true.1 h t ht)

theorem loops : loopsOf (Try.f4.body.getD .skip) = [] := by kernel_rfl

theorem walk {l : List In} {m' : Mem} {vs : List Value} (hn : (inRows l).length = 1) (h : runG ΓPR L0 Try.prog Try.f4 (inArgs l 0) (inMem l) = some (.v (.bool true), m')) (w : World) (hA : InsOk w l vs) :
    Calls Try.prog 4 vs.toArray w fun e w' => e = .returned (.bool true) ∧ Kp w w' :=
  law_run (c := Try.f4.body.getD .skip) OkPR mixed Try.func4 rfl h hA (fun z z1 z2 b hb => noLoops loops z b hb)

set_option maxRecDepth 100000 in
theorem lifted (os : Os) (started : os.Started) (H : Type) (enc : TypeId × Value → H) :
    ReturnsInHanded {} Try.checked os 4 .any (Rows.polyRoundSpec.pre6 enc Try.prog Try.f4 Rows.polyRoundRow.domain false) (Rows.polyRoundSpec.post enc Try.prog Try.f4 false true false false) := by
  refine returnsInHanded_of_change_sized (C := Try.checked) own started (by kernel_rfl) Try.func4
    (ChangeSpec.witness6 (enc := enc) (C := Try.checked) false ⟨#[], #[.slice none 0 0, .int .i64 0, .agg #[.int .i64 0, .int .i64 0]], []⟩ 8 (by kernel_rfl) (by kernel_rfl) (by kernel_rfl) (by kernel_rfl)) ?_
  intro W0 base args ds gs before hval0 hW hcnd hsized _
  have hval : ∀ (j : Nat) t v, Try.f4.params[j]? = some t → args[j]? = some v → Value.okWide Try.prog W0 .any base t v := hval0
  have hW' := hW
  have hlt := hW.lt
  obtain ⟨p, q, hA0, hV, rfl, hfz, hnd⟩ := hW
  obtain ⟨rfl, rfl⟩ := trodVars_none hV
  simp only [List.append_nil] at hW' hlt
  have hsz : (DataW.weightsEach Try.prog Try.f4.params.toList ds).all (· ≤ reachBytes) = true := by
    have := hsized
    simp only [List.append_nil] at this
    exact this
  have hA : DataW.TrodAll enc Try.prog W0 0 (fun _ => true) true Try.f4.params.toList args.toList ds p := hA0
  have hback : ∀ (W' : World), Kp W0 W' → ∀ sp : Nat → Bool, (∀ q ∈ p, sp q.block = true) → DataW.TrodAll enc Try.prog W' 0 sp true Try.f4.params.toList args.toList ds p := fun W' hk sp hsp =>
    stayAll laid rowed sizes few hA (fun q hq => hk.1.same (hlt q hq)) hsp
  rw [Try.params4] at hA hval hsz
  obtain ⟨v0, vs0, d0, ds0, p0, q0, hargs, rfl, rfl, h0, r0⟩ := trodAll_cons hA
  obtain ⟨v1, vs1, d1, ds1, p1, q1, rfl, rfl, rfl, h1, r1⟩ := trodAll_cons r0
  obtain ⟨v2, vs2, d2, ds2, p2, q2, rfl, rfl, rfl, h2, r2⟩ := trodAll_cons r1
  obtain ⟨rfl, rfl, rfl⟩ := trodAll_nil r2
  obtain rfl : args = #[v0, v1, v2] := by cases args; simp_all
  obtain ⟨l0, k0, w0, y0⟩ := open_flats (ks := [.num .i64, .num .i64]) Try.underlying22 Try.underlying24 (by kernel_rfl) (by kernel_rfl) (by kernel_rfl) (by decide) (hval 0 22 v0 rfl rfl) h0
  have n0 : l0.length ≤ 281474976710656 := by
    rcases y0 with y0 | ⟨elems, spare, y0, y0'⟩
    · rw [y0]; simp
    · have := sized_slice hsz (j := 0) rfl (by rw [y0]; rfl) Try.underlying22
      have hb : 1 ≤ Try.prog.bytesOf 24 := of_decide_eq_true (by kernel_rfl)
      have hm := Nat.le_mul_of_pos_right (elems.length + spare.length) hb
      have := reachBytes_lt
      omega
  obtain ⟨a1, rfl, rfl, rfl, u1⟩ := open_int Try.underlying3 (hval 1 3 v1 rfl rfl) h1
  obtain ⟨l2, rfl, w2⟩ := open_flat (ks := [.num .i64, .num .i64]) Try.underlying24 (by kernel_rfl) (by kernel_rfl) (by kernel_rfl) (hval 2 24 v2 rfl rfl) h2
  obtain ⟨m', hlaw⟩ := polyRoundLaw l0 a1 l2 w0 n0 u1 w2
  refine (walk (l := [.row 24 [.num .i64, .num .i64] l0, .v (.int .i64 a1), .v (.agg (mkEl [.num .i64, .num .i64] l2).toArray)]) (vs := [v0, .int .i64 a1, .agg (mkEl [.num .i64, .num .i64] l2).toArray]) rfl hlaw W0 ⟨RowIn.plain rfl k0, rfl, rfl, trivial⟩).mono fun e W' ⟨he, hk⟩ => ?_
  subst he
  exact ⟨_, rfl, post_of_same2 (pa := _) (pv := []) hW' (fun _ _ _ => (trodAll_cons_mk (shut_bool Try.underlying4 _) trodAll_mk0)) (fun sp hsp => hback W' hk sp hsp) (fun _ _ => rfl) (by simp)
    (hk.1.frame _) hk.2 (ok_one (by kernel_rfl) rfl (okWide_bool_mk Try.underlying4 _))⟩

theorem over : Rows.polyRoundRow.holds Try.pinned (OpenSpec.ofChange Rows.polyRoundSpec) :=
  OpenClaim.holds_of_wide 4 Try.f4 rfl rfl rfl rfl rfl rfl rfl ⟨rfl, rfl, rfl, rfl, rfl⟩ rfl rfl rfl rfl rfl (by kernel_rfl) Try.func4 (by kernel_rfl)
    (of_decide_eq_true (by kernel_rfl)) (by unfold Func.isWrapper; first | (rw [if_pos (by decide +kernel)]; kernel_rfl) | (rw [if_neg (by decide +kernel)]; exact ⟨rfl, rfl⟩))
    (fun os started H enc _ => lifted os started H enc)

/-- The statement. -/
theorem proved : Rows.PolyRoundSaid :=
  over
end Go.Proofs.Ytcjkkfhdnealpaa.polyRound

