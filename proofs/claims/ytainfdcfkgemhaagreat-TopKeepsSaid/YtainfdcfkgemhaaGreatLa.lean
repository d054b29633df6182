/-
  TopKeeps: for every input the law returns true, and each argument reads behind the call as it read before. No condition.
-/
import Derived.Test.YtainfdcfkgemhaaGreatRows
import Derived.WalkKit
import Derived.ProofKit
import Derived.OpenShut
import Derived.Lib.SmallJoins
import Derived.Test.YtainfdcfkgemhaaGreatSx
import Derived.Test.YtainfdcfkgemhaaGreatYs
import Derived.Test.YtainfdcfkgemhaaGreatKc
set_option maxRecDepth 100000
namespace Go.Proofs.YtainfdcfkgemhaaGreat.topKeeps
open Go.ChangeShapes Go.WideShapes Go.ChangeAt Go.RowKit Go.Joins Go.Sx
set_option linter.unusedVariables false

theorem own : ownKnob Tryz.prog.godebug = none := by kernel_rfl
theorem laid : laidOutB Tryz.prog = true := by kernel_rfl
theorem rowed : mapsRowed Tryz.prog = true := by kernel_rfl
theorem sizes : szOk Tryz.prog = true := by kernel_rfl
theorem few : ∀ t ∈ Tryz.f11.params.toList, t < Tryz.prog.types.size := by
  have h : (Tryz.f11.params.toList.all fun t => decide (t < Tryz.prog.types.size)) = true := by kernel_rfl
  intro t ht
  exact of_decide_eq_true (List.all_eq_true.1 h t ht)

theorem walk {l : List In} {m' : Mem} {vs : List Value} (hn : (inRows l).length = 2) (h : runG Hr.Γtk L0 Tryz.prog Tryz.f11 (inArgs l 0) (inMem l) = some (.v (.bool true), m')) (w : World) (hA : InsOk w l vs) :
    Calls Tryz.prog 11 vs.toArray w fun e w' => e = .returned (.bool true) ∧ Kp w w' :=
  law_run (c := Tryz.f11.body.getD .skip) Hr.Oktk mixed Tryz.func11 rfl h hA (fun z z1 z2 b hb => (fun z _ _ => l0Ok' _ z) z z1 (z2.trans hn) b hb)

theorem lifted (os : Os) (started : os.Started) (H : Type) (enc : TypeId × Value → H) :
    ReturnsInHanded {} Tryz.checked os 11 .any (Rows.topKeepsSpec.pre6 enc Tryz.prog Tryz.f11 Rows.topKeepsRow.domain false) (Rows.topKeepsSpec.post enc Tryz.prog Tryz.f11 false true false false) := by
  refine returnsInHanded_of_change_sized (C := Tryz.checked) own started (by kernel_rfl) Tryz.func11
    (ChangeSpec.witness6 (enc := enc) (C := Tryz.checked) false ⟨#[], #[.int .i64 0, .slice none 0 0, .slice none 0 0], []⟩ 8 (by kernel_rfl) (by kernel_rfl) (by kernel_rfl) (by kernel_rfl)) ?_
  intro W0 base args ds gs before hval0 hW hcnd hsized _
  have hval : ∀ (j : Nat) t v, Tryz.f11.params[j]? = some t → args[j]? = some v → Value.okWide Tryz.prog W0 .any base t v := hval0
  have hW' := hW
  have hlt := hW.lt
  obtain ⟨p, q, hA0, hV, rfl, hfz, hnd⟩ := hW
  obtain ⟨rfl, rfl⟩ := trodVars_none hV
  simp only [List.append_nil] at hW' hlt
  have hsz : (DataW.weightsEach Tryz.prog Tryz.f11.params.toList ds).all (· ≤ reachBytes) = true := by
    have := hsized
    simp only [List.append_nil] at this
    exact this
  have hA : DataW.TrodAll enc Tryz.prog W0 0 (fun _ => true) true Tryz.f11.params.toList args.toList ds p := hA0
  have hback : ∀ (W' : World), Kp W0 W' → ∀ sp : Nat → Bool, (∀ q ∈ p, sp q.block = true) → DataW.TrodAll enc Tryz.prog W' 0 sp true Tryz.f11.params.toList args.toList ds p := fun W' hk sp hsp =>
    stayAll laid rowed sizes few hA (fun q hq => hk.1.same (hlt q hq)) hsp
  rw [Tryz.params11] at hA hval hsz
  obtain ⟨v0, vs0, d0, ds0, p0, q0, hargs, rfl, rfl, h0, r0⟩ := trodAll_cons hA
  obtain ⟨v1, vs1, d1, ds1, p1, q1, rfl, rfl, rfl, h1, r1⟩ := trodAll_cons r0
  obtain ⟨v2, vs2, d2, ds2, p2, q2, rfl, rfl, rfl, h2, r2⟩ := trodAll_cons r1
  obtain ⟨rfl, rfl, rfl⟩ := trodAll_nil r2
  obtain rfl : args = #[v0, v1, v2] := by cases args; simp_all
  obtain ⟨a0, rfl, rfl, rfl, u0⟩ := open_int Tryz.underlying3 (hval 0 3 v0 rfl rfl) h0
  obtain ⟨l1, k1, w1, y1⟩ := open_trees2 (ks := [.str, .str, .str, .str, .num .i64, .bool]) (m := 8) Tryz.underlying22 (by kernel_rfl) (by kernel_rfl) (by decide) (reachW_of hsz (j := 1) rfl rfl) (hval 1 22 v1 rfl rfl) h1
  have n1 : l1.length ≤ 281474976710656 := by
    rcases y1 with y1 | ⟨elems, spare, y1, y1'⟩
    · rw [y1]; simp
    · have := sized_slice hsz (j := 1) rfl (by rw [y1]; rfl) Tryz.underlying22
      have hb : 1 ≤ Tryz.prog.bytesOf 36 := of_decide_eq_true (by kernel_rfl)
      have hm := Nat.le_mul_of_pos_right (elems.length + spare.length) hb
      have := reachBytes_lt
      omega
  obtain ⟨l2, k2, w2, y2⟩ := open_trees2 (ks := [.str, .str, .str, .str, .num .i64, .bool]) (m := 8) Tryz.underlying22 (by kernel_rfl) (by kernel_rfl) (by decide) (reachW_of hsz (j := 2) rfl rfl) (hval 2 22 v2 rfl rfl) h2
  have n2 : l2.length ≤ 281474976710656 := by
    rcases y2 with y2 | ⟨elems, spare, y2, y2'⟩
    · rw [y2]; simp
    · have := sized_slice hsz (j := 2) rfl (by rw [y2]; rfl) Tryz.underlying22
      have hb : 1 ≤ Tryz.prog.bytesOf 36 := of_decide_eq_true (by kernel_rfl)
      have hm := Nat.le_mul_of_pos_right (elems.length + spare.length) hb
      have := reachBytes_lt
      omega
  obtain ⟨m', hlaw⟩ := topKeepsLaw a0 l1 l2 u0 w1 n1 w2 n2
  refine (walk (l := [.v (.int .i64 a0), .row 36 [.str, .str, .str, .str, .num .i64, .bool] l1, .row 36 [.str, .str, .str, .str, .num .i64, .bool] l2]) (vs := [.int .i64 a0, v1, v2]) rfl hlaw W0 ⟨rfl, RowIn.plain rfl k1, RowIn.plain rfl k2, trivial⟩).mono fun e W' ⟨he, hk⟩ => ?_
  subst he
  exact ⟨_, rfl, post_of_same2 (pa := _) (pv := []) hW' (fun _ _ _ => (trodAll_cons_mk (shut_bool Tryz.underlying4 _) trodAll_mk0)) (fun sp hsp => hback W' hk sp hsp) (fun _ _ => rfl) (by simp)
    (hk.1.frame _) hk.2 (ok_one (by kernel_rfl) rfl (okWide_bool_mk Tryz.underlying4 _))⟩

theorem over : Rows.topKeepsRow.holds Tryz.pinned (OpenSpec.ofChange Rows.topKeepsSpec) :=
  OpenClaim.holds_of_wide 11 Tryz.f11 rfl rfl rfl rfl rfl rfl rfl ⟨rfl, rfl, rfl, rfl, rfl⟩ rfl rfl rfl rfl rfl (by kernel_rfl) Tryz.func11 closed
    (of_decide_eq_true (by kernel_rfl)) (by unfold Func.isWrapper; first | (rw [if_pos (by decide +kernel)]; kernel_rfl) | (rw [if_neg (by decide +kernel)]; exact ⟨rfl, rfl⟩))
    (fun os started H enc _ => lifted os started H enc)

/-- The statement. -/
theorem proved : Rows.TopKeepsSaid :=
  over
end Go.Proofs.YtainfdcfkgemhaaGreat.topKeeps

