/-
  TopVerdicts: for every input the law returns true, and each argument reads behind the call as it read before. No condition.
-/
import Derived.Test.YtainfdcfkgemhaaGreatRows
import Derived.WalkKit
import Derived.ProofKit
import Derived.OpenShut
import Derived.Lib.SmallJoins
import Derived.Test.YtainfdcfkgemhaaGreatSx
import Derived.Test.YtainfdcfkgemhaaGreatYo
import Derived.Test.YtainfdcfkgemhaaGreatKf
set_option maxRecDepth 100000
namespace Go.Proofs.YtainfdcfkgemhaaGreat.topVerdicts
open Go.ChangeShapes Go.WideShapes Go.ChangeAt Go.RowKit Go.Joins Go.Sx
set_option linter.unusedVariables false

theorem own : ownKnob Tryz.prog.godebug = none := by kernel_rfl
theorem laid : laidOutB Tryz.prog = true := by kernel_rfl
theorem rowed : mapsRowed Tryz.prog = true := by kernel_rfl
theorem sizes : szOk Tryz.prog = true := by kernel_rfl
theorem few : ∀ t ∈ Tryz.f13.params.toList, t < Tryz.prog.types.size := by
  have h : (Tryz.f13.params.toList.all fun t => decide (t < Tryz.prog.types.size)) = true := by kernel_rfl
  intro t ht
  exact of_decide_eq_true (List.all_eq_true.1 h t ht)

theorem loops : loopsOf (Tryz.f13.body.getD .skip) = [] := by kernel_rfl

theorem walk {l : List In} {m' : Mem} {vs : List Value} (hn : (inRows l).length = 4) (h : runG Tv.Γtv L0 Tryz.prog Tryz.f13 (inArgs l 0) (inMem l) = some (.v (.bool true), m')) (w : World) (hA : InsOk w l vs) :
    Calls Tryz.prog 13 vs.toArray w fun e w' => e = .returned (.bool true) ∧ Kp w w' :=
  law_run (c := Tryz.f13.body.getD .skip) Tv.Oktv mixed Tryz.func13 rfl h hA (fun z z1 z2 b hb => noLoops loops z b hb)

theorem lifted (os : Os) (started : os.Started) (H : Type) (enc : TypeId × Value → H) :
    ReturnsInHanded {} Tryz.checked os 13 .any (Rows.topVerdictsSpec.pre6 enc Tryz.prog Tryz.f13 Rows.topVerdictsRow.domain false) (Rows.topVerdictsSpec.post enc Tryz.prog Tryz.f13 false true false false) := by
  refine returnsInHanded_of_change_sized (C := Tryz.checked) own started (by kernel_rfl) Tryz.func13
    (ChangeSpec.witness6 (enc := enc) (C := Tryz.checked) false ⟨#[], #[.agg #[.int .i64 0, .int .i64 0, .int .i64 0, .int .i64 0, .int .i64 0, .int .i64 0, .int .i64 0, .int .i64 0], .agg #[.slice none 0 0, .int .i64 0, .int .i64 0, .int .i64 0, .int .i64 0], .int .i64 0, .int .i64 0, .agg #[.int .i64 0, .int .i64 0, .int .i64 0, .int .i64 0, .int .i64 0, .int .i64 0], .slice none 0 0, .slice none 0 0, .slice none 0 0], []⟩ 8 (by kernel_rfl) (by kernel_rfl) (by kernel_rfl) (by kernel_rfl)) ?_
  intro W0 base args ds gs before hval0 hW hcnd hsized _
  have hval : ∀ (j : Nat) t v, Tryz.f13.params[j]? = some t → args[j]? = some v → Value.okWide Tryz.prog W0 .any base t v := hval0
  have hW' := hW
  have hlt := hW.lt
  obtain ⟨p, q, hA0, hV, rfl, hfz, hnd⟩ := hW
  obtain ⟨rfl, rfl⟩ := trodVars_none hV
  simp only [List.append_nil] at hW' hlt
  have hsz : (DataW.weightsEach Tryz.prog Tryz.f13.params.toList ds).all (· ≤ reachBytes) = true := by
    have := hsized
    simp only [List.append_nil] at this
    exact this
  have hA : DataW.TrodAll enc Tryz.prog W0 0 (fun _ => true) true Tryz.f13.params.toList args.toList ds p := hA0
  have hback : ∀ (W' : World), Kp W0 W' → ∀ sp : Nat → Bool, (∀ q ∈ p, sp q.block = true) → DataW.TrodAll enc Tryz.prog W' 0 sp true Tryz.f13.params.toList args.toList ds p := fun W' hk sp hsp =>
    stayAll laid rowed sizes few hA (fun q hq => hk.1.same (hlt q hq)) hsp
  rw [Tryz.params13] at hA hval hsz
  obtain ⟨v0, vs0, d0, ds0, p0, q0, hargs, rfl, rfl, h0, r0⟩ := trodAll_cons hA
  obtain ⟨v1, vs1, d1, ds1, p1, q1, rfl, rfl, rfl, h1, r1⟩ := trodAll_cons r0
  obtain ⟨v2, vs2, d2, ds2, p2, q2, rfl, rfl, rfl, h2, r2⟩ := trodAll_cons r1
  obtain ⟨v3, vs3, d3, ds3, p3, q3, rfl, rfl, rfl, h3, r3⟩ := trodAll_cons r2
  obtain ⟨v4, vs4, d4, ds4, p4, q4, rfl, rfl, rfl, h4, r4⟩ := trodAll_cons r3
  obtain ⟨v5, vs5, d5, ds5, p5, q5, rfl, rfl, rfl, h5, r5⟩ := trodAll_cons r4
  obtain ⟨v6, vs6, d6, ds6, p6, q6, rfl, rfl, rfl, h6, r6⟩ := trodAll_cons r5
  obtain ⟨v7, vs7, d7, ds7, p7, q7, rfl, rfl, rfl, h7, r7⟩ := trodAll_cons r6
  obtain ⟨rfl, rfl, rfl⟩ := trodAll_nil r7
  obtain rfl : args = #[v0, v1, v2, v3, v4, v5, v6, v7] := by cases args; simp_all
  obtain ⟨l0, rfl, w0⟩ := open_flat (ks := [.num .i64, .num .i64, .num .i64, .num .i64, .num .i64, .num .i64, .num .i64, .num .i64]) Tryz.underlying56 (by kernel_rfl) (by kernel_rfl) (by kernel_rfl) (hval 0 56 v0 rfl rfl) h0
  obtain ⟨l1, c1, rfl, k1, w1⟩ := open_rec (ts := kPz) Tryz.underlying117 (by kernel_rfl) (by kernel_rfl) (hval 1 117 v1 rfl rfl) h1
  obtain ⟨a2, rfl, rfl, rfl, u2⟩ := open_int Tryz.underlying2 (hval 2 2 v2 rfl rfl) h2
  obtain ⟨a3, rfl, rfl, rfl, u3⟩ := open_int Tryz.underlying2 (hval 3 2 v3 rfl rfl) h3
  obtain ⟨l4, rfl, w4⟩ := open_arrT (ks := [.num .i64, .num .i64, .num .i64, .num .i64, .num .i64, .num .i64]) (n := 8) Tryz.underlying118 (by kernel_rfl) (hval 4 118 v4 rfl rfl) h4
  obtain ⟨l5, k5, w5, y5⟩ := open_trees (ks := [.num .i64, .num .i64]) (m := 8) Tryz.underlying119 (by kernel_rfl) (by kernel_rfl) (by decide) (hval 5 119 v5 rfl rfl) h5
  have n5 : l5.length ≤ 281474976710656 := by
    rcases y5 with y5 | ⟨elems, spare, y5, y5'⟩
    · rw [y5]; simp
    · have := sized_slice hsz (j := 5) rfl (by rw [y5]; rfl) Tryz.underlying119
      have hb : 1 ≤ Tryz.prog.bytesOf 44 := of_decide_eq_true (by kernel_rfl)
      have hm := Nat.le_mul_of_pos_right (elems.length + spare.length) hb
      have := reachBytes_lt
      omega
  obtain ⟨l6, k6, w6, y6⟩ := open_trees (ks := [.num .i64]) (m := 8) Tryz.underlying120 (by kernel_rfl) (by kernel_rfl) (by decide) (hval 6 120 v6 rfl rfl) h6
  have n6 : l6.length ≤ 281474976710656 := by
    rcases y6 with y6 | ⟨elems, spare, y6, y6'⟩
    · rw [y6]; simp
    · have := sized_slice hsz (j := 6) rfl (by rw [y6]; rfl) Tryz.underlying120
      have hb : 1 ≤ Tryz.prog.bytesOf 3 := of_decide_eq_true (by kernel_rfl)
      have hm := Nat.le_mul_of_pos_right (elems.length + spare.length) hb
      have := reachBytes_lt
      omega
  obtain ⟨l7, k7, w7, y7⟩ := open_trees (ks := [.bool]) (m := 8) Tryz.underlying121 (by kernel_rfl) (by kernel_rfl) (by decide) (hval 7 121 v7 rfl rfl) h7
  have n7 : l7.length ≤ 281474976710656 := by
    rcases y7 with y7 | ⟨elems, spare, y7, y7'⟩
    · rw [y7]; simp
    · have := sized_slice hsz (j := 7) rfl (by rw [y7]; rfl) Tryz.underlying121
      have hb : 1 ≤ Tryz.prog.bytesOf 4 := of_decide_eq_true (by kernel_rfl)
      have hm := Nat.le_mul_of_pos_right (elems.length + spare.length) hb
      have := reachBytes_lt
      omega
  obtain ⟨m', hlaw⟩ := topVerdictsLaw l0 l1 a2 a3 l4 l5 l6 l7 w0 w1 u2 u3 w4 w5 n5 w6 n6 w7 n7
  refine (walk (l := [.v (.agg (mkEl [.num .i64, .num .i64, .num .i64, .num .i64, .num .i64, .num .i64, .num .i64, .num .i64] l0).toArray), .ag (tkIn kPz l1), .v (.int .i64 a2), .v (.int .i64 a3), .v (.agg (mkEl [.num .i64, .num .i64, .num .i64, .num .i64, .num .i64, .num .i64] l4).toArray), .row 44 [.num .i64, .num .i64] l5, .row 3 [.num .i64] l6, .row 4 [.bool] l7]) (vs := [.agg (mkEl [.num .i64, .num .i64, .num .i64, .num .i64, .num .i64, .num .i64, .num .i64, .num .i64] l0).toArray, .agg c1.toArray, .int .i64 a2, .int .i64 a3, .agg (mkEl [.num .i64, .num .i64, .num .i64, .num .i64, .num .i64, .num .i64] l4).toArray, v5, v6, v7]) (by simp only [inRows, List.length_append, List.length_cons, List.length_nil, rows_kPz w1]) hlaw W0 ⟨rfl, ⟨c1, rfl, k1⟩, rfl, rfl, rfl, RowIn.plain rfl k5, RowIn.plain rfl k6, RowIn.plain rfl k7, trivial⟩).mono fun e W' ⟨he, hk⟩ => ?_
  subst he
  exact ⟨_, rfl, post_of_same2 (pa := _) (pv := []) hW' (fun _ _ _ => (trodAll_cons_mk (shut_bool Tryz.underlying4 _) trodAll_mk0)) (fun sp hsp => hback W' hk sp hsp) (fun _ _ => rfl) (by simp)
    (hk.1.frame _) hk.2 (ok_one (by kernel_rfl) rfl (okWide_bool_mk Tryz.underlying4 _))⟩

theorem over : Rows.topVerdictsRow.holds Tryz.pinned (OpenSpec.ofChange Rows.topVerdictsSpec) :=
  OpenClaim.holds_of_wide 13 Tryz.f13 rfl rfl rfl rfl rfl rfl rfl ⟨rfl, rfl, rfl, rfl, rfl⟩ rfl rfl rfl rfl rfl (by kernel_rfl) Tryz.func13 closed
    (of_decide_eq_true (by kernel_rfl)) (by unfold Func.isWrapper; first | (rw [if_pos (by decide +kernel)]; kernel_rfl) | (rw [if_neg (by decide +kernel)]; exact ⟨rfl, rfl⟩))
    (fun os started H enc _ => lifted os started H enc)

/-- The statement. -/
theorem proved : Rows.TopVerdictsSaid :=
  over
end Go.Proofs.YtainfdcfkgemhaaGreat.topVerdicts

