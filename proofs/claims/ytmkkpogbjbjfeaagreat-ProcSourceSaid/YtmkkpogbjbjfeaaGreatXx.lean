/-
  What a struct by value holds, as an argument. No condition.
-/
import Derived.Test.YtmkkpogbjbjfeaaGreatSx
import Derived.Lib.SmallJoins
import Derived.WideShapes
namespace Go.Sx
open Go.RowKit Go.Joins Go.Deep Go.ChangeShapes Go.WideShapes

/-! Structs of numbers, texts and bools: by value, and in slices. -/
section
variable {H : Type} {enc : TypeId × Value → H} {P : Program}

def ckFs (P : Program) : List Field → Option (List CK)
  | [] => some []
  | f :: r => match ckT P f.type, ckFs P r with
    | some k, some l => some (k :: l)
    | _, _ => none
theorem flat_fields {w : World} {base : Nat} {spare : Nat → Bool} {held : Bool} {fuel : Nat} : ∀ (fs : List Field) (ks : List CK) (cs : List Value), ckFs P fs = some ks → cs.length = fs.length →
    (∀ (i : Nat) f c, fs[i]? = some f → cs[i]? = some c → ∃ y, DataW.trod enc P w base spare held fuel f.type [c] = some y) → ∃ l, mkEl ks l = cs ∧ WfL ks l
  | [], ks, cs, hk, hl, _ => by
    simp [ckFs] at hk
    subst hk
    have : cs = [] := List.eq_nil_of_length_eq_zero hl
    subst this
    exact ⟨[], rfl, trivial⟩
  | f :: fs, ks, [], hk, hl, _ => by simp at hl
  | f :: fs, ks, c :: cs, hk, hl, h => by
    unfold ckFs at hk
    split at hk
    · rename_i k l hk1 hk2
      injection hk with hk
      subst hk
      obtain ⟨y, hy⟩ := h 0 f c rfl rfl
      obtain ⟨d, h1, h2, _⟩ := one_cell hk1 hy
      obtain ⟨ds, h3, h4⟩ := flat_fields fs l cs hk2 (by simpa using hl) (fun i f c e1 e2 => h (i + 1) f c (by simpa using e1) (by simpa using e2))
      exact ⟨d :: ds, by simp [mkEl, h1, h3], h2, h4⟩
    · cases hk
/-- A struct, by value. -/
theorem open_flat {w : World} {b0 : Nat} {t : TypeId} {fs : Array Field} {ks : List CK} {v : Value} {d : DataW H} {ps : List MemPlace} (hs : P.underlying t = some (.struct fs)) (hone : oneCellFields P fs = true) (hks : ckFs P fs.toList = some ks) (hc : P.cellsOf t = fs.size)
    (hv : Value.okWide P w .any b0 t v) (h : DataW.Trod enc P w 0 (fun _ => true) true t v d ps) : ∃ l, v = .agg (mkEl ks l).toArray ∧ WfL ks l := by
  obtain ⟨cs, rfl, hsz⟩ := okWide_struct hs hv
  obtain ⟨fuel, hf⟩ := h
  obtain ⟨xs, n, _, _, _, hlen, hfd⟩ := DataW.trod_struct hs hf
  obtain ⟨l, h1, h2⟩ := flat_fields (enc := enc) (w := w) (fuel := n) fs.toList ks cs.toList hks (by simp [hsz, hc]) (fun i f c hf hc => by
    have hf' : fs[i]? = some f := by simpa using hf
    obtain ⟨o, k⟩ := hone_of hone i f hf'
    have := hfd i f hf'
    have hi : i < xs.length := by have := (Array.getElem?_eq_some_iff.1 hf').1; omega
    rw [o, k] at this
    refine ⟨xs[i], ?_⟩
    rw [← List.getElem?_eq_getElem hi, ← this]
    have hcs : ((Value.agg cs).cells.toList.drop i).take 1 = [c] := by
      have : (Value.agg cs).cells = cs := rfl
      rw [this]
      have hi' := (List.getElem?_eq_some_iff.1 hc)
      obtain ⟨hlt, rfl⟩ := hi'
      rw [List.drop_eq_getElem_cons hlt]
      rfl
    rw [hcs])
  refine ⟨l, ?_, h2⟩
  rw [h1]

end
end Go.Sx
namespace Go.Sx
open Go.RowKit Go.Joins Go.Deep Go.ChangeShapes Go.WideShapes
section
variable {H : Type} {enc : TypeId × Value → H} {P : Program}
end
end Go.Sx

