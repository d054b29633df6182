/-
  Of polygons whose edges meet in their corners alone: twice their area isn't 0. No condition.
-/
import Derived.Test.YtcjkkfhdnealpaaSw
namespace Go.Pg
open Go.Sx
set_option linter.unusedVariables false
/-! Simple polygons have an area: what is asked of the plane. -/
abbrev Pt := Int × Int
/-- Twice the area from a over b to c. -/
def tW (a b c : Pt) : Int := (b.1 - a.1) * (c.2 - a.2) - (b.2 - a.2) * (c.1 - a.1)
def On (p a b : Pt) : Prop := tW a b p = 0 ∧ bt p.1 a.1 b.1 ∧ bt p.2 a.2 b.2
def Cr (a b c d : Pt) : Prop := opp (tW a b c) (tW a b d) ∧ opp (tW c d a) (tW c d b)
/-- Both above 0, or both below. -/
def SS (x y : Int) : Prop := (0 < x ∧ 0 < y) ∨ (x < 0 ∧ y < 0)
/-- In the triangle, or at its edge. -/
def In (w a b c : Pt) : Prop := (0 ≤ tW a b w ∧ 0 ≤ tW b c w ∧ 0 ≤ tW c a w) ∨ (tW a b w ≤ 0 ∧ tW b c w ≤ 0 ∧ tW c a w ≤ 0)
section
variable {a b c d p q u v w z : Pt}
theorem sum3 : tW a b w + tW b c w + tW c a w = tW a b c := by unfold tW; grind
theorem rot1 : tW b c a = tW a b c := by unfold tW; grind
theorem rot2 : tW c a b = tW a b c := by unfold tW; grind
theorem sw : tW b a c = - tW a b c := by unfold tW; grind
theorem sw2 : tW a c b = - tW a b c := by unfold tW; grind
theorem nn2 : tW a b b = 0 := by unfold tW; grind
theorem nn3 : tW a b a = 0 := by unfold tW; grind
/-- What a line is at a place, by what it is at a triangle's corners. -/
theorem bary : tW c d w * tW p u q = tW u q w * tW c d p + tW q p w * tW c d u + tW p u w * tW c d q := by unfold tW; grind
theorem baryL (k1 k2 : Int) : (k1 * w.1 + k2 * w.2) * tW p u q = tW u q w * (k1 * p.1 + k2 * p.2) + tW q p w * (k1 * u.1 + k2 * u.2) + tW p u w * (k1 * q.1 + k2 * q.2) := by unfold tW; grind
theorem Cr.sw (h : Cr a b c d) : Cr b a c d := by
  unfold Cr opp at *
  rw [Pg.sw (a := a) (b := b), Pg.sw (a := a) (b := b)]
  omega
theorem Cr.sw' (h : Cr a b c d) : Cr a b d c := by
  unfold Cr opp at *
  rw [Pg.sw (a := c) (b := d), Pg.sw (a := c) (b := d)]
  omega
theorem Cr.comm (h : Cr a b c d) : Cr c d a b := ⟨h.2, h.1⟩
theorem Cr.ne1 (h : Cr a b c d) : a ≠ c := by
  rintro rfl; have := h.2; rw [nn3] at this; unfold opp at this; omega
theorem Cr.ne2 (h : Cr a b c d) : a ≠ d := fun e => h.sw'.ne1 e
theorem Cr.ne3 (h : Cr a b c d) : b ≠ c := fun e => h.sw.ne1 e
theorem Cr.ne4 (h : Cr a b c d) : b ≠ d := fun e => h.sw.sw'.ne1 e
theorem On.comm (h : On p a b) : On p b a := by
  unfold On bt at *
  rw [Pg.sw (a := a) (b := b)]
  omega
/-- A segment that crosses a side, the end d on the third corner's side, crosses another side there, or ends in the triangle, or meets that corner. -/
theorem tc0 (ht : 0 < tW p u q) (h1 : 0 < tW q p d) (h2 : tW q p c < 0) (h3 : 0 < tW c d q) (h4 : tW c d p < 0) (n1 : ¬ Cr c d p u) (n2 : ¬ Cr c d u q) (no : tW c d u ≠ 0) (nd : ¬ In d p u q) : False := by
  have ed := bary (c := c) (d := d) (w := d) (p := p) (u := u) (q := q)
  have ec := bary (c := c) (d := d) (w := c) (p := p) (u := u) (q := q)
  rw [nn2, Int.zero_mul] at ed
  rw [nn3, Int.zero_mul] at ec
  have sd := sum3 (a := p) (b := u) (c := q) (w := d)
  have sc := sum3 (a := p) (b := u) (c := q) (w := c)
  unfold In at nd
  rcases Int.lt_or_gt_of_ne no with hu | hu
  · -- u is where p is
    refine n2 ⟨?_, ?_⟩
    · unfold opp; omega
    · have k1 : tW u q d < 0 := by
        rcases Int.lt_or_le (tW u q d) 0 with h | h
        · exact h
        · have f1 := mul_np h (Int.le_of_lt h4)
          have f2 := mul_PN h1 hu
          have f3 : 0 < tW c d q * tW p u d := by rw [Int.mul_comm]; omega
          have := (mul_posL h3).1 f3
          omega
      have k2 : 0 < tW u q c := by
        rcases Int.lt_or_le 0 (tW u q c) with h | h
        · exact h
        · have f1 := mul_pp h (Int.le_of_lt h4)
          have f2 := mul_NN h2 hu
          have f3 : tW c d q * tW p u c < 0 := by rw [Int.mul_comm]; omega
          have := (mul_negL h3).1 f3
          omega
      unfold opp; omega
  · refine n1 ⟨?_, ?_⟩
    · unfold opp; omega
    · have k1 : tW p u d < 0 := by
        rcases Int.lt_or_le (tW p u d) 0 with h | h
        · exact h
        · have f1 := mul_nn h (Int.le_of_lt h3)
          have f2 := mul_PP h1 hu
          have f3 : 0 < (-tW c d p) * tW u q d := by rw [Int.neg_mul, Int.mul_comm]; omega
          have := (mul_posL (show 0 < -tW c d p by omega)).1 f3
          omega
      have k2 : 0 < tW p u c := by
        rcases Int.lt_or_le 0 (tW p u c) with h | h
        · exact h
        · have f1 := mul_pn h (Int.le_of_lt h3)
          have f2 := mul_NP h2 hu
          have f3 : (-tW c d p) * tW u q c < 0 := by rw [Int.neg_mul, Int.mul_comm]; omega
          have := (mul_negL (show 0 < -tW c d p by omega)).1 f3
          omega
      unfold opp; omega
theorem diffs : tW q p d - tW q p c = tW c d q - tW c d p := by unfold tW; grind
theorem In.sw (h : In w a b c) : In w c b a := by
  unfold In at *
  rw [Pg.sw (a := c) (b := b), Pg.sw (a := b) (b := a), Pg.sw (a := a) (b := c)] at *
  omega
theorem tc1 (ht : 0 < tW p u q) (h : Cr c d p q) (n1 : ¬ Cr c d p u) (n2 : ¬ Cr c d u q) (no : tW c d u ≠ 0) (nc : ¬ In c p u q) (nd : ¬ In d p u q) : False := by
  obtain ⟨h1, h2⟩ := h
  have dd := diffs (c := c) (d := d) (p := p) (q := q)
  have e1 := Pg.sw (a := q) (b := p) (c := c)
  have e2 := Pg.sw (a := q) (b := p) (c := d)
  have e3 := Pg.sw (a := c) (b := d) (c := p)
  have e4 := Pg.sw (a := c) (b := d) (c := q)
  have e5 := Pg.sw (a := c) (b := d) (c := u)
  rcases Int.lt_or_le 0 (tW q p d) with hd | hd
  · refine tc0 ht hd ?_ ?_ ?_ n1 n2 no nd <;> unfold opp at h1 h2 <;> omega
  · refine tc0 (c := d) (d := c) ht ?_ ?_ ?_ ?_ (fun h => n1 h.sw) (fun h => n2 h.sw) (by omega) nc <;> unfold opp at h1 h2 <;> omega
/-- Of two weights, one below 0 and one above. -/
theorem mid1 {m n x y : Int} (hm : 0 < m) (hn : n < 0) (e : m * x = n * y) : (x ≤ 0 ∧ 0 ≤ y) ∨ (0 ≤ x ∧ y ≤ 0) := by
  rcases Int.lt_or_le 0 x with h | h
  · have f1 := mul_PP hm h
    rcases Int.lt_or_le 0 y with g | g
    · have := mul_NP hn g; omega
    · omega
  · rcases Int.lt_or_le y 0 with g | g
    · have f1 := mul_NN hn g
      have f2 := mul_np (Int.le_of_lt hm) h
      omega
    · omega
theorem on_mid0 (h0 : tW c d u = 0) (h1 : 0 < tW u q c) (h2 : tW u q d < 0) : On u c d := by
  have ex : tW u q c * (d.1 - u.1) = tW u q d * (c.1 - u.1) + -(tW c d u * (q.1 - u.1)) := by unfold tW; grind
  have ey : tW u q c * (d.2 - u.2) = tW u q d * (c.2 - u.2) + -(tW c d u * (q.2 - u.2)) := by unfold tW; grind
  rw [h0, Int.zero_mul, Int.neg_zero, Int.add_zero] at ex ey
  have := mid1 h1 h2 ex
  have := mid1 h1 h2 ey
  refine ⟨h0, ?_, ?_⟩ <;> unfold bt <;> omega
theorem tcOn (ht : 0 < tW p u q) (h1 : 0 < tW q p d) (h2 : tW q p c < 0) (h3 : 0 < tW c d q) (h4 : tW c d p < 0) (no : tW c d u = 0) (nd : ¬ In d p u q) : On u c d := by
  have ed := bary (c := c) (d := d) (w := d) (p := p) (u := u) (q := q)
  have ec := bary (c := c) (d := d) (w := c) (p := p) (u := u) (q := q)
  rw [nn2, Int.zero_mul, no, Int.mul_zero, Int.add_zero] at ed
  rw [nn3, Int.zero_mul, no, Int.mul_zero, Int.add_zero] at ec
  have sd := sum3 (a := p) (b := u) (c := q) (w := d)
  have sc := sum3 (a := p) (b := u) (c := q) (w := c)
  unfold In at nd
  refine on_mid0 no (q := q) ?_ ?_
  · rcases Int.lt_or_le 0 (tW u q c) with h | h
    · exact h
    · have f1 := mul_pp h (Int.le_of_lt h4)
      have f2 := mul_PP (show 0 < tW p u c by omega) h3
      omega
  · rcases Int.lt_or_le (tW u q d) 0 with h | h
    · exact h
    · have f1 := mul_np h (Int.le_of_lt h4)
      have f3 : 0 ≤ tW p u d * tW c d q := by omega
      have : 0 ≤ tW p u d := by
        rcases Int.lt_or_le (tW p u d) 0 with g | g
        · have := mul_NP g h3; omega
        · exact g
      omega
theorem tcO1 (ht : 0 < tW p u q) (h : Cr c d p q) (no : tW c d u = 0) (nc : ¬ In c p u q) (nd : ¬ In d p u q) : On u c d := by
  obtain ⟨h1, h2⟩ := h
  have dd := diffs (c := c) (d := d) (p := p) (q := q)
  have e1 := Pg.sw (a := q) (b := p) (c := c)
  have e2 := Pg.sw (a := q) (b := p) (c := d)
  have e3 := Pg.sw (a := c) (b := d) (c := p)
  have e4 := Pg.sw (a := c) (b := d) (c := q)
  have e5 := Pg.sw (a := c) (b := d) (c := u)
  rcases Int.lt_or_le 0 (tW q p d) with hd | hd
  · refine tcOn ht hd ?_ ?_ ?_ no nd <;> unfold opp at h1 h2 <;> omega
  · refine (tcOn (c := d) (d := c) ht ?_ ?_ ?_ ?_ (by omega) nc).comm <;> unfold opp at h1 h2 <;> omega
/-- A segment that crosses a side of a triangle, ends not in it, crosses another side, or meets the third corner. -/
theorem tc (ht : tW p u q ≠ 0) (h : Cr c d p q) (n1 : ¬ Cr c d p u) (n2 : ¬ Cr c d u q) (nu : ¬ On u c d) (nc : ¬ In c p u q) (nd : ¬ In d p u q) : False := by
  have eqs : tW q u p = - tW p u q := by unfold tW; grind
  by_cases no : tW c d u = 0
  · rcases Int.lt_or_gt_of_ne ht with h0 | h0
    · exact nu (tcO1 (p := q) (q := p) (by omega) h.sw' no (fun h => nc h.sw) (fun h => nd h.sw))
    · exact nu (tcO1 h0 h no nc nd)
  rcases Int.lt_or_gt_of_ne ht with h0 | h0
  · refine tc1 (p := q) (q := p) ?_ h.sw' (fun h => n2 h.sw') (fun h => n1 h.sw') no (fun h => nc h.sw) (fun h => nd h.sw)
    omega
  · exact tc1 h0 h n1 n2 no nc nd
/-! A triangle's corner above which all is: what is as low isn't in it. -/
def ph (k : Int × Int) (w : Pt) : Int := k.1 * w.1 + k.2 * w.2
theorem mulle {m x y : Int} (hm : 0 ≤ m) (h : x ≤ y) : m * x ≤ m * y := Int.mul_le_mul_of_nonneg_left h hm
theorem low_out {k : Int × Int} (ht : tW p u q ≠ 0) (h1 : ph k w < ph k p) (h2 : ph k w < ph k u) (h3 : ph k w < ph k q) : ¬ In w p u q := by
  intro h
  have e := baryL (w := w) (p := p) (u := u) (q := q) k.1 k.2
  have s := sum3 (a := p) (b := u) (c := q) (w := w)
  change ph k w * _ = _ * ph k p + _ * ph k u + _ * ph k q at e
  have key : ∀ {x y z : Int}, 0 ≤ x → 0 ≤ y → 0 ≤ z → 0 < x + y + z → ph k w * (x + y + z) = y * ph k p + z * ph k u + x * ph k q → False := by
    intro x y z hx hy hz hp he
    have f1 := mulle hy (show ph k w + 1 ≤ ph k p by omega)
    have f2 := mulle hz (show ph k w + 1 ≤ ph k u by omega)
    have f3 := mulle hx (show ph k w + 1 ≤ ph k q by omega)
    have : ph k w * (x + y + z) = y * (ph k w + 1) + z * (ph k w + 1) + x * (ph k w + 1) - (x + y + z) := by grind
    omega
  rcases h with ⟨g1, g2, g3⟩ | ⟨g1, g2, g3⟩
  · exact key g1 g2 g3 (by omega) (by rw [s]; exact e)
  · refine key (x := -tW p u w) (y := -tW u q w) (z := -tW q p w) (by omega) (by omega) (by omega) (by omega) ?_
    rw [show -tW p u w + -tW u q w + -tW q p w = - tW p u q by omega, Int.mul_neg, e]
    grind
end
end Go.Pg

namespace Go.Pg
open Go.Sx
set_option linter.unusedVariables false
section
variable {a b c d p q u v w x y z : Pt}
/-! Mirrored. -/
def mir (w : Pt) : Pt := (-w.1, w.2)
theorem tW_mir : tW (mir a) (mir b) (mir c) = - tW a b c := by unfold tW mir; grind
theorem opp_neg2 {x y : Int} : opp (-x) (-y) ↔ opp x y := by unfold opp; omega
theorem Cr_mir : Cr (mir a) (mir b) (mir c) (mir d) ↔ Cr a b c d := by
  unfold Cr; simp only [tW_mir, opp_neg2]
theorem In_mir : In (mir w) (mir a) (mir b) (mir c) ↔ In w a b c := by
  unfold In; simp only [tW_mir]; omega
theorem ph_mir {k : Int × Int} : ph (-k.1, k.2) (mir w) = ph k w := by unfold ph mir; grind
/-! A cut from v to z. -/
theorem cutB (ht : 0 < tW a v b) (za : 0 < tW v b z) (zb : 0 < tW a v z) (zv : 0 ≤ tW b a z) (lc : tW v z c < 0) (ld : 0 < tW v z d) (mv : 0 < tW c d v) (mz : tW c d z < 0) (n1 : ¬ Cr c d v b) (nc : In c a v b → tW b a c ≤ tW b a z) : tW b a c ≤ tW b a z := by
  rcases Int.lt_or_le (tW b a z) (tW b a c) with hc | hc
  case inr => exact hc
  have e1 : tW v z c * tW a v b = tW v b c * tW a v z - tW a v c * tW v b z := by unfold tW; grind
  have ga : tW v b c < 0 := by
    rcases Int.lt_or_le (tW v b c) 0 with h | h
    · exact h
    · exfalso
      have f1 := mul_nn h (Int.le_of_lt zb)
      have f2 := mul_NP lc ht
      have f3 : 0 < tW v b z * tW a v c := by rw [Int.mul_comm]; omega
      have f4 := (mul_posL za).1 f3
      have := nc (.inl ⟨by omega, h, by omega⟩)
      omega
  have e2 : tW v z d * tW v b c - tW v z c * tW v b d = tW c d v * tW v b z := by unfold tW; grind
  have gd : 0 < tW v b d := by
    have f1 := mul_PP mv za
    have f2 := mul_PN ld ga
    have f3 : 0 < (-tW v z c) * tW v b d := by rw [Int.neg_mul]; omega
    exact (mul_posL (show 0 < -tW v z c by omega)).1 f3
  -- beyond the line from b to z
  have e3 : (tW b a c - tW b a z) * tW v b z = tW b z c * (tW a v b - tW b a z) + tW v z c * tW b a z := by unfold tW; grind
  have s3 := sum3 (a := a) (b := v) (c := b) (w := z)
  have bz : 0 < tW b z c := by
    have f1 := mul_PP (show 0 < tW b a c - tW b a z by omega) za
    have f2 := mul_pn (Int.le_of_lt lc) zv
    have f3 : 0 < (tW a v b - tW b a z) * tW b z c := by rw [Int.mul_comm]; omega
    exact (mul_posL (by omega)).1 f3
  have e4 : tW v b c * tW c d z + tW b z c * tW c d v = tW v z c * tW c d b := by unfold tW; grind
  exfalso
  refine n1 ⟨.inl ⟨mv, ?_⟩, .inr ⟨ga, gd⟩⟩
  have f1 := mul_NN ga mz
  have f2 := mul_PP bz mv
  have f3 : (-tW v z c) * tW c d b < 0 := by rw [Int.neg_mul]; omega
  exact (mul_negL (show 0 < -tW v z c by omega)).1 f3
theorem cut1 (ht : 0 < tW a v b) (za : 0 < tW v b z) (zb : 0 < tW a v z) (zv : 0 ≤ tW b a z) (lc : tW v z c < 0) (ld : 0 < tW v z d) (mv : 0 < tW c d v) (mz : tW c d z < 0) (n1 : ¬ Cr c d v b) (n2 : ¬ Cr c d a v) (nc : In c a v b → tW b a c ≤ tW b a z) (nd : In d a v b → tW b a d ≤ tW b a z) : False := by
  have h1 := cutB ht za zb zv lc ld mv mz n1 nc
  have h2 : tW b a d ≤ tW b a z := by
    have t1 : ∀ {x y w : Pt}, tW (mir y) (mir x) (mir w) = tW x y w := by intro x y w; rw [tW_mir, Pg.sw (a := x)]; omega
    have := cutB (a := mir b) (b := mir a) (v := mir v) (z := mir z) (c := mir d) (d := mir c) (by rw [tW_mir]; have := sw2 (a := b) (b := v) (c := a); have := rot2 (a := a) (b := v) (c := b); omega) (by rw [t1]; exact zb) (by rw [t1]; exact za) (by rw [t1]; exact zv) (by rw [tW_mir]; omega) (by rw [tW_mir]; omega) (by rw [t1]; exact mv) (by rw [t1]; exact mz) (fun h => n2 ((Cr_mir.1 h).sw.sw')) (fun h => by rw [t1, t1]; exact nd ((In_mir.1 h).sw))
    rwa [t1, t1] at this
  have s3 := sum3 (a := a) (b := v) (c := b) (w := z)
  have e : tW v z d * (tW b a c - tW b a z) - tW v z c * (tW b a d - tW b a z) = -(tW c d z * (tW a v b - tW b a z)) := by unfold tW; grind
  have f1 := mul_np (Int.le_of_lt ld) (show tW b a c - tW b a z ≤ 0 by omega)
  have f2 := mul_pp (Int.le_of_lt lc) (show tW b a d - tW b a z ≤ 0 by omega)
  have f3 := mul_NP mz (show 0 < tW a v b - tW b a z by omega)
  omega
theorem cut2 (ht : 0 < tW a v b) (za : 0 < tW v b z) (zb : 0 < tW a v z) (zv : 0 ≤ tW b a z) (n1 : ¬ Cr c d v b) (n2 : ¬ Cr c d a v) (nc : In c a v b → tW b a c ≤ tW b a z) (nd : In d a v b → tW b a d ≤ tW b a z) : ¬ Cr c d v z := by
  rintro ⟨h1, h2⟩
  have dd := diffs (c := c) (d := d) (p := z) (q := v)
  have e3 := Pg.sw (a := c) (b := d) (c := v)
  have e4 := Pg.sw (a := c) (b := d) (c := z)
  rcases Int.lt_or_le (tW v z c) 0 with hc | hc
  · refine cut1 ht za zb zv hc ?_ ?_ ?_ n1 n2 nc nd <;> unfold opp at h1 h2 <;> omega
  · refine cut1 (c := d) (d := c) ht za zb zv ?_ ?_ ?_ ?_ (fun h => n1 h.sw) (fun h => n2 h.sw) nd nc <;> unfold opp at h1 h2 <;> omega
/-! On a segment. -/
theorem aff_on {α β : Int} (h : On w p q) : (α * p.1 + β * p.2 ≤ α * w.1 + β * w.2 ∧ α * w.1 + β * w.2 ≤ α * q.1 + β * q.2) ∨ (α * q.1 + β * q.2 ≤ α * w.1 + β * w.2 ∧ α * w.1 + β * w.2 ≤ α * p.1 + β * p.2) := by
  obtain ⟨h0, h1, h2⟩ := h
  have ex : (q.1 - p.1) * ((α * w.1 + β * w.2) - (α * p.1 + β * p.2)) = (w.1 - p.1) * ((α * q.1 + β * q.2) - (α * p.1 + β * p.2)) + β * tW p q w := by unfold tW; grind
  have ey : (q.2 - p.2) * ((α * w.1 + β * w.2) - (α * p.1 + β * p.2)) = (w.2 - p.2) * ((α * q.1 + β * q.2) - (α * p.1 + β * p.2)) - α * tW p q w := by unfold tW; grind
  rw [h0, Int.mul_zero, Int.add_zero] at ex
  rw [h0, Int.mul_zero, Int.sub_zero] at ey
  have z0 : q.1 = p.1 → q.2 = p.2 → (α * w.1 + β * w.2) - (α * p.1 + β * p.2) = 0 := by
    intro g1 g2
    have : w.1 = p.1 := by unfold bt at h1; omega
    have : w.2 = p.2 := by unfold bt at h2; omega
    grind
  have key : ∀ {X x s S : Int}, X ≠ 0 → bt x 0 X → X * s = x * S → (0 ≤ s ∧ s ≤ S) ∨ (S ≤ s ∧ s ≤ 0) := by
    have pos : ∀ {X x s S : Int}, 0 < X → 0 ≤ x → x ≤ X → X * s = x * S → (0 ≤ s ∧ s ≤ S) ∨ (S ≤ s ∧ s ≤ 0) := by
      intro X x s S hX h0 h1 e
      rcases Int.lt_or_le S 0 with g | g
      · have f1 := mul_np h0 (Int.le_of_lt g)
        have f2 := mul_np (show 0 ≤ X - x by omega) (Int.le_of_lt g)
        have f3 : X * (s - S) = -((X - x) * S) := by grind
        have g1 := mul_posL (x := s) hX
        have g2 := mul_negL (x := s - S) hX
        omega
      · have f1 := mul_nn h0 g
        have f2 := mul_nn (show 0 ≤ X - x by omega) g
        have f3 : X * (s - S) = -((X - x) * S) := by grind
        have g1 := mul_negL (x := s) hX
        have g2 := mul_posL (x := s - S) hX
        omega
    intro X x s S hX hb e
    rcases Int.lt_or_gt_of_ne hX with g | g
    · exact pos (X := -X) (x := -x) (by omega) (by unfold bt at hb; omega) (by unfold bt at hb; omega) (by rw [Int.neg_mul, Int.neg_mul, e])
    · exact pos g (by unfold bt at hb; omega) (by unfold bt at hb; omega) e
  by_cases g1 : q.1 = p.1
  · by_cases g2 : q.2 = p.2
    · have := z0 g1 g2
      rw [g1, g2]
      omega
    · have := key (show q.2 - p.2 ≠ 0 by omega) (show bt (w.2 - p.2) 0 (q.2 - p.2) by unfold bt at *; omega) ey
      omega
  · have := key (show q.1 - p.1 ≠ 0 by omega) (show bt (w.1 - p.1) 0 (q.1 - p.1) by unfold bt at *; omega) ex
    omega
theorem ph_on {k : Int × Int} (h : On w p q) : ph k p ≤ ph k w ∨ ph k q ≤ ph k w := by
  have := aff_on (α := k.1) (β := k.2) h
  unfold ph
  omega
theorem tW_on (h : On w p q) : (tW c d p ≤ tW c d w ∧ tW c d w ≤ tW c d q) ∨ (tW c d q ≤ tW c d w ∧ tW c d w ≤ tW c d p) := by
  have e : ∀ u : Pt, tW c d u = (-(d.2 - c.2)) * u.1 + (d.1 - c.1) * u.2 - ((d.1 - c.1) * c.2 - (d.2 - c.2) * c.1) := by intro u; unfold tW; grind
  have := aff_on (α := -(d.2 - c.2)) (β := d.1 - c.1) h
  rw [e p, e q, e w]
  omega
theorem on_end (h : On w p q) (h1 : tW c d w = tW c d q) (h2 : tW c d p ≠ tW c d q) : w = q := by
  have h0 := h.1
  have ex : (q.1 - w.1) * (tW c d q - tW c d p) = (q.1 - p.1) * (tW c d q - tW c d w) + (d.1 - c.1) * tW p q w := by unfold tW; grind
  have ey : (q.2 - w.2) * (tW c d q - tW c d p) = (q.2 - p.2) * (tW c d q - tW c d w) + (d.2 - c.2) * tW p q w := by unfold tW; grind
  rw [h0, h1, Int.sub_self, Int.mul_zero, Int.mul_zero, Int.add_zero] at ex
  rw [h0, h1, Int.sub_self, Int.mul_zero, Int.mul_zero, Int.add_zero] at ey
  have n : tW c d q - tW c d p ≠ 0 := by omega
  have a1 := (Int.mul_eq_zero.1 ex).resolve_right n
  have a2 := (Int.mul_eq_zero.1 ey).resolve_right n
  exact Prod.ext (by omega) (by omega)
theorem on_in (h : On w p q) : In w p u q := by
  have h1 := tW_on (c := p) (d := u) h
  have h2 := tW_on (c := u) (d := q) h
  have e : tW q p w = 0 := by rw [Pg.sw, h.1]; rfl
  rw [nn3] at h1
  rw [nn2] at h2
  have s := sum3 (a := p) (b := u) (c := q) (w := w)
  have r := rot1 (a := p) (b := u) (c := q)
  unfold In
  omega
/-- In a triangle, and in line with two of its corners: between them. -/
theorem in_on (ht : tW p u q ≠ 0) (h : In w p u q) (h0 : tW p u w = 0) : On w p u := by
  have r := rot1 (a := p) (b := u) (c := q)
  rcases Int.lt_or_gt_of_ne ht with g | g
  · have := (tri_hit (a1 := u.1) (a2 := u.2) (b1 := p.1) (b2 := p.2) (c1 := q.1) (c2 := q.2) (p1 := w.1) (p2 := w.2) (show 0 < tW u p q by rw [Pg.sw]; omega)).2 ⟨show tW u p w = 0 by rw [Pg.sw, h0]; rfl, show 0 ≤ tW p q w by rw [Pg.sw]; unfold In at h; have := sum3 (a := p) (b := u) (c := q) (w := w); omega, show 0 ≤ tW q u w by rw [Pg.sw]; unfold In at h; have := sum3 (a := p) (b := u) (c := q) (w := w); omega⟩
    exact (show On w u p from this).comm
  · exact (tri_hit (a1 := p.1) (a2 := p.2) (b1 := u.1) (b2 := u.2) (c1 := q.1) (c2 := q.2) (p1 := w.1) (p2 := w.2) g).2 ⟨h0, show 0 ≤ tW u q w by unfold In at h; have := sum3 (a := p) (b := u) (c := q) (w := w); omega, show 0 ≤ tW q p w by unfold In at h; have := sum3 (a := p) (b := u) (c := q) (w := w); omega⟩
/-- The lowest corner isn't in a line with its neighbours. -/
theorem low_turn {k : Int × Int} (h1 : ph k v < ph k a) (h2 : ph k v < ph k b) (n1 : ¬ On b a v) (n2 : ¬ On a v b) : tW a v b ≠ 0 := by
  intro e
  rcases line_on (a1 := a.1) (a2 := a.2) (b1 := v.1) (b2 := v.2) (c1 := b.1) (c2 := b.2) e with h | h | h
  · exact n1 h
  · exact n2 h
  · have := ph_on (k := k) (show On v b a from h)
    omega
/-- A neighbour's neighbour is on the other side of an edge than a place below, from which the edge is seen. -/
theorem low_loc1 {k : Int × Int} (h1 : ph k v < ph k u) (h2 : ph k u < ph k x) (h3 : ph k u < ph k y) (g1 : 0 < tW x u y) (g2 : 0 < tW x u v) (ni : ¬ In y x v u) (nx : ¬ Cr v x u y) : False := by
  have e : tW x u y * (ph k v - ph k u) = tW v u y * (ph k x - ph k u) + tW x u v * (ph k y - ph k u) := by unfold tW ph; grind
  have k1 : tW v u y < 0 := by
    rcases Int.lt_or_le (tW v u y) 0 with h | h
    · exact h
    · have f1 := mul_nn h (show 0 ≤ ph k x - ph k u by omega)
      have f2 := mul_PP g2 (show 0 < ph k y - ph k u by omega)
      have f3 := mul_PN g1 (show ph k v - ph k u < 0 by omega)
      omega
  have k2 : 0 < tW x v y := by
    rcases Int.lt_or_le 0 (tW x v y) with h | h
    · exact h
    · exact absurd (.inr ⟨h, by omega, by rw [Pg.sw]; omega⟩) ni
  have r1 := rot1 (a := v) (b := u) (c := y)
  have r2 := rot1 (a := x) (b := u) (c := y)
  have r3 := sw (a := x) (b := v) (c := y)
  have r4 := rot2 (a := x) (b := u) (c := v)
  exact nx ⟨.inl ⟨by omega, by omega⟩, .inr ⟨by omega, by omega⟩⟩
theorem low_loc {k : Int × Int} (h1 : ph k v < ph k u) (h2 : ph k u < ph k x) (h3 : ph k u < ph k y) (g1 : tW x u y ≠ 0) (g2 : tW x u v ≠ 0) (ni : ¬ In y x v u) (nx : ¬ Cr v x u y) : opp (tW x u y) (tW x u v) := by
  rcases Int.lt_or_gt_of_ne g1 with a1 | a1 <;> rcases Int.lt_or_gt_of_ne g2 with a2 | a2
  · exfalso
    refine low_loc1 (k := (-k.1, k.2)) (v := mir v) (u := mir u) (x := mir x) (y := mir y) ?_ ?_ ?_ ?_ ?_ (fun h => ni (In_mir.1 h)) (fun h => nx (Cr_mir.1 h))
    · rw [ph_mir, ph_mir]; exact h1
    · rw [ph_mir, ph_mir]; exact h2
    · rw [ph_mir, ph_mir]; exact h3
    · rw [tW_mir]; omega
    · rw [tW_mir]; omega
  · exact .inr ⟨a1, a2⟩
  · exact .inl ⟨a1, a2⟩
  · exact (low_loc1 h1 h2 h3 a1 a2 ni nx).elim
/-- A triangle, and a place below it that sees its upper side. -/
theorem low_tri1 {k : Int × Int} (h1 : ph k v < ph k u) (h2 : ph k u < ph k p) (h3 : ph k u < ph k q) (g1 : 0 < tW p u q) (g2 : 0 < tW p v q) (ni : ¬ In u p v q) (n1 : ¬ Cr v q u p) (n2 : ¬ Cr v p u q) : False := by
  have lo := low_out (k := k) (w := v) (p := p) (u := u) (q := q) (by omega) (by omega) (by omega) (by omega)
  have r1 := rot2 (a := p) (b := u) (c := q)
  have r2 := rot2 (a := p) (b := v) (c := q)
  have s1 := sw (a := p) (b := v) (c := u)
  have s2 := sw2 (a := p) (b := v) (c := u)
  have s3 := sw2 (a := p) (b := u) (c := q)
  have s4 := sw (a := p) (b := v) (c := q)
  have t1 := rot1 (a := v) (b := q) (c := u)
  have t2 := sw2 (a := u) (b := q) (c := v)
  have t3 := rot2 (a := v) (b := q) (c := u)
  have q1 := rot1 (a := p) (b := v) (c := u)
  have q2 := rot1 (a := p) (b := u) (c := q)
  have q3 := rot1 (a := p) (b := v) (c := q)
  have w1 := sw (a := u) (b := p) (c := v)
  have w2 := sw (a := u) (b := p) (c := q)
  have w3 := sw (a := u) (b := q) (c := v)
  have w4 := rot1 (a := u) (b := q) (c := v)
  have w5 := sw (a := q) (b := v) (c := u)
  unfold In at ni lo
  unfold Cr opp at n1 n2
  omega
theorem low_tri {k : Int × Int} (h1 : ph k v < ph k u) (h2 : ph k u < ph k p) (h3 : ph k u < ph k q) (g1 : tW p u q ≠ 0) (g2 : tW p v q ≠ 0) (ni : ¬ In u p v q) (n1 : ¬ Cr v q u p) (n2 : ¬ Cr v p u q) : opp (tW p u q) (tW p v q) := by
  rcases Int.lt_or_gt_of_ne g1 with a1 | a1 <;> rcases Int.lt_or_gt_of_ne g2 with a2 | a2
  · exfalso
    refine low_tri1 (k := (-k.1, k.2)) (v := mir v) (u := mir u) (p := mir p) (q := mir q) ?_ ?_ ?_ ?_ ?_ (fun h => ni (In_mir.1 h)) (fun h => n1 (Cr_mir.1 h)) (fun h => n2 (Cr_mir.1 h))
    · rw [ph_mir, ph_mir]; exact h1
    · rw [ph_mir, ph_mir]; exact h2
    · rw [ph_mir, ph_mir]; exact h3
    · rw [tW_mir]; omega
    · rw [tW_mir]; omega
  · exact .inr ⟨a1, a2⟩
  · exact .inl ⟨a1, a2⟩
  · exact (low_tri1 h1 h2 h3 a1 a2 ni n1 n2).elim
end
end Go.Pg

namespace Go.Pg
open Go.Sx
set_option linter.unusedVariables false
/-! Polygons as lists: their edges, and what is asked of simple ones. -/
def pe : Pt → List Pt → List (Pt × Pt)
  | _, [] => []
  | a, b :: l => (a, b) :: pe b l
def ed : List Pt → List (Pt × Pt)
  | [] => []
  | x :: l => pe x (l ++ [x])
structure Smp (P : List Pt) : Prop where
  nd : P.Nodup
  vx : ∀ w ∈ P, ∀ e ∈ ed P, On w e.1 e.2 → w = e.1 ∨ w = e.2
  cr : ∀ e ∈ ed P, ∀ f ∈ ed P, ¬ Cr e.1 e.2 f.1 f.2
def ar : List (Pt × Pt) → Int
  | [] => 0
  | e :: l => (e.1.1 * e.2.2 - e.1.2 * e.2.1) + ar l
section
variable {a b c d p q u v w x y z : Pt}
theorem pe_app (a b : Pt) : ∀ (l m : List Pt), pe a (l ++ b :: m) = pe a (l ++ [b]) ++ pe b m
  | [], m => rfl
  | c :: l, m => by
    show (a, c) :: pe c (l ++ b :: m) = (a, c) :: (pe c (l ++ [b]) ++ pe b m)
    rw [pe_app c b l m]
theorem pe_end (a b : Pt) (l : List Pt) (c : Pt) : pe a (l ++ [b] ++ [c]) = pe a (l ++ [b]) ++ [(b, c)] := by
  rw [List.append_assoc]
  exact pe_app a b l [c]
theorem pe_mem {e : Pt × Pt} : ∀ {a : Pt} {l : List Pt}, e ∈ pe a l → e.1 ∈ a :: l ∧ e.2 ∈ l
  | _, [], h => by cases h
  | a, b :: l, h => by
    rcases List.mem_cons.1 h with rfl | h
    · exact ⟨List.mem_cons_self, List.mem_cons_self⟩
    · have := pe_mem h
      exact ⟨List.mem_cons_of_mem _ this.1, List.mem_cons_of_mem _ this.2⟩
theorem pe_mem1 {e : Pt × Pt} : ∀ {a : Pt} {l : List Pt} {z : Pt}, e ∈ pe a (l ++ [z]) → e.1 ∈ a :: l
  | a, [], z, h => by
    rcases List.mem_cons.1 h with rfl | h
    · exact List.mem_cons_self
    · cases h
  | a, b :: l, z, h => by
    rcases List.mem_cons.1 h with rfl | h
    · exact List.mem_cons_self
    · exact List.mem_cons_of_mem _ (pe_mem1 h)
theorem ar_app : ∀ (l m : List (Pt × Pt)), ar (l ++ m) = ar l + ar m
  | [], m => by show ar m = 0 + ar m; omega
  | e :: l, m => by
    show _ + ar (l ++ m) = (_ + ar l) + ar m
    rw [ar_app l m]; omega
theorem ed_mem {P : List Pt} {e : Pt × Pt} (h : e ∈ ed P) : e.1 ∈ P ∧ e.2 ∈ P := by
  cases P with
  | nil => cases h
  | cons x l =>
    refine ⟨pe_mem1 h, ?_⟩
    have := (pe_mem h).2
    rcases List.mem_append.1 this with h | h
    · exact List.mem_cons_of_mem _ h
    · rw [List.mem_singleton.1 h]; exact List.mem_cons_self
/-! Turned. -/
theorem ed_rot (x : Pt) (l : List Pt) (y : Pt) (m : List Pt) : ed (x :: l ++ y :: m) = pe x (l ++ [y]) ++ pe y (m ++ [x]) := by
  show pe x ((l ++ y :: m) ++ [x]) = _
  rw [List.append_assoc]
  exact pe_app x y l (m ++ [x])
theorem rot_mem {e : Pt × Pt} {A B : List Pt} (h : e ∈ ed (A ++ B)) : e ∈ ed (B ++ A) := by
  cases A with
  | nil => simpa using h
  | cons x l =>
    cases B with
    | nil => simpa using h
    | cons y m =>
      rw [ed_rot] at h ⊢
      rw [List.mem_append] at h ⊢
      exact h.symm
theorem rot_ar (A B : List Pt) : ar (ed (A ++ B)) = ar (ed (B ++ A)) := by
  cases A with
  | nil => simp
  | cons x l =>
    cases B with
    | nil => simp
    | cons y m =>
      rw [ed_rot, ed_rot, ar_app, ar_app]; omega
theorem Smp.rot {A B : List Pt} (h : Smp (A ++ B)) : Smp (B ++ A) := by
  have m : ∀ {w}, w ∈ B ++ A → w ∈ A ++ B := fun h => by rw [List.mem_append] at h ⊢; exact h.symm
  exact ⟨(List.perm_append_comm).nodup_iff.1 h.nd, fun w hw e he => h.vx w (m hw) e (rot_mem he), fun e he f hf => h.cr e (rot_mem he) f (rot_mem hf)⟩
/-! The greatest one of a kind. -/
theorem ex_max (p : Pt → Prop) (g : Pt → Int) : ∀ (l : List Pt), (∃ w ∈ l, p w) → ∃ z ∈ l, p z ∧ ∀ w ∈ l, p w → g w ≤ g z
  | [], h => by obtain ⟨w, h, _⟩ := h; cases h
  | x :: l, h => by
    by_cases hl : ∃ w ∈ l, p w
    · obtain ⟨z, z1, z2, z3⟩ := ex_max p g l hl
      by_cases hx : p x ∧ g z < g x
      · refine ⟨x, List.mem_cons_self, hx.1, fun w hw pw => ?_⟩
        rcases List.mem_cons.1 hw with rfl | hw
        · exact Int.le_refl _
        · have := z3 w hw pw; omega
      · refine ⟨z, List.mem_cons_of_mem _ z1, z2, fun w hw pw => ?_⟩
        rcases List.mem_cons.1 hw with rfl | hw
        · rcases Int.lt_or_le (g z) (g w) with h | h
          · exact absurd ⟨pw, h⟩ hx
          · exact h
        · exact z3 w hw pw
    · obtain ⟨w, hw, pw⟩ := h
      rcases List.mem_cons.1 hw with rfl | hw
      · refine ⟨w, List.mem_cons_self, pw, fun y hy py => ?_⟩
        rcases List.mem_cons.1 hy with rfl | hy
        · exact Int.le_refl _
        · exact absurd ⟨y, hy, py⟩ hl
      · exact absurd ⟨w, hw, pw⟩ hl
theorem In.rt (h : In w a b c) : In w c a b := by unfold In at *; omega
/-- A place between v and z, where z is the one in the triangle that is farthest from the side. -/
theorem cutOn (ht : 0 < tW a v b) (za : 0 < tW v b z) (zb : 0 < tW a v z) (zv : 0 ≤ tW b a z) (h : On w v z) (far : In w a v b → w = v ∨ tW b a w ≤ tW b a z) : w = v ∨ w = z := by
  have s3 := sum3 (a := a) (b := v) (c := b) (w := z)
  have h1 := tW_on (c := v) (d := b) h
  have h2 := tW_on (c := a) (d := v) h
  have h3 := tW_on (c := b) (d := a) h
  have r := rot2 (a := a) (b := v) (c := b)
  rw [nn3] at h1
  rw [nn2] at h2
  rcases far (.inl ⟨by omega, by omega, by omega⟩) with e | e
  · exact .inl e
  · exact .inr (on_end (c := b) (d := a) h (by omega) (by omega))
structure Cut (a v b z : Pt) (P : List Pt) : Prop where
  i : In z a v b
  za : SS (tW z v b) (tW a v b)
  zb : SS (tW a v z) (tW a v b)
  on : ∀ w ∈ P, On w v z → w = v ∨ w = z
  cr : ∀ c d, ¬ Cr c d v b → ¬ Cr c d a v → (In c a v b → c ∈ P) → (In d a v b → d ∈ P) → ¬ Cr c d v z
theorem mk_cut {P : List Pt} (ht : tW a v b ≠ 0) (i : In z a v b) (n1 : tW v b z ≠ 0) (n2 : tW a v z ≠ 0) (far : (0 < tW a v b → ∀ w ∈ P, In w a v b → w = v ∨ tW b a w ≤ tW b a z) ∧ (tW a v b < 0 → ∀ w ∈ P, In w a v b → w = v ∨ tW a b w ≤ tW a b z)) : Cut a v b z P := by
  have s3 := sum3 (a := a) (b := v) (c := b) (w := z)
  have r1 := rot1 (a := z) (b := v) (c := b)
  rcases Int.lt_or_gt_of_ne ht with h | h
  · -- the other way round
    have q1 : tW b v a = - tW a v b := by unfold tW; grind
    have q2 : tW v a z = - tW a v z := by unfold tW; grind
    have q3 : tW b v z = - tW v b z := by unfold tW; grind
    have q4 : tW a b z = - tW b a z := by unfold tW; grind
    have i' := i
    unfold In at i'
    refine ⟨i, by unfold SS; omega, by unfold SS; omega, fun w hw h1 => ?_, fun c d m1 m2 hc hd hx => ?_⟩
    · exact cutOn (a := b) (b := a) (by omega) (by omega) (by omega) (by omega) h1 (fun h2 => far.2 h w hw h2.sw)
    · refine cut2 (a := b) (b := a) (by omega) (by omega) (by omega) (by omega) (fun h => m2 h.sw') (fun h => m1 h.sw') (fun h2 => ?_) (fun h2 => ?_) hx
      · exact (far.2 h c (hc h2.sw) h2.sw).resolve_left hx.ne1
      · exact (far.2 h d (hd h2.sw) h2.sw).resolve_left hx.ne3
  · have i' := i
    unfold In at i'
    refine ⟨i, by unfold SS; omega, by unfold SS; omega, fun w hw h1 => ?_, fun c d m1 m2 hc hd hx => ?_⟩
    · exact cutOn h (by omega) (by omega) (by omega) h1 (fun h2 => far.1 h w hw h2)
    · refine cut2 h (by omega) (by omega) (by omega) m1 m2 (fun h2 => ?_) (fun h2 => ?_) hx
      · exact (far.1 h c (hc h2) h2).resolve_left hx.ne1
      · exact (far.1 h d (hd h2) h2).resolve_left hx.ne3
/-! A polygon from one of its corners on. -/
theorem ed_of (v b : Pt) (mid : List Pt) (a : Pt) : ed (v :: b :: (mid ++ [a])) = (v, b) :: (pe b (mid ++ [a]) ++ [(a, v)]) := by
  show (v, b) :: pe b ((mid ++ [a]) ++ [v]) = _
  rw [pe_end]
theorem ed_ear (b : Pt) (mid : List Pt) (a : Pt) : ed (b :: (mid ++ [a])) = pe b (mid ++ [a]) ++ [(a, b)] := pe_end b a mid b
theorem ear_ar (v b : Pt) (mid : List Pt) (a : Pt) : ar (ed (v :: b :: (mid ++ [a]))) = ar (ed (b :: (mid ++ [a]))) + tW a v b := by
  rw [ed_of, ed_ear]
  show _ + ar (pe b (mid ++ [a]) ++ [(a, v)]) = _
  rw [ar_app, ar_app]
  show (v.1 * b.2 - v.2 * b.1) + (_ + ((a.1 * v.2 - a.2 * v.1) + 0)) = (_ + ((a.1 * b.2 - a.2 * b.1) + 0)) + _
  unfold tW; grind
theorem cut_ar (v b : Pt) (A : List Pt) (z : Pt) (B : List Pt) (a : Pt) : ar (ed (v :: b :: ((A ++ z :: B) ++ [a]))) = ar (ed (v :: b :: (A ++ [z]))) + ar (ed (v :: z :: (B ++ [a]))) := by
  rw [ed_of, ed_of, ed_of, List.append_assoc, List.cons_append, pe_app b z A (B ++ [a])]
  show _ + ar ((pe b (A ++ [z]) ++ pe z (B ++ [a])) ++ [(a, v)]) = (_ + ar (pe b (A ++ [z]) ++ [(z, v)])) + (_ + ar (pe z (B ++ [a]) ++ [(a, v)]))
  rw [ar_app, ar_app, ar_app, ar_app]
  show (v.1 * b.2 - v.2 * b.1) + ((_ + _) + ((a.1 * v.2 - a.2 * v.1) + 0)) = ((v.1 * b.2 - v.2 * b.1) + (_ + ((z.1 * v.2 - z.2 * v.1) + 0))) + ((v.1 * z.2 - v.2 * z.1) + (_ + ((a.1 * v.2 - a.2 * v.1) + 0)))
  grind
section
variable {mid : List Pt}
theorem ear_smp (h : Smp (v :: b :: (mid ++ [a]))) (ht : tW a v b ≠ 0) (no : ∀ w ∈ mid, ¬ In w a v b) : Smp (b :: (mid ++ [a])) := by
  have eo := ed_of v b mid a
  have ee := ed_ear b mid a
  have hv : v ∉ b :: (mid ++ [a]) := (List.nodup_cons.1 h.nd).1
  have old : ∀ {e}, e ∈ pe b (mid ++ [a]) → e ∈ ed (v :: b :: (mid ++ [a])) := fun he => by rw [eo]; exact List.mem_cons_of_mem _ (List.mem_append_left _ he)
  have e1 : (v, b) ∈ ed (v :: b :: (mid ++ [a])) := by rw [eo]; exact List.mem_cons_self
  have e2 : (a, v) ∈ ed (v :: b :: (mid ++ [a])) := by rw [eo]; exact List.mem_cons_of_mem _ (List.mem_append_right _ List.mem_cons_self)
  have nin : ∀ {w}, w ∈ b :: (mid ++ [a]) → In w a v b → w = a ∨ w = b := fun hw hi => by
    rcases List.mem_cons.1 hw with rfl | hw
    · exact .inr rfl
    · rcases List.mem_append.1 hw with hw | hw
      · exact absurd hi (no _ hw)
      · exact .inl (List.mem_singleton.1 hw)
  have x : ∀ f ∈ pe b (mid ++ [a]), ¬ Cr f.1 f.2 a b := fun f hf hx => by
    have m := pe_mem hf
    refine tc ht hx (h.cr f (old hf) _ e2) (h.cr f (old hf) _ e1) (fun ho => ?_) (fun hi => ?_) (fun hi => ?_)
    · rcases h.vx v List.mem_cons_self f (old hf) ho with e | e
      · exact hv (e ▸ m.1)
      · exact hv (e ▸ List.mem_cons_of_mem _ m.2)
    · exact (nin m.1 hi).elim hx.ne1 hx.ne2
    · exact (nin (List.mem_cons_of_mem _ m.2) hi).elim hx.ne3 hx.ne4
  refine ⟨(List.nodup_cons.1 h.nd).2, fun w hw e he ho => ?_, fun e he f hf hx => ?_⟩
  · rw [ee] at he
    rcases List.mem_append.1 he with he | he
    · exact h.vx w (List.mem_cons_of_mem _ hw) e (old he) ho
    · rw [List.mem_singleton.1 he] at ho ⊢
      exact nin hw (on_in ho)
  · rw [ee] at he hf
    rcases List.mem_append.1 he with he | he <;> rcases List.mem_append.1 hf with hf | hf
    · exact h.cr e (old he) f (old hf) hx
    · rw [List.mem_singleton.1 hf] at hx; exact x e he hx
    · rw [List.mem_singleton.1 he] at hx; exact x f hf hx.comm
    · rw [List.mem_singleton.1 he, List.mem_singleton.1 hf] at hx; exact hx.ne1 rfl
theorem cut_smp {A B : List Pt} (h : Smp (v :: b :: ((A ++ z :: B) ++ [a]))) (hc : Cut a v b z (v :: b :: ((A ++ z :: B) ++ [a]))) : Smp (v :: b :: (A ++ [z])) ∧ Smp (v :: z :: (B ++ [a])) := by
  have eo := ed_of v b (A ++ z :: B) a
  have e1 : (v, b) ∈ ed (v :: b :: ((A ++ z :: B) ++ [a])) := by rw [eo]; exact List.mem_cons_self
  have e2 : (a, v) ∈ ed (v :: b :: ((A ++ z :: B) ++ [a])) := by rw [eo]; exact List.mem_cons_of_mem _ (List.mem_append_right _ List.mem_cons_self)
  have es : pe b ((A ++ z :: B) ++ [a]) = pe b (A ++ [z]) ++ pe z (B ++ [a]) := by
    rw [List.append_assoc, List.cons_append, pe_app b z A (B ++ [a])]
  have o1 : ∀ {e}, e ∈ pe b (A ++ [z]) → e ∈ ed (v :: b :: ((A ++ z :: B) ++ [a])) := fun he => by rw [eo, es]; exact List.mem_cons_of_mem _ (List.mem_append_left _ (List.mem_append_left _ he))
  have o2 : ∀ {e}, e ∈ pe z (B ++ [a]) → e ∈ ed (v :: b :: ((A ++ z :: B) ++ [a])) := fun he => by rw [eo, es]; exact List.mem_cons_of_mem _ (List.mem_append_left _ (List.mem_append_right _ he))
  have x : ∀ f ∈ ed (v :: b :: ((A ++ z :: B) ++ [a])), ¬ Cr f.1 f.2 v z := fun f hf => by
    have m := ed_mem hf
    exact hc.cr _ _ (h.cr f hf _ e1) (h.cr f hf _ e2) (fun _ => m.1) (fun _ => m.2)
  have p1 : (v :: b :: (A ++ [z])).Sublist (v :: b :: ((A ++ z :: B) ++ [a])) := by
    refine .cons_cons _ (.cons_cons _ ?_)
    rw [show (A ++ z :: B) ++ [a] = (A ++ [z]) ++ (B ++ [a]) by simp]
    exact List.sublist_append_left _ _
  have p2 : (v :: z :: (B ++ [a])).Sublist (v :: b :: ((A ++ z :: B) ++ [a])) := by
    refine .cons_cons _ (.cons _ ?_)
    rw [List.append_assoc]
    exact List.sublist_append_right A (z :: (B ++ [a]))
  have part : ∀ (Q : List Pt), Q.Sublist (v :: b :: ((A ++ z :: B) ++ [a])) → (∀ e ∈ ed Q, e ∈ ed (v :: b :: ((A ++ z :: B) ++ [a])) ∨ (e = (v, z) ∨ e = (z, v))) → Smp Q := by
    intro Q hs hq
    have new : ∀ e : Pt × Pt, e = (v, z) ∨ e = (z, v) → ∀ c d, ¬ Cr c d v z → ¬ Cr c d e.1 e.2 := by
      rintro e (rfl | rfl) c d hn hx
      · exact hn hx
      · exact hn hx.sw'
    refine ⟨hs.nodup h.nd, fun w hw e he ho => ?_, fun e he f hf hx => ?_⟩
    · rcases hq e he with g | rfl | rfl
      · exact h.vx w (hs.subset hw) e g ho
      · exact hc.on w (hs.subset hw) ho
      · exact (hc.on w (hs.subset hw) ho.comm).symm
    · rcases hq e he with g | g <;> rcases hq f hf with k | k
      · exact h.cr e g f k hx
      · exact new f k _ _ (x e g) hx
      · exact new e g _ _ (x f k) hx.comm
      · rcases g with rfl | rfl <;> rcases k with rfl | rfl
        · exact hx.ne1 rfl
        · exact hx.ne2 rfl
        · exact hx.ne2 rfl
        · exact hx.ne1 rfl
  refine ⟨part _ p1 fun e he => ?_, part _ p2 fun e he => ?_⟩
  · rw [ed_of] at he
    rcases List.mem_cons.1 he with rfl | he
    · exact .inl e1
    · rcases List.mem_append.1 he with he | he
      · exact .inl (o1 he)
      · exact .inr (.inr (List.mem_singleton.1 he))
  · rw [ed_of] at he
    rcases List.mem_cons.1 he with rfl | he
    · exact .inr (.inl rfl)
    · rcases List.mem_append.1 he with he | he
      · exact .inl (o2 he)
      · rw [List.mem_singleton.1 he]; exact .inl e2
/-- At its lowest corner a polygon has an ear, or may be cut. -/
theorem ear_or_cut {k : Int × Int} (h : Smp (v :: b :: (mid ++ [a]))) (lo : ∀ w ∈ b :: (mid ++ [a]), ph k v < ph k w) : tW a v b ≠ 0 ∧ ((∀ w ∈ mid, ¬ In w a v b) ∨ ∃ A z B, mid = A ++ z :: B ∧ Cut a v b z (v :: b :: (mid ++ [a]))) := by
  have eo := ed_of v b mid a
  have e1 : (v, b) ∈ ed (v :: b :: (mid ++ [a])) := by rw [eo]; exact List.mem_cons_self
  have e2 : (a, v) ∈ ed (v :: b :: (mid ++ [a])) := by rw [eo]; exact List.mem_cons_of_mem _ (List.mem_append_right _ List.mem_cons_self)
  have n0 := List.nodup_cons.1 h.nd
  have n1 := List.nodup_cons.1 n0.2
  have ma : a ∈ mid ++ [a] := List.mem_append_right _ List.mem_cons_self
  have nvb : v ≠ b := fun e => n0.1 (e ▸ List.mem_cons_self)
  have nva : v ≠ a := fun e => n0.1 (by rw [e]; exact List.mem_cons_of_mem _ ma)
  have nba : b ≠ a := fun e => n1.1 (e ▸ ma)
  have mA : a ∈ v :: b :: (mid ++ [a]) := List.mem_cons_of_mem _ (List.mem_cons_of_mem _ ma)
  have mB : b ∈ v :: b :: (mid ++ [a]) := List.mem_cons_of_mem _ List.mem_cons_self
  have ht : tW a v b ≠ 0 := low_turn (lo a (List.mem_cons_of_mem _ ma)) (lo b List.mem_cons_self) (fun ho => (h.vx b mB _ e2 ho).elim nba (fun e => nvb e.symm)) (fun ho => (h.vx a mA _ e1 ho).elim (fun e => nva e.symm) (fun e => nba e.symm))
  refine ⟨ht, ?_⟩
  by_cases hz : ∃ w ∈ mid, In w a v b
  case neg => exact .inl fun w hw hi => hz ⟨w, hw, hi⟩
  right
  obtain ⟨z, z1, z2, z3⟩ := ex_max (fun w => In w a v b) (fun w => if 0 < tW a v b then tW b a w else tW a b w) mid hz
  obtain ⟨A, B, rfl⟩ := List.append_of_mem z1
  refine ⟨A, z, B, rfl, ?_⟩
  have zm : z ∈ v :: b :: ((A ++ z :: B) ++ [a]) := List.mem_cons_of_mem _ (List.mem_cons_of_mem _ (List.mem_append_left _ z1))
  have nzv : z ≠ v := fun e => n0.1 (e ▸ List.mem_cons_of_mem _ (List.mem_append_left _ z1))
  have nzb : z ≠ b := fun e => n1.1 (e ▸ List.mem_append_left _ z1)
  have nza : z ≠ a := by
    have := (List.nodup_append.1 n1.2).2.2 z z1 a List.mem_cons_self
    exact this
  refine mk_cut ht z2 (fun e => ?_) (fun e => ?_) ⟨fun hp w hw hi => ?_, fun hn w hw hi => ?_⟩
  · have := in_on (p := v) (u := b) (q := a) (w := z) (by rw [rot1]; exact ht) (z2.rt.rt) e
    exact (h.vx z zm _ e1 this).elim nzv nzb
  · have := in_on (p := a) (u := v) (q := b) (w := z) ht z2 e
    exact (h.vx z zm _ e2 this).elim nza nzv
  · have s3 := sum3 (a := a) (b := v) (c := b) (w := z)
    have s4 := sum3 (a := a) (b := v) (c := b) (w := w)
    have m := z3 w
    simp only [if_pos hp] at m
    rcases List.mem_cons.1 hw with rfl | hw
    · exact .inl rfl
    right
    rcases List.mem_cons.1 hw with rfl | hw
    · rw [nn3]; unfold In at z2; omega
    rcases List.mem_append.1 hw with hw | hw
    · exact m hw hi
    · rw [List.mem_singleton.1 hw, nn2]; unfold In at z2; omega
  · have s3 := sum3 (a := a) (b := v) (c := b) (w := z)
    have m := z3 w
    have sa := Pg.sw (a := b) (b := a) (c := z)
    simp only [if_neg (show ¬ 0 < tW a v b by omega)] at m
    rcases List.mem_cons.1 hw with rfl | hw
    · exact .inl rfl
    right
    rcases List.mem_cons.1 hw with rfl | hw
    · rw [nn2]; unfold In at z2; omega
    rcases List.mem_append.1 hw with hw | hw
    · exact m hw hi
    · rw [List.mem_singleton.1 hw, nn3]; unfold In at z2; omega
end
end
end Go.Pg

namespace Go.Pg
open Go.Sx
set_option linter.unusedVariables false
section
variable {a b c d p q u v w x y z : Pt} {k : Int × Int}
def Inj (k : Int × Int) (P : List Pt) : Prop := ∀ w ∈ P, ∀ y ∈ P, ph k w = ph k y → w = y
/-- The turn at the lowest corner is that of all. -/
def S1 (k : Int × Int) (P : List Pt) : Prop := ∀ v b mid a, P = v :: b :: (mid ++ [a]) → (∀ w ∈ b :: (mid ++ [a]), ph k v < ph k w) → SS (ar (ed P)) (tW a v b)
/-- A place below all that sees an edge: its turn there is that of all. -/
def S2 (k : Int × Int) (P : List Pt) : Prop := ∀ a b v, (a, b) ∈ ed P → (∀ w ∈ P, ph k v < ph k w) → tW a v b ≠ 0 → (∀ w ∈ P, In w a v b → w = a ∨ w = b) → (∀ e ∈ ed P, ¬ Cr v a e.1 e.2 ∧ ¬ Cr v b e.1 e.2) → SS (ar (ed P)) (tW a v b)
theorem SS.add {x y t : Int} (h1 : SS x t) (h2 : SS y t) : SS (x + y) t := by unfold SS at *; omega
theorem SS.addt {x t : Int} (h1 : SS x t) : SS (x + t) t := by unfold SS at *; omega
theorem SS.tr {x y t : Int} (h1 : SS x y) (h2 : SS y t) : SS x t := by unfold SS at *; omega
theorem SS.sm {x y : Int} (h1 : SS x y) : SS y x := by unfold SS at *; omega
theorem SS.self {x : Int} (h : x ≠ 0) : SS x x := by unfold SS; omega
/-- From corners before on. -/
def Below (k : Int × Int) (n : Nat) : Prop := ∀ P : List Pt, P.length < n → 3 ≤ P.length → Smp P → Inj k P → S1 k P ∧ S2 k P
theorem edges3 (v b : Pt) (mid : List Pt) (a : Pt) : (v, b) ∈ ed (v :: b :: (mid ++ [a])) ∧ (a, v) ∈ ed (v :: b :: (mid ++ [a])) ∧ ∀ e ∈ pe b (mid ++ [a]), e ∈ ed (v :: b :: (mid ++ [a])) := by
  rw [ed_of]
  exact ⟨List.mem_cons_self, List.mem_cons_of_mem _ (List.mem_append_right _ List.mem_cons_self), fun e he => List.mem_cons_of_mem _ (List.mem_append_left _ he)⟩
theorem last_mem {mid : List Pt} : a ∈ mid ++ [a] := List.mem_append_right _ List.mem_cons_self
/-- The ear's side is seen from its tip. -/
theorem ear_S2 {mid : List Pt} (hb : S2 k (b :: (mid ++ [a]))) (h : Smp (v :: b :: (mid ++ [a]))) (lo : ∀ w ∈ b :: (mid ++ [a]), ph k v < ph k w) (ht : tW a v b ≠ 0) (no : ∀ w ∈ mid, ¬ In w a v b) : SS (ar (ed (b :: (mid ++ [a])))) (tW a v b) := by
  obtain ⟨e1, e2, eo⟩ := edges3 v b mid a
  refine hb a b v (by rw [ed_ear]; exact List.mem_append_right _ List.mem_cons_self) lo ht (fun w hw hi => ?_) fun e he => ?_
  · rcases List.mem_cons.1 hw with rfl | hw
    · exact .inr rfl
    · rcases List.mem_append.1 hw with hw | hw
      · exact absurd hi (no w hw)
      · exact .inl (List.mem_singleton.1 hw)
  · rw [ed_ear] at he
    rcases List.mem_append.1 he with he | he
    · exact ⟨fun hx => h.cr _ e2 _ (eo e he) hx.sw, fun hx => h.cr _ e1 _ (eo e he) hx⟩
    · rw [List.mem_singleton.1 he]
      exact ⟨fun hx => hx.ne3 rfl, fun hx => hx.ne4 rfl⟩
theorem S1_step {n : Nat} (ih : Below k n) {P : List Pt} (hl : P.length ≤ n) (h : Smp P) (hi : Inj k P) : S1 k P := by
  rintro v b mid a rfl lo
  obtain ⟨ht, hc⟩ := ear_or_cut h lo
  cases hm : mid with
  | nil =>
    subst hm
    have : ar (ed (v :: b :: ([] ++ [a]))) = tW a v b := by
      show (v.1 * b.2 - v.2 * b.1) + ((b.1 * a.2 - b.2 * a.1) + ((a.1 * v.2 - a.2 * v.1) + 0)) = tW a v b
      unfold tW; grind
    rw [this]
    exact SS.self ht
  | cons m0 ms =>
    rw [← hm]
    have l3 : 1 ≤ mid.length := by rw [hm]; exact Nat.succ_le_succ (Nat.zero_le _)
    simp only [List.length_cons, List.length_append, List.length_nil] at hl
    rcases hc with no | ⟨A, z, B, rfl, hc⟩
    · have hs := ear_smp h ht no
      have := (ih (b :: (mid ++ [a])) (by simp only [List.length_cons, List.length_append, List.length_nil]; omega) (by simp only [List.length_cons, List.length_append, List.length_nil]; omega) hs (fun w hw y hy => hi w (List.mem_cons_of_mem _ hw) y (List.mem_cons_of_mem _ hy))).2
      rw [ear_ar]
      exact (ear_S2 this h lo ht no).addt
    · obtain ⟨s1, s2⟩ := cut_smp h hc
      simp only [List.length_append, List.length_cons] at hl l3
      have sub1 : ∀ w ∈ b :: (A ++ [z]), w ∈ b :: ((A ++ z :: B) ++ [a]) := fun w hw => by
        simp only [List.mem_cons, List.mem_append, List.not_mem_nil, or_false] at hw ⊢; grind
      have sub2 : ∀ w ∈ z :: (B ++ [a]), w ∈ b :: ((A ++ z :: B) ++ [a]) := fun w hw => by
        simp only [List.mem_cons, List.mem_append, List.not_mem_nil, or_false] at hw ⊢; grind
      have in1 : ∀ {Q : List Pt}, (∀ w ∈ Q, w ∈ b :: ((A ++ z :: B) ++ [a])) → Inj k (v :: Q) := fun hQ w hw y hy => hi w (by rcases List.mem_cons.1 hw with rfl | hw; exact List.mem_cons_self; exact List.mem_cons_of_mem _ (hQ w hw)) y (by rcases List.mem_cons.1 hy with rfl | hy; exact List.mem_cons_self; exact List.mem_cons_of_mem _ (hQ y hy))
      have t1 := (ih (v :: b :: (A ++ [z])) (by simp; omega) (by simp) s1 (in1 sub1)).1 v b A z rfl (fun w hw => lo w (sub1 w hw))
      have t2 := (ih (v :: z :: (B ++ [a])) (by simp; omega) (by simp) s2 (in1 sub2)).1 v z B a rfl (fun w hw => lo w (sub2 w hw))
      rw [cut_ar]
      exact (t1.tr hc.za).add (t2.tr hc.zb)
theorem S2_of {n : Nat} (ih : Below k n) {u q : Pt} {mid : List Pt} {p : Pt} (hl : (u :: q :: (mid ++ [p])).length ≤ n) (h : Smp (u :: q :: (mid ++ [p]))) (hi : Inj k (u :: q :: (mid ++ [p]))) (lo : ∀ w ∈ q :: (mid ++ [p]), ph k u < ph k w) (h1 : S1 k (u :: q :: (mid ++ [p]))) : S2 k (u :: q :: (mid ++ [p])) := by
  intro a b v hab lv ht hin hcr
  obtain ⟨e1, e2, eo⟩ := edges3 u q mid p
  have A := h1 u q mid p rfl lo
  obtain ⟨hu, hc⟩ := ear_or_cut h lo
  have n0 := List.nodup_cons.1 h.nd
  have n1 := List.nodup_cons.1 n0.2
  have lu := lv u List.mem_cons_self
  have loq := lo q List.mem_cons_self
  have lop := lo p (List.mem_cons_of_mem _ last_mem)
  have mp : p ∈ u :: q :: (mid ++ [p]) := List.mem_cons_of_mem _ (List.mem_cons_of_mem _ last_mem)
  have mq : q ∈ u :: q :: (mid ++ [p]) := List.mem_cons_of_mem _ List.mem_cons_self
  have nup : u ≠ p := fun e => n0.1 (by rw [e]; exact List.mem_cons_of_mem _ last_mem)
  have nuq : u ≠ q := fun e => n0.1 (by rw [e]; exact List.mem_cons_self)
  have nqp : q ≠ p := fun e => n1.1 (by rw [e]; exact last_mem)
  have c1 := hcr _ e1
  have c2 := hcr _ e2
  rw [ed_of] at hab
  rcases List.mem_cons.1 hab with e | hab
  · obtain ⟨rfl, rfl⟩ := Prod.mk.inj e
    have r1 : tW b a p = - tW p a b := by unfold tW; grind
    have r2 : tW b a v = tW a v b := by unfold tW; grind
    have := low_loc (k := k) (v := v) (u := a) (x := b) (y := p) lu loq lop (by omega) (by omega) (fun hh => (hin p mp (In.sw hh)).elim (fun e => nup e.symm) (fun e => nqp e.symm)) (fun hx => c2.2 hx.sw')
    refine A.tr ?_
    unfold SS; unfold opp at this; omega
  rcases List.mem_append.1 hab with hab | hab
  case inr =>
    obtain ⟨rfl, rfl⟩ := Prod.mk.inj (List.mem_singleton.1 hab)
    have r2 : tW a b v = - tW a v b := by unfold tW; grind
    have := low_loc (k := k) (v := v) (u := b) (x := a) (y := q) lu lop loq hu (by omega) (fun hh => (hin q mq hh).elim nqp (fun e => nuq e.symm)) (fun hx => c1.1 hx)
    refine A.tr ?_
    unfold SS; unfold opp at this; omega
  have mem := pe_mem hab
  have am : a ∈ q :: (mid ++ [p]) := mem.1
  have bm : b ∈ q :: (mid ++ [p]) := List.mem_cons_of_mem _ mem.2
  have nua : u ≠ a := fun e => n0.1 (by rw [e]; exact am)
  have nub : u ≠ b := fun e => n0.1 (by rw [e]; exact bm)
  have out : ¬ In u a v b := fun hh => (hin u List.mem_cons_self hh).elim nua nub
  cases hm : mid with
  | nil =>
    subst hm
    obtain ⟨rfl, rfl⟩ := Prod.mk.inj (List.mem_singleton.1 hab)
    have r2 : tW b v a = - tW a v b := by unfold tW; grind
    have := low_tri (k := k) (v := v) (u := u) (p := b) (q := a) lu lop loq hu (by omega) (fun hh => out hh.sw) (fun hx => c2.1 hx.sw') (fun hx => c1.2 hx)
    refine A.tr ?_
    unfold SS; unfold opp at this; omega
  | cons m0 ms =>
    rw [← hm]
    have l3 : 1 ≤ mid.length := by rw [hm]; exact Nat.succ_le_succ (Nat.zero_le _)
    have vout : ¬ In v p u q := low_out (k := k) hu (by omega) lu (by omega)
    simp only [List.length_cons, List.length_append, List.length_nil] at hl
    rcases hc with no | ⟨X, z, Y, rfl, hc⟩
    · have hs := ear_smp h hu no
      have b2 := (ih (q :: (mid ++ [p])) (by simp only [List.length_cons, List.length_append, List.length_nil]; omega) (by simp only [List.length_cons, List.length_append, List.length_nil]; omega) hs (fun w hw y hy => hi w (List.mem_cons_of_mem _ hw) y (List.mem_cons_of_mem _ hy))).2
      have t := ear_S2 b2 h lo hu no
      have s : SS (ar (ed (q :: (mid ++ [p])))) (tW a v b) := by
        have side : ∀ {s r : Pt}, s ∈ q :: (mid ++ [p]) → ¬ In u v s r → ¬ Cr v s p u → ¬ Cr v s u q → ¬ Cr v s p q := fun {s r} hs ho m1 m2 hx => by
          refine tc hu hx m1 m2 (fun hh => ho (on_in hh).sw.rt) vout (fun hh => ?_)
          rcases List.mem_cons.1 hs with e | hs
          · exact hx.ne4 e
          · rcases List.mem_append.1 hs with hs | hs
            · exact no _ hs hh
            · exact hx.ne3 (List.mem_singleton.1 hs)
        refine b2 a b v (by rw [ed_ear]; exact List.mem_append_left _ hab) (fun w hw => lv w (List.mem_cons_of_mem _ hw)) ht (fun w hw => hin w (List.mem_cons_of_mem _ hw)) fun e he => ?_
        rw [ed_ear] at he
        rcases List.mem_append.1 he with he | he
        · exact hcr e (eo e he)
        · rw [List.mem_singleton.1 he]
          exact ⟨side (r := b) am (fun hh => out (by unfold In at *; have := Pg.sw (a := v) (b := a) (c := u); have := Pg.sw (a := a) (b := b) (c := u); have := Pg.sw (a := b) (b := v) (c := u); omega)) c2.1 c1.1, side (r := a) bm (fun hh => out (by unfold In at *; have := Pg.sw (a := v) (b := b) (c := u); have := Pg.sw (a := a) (b := b) (c := u); have := Pg.sw (a := a) (b := v) (c := u); omega)) c2.2 c1.2⟩
      rw [ear_ar]
      have : SS (tW p u q) (tW a v b) := t.sm.tr s
      exact t.addt.tr this
    · obtain ⟨s1, s2⟩ := cut_smp h hc
      simp only [List.length_append, List.length_cons] at hl l3
      have sub1 : ∀ w ∈ q :: (X ++ [z]), w ∈ q :: ((X ++ z :: Y) ++ [p]) := fun w hw => by
        simp only [List.mem_cons, List.mem_append, List.not_mem_nil, or_false] at hw ⊢; grind
      have sub2 : ∀ w ∈ z :: (Y ++ [p]), w ∈ q :: ((X ++ z :: Y) ++ [p]) := fun w hw => by
        simp only [List.mem_cons, List.mem_append, List.not_mem_nil, or_false] at hw ⊢; grind
      have subC : ∀ {Q : List Pt}, (∀ w ∈ Q, w ∈ q :: ((X ++ z :: Y) ++ [p])) → ∀ w ∈ u :: Q, w ∈ u :: q :: ((X ++ z :: Y) ++ [p]) := fun hQ w hw => by
        rcases List.mem_cons.1 hw with rfl | hw
        · exact List.mem_cons_self
        · exact List.mem_cons_of_mem _ (hQ w hw)
      have b1 := ih (u :: q :: (X ++ [z])) (by simp; omega) (by simp) s1 (fun w hw y hy => hi w (subC sub1 w hw) y (subC sub1 y hy))
      have b2 := ih (u :: z :: (Y ++ [p])) (by simp; omega) (by simp) s2 (fun w hw y hy => hi w (subC sub2 w hw) y (subC sub2 y hy))
      have t1 := (b1.1 u q X z rfl (fun w hw => lo w (sub1 w hw))).tr hc.za
      have t2 := (b2.1 u z Y p rfl (fun w hw => lo w (sub2 w hw))).tr hc.zb
      -- the new edge isn't crossed from below
      have new : ∀ {s}, s ∈ q :: ((X ++ z :: Y) ++ [p]) → ¬ Cr v s p u → ¬ Cr v s u q → ¬ Cr v s u z := fun {s} hs m1 m2 => hc.cr v s m2 m1 (fun hh => absurd hh vout) (fun _ => List.mem_cons_of_mem _ hs)
      have n3 := new am c2.1 c1.1
      have n4 := new bm c2.2 c1.2
      have es : pe q ((X ++ z :: Y) ++ [p]) = pe q (X ++ [z]) ++ pe z (Y ++ [p]) := by
        rw [List.append_assoc, List.cons_append, pe_app q z X (Y ++ [p])]
      rw [es] at hab eo
      have g : SS (tW p u q) (tW a v b) := by
        rcases List.mem_append.1 hab with hab | hab
        · refine t1.sm.tr (b1.2 a b v ?_ (fun w hw => lv w (subC sub1 w hw)) ht (fun w hw => hin w (subC sub1 w hw)) fun e he => ?_)
          · exact (edges3 u q X z).2.2 _ hab
          · rw [ed_of] at he
            rcases List.mem_cons.1 he with rfl | he
            · exact c1
            · rcases List.mem_append.1 he with he | he
              · exact hcr e (eo e (List.mem_append_left _ he))
              · rw [List.mem_singleton.1 he]
                exact ⟨fun hx => n3 hx.sw', fun hx => n4 hx.sw'⟩
        · refine t2.sm.tr (b2.2 a b v ?_ (fun w hw => lv w (subC sub2 w hw)) ht (fun w hw => hin w (subC sub2 w hw)) fun e he => ?_)
          · exact (edges3 u z Y p).2.2 _ hab
          · rw [ed_of] at he
            rcases List.mem_cons.1 he with rfl | he
            · exact ⟨n3, n4⟩
            · rcases List.mem_append.1 he with he | he
              · exact hcr e (eo e (List.mem_append_right _ he))
              · rw [List.mem_singleton.1 he]; exact c2
      rw [cut_ar]
      exact (t1.add t2).tr g
theorem ex_min (g : Pt → Int) : ∀ (l : List Pt), l ≠ [] → ∃ z ∈ l, ∀ w ∈ l, g z ≤ g w
  | [], h => absurd rfl h
  | [x], _ => ⟨x, List.mem_cons_self, fun w hw => by rw [List.mem_singleton.1 hw]; exact Int.le_refl _⟩
  | x :: y :: l, _ => by
    obtain ⟨z, z1, z2⟩ := ex_min g (y :: l) (by simp)
    rcases Int.lt_or_le (g x) (g z) with h | h
    · exact ⟨x, List.mem_cons_self, fun w hw => by
        rcases List.mem_cons.1 hw with rfl | hw
        · exact Int.le_refl _
        · have := z2 w hw; omega⟩
    · exact ⟨z, List.mem_cons_of_mem _ z1, fun w hw => by
        rcases List.mem_cons.1 hw with rfl | hw
        · exact h
        · exact z2 w hw⟩
/-- From the lowest corner on. -/
theorem lowest {P : List Pt} (h3 : 3 ≤ P.length) (h : Smp P) (hi : Inj k P) : ∃ A B u q mid p, P = A ++ B ∧ B ++ A = u :: q :: (mid ++ [p]) ∧ ∀ w ∈ q :: (mid ++ [p]), ph k u < ph k w := by
  obtain ⟨u, u1, u2⟩ := ex_min (ph k) P (by intro e; rw [e] at h3; exact absurd h3 (by decide))
  obtain ⟨A, B, rfl⟩ := List.append_of_mem u1
  have hr := h.rot (A := A) (B := u :: B)
  have hlen : 2 ≤ (B ++ A).length := by simp only [List.length_append, List.length_cons] at *; omega
  have shape : ∃ q mid p, B ++ A = q :: (mid ++ [p]) := by
    cases hBA : B ++ A with
    | nil => rw [hBA] at hlen; exact absurd hlen (by decide)
    | cons q r =>
      rw [hBA] at hlen
      have hr : r ≠ [] := by rintro rfl; simp at hlen
      exact ⟨q, r.dropLast, r.getLast hr, by rw [List.dropLast_concat_getLast hr]⟩
  obtain ⟨q, mid, p, e⟩ := shape
  refine ⟨A, u :: B, u, q, mid, p, rfl, by rw [List.cons_append, e], fun w hw => ?_⟩
  rw [← e] at hw
  have wm : w ∈ A ++ u :: B := by
    rw [List.mem_append] at hw ⊢
    exact hw.symm.imp id (List.mem_cons_of_mem _)
  have g := u2 w wm
  rcases Int.lt_or_eq_of_le g with g | g
  · exact g
  · have : u = w := hi u u1 w wm g
    subst this
    exact absurd hw (List.nodup_cons.1 hr.nd).1
theorem all (k : Int × Int) : ∀ n, Below k n
  | 0 => fun P h => absurd h (Nat.not_lt_zero _)
  | n + 1 => by
    intro P hl h3 h hi
    have ih := all k n
    have s1 : ∀ {Q : List Pt}, Q.length ≤ n → Smp Q → Inj k Q → S1 k Q := fun h1 h2 h3 => S1_step ih h1 h2 h3
    refine ⟨s1 (by omega) h hi, ?_⟩
    obtain ⟨A, B, u, q, mid, p, rfl, e, lo⟩ := lowest h3 h hi
    have hr := h.rot
    have mm : ∀ {w}, w ∈ B ++ A → w ∈ A ++ B := fun h => by rw [List.mem_append] at h ⊢; exact h.symm
    have hir : Inj k (B ++ A) := fun w hw y hy => hi w (mm hw) y (mm hy)
    have hlr : (B ++ A).length ≤ n := by rw [List.length_append] at *; omega
    have s1r := s1 hlr hr hir
    have key : S2 k (B ++ A) := by
      rw [e] at hlr hr hir s1r ⊢
      exact S2_of ih hlr hr hir lo s1r
    intro a b v hab lv ht hin hcr
    rw [rot_ar]
    exact key a b v (rot_mem hab) (fun w hw => lv w (mm hw)) ht (fun w hw => hin w (mm hw)) (fun f hf => hcr f (rot_mem hf))
/-- A simple polygon has an area. -/
theorem area_ne {P : List Pt} (h3 : 3 ≤ P.length) (h : Smp P) (hi : Inj k P) : ar (ed P) ≠ 0 := by
  obtain ⟨A, B, u, q, mid, p, rfl, e, lo⟩ := lowest h3 h hi
  have hr := h.rot
  have mm : ∀ {w}, w ∈ B ++ A → w ∈ A ++ B := fun h => by rw [List.mem_append] at h ⊢; exact h.symm
  have hir : Inj k (B ++ A) := fun w hw y hy => hi w (mm hw) y (mm hy)
  rw [rot_ar]
  have h3' : 3 ≤ (B ++ A).length := by rw [List.length_append] at *; omega
  have := (all k ((B ++ A).length + 1) (B ++ A) (Nat.lt_succ_self _) h3' hr hir).1 u q mid p e lo
  unfold SS at this
  omega
end
end Go.Pg

