/-
  The order of steps is all one; the executor of whole calls and its soundness: what it comes to, the call comes to, in whatever order; all that was there, but for what was lent, stays as it was. No condition.
-/
import Derived.Test.YtjnkcojbeknpeaaSz
import Derived.LoopN
import Derived.Scope
import Derived.Laws.LoneSync
import Derived.Laws.Externs
import Derived.SizedLaws
import Derived.ChangeStays
import Derived.OpenShut
import Derived.Lib.SmallJoins
namespace Go.Sx
open Go.RowKit

section
variable {P : Program} {al : Al} {Γ : Orc} {ops : Array Oper} {w0 : Base} {Q : Exit → Act → World → Prop}

theorem eval_put {st : St} {d : Option Tmp} {x : SV} {m : Mem} {y : Operand} (h : ∀ t, d = some t → y ≠ .tmp t) : (({ st with mem := m } : St).put d x).eval y = st.eval y := by
  cases d with
  | none => cases y <;> rfl
  | some t =>
    cases y with
    | tmp u =>
      have : t ≠ u := fun e => h t rfl (e ▸ rfl)
      simp [St.eval, St.put, Tr.get_set_ne _ _ _ _ this]
    | _ => rfl

theorem yieldS_put {st : St} {d : Option Tmp} {x : SV} {m : Mem} {j : Nat} (h : ∀ t, d = some t → (ops[j]?).bind (·.dst) ≠ some t) : yieldS ops (({ st with mem := m } : St).put d x) j = yieldS ops st j := by
  cases d with
  | none => rfl
  | some t =>
    unfold yieldS
    cases hd : (ops[j]?).bind (·.dst) with
    | none => rfl
    | some u =>
      have : t ≠ u := fun e => h t rfl (by rw [hd, e])
      simp [St.put, Tr.get_set_ne _ _ _ _ this]

theorem looks_eval {o : Oper} {st : St} {d : Option Tmp} {z : SV} {m1 : Mem} (hd : ∀ t, d = some t → t ∉ o.looksAt ops) :
    (∀ y ∈ o.op.operands, (({ st with mem := m1 } : St).put d z).eval y = st.eval y) ∧ (∀ j t, o.guard = some (j, t) → yieldS ops (({ st with mem := m1 } : St).put d z) j = yieldS ops st j) :=
  ⟨fun y hy => eval_put fun t ht hyt => hd t ht (by
    subst hyt
    exact List.mem_append_left _ (List.mem_filterMap.2 ⟨.tmp t, by simpa using hy, rfl⟩)),
  fun j t hg => yieldS_put fun u hu hju => hd u hu (by
    refine List.mem_append_right _ ?_
    simp [hg, hju])⟩

theorem put_mem {st : St} {m : Mem} {d : Option Tmp} {x : SV} : (({ st with mem := m } : St).put d x).mem = m := by cases d <;> rfl

theorem put_put_comm {st : St} {m : Mem} {d e : Option Tmp} (x y : SV) (h : ∀ t, d = some t → e ≠ some t) : ((({ st with mem := m } : St).put d x)).put e y = (({ st with mem := m } : St).put e y).put d x := by
  cases d with
  | none => cases e <;> rfl
  | some t =>
    cases e with
    | none => rfl
    | some u =>
      have : t ≠ u := fun he => h t rfl (he ▸ rfl)
      simp [St.put, Tr.set_comm _ _ _ _ _ this]

theorem with_mem_put {st : St} {m m' : Mem} {d : Option Tmp} {x : SV} : ({ (({ st with mem := m } : St).put d x) with mem := m' } : St) = ({ st with mem := m' } : St).put d x := by
  cases d <;> rfl

theorem opL_comm {oi oj : Oper} {l l1 l2 : List Bool} (h1 : opL al oi l = some l1) (h2 : opL al oj l1 = some l2) : ∃ l', opL al oj l = some l' ∧ opL al oi l' = some l2 := by
  have other : ∀ (o : Oper) (l : List Bool), (∀ e, o.op ≠ .alloc e) → opL al o l = some l := by
    intro o l hne
    unfold opL
    cases hop : o.op
    case alloc e => exact absurd hop (hne e)
    all_goals rfl
  by_cases hi : ∃ e, oi.op = .alloc e
  · by_cases hj : ∃ e, oj.op = .alloc e
    · obtain ⟨e, hi⟩ := hi
      obtain ⟨e', hj⟩ := hj
      unfold opL at *
      simp only [hi] at h1 ⊢
      simp only [hj] at h2 ⊢
      cases hli : lookAl al.a oi.dst with
      | none => simp [hli] at h1
      | some qi =>
        obtain ⟨ii, ei⟩ := qi
        cases hlj : lookAl al.a oj.dst with
        | none => simp [hlj] at h2
        | some qj =>
          obtain ⟨jj, ej⟩ := qj
          simp only [hli] at h1 ⊢
          simp only [hlj] at h2 ⊢
          cases hb : l[ii]? with
          | none => simp [hb] at h1
          | some b =>
            cases b with
            | true => simp [hb] at h1
            | false =>
              simp [hb] at h1
              subst h1
              have hne : ii ≠ jj := by
                rintro rfl
                rw [List.getElem?_set_self'] at h2
                simp [hb] at h2
              rw [List.getElem?_set_ne hne] at h2
              cases hb2 : l[jj]? with
              | none => simp [hb2] at h2
              | some b2 =>
                cases b2 with
                | true => simp [hb2] at h2
                | false =>
                  simp [hb2] at h2
                  subst h2
                  refine ⟨l.set jj true, rfl, ?_⟩
                  rw [List.getElem?_set_ne (Ne.symm hne), hb]
                  simp [List.set_comm _ _ hne]
    · rw [other oj _ (fun e he => hj ⟨e, he⟩)] at h2
      injection h2 with h2
      subst h2
      exact ⟨l, other oj _ (fun e he => hj ⟨e, he⟩), h1⟩
  · rw [other oi _ (fun e he => hi ⟨e, he⟩)] at h1
    injection h1 with h1
    subst h1
    exact ⟨l2, h2, other oi _ (fun e he => hi ⟨e, he⟩)⟩

theorem clash_spec {a b : Oper} (h : clash P al a b = false) : (isStore a.op = true → isLoad P b.op = false ∧ isStore b.op = false) ∧ (isStore b.op = true → isLoad P a.op = false ∧ isStore a.op = false) ∧ (mkRow al a = true → rowReader P b.op = false) ∧ isWr al a = false ∧ isWr al b = false := by
  unfold clash at h
  cases h5 : isWr al a <;> cases h6 : isWr al b <;> simp only [h5, h6, Bool.or_true, Bool.or_false, Bool.true_eq_false] at h
  cases h1 : isLoad P a.op <;> cases h2 : isLoad P b.op <;> cases h3 : isStore a.op <;> cases h4 : isStore b.op <;> simp_all

theorem wideAt_pend {rows : List RowS} {l : Nat} {s : RowS} (hp : rows[l]? = some .pend) : ∀ r q, wideAt rows r = some q → wideAt (rows.set l s) r = some q := by
  intro r q h
  have hne : r ≠ l := by
    rintro rfl
    unfold wideAt at h
    rw [hp] at h
    cases h
  unfold wideAt at *
  rwa [List.getElem?_set_ne (Ne.symm hne)]

theorem rowAt_set {rows : List RowS} {l : Nat} {rc : RowC} (hp : rows[l]? = some .pend) : ∀ r c, rowAt rows r = some c → rowAt (rows.set l (.live rc)) r = some c := by
  intro r c h
  have hne : l ≠ r := by
    rintro rfl
    simp [rowAt, hp] at h
  unfold rowAt at *
  rw [List.getElem?_set_ne hne]
  exact h

theorem opW_comm {oi oj : Oper} (hcl : mkRow al oi = true → rowReader P oj.op = false) {evi evj : Operand → Option SV} {bi bj : List (List SV)} {r0 w1 w2 : List RowS} {x y : SV}
    (hvi : opV Γ P al oi evi bi r0 = some x) (hwi : opW Γ P al oi evi r0 = some w1) (hvj : opV Γ P al oj evj bj w1 = some y) (hwj : opW Γ P al oj evj w1 = some w2) :
    ∃ w', opV Γ P al oj evj bj r0 = some y ∧ opW Γ P al oj evj r0 = some w' ∧ opV Γ P al oi evi bi w' = some x ∧ opW Γ P al oi evi w' = some w2 := by
  rcases opW_cases hvi hwi with ⟨rfl, gi⟩ | ⟨hci, l, rc, hp, rfl, gi⟩
  · rcases opW_cases hvj hwj with ⟨rfl, gj⟩ | ⟨hcj, l, rc, hp, rfl, gj⟩
    · exact ⟨w2, hvj, hwj, hvi, hwi⟩
    · have ht : RowsTo P oi w1 (w1.set l (.live rc)) := .inl ⟨rowAt_set hp, wideAt_pend hp⟩
      exact ⟨_, hvj, hwj, opV_to ht hvi, gi _ ht⟩
  · have hrr := hcl hci
    rcases opW_cases hvj hwj with ⟨rfl, gj⟩ | ⟨hcj, l2, rc2, hp2, rfl, gj⟩
    · exact ⟨r0, opV_to (.inr hrr) hvj, gj _ (.inr hrr), hvi, hwi⟩
    · have hne : l ≠ l2 := by
        rintro rfl
        rw [List.getElem?_set_self'] at hp2
        simp [hp] at hp2
      have hp2' : r0[l2]? = some .pend := by rwa [List.getElem?_set_ne hne] at hp2
      have ht : RowsTo P oi r0 (r0.set l2 (.live rc2)) := .inl ⟨rowAt_set hp2', wideAt_pend hp2'⟩
      refine ⟨_, opV_to (.inr hrr) hvj, gj _ (.inr hrr) hp2', opV_to ht hvi, ?_⟩
      rw [gi _ ht (by rw [List.getElem?_set_ne (Ne.symm hne)]; exact hp), List.set_comm _ _ hne]

theorem stepS_comm {oi oj : Oper} (hap : oi.apart ops oj = true) (hcl : clash P al oi oj = false) {st s1 s2 : St} (h1 : stepS Γ P (some al) ops oi st = some s1) (h2 : stepS Γ P (some al) ops oj s1 = some s2) :
    ∃ s', stepS Γ P (some al) ops oj st = some s' ∧ stepS Γ P (some al) ops oi s' = some s2 := by
  obtain ⟨a1, a2, a3⟩ := Oper.apart_spec hap
  obtain ⟨c1, c2, c3, wi, wj⟩ := clash_spec hcl
  rw [stepS_eq] at h1 h2
  cases hi : stepR Γ P al ops oi st with
  | none => simp [hi] at h1
  | some q1 =>
    obtain ⟨x, m1⟩ := q1
    simp [hi] at h1
    subst h1
    cases hj : stepR Γ P al ops oj (({ st with mem := m1 } : St).put oi.dst x) with
    | none => simp [hj] at h2
    | some q2 =>
      obtain ⟨y, m2⟩ := q2
      simp [hj] at h2
      rw [with_mem_put] at h2
      rw [stepR_iff wi] at hi
      rw [stepR_iff wj] at hj
      have fin : ∀ m', StepAt Γ P al ops oj st y m' → StepAt Γ P al ops oi (({ st with mem := m' } : St).put oj.dst y) x m2 →
          ∃ s', stepS Γ P (some al) ops oj st = some s' ∧ stepS Γ P (some al) ops oi s' = some s2 := by
        intro m' g1 g2
        refine ⟨({ st with mem := m' } : St).put oj.dst y, ?_, ?_⟩
        · rw [stepS_eq, (stepR_iff wj).2 g1]; rfl
        · rw [stepS_eq, (stepR_iff wi).2 g2, ← h2]
          simp only [Option.map_some, with_mem_put]
          rw [put_put_comm x y a2]
      obtain ⟨ej, yj⟩ := looks_eval (o := oj) (st := st) (z := x) (m1 := m1) a1
      obtain ⟨ei, yi⟩ : (∀ m', ∀ z ∈ oi.op.operands, (({ st with mem := m' } : St).put oj.dst y).eval z = st.eval z) ∧ (∀ m', ∀ j t, oi.guard = some (j, t) → yieldS ops (({ st with mem := m' } : St).put oj.dst y) j = yieldS ops st j) :=
        ⟨fun m' => (looks_eval (o := oi) (st := st) (z := y) (m1 := m') a3).1, fun m' => (looks_eval (o := oi) (st := st) (z := y) (m1 := m') a3).2⟩
      cases hi with
      | runs _ b1 l1 r1 hgi hvi hbi hli hwi =>
        have hgi' : ∀ m', oi.guard = none ∨ ∃ j t, oi.guard = some (j, t) ∧ yieldS ops (({ st with mem := m' } : St).put oj.dst y) j = some (.v (.bool t)) := by
          intro m'
          rcases hgi with hg | ⟨j, t, hg, hy⟩
          · exact .inl hg
          · exact .inr ⟨j, t, hg, by rw [yi m' j t hg]; exact hy⟩
        cases hj with
        | runs _ b2 l2 r2 hgj hvj hbj hlj hwj =>
          rw [put_mem] at hvj hbj hlj hwj
          simp only at hvj hbj hlj hwj
          obtain ⟨l', hl1, hl2⟩ := opL_comm hli hlj
          rw [opV_congr ej (fun _ => rfl)] at hvj
          rw [opW_congr ej] at hwj
          rw [opB_congr ej] at hbj
          obtain ⟨r', hvj', hwj', hvi', hwi'⟩ := opW_comm c3 hvi hwi hvj hwj
          have hgj' : oj.guard = none ∨ ∃ j t, oj.guard = some (j, t) ∧ yieldS ops st j = some (.v (.bool t)) := by
            rcases hgj with hg | ⟨j, t, hg, hy⟩
            · exact .inl hg
            · exact .inr ⟨j, t, hg, by rw [← yj j t hg]; exact hy⟩
          cases hs : isStore oi.op with
          | true =>
            obtain ⟨d1, d2⟩ := c1 hs
            rw [opB_other d2] at hbj
            injection hbj with hbj
            subst hbj
            refine fin ⟨st.mem.blk, l', r'⟩ (.runs y _ _ _ hgj' ?_ (opB_other d2) hl1 hwj') (.runs x _ _ _ (hgi' _) ?_ ?_ (by rw [put_mem]; exact hl2) ?_)
            · exact (opV_congr (fun _ _ => rfl) (fun h => by rw [d1] at h; cases h)).symm.trans hvj'
            · rw [put_mem, opV_congr (ei _) (fun _ => rfl)]; exact hvi'
            · rw [put_mem, opB_congr (ei _)]; exact hbi
            · rw [put_mem, opW_congr (ei _)]; exact hwi'
          | false =>
            rw [opB_other hs] at hbi
            injection hbi with hbi
            subst hbi
            refine fin ⟨b2, l', r'⟩ (.runs y _ _ _ hgj' hvj' hbj hl1 hwj') (.runs x _ _ _ (hgi' _) ?_ (by rw [put_mem]; exact opB_other hs) (by rw [put_mem]; exact hl2) ?_)
            · rw [put_mem, opV_congr (ei _) (blk' := st.mem.blk)]
              · exact hvi'
              · intro hld
                cases hsj : isStore oj.op with
                | true => rw [(c2 hsj).1] at hld; cases hld
                | false =>
                  rw [opB_other hsj] at hbj
                  injection hbj with hbj
                  exact hbj.symm
            · rw [put_mem, opW_congr (ei _)]; exact hwi'
        | skips j t u hg hy hne =>
          rw [put_mem] at *
          refine fin st.mem (.skips j t u hg (by rw [← yj j t hg]; exact hy) hne) (.runs x _ _ _ (hgi' _) ?_ ?_ (by rw [put_mem]; exact hli) ?_)
          · rw [put_mem, opV_congr (ei _) (fun _ => rfl)]; exact hvi
          · rw [put_mem, opB_congr (ei _)]; exact hbi
          · rw [put_mem, opW_congr (ei _)]; exact hwi
      | skips j t u hg hy hne =>
        cases hj with
        | runs _ b2 l2 r2 hgj hvj hbj hlj hwj =>
          rw [put_mem] at hvj hbj hlj hwj
          have hgj' : oj.guard = none ∨ ∃ j t, oj.guard = some (j, t) ∧ yieldS ops st j = some (.v (.bool t)) := by
            rcases hgj with hg | ⟨j, t, hg, hy⟩
            · exact .inl hg
            · exact .inr ⟨j, t, hg, by rw [← yj j t hg]; exact hy⟩
          refine fin ⟨b2, l2, r2⟩ (.runs y _ _ _ hgj' ?_ ?_ hlj ?_) ?_
          · rw [← opV_congr ej (fun _ => rfl)]; exact hvj
          · rw [← opB_congr ej]; exact hbj
          · rw [← opW_congr ej]; exact hwj
          · have := StepAt.skips (Γ := Γ) (P := P) (al := al) (o := oi) (st := (({ st with mem := ⟨b2, l2, r2⟩ } : St).put oj.dst y)) j t u hg (by rw [yi _ j t hg]; exact hy) hne
            rwa [put_mem] at this
        | skips j' t' u' hg' hy' hne' =>
          rw [put_mem] at *
          refine fin st.mem (.skips j' t' u' hg' (by rw [← yj j' t' hg']; exact hy') hne') ?_
          have := StepAt.skips (Γ := Γ) (P := P) (al := al) (o := oi) (st := (({ st with mem := st.mem } : St).put oj.dst (.v undef))) j t u hg (by rw [yi _ j t hg]; exact hy) hne
          rwa [put_mem] at this
end
end Go.Sx

namespace Go.Sx
open Go.RowKit

def waitsB (ops : Array Oper) (j i : Nat) : Bool :=
  match ops[j]? with
  | some oj => oj.after.any fun e => Region.binds .any e && e.on == i
  | none => false

/-- Does it wait for 'k', or for one of D? -/
def waitsD (ops : Array Oper) (listed : Array Bool) (k j : Nat) (D : List Nat) : Bool :=
  !listed.getD j true && !(j == k) && (match ops[j]? with
    | some oj => oj.after.any fun e => Region.binds .any e && (e.on == k || D.contains e.on)
    | none => false)

/-- What is left and waits for 'k', through others. -/
def dep (ops : Array Oper) (listed : Array Bool) (k : Nat) : List Nat → List Nat → List Nat
  | [], D => D
  | j :: r, D => match waitsD ops listed k j D with
    | true => dep ops listed k r (j :: D)
    | false => dep ops listed k r D

def Deps (ops : Array Oper) (listed : Array Bool) (k : Nat) (D : List Nat) : Prop :=
  ∀ j ∈ D, listed.getD j true = false ∧ ∃ oj, ops[j]? = some oj ∧ ∃ e ∈ oj.after, Region.binds .any e = true ∧ (e.on = k ∨ e.on ∈ D)

theorem dep_ok {ops : Array Oper} {listed : Array Bool} {k : Nat} : ∀ (l D : List Nat), Deps ops listed k D → Deps ops listed k (dep ops listed k l D)
  | [], _, h => h
  | j :: r, D, h => by
    unfold dep
    split
    · rename_i hw
      refine dep_ok r (j :: D) fun i hi => ?_
      have mono : ∀ n, (n = k ∨ n ∈ D) → (n = k ∨ n ∈ j :: D) := fun n hn => hn.imp id (List.mem_cons_of_mem _)
      rcases List.mem_cons.1 hi with rfl | hi
      · unfold waitsD at hw
        simp only [Bool.and_eq_true, Bool.not_eq_true'] at hw
        obtain ⟨⟨h1, _⟩, h2⟩ := hw
        refine ⟨h1, ?_⟩
        split at h2
        · rename_i oj hoj
          rw [Array.any_eq_true'] at h2
          obtain ⟨e, he, hb⟩ := h2
          simp only [Bool.and_eq_true, Bool.or_eq_true, beq_iff_eq, List.contains_iff_mem] at hb
          exact ⟨oj, hoj, e, he, hb.1, mono _ hb.2⟩
        · cases h2
      · obtain ⟨h1, oj, hoj, e, he, hb, hm⟩ := h i hi
        exact ⟨h1, oj, hoj, e, he, hb, mono _ hm⟩
    · exact dep_ok r D h

def freeS (P : Program) (al : Al) (ops : Array Oper) (listed : Array Bool) (k : Nat) : Bool :=
  match ops[k]? with
  | some ok => (List.range ops.size).all fun j => listed.getD j true || j == k || waitsB ops j k ||
    (match ops[j]? with
     | some oj => ok.apart ops oj && !clash P al ok oj
     | none => false) || (dep ops listed k (List.range ops.size) []).contains j
  | none => false

/-- Flags, each carried out. -/
def fLB {R : Type} : List Bool → (List Bool → R) → R
  | [], k => k []
  | true :: r, k => fLB r (fun r => k (true :: r))
  | false :: r, k => fLB r (fun r => k (false :: r))
theorem fLB_eq {R : Type} : ∀ (l : List Bool) (k : List Bool → R), fLB l k = k l
  | [], k => rfl
  | true :: r, k => by simp only [fLB, fLB_eq r]
  | false :: r, k => by simp only [fLB, fLB_eq r]

/-- An order of a region's operations in which each one, when it comes, is ready, and may as well come before all that are left. -/
def lexS (P : Program) (al : Al) (ops : Array Oper) : Nat → Array Bool → Option (List Nat)
  | 0, listed => match Region.ready .any ops listed with
    | [] => some []
    | _ :: _ => none
  | f + 1, listed => match Region.ready .any ops listed with
    | [] => some []
    | r => match r.find? (freeS P al ops listed) with
      | some k => fLB (listed.setIfInBounds k true).toList fun fl => match lexS P al ops f fl.toArray with
        | some l => some (k :: l)
        | none => none
      | none => none

def stepsO (Γ : Orc) (P : Program) (al : Option Al) (ops : Array Oper) : List Nat → St → Option St
  | [], st => some st
  | k :: r, st => match ops[k]? with
    | some o => match stepS Γ P al ops o st with
      | some st' => stepsO Γ P al ops r st'
      | none => none
    | none => none

section
variable {P : Program} {al : Al} {Γ : Orc} {ops : Array Oper} {w0 : Base} {Q : Exit → Act → World → Prop}

/-- Whatever order is picked from here on, the steps go through and come to the same. -/
def sAny (Γ : Orc) (P : Program) (al : Al) (ops : Array Oper) (T : St → Prop) : Nat → Array Bool → St → Prop
  | 0, listed, st => Region.ready .any ops listed = [] ∧ T st
  | f + 1, listed, st => (Region.ready .any ops listed = [] → T st) ∧
    ∀ i ∈ Region.ready .any ops listed, ∃ o st', ops[i]? = some o ∧ stepS Γ P (some al) ops o st = some st' ∧ sAny Γ P al ops T f (listed.setIfInBounds i true) st'

theorem sAny_first {T : St → Prop} {i : Nat} {oi : Oper} (hi : ops[i]? = some oi) (D : List Nat) : ∀ (f : Nat) (listed : Array Bool) (st st1 : St), Deps ops listed i D →
    (∀ j oj, ops[j]? = some oj → j ≠ i → listed.getD j true = false → (∀ e ∈ oj.after, Region.binds .any e = true → e.on ≠ i) → j ∉ D → oi.apart ops oj = true ∧ clash P al oi oj = false) →
    i ∈ Region.ready .any ops listed → stepS Γ P (some al) ops oi st = some st1 → sAny Γ P al ops T f (listed.setIfInBounds i true) st1 → sAny Γ P al ops T (f + 1) listed st := by
  intro f
  induction f with
  | zero =>
    intro listed st st1 hD _ hr hs H
    refine ⟨fun h => (by rw [h] at hr; cases hr), fun j hj => ?_⟩
    by_cases hji : j = i
    · subst hji; exact ⟨oi, st1, hi, hs, H⟩
    · have := ready_mono hj hji
      rw [H.1] at this
      cases this
  | succ f ih =>
    intro listed st st1 hD hfree hr hs H
    refine ⟨fun h => (by rw [h] at hr; cases hr), fun j hj => ?_⟩
    by_cases hji : j = i
    · subst hji; exact ⟨oi, st1, hi, hs, H⟩
    · obtain ⟨oj, s2, hoj, h2, H2⟩ := H.2 j (ready_mono hj hji)
      obtain ⟨hjun, oj', hoj', hall⟩ := mem_ready.1 hj
      have : oj' = oj := Option.some.inj (hoj'.symm.trans hoj)
      subst this
      have un : ∀ n, listed.getD n true = false → ∀ e ∈ oj'.after, Region.binds .any e = true → e.on ≠ n := fun n h0 e he hb heq => by
        have h1 := hall e he hb
        rw [heq] at h1
        rcases Nat.lt_or_ge n listed.size with h' | h'
        · simp [h'] at h0 h1; rw [h0] at h1; cases h1
        · simp [Array.getElem?_eq_none h'] at h1
      have hnot := un i (mem_ready.1 hr).1
      have hnD : j ∉ D := fun hj' => by
        obtain ⟨_, oj2, hoj2, e, he, hb, hm⟩ := hD j hj'
        have : oj2 = oj' := Option.some.inj (hoj2.symm.trans hoj)
        subst this
        rcases hm with hm | hm
        · exact hnot e he hb hm
        · exact un e.on (hD _ hm).1 e he hb rfl
      obtain ⟨hap, hcl⟩ := hfree j oj' hoj hji hjun hnot hnD
      have hD' : Deps ops (listed.setIfInBounds j true) i D := fun n hn => by
        obtain ⟨h1, h2⟩ := hD n hn
        have hne : j ≠ n := fun e => hnD (e ▸ hn)
        exact ⟨by rw [getD_set_ne true hne]; exact h1, h2⟩
      obtain ⟨s', g1, g2⟩ := stepS_comm hap hcl hs h2
      have hfree' : ∀ k ok, ops[k]? = some ok → k ≠ i → (listed.setIfInBounds j true).getD k true = false →
          (∀ e ∈ ok.after, Region.binds .any e = true → e.on ≠ i) → k ∉ D → oi.apart ops ok = true ∧ clash P al oi ok = false := fun k ok hk hki hun hno hkD => by
        refine hfree k ok hk hki ?_ hno hkD
        by_cases hjk : j = k
        · subst hjk; exact hjun
        · rw [getD_set_ne true hjk] at hun; exact hun
      refine ⟨oj', s', hoj, g1, ih (listed.setIfInBounds j true) s' s2 hD' hfree' (ready_mono hr (Ne.symm hji)) g2 ?_⟩
      rw [Array.setIfInBounds_comm _ _ hji]
      exact H2

theorem freeS_spec {listed : Array Bool} {k : Nat} {ok : Oper} (hk : ops[k]? = some ok) (h : freeS P al ops listed k = true) :
    ∀ j oj, ops[j]? = some oj → j ≠ k → listed.getD j true = false → (∀ e ∈ oj.after, Region.binds .any e = true → e.on ≠ k) → j ∉ dep ops listed k (List.range ops.size) [] → ok.apart ops oj = true ∧ clash P al ok oj = false := by
  intro j oj hj hjk hl hno hnD
  unfold freeS at h
  simp only [hk, List.all_eq_true, List.mem_range] at h
  have hlt : j < ops.size := by
    rcases Nat.lt_or_ge j ops.size with h' | h'
    · exact h'
    · simp [Array.getElem?_eq_none h'] at hj
  have := h j hlt
  have hw : waitsB ops j k = false := by
    unfold waitsB
    simp only [hj]
    rw [← Bool.not_eq_true, Array.any_eq_true']
    rintro ⟨e, he, hb⟩
    simp only [Bool.and_eq_true, beq_iff_eq] at hb
    exact hno e he hb.1 hb.2
  simp only [hl, hw, hj, Bool.false_or, Bool.or_false, Bool.or_eq_true, beq_iff_eq, Bool.and_eq_true, Bool.not_eq_true', List.contains_iff_mem] at this
  rcases this with (h1 | h1) | h1
  · exact absurd h1 hjk
  · exact h1
  · exact absurd h1 hnD

theorem sAny_lex {T : St → Prop} : ∀ (f : Nat) (listed : Array Bool) (ord : List Nat) (st st' : St), lexS P al ops f listed = some ord →
    stepsO Γ P (some al) ops ord st = some st' → T st' → sAny Γ P al ops T f listed st
  | 0, listed, ord, st, st', hB, hS, hT => by
    unfold lexS at hB
    split at hB
    · rename_i hr
      injection hB with hB
      subst hB
      injection hS with hS
      subst hS
      exact ⟨hr, hT⟩
    · cases hB
  | f + 1, listed, ord, st, st', hB, hS, hT => by
    unfold lexS at hB
    split at hB
    · rename_i hr
      injection hB with hB
      subst hB
      injection hS with hS
      subst hS
      exact ⟨fun _ => hT, fun i hi => by rw [hr] at hi; cases hi⟩
    · split at hB
      · rename_i k hk
        rw [fLB_eq, Array.toArray_toList] at hB
        split at hB
        · rename_i l hl
          injection hB with hB
          subst hB
          unfold stepsO at hS
          split at hS
          · rename_i o ho
            split at hS
            · rename_i st1 h1
              have hf : freeS P al ops listed k = true := List.find?_some hk
              exact sAny_first ho (dep ops listed k (List.range ops.size) []) f listed st st1 (dep_ok _ _ (fun _ h => by cases h)) (freeS_spec ho hf) (List.mem_of_find?_eq_some hk) h1 (sAny_lex f _ l st1 st' hl hS hT)
            · cases hS
          · cases hS
        · cases hB
      · cases hB

theorem wpAny_of_sAny (hΓ : Γ.Ok P) {st' : St} (hQ : ∀ a w, RelP P al w0 st' a w → Q .normal a w) : ∀ (f : Nat) (listed : Array Bool) (st : St) (a : Act) (w : World),
    sAny Γ P al ops (· = st') f listed st → RelP P al w0 st a w → wpAny P .any ops Q f listed a w
  | 0, listed, st, a, w, h, hR => ⟨h.1, hQ a w (by have := h.2; subst this; exact hR)⟩
  | f + 1, listed, st, a, w, h, hR => ⟨fun h0 => hQ a w (by have := h.1 h0; subst this; exact hR), fun i hi => by
      obtain ⟨o, s1, ho, hs, hn⟩ := h.2 i hi
      exact wpOp_of_stepS (al := some al) hΓ ho hs hR (fun a w hR' => wpAny_of_sAny hΓ hQ f _ s1 a w hn hR')⟩

/-- The blocks and rows that a region's operations will make. -/
def preAl (P : Program) : List Oper → Mem → Option (Al × Mem)
  | [], m => some ({ a := [], r := [] }, m)
  | o :: r, m => match o.op, o.dst with
    | .alloc e, some d => match zeroT P e, m.blk.length == m.live.length with
      | some z, true => match preAl P r ⟨m.blk ++ [z.cells.toList.map .v], m.live ++ [false], m.rows⟩ with
        | some (al, m') => some ({ al with a := (d, m.blk.length, e) :: al.a }, m')
        | none => none
      | _, _ => none
    | .call { callee := .value (.func _), .. }, some d => match isSliceT P o.type with
      | true => match preAl P r ⟨m.blk, m.live, m.rows ++ [.pend]⟩ with
        | some (al, m') => some ({ al with r := (d, m.rows.length) :: al.r }, m')
        | none => none
      | false => preAl P r m
    | _, _ => preAl P r m

theorem preAl_ok {a : Act} {w : World} {V : Vl} : ∀ (l : List Oper) (st : St) (al : Al) (m' : Mem), preAl P l st.mem = some (al, m') → Rel w0 st V a w →
    Rel w0 { st with mem := m' } V a w ∧ Pend P al { st with mem := m' } V ∧ (∀ (i : Nat) x, st.mem.blk[i]? = some x → m'.blk[i]? = some x)
  | [], st, al, m', h, hR => by
    simp only [preAl] at h
    injection h with h
    injection h with e1 e2
    subst e1 e2
    exact ⟨hR, (fun _ _ _ hm => by cases hm), fun _ _ h => h⟩
  | o :: r, st, al, m', h, hR => by
    unfold preAl at h
    split at h
    · rename_i e d hop hd
      split at h
      · rename_i z hz hlen
        split at h
        · rename_i al' m'' hrec
          injection h with h
          injection h with e1 e2
          subst e1 e2
          have hlen' : st.mem.blk.length = st.mem.live.length := by simpa using hlen
          have hR1 := (hR.extend (z.cells.toList.map .v) false).resolve_right (fun h => h hlen')
          obtain ⟨g1, g2, g3⟩ := preAl_ok r { st with mem := ⟨st.mem.blk ++ [z.cells.toList.map .v], st.mem.live ++ [false], st.mem.rows⟩ } al' m'' hrec hR1
          refine ⟨g1, fun d' l' e' hm hn => ?_, fun i x hx => g3 i x ?_⟩
          · rcases List.mem_cons.1 hm with hm | hm
            · injection hm with e1 e2
              injection e2 with e2 e3
              subst e1 e2 e3
              exact ⟨z, hz, g3 _ _ (by simp)⟩
            · exact g2 d' l' e' hm hn
          · simp only
            have hlt : i < st.mem.blk.length := by
              rcases Nat.lt_or_ge i st.mem.blk.length with h' | h'
              · exact h'
              · simp [List.getElem?_eq_none h'] at hx
            rw [List.getElem?_append_left hlt]
            exact hx
        · cases h
      · cases h
    · split at h
      · split at h
        · rename_i al' m'' hrec
          injection h with h
          injection h with e1 e2
          subst e1 e2
          obtain ⟨g1, g2, g3⟩ := preAl_ok r { st with mem := ⟨st.mem.blk, st.mem.live, st.mem.rows ++ [.pend]⟩ } al' m'' hrec hR.pendRow
          exact ⟨g1, g2, g3⟩
        · cases h
      · exact preAl_ok r st al m' h hR
    · exact preAl_ok r st al m' h hR

theorem Rel.RelP0 {a : Act} {w : World} {st : St} {V : Vl} (h : Rel w0 st V a w) : RelP P { a := [], r := [] } w0 st a w := ⟨V, h, fun _ _ _ hm => by cases hm⟩

/-- A region that draws its order. -/
theorem region_draw_sound (hΓ : Γ.Ok P) (hm : P.follows .mixedOrders = true) {id : Nat} {st st' : St} {a : Act} {w : World} {m : Mem} {al0 : Al} (hal : al.a = al0.a) {ord : List Nat} (hlex : lexS P al ops ops.size (Array.replicate ops.size false) = some ord) (hpre : preAl P ops.toList st.mem = some (al0, m))
    (hS : stepsO Γ P (some al) ops ord { st with mem := m } = some st') (h : RelP P { a := [], r := [] } w0 st a w) (hQ : ∀ a w, RelP P { a := [], r := [] } w0 st' a w → Q .normal a w) : (Code.region id ops true).wp P Q a w := by
  obtain ⟨V, hR, _⟩ := h
  obtain ⟨g1, g2, _⟩ := preAl_ok ops.toList st al0 m hpre hR
  have g2 : Pend P al { st with mem := m } V := fun d l e hm => g2 d l e (hal ▸ hm)
  refine wp_region_any hm ?_
  have hs := sAny_lex (Γ := Γ) (P := P) (al := al) (ops := ops) (T := (· = st')) ops.size (Array.replicate ops.size false) ord _ st' hlex hS rfl
  exact wpAny_of_sAny hΓ (fun a w ⟨V', hR', _⟩ => hQ a w hR'.RelP0) _ _ _ a _ hs ⟨V, g1.drew, g2⟩

theorem region_plain_sound (hΓ : Γ.Ok P) {id : Nat} {st st' : St} {a : Act} {w : World} (hS : stepsS Γ P none ops ops.toList st = some st') (h : RelP P { a := [], r := [] } w0 st a w) (hQ : ∀ a w, RelP P { a := [], r := [] } w0 st' a w → Q .normal a w) : (Code.region id ops false).wp P Q a w := by
  refine wp_region ?_
  have := region_sound (al := none) (Q := Q) hΓ ops.toList 0 st a w (by simp) hS h hQ
  rwa [Array.length_toList, ← List.range_eq_range'] at this
end
end Go.Sx

namespace Go.Sx
open Go.RowKit

inductive Ex where
  | normal
  | exit (id : Nat)
  | ret

def Ex.out : Ex → Exit
  | .normal => .normal
  | .exit id => .exit id
  | .ret => .ret

/-! Forcing: each hands its argument on, taken apart as far as its constructors go. -/
section
variable {R : Type}

def fL {α : Type} (f : α → (α → R) → R) : List α → (List α → R) → R
  | [], k => k []
  | x :: r, k => f x (fun x => fL f r (fun r => k (x :: r)))

theorem fL_eq {α : Type} {f : α → (α → R) → R} (hf : ∀ x k, f x k = k x) : ∀ (l : List α) (k : List α → R), fL f l k = k l
  | [], k => rfl
  | x :: r, k => by simp only [fL, hf, fL_eq hf r]

def fN (n : Nat) (k : Nat → R) : R :=
  match n with
  | 0 => k 0
  | n + 1 => k (n + 1)
theorem fN_eq (n : Nat) (k : Nat → R) : fN n k = k n := by cases n <;> rfl

def fI (c : Bool) (n : Int) (k : Int → R) : R :=
  match c with
  | false => k n
  | true => match n with
    | .ofNat m => fN m (fun m => k (.ofNat m))
    | .negSucc m => fN m (fun m => k (.negSucc m))
theorem fI_eq (c : Bool) (n : Int) (k : Int → R) : fI c n k = k n := by cases c <;> cases n <;> simp [fI, fN_eq]

def fT (c : Bool) (b : Bool) (k : Bool → R) : R :=
  match c with
  | false => k b
  | true => match b with
    | true => k true
    | false => k false
theorem fT_eq (c : Bool) (b : Bool) (k : Bool → R) : fT c b k = k b := by cases c <;> cases b <;> rfl

def fC (c : Bool) (x : Value) (k : Value → R) : R :=
  match x with
  | .int a n => fI c n (fun n => k (.int a n))
  | .bool b => fT c b (fun b => k (.bool b))
  | y => k y
theorem fC_eq (c : Bool) (x : Value) (k : Value → R) : fC c x k = k x := by cases x <;> simp [fC, fI_eq, fT_eq]

def fA (c : Bool) (x : Value) (k : Value → R) : R :=
  match x with
  | .int a n => fI c n (fun n => k (.int a n))
  | .bool b => fT c b (fun b => k (.bool b))
  | .agg cs => fL (fC c) cs.toList (fun l => k (.agg l.toArray))
  | y => k y
theorem fA_eq (c : Bool) (x : Value) (k : Value → R) : fA c x k = k x := by
  cases x <;> simp [fA, fI_eq, fT_eq, fL_eq (fC_eq c)]

def fV (c : Bool) (x : Value) (k : Value → R) : R :=
  match x with
  | .int a n => fI c n (fun n => k (.int a n))
  | .bool b => fT c b (fun b => k (.bool b))
  | .agg cs => fL (fC c) cs.toList (fun l => k (.agg l.toArray))
  | .tuple cs => fL (fA c) cs.toList (fun l => k (.tuple l.toArray))
  | y => k y
theorem fV_eq (c : Bool) (x : Value) (k : Value → R) : fV c x k = k x := by
  cases x <;> simp [fV, fI_eq, fT_eq, fL_eq (fC_eq c), fL_eq (fA_eq c)]

def fS (c : Bool) (x : SV) (k : SV → R) : R :=
  match x with
  | .v y => fV c y (fun y => k (.v y))
  | .ptr l o => fN l (fun l => fN o (fun o => k (.ptr l o)))
  | .row r => fN r (fun r => k (.row r))
  | .rp r i => fN r (fun r => fI c i (fun i => k (.rp r i)))
  | .wp r n i => fN r (fun r => fN n (fun n => fI c i (fun i => k (.wp r n i))))
  | .clo f l o => fN f (fun f => fN l (fun l => fN o (fun o => k (.clo f l o))))
  | .el l o n i => fN l (fun l => fN o (fun o => fN n (fun n => fI c i (fun i => k (.el l o n i)))))
  | .poison => k .poison
theorem fS_eq (c : Bool) (x : SV) (k : SV → R) : fS c x k = k x := by cases x <;> simp [fS, fV_eq, fN_eq, fI_eq]

def fRow (c : Bool) (x : RowS) (k : RowS → R) : R :=
  match c with
  | false => k x
  | true => match x with
    | .live rc => fL (fI true) rc.L (fun L => k (.live { rc with L := L }))
    | y => k y
theorem fRow_eq (c : Bool) (x : RowS) (k : RowS → R) : fRow c x k = k x := by
  cases c
  · rfl
  · cases x <;> simp [fRow, fL_eq (fI_eq true)]

def fTr (c : Bool) : Tr → (Tr → R) → R
  | .lf, k => k .lf
  | .nd l x r, k => fTr c l fun l => fS c x fun x => fTr c r fun r => k (.nd l x r)
theorem fTr_eq (c : Bool) : ∀ (t : Tr) (k : Tr → R), fTr c t k = k t
  | .lf, k => rfl
  | .nd l x r, k => by simp only [fTr, fTr_eq c l, fS_eq, fTr_eq c r]

/-- A great block's cells are left as they are. -/
def longL {α : Type} : List α → Nat → Bool
  | [], _ => false
  | _ :: _, 0 => true
  | _ :: l, n + 1 => longL l n
def fBlk (c : Bool) (cs : List SV) (k : List SV → R) : R :=
  match longL cs 64 with
  | false => fL (fS c) cs k
  | true => k cs
theorem fBlk_eq (c : Bool) (cs : List SV) (k : List SV → R) : fBlk c cs k = k cs := by
  unfold fBlk
  split
  · exact fL_eq (fS_eq c) cs k
  · rfl

def fSt (c : Bool) (st : St) (k : St → R) : R :=
  fTr c st.tmps fun t => fL (fBlk c) st.mem.blk fun b => fL (fT true) st.mem.live fun l => fL (fRow c) st.mem.rows fun r => k ⟨t, ⟨b, l, r⟩⟩
theorem fSt_eq (c : Bool) (st : St) (k : St → R) : fSt c st k = k st := by
  unfold fSt
  rw [fTr_eq c, fL_eq (fun x k => fBlk_eq c x k), fL_eq (fT_eq true), fL_eq (fRow_eq c)]
end

def setOp (st : St) (c : Operand) (t : Bool) : St :=
  match c with
  | .tmp n => { st with tmps := st.tmps.set n (.v (.bool t)) }
  | _ => st

def setG (ops : Array Oper) (st : St) (j : Nat) (t : Bool) : St :=
  match (ops[j]?).bind (·.dst) with
  | some n => { st with tmps := st.tmps.set n (.v (.bool t)) }
  | none => st

theorem setOp_eq {st : St} {c : Operand} {t : Bool} (h : st.eval c = some (.v (.bool t))) : setOp st c t = st := by
  cases c with
  | tmp n => simp only [setOp]; rw [Tr.set_self _ _ _ h]
  | _ => rfl

theorem setG_eq {ops : Array Oper} {st : St} {j : Nat} {t : Bool} (h : yieldS ops st j = some (.v (.bool t))) : setG ops st j t = st := by
  unfold setG
  unfold yieldS at h
  cases hd : (ops[j]?).bind (·.dst) with
  | none => rfl
  | some n => simp only; rw [Tr.set_self _ _ _ (by simpa [hd] using h)]

section
variable {R : Type} (Γ : Orc) (P : Program)

def goR (o : Oper) (st : St) (q : Option (SV × Mem)) (k : St → Option R) : Option R :=
  match q with
  | some (x, m) => fS Γ.conc x (fun x => k (({ st with mem := m } : St).put o.dst x))
  | none => none

def goV (o : Oper) (st : St) (x : SV) (k : St → Option R) : Option R := fS Γ.conc x (fun x => k (st.put o.dst x))

def goM (o : Oper) (st : St) (x : SV) (m : Mem) (k : St → Option R) : Option R := fS Γ.conc x (fun x => k (({ st with mem := m } : St).put o.dst x))

/-- An operation that goes through under a test. -/
def opG (al : Option Al) (o : Oper) (st : St) : Option (Bool × SV × Mem) :=
  match o.op with
  | .indexAddr t x ix => match st.eval x, st.eval ix, P.underlying t with
    | some (.row r), some (.v (.int _ i)), some (.slice e) => match rowAt st.mem.rows r, sizT P e with
      | some rc, some 1 => some (decide (0 ≤ i) && decide (i < rc.L.length), .rp r i, st.mem)
      | none, some n => match wideAt st.mem.rows r with
        | some (ks, L) => if ks.length = n then some (decide (0 ≤ i) && decide (i < L.length), .wp r n i, st.mem) else none
        | none => none
      | _, _ => none
    | some (.ptr l off), some (.v (.int _ i)), some (.array n e) => match sizT P e with
      | some s => match elemAt Γ.conc ix l off n s i with
        | some y => some (decide (0 ≤ i) && decide (i < (n : Int)), y, st.mem)
        | none => none
      | none => none
    | _, _, _ => none
  | .slice t x lo hi mx => match st.eval x, P.underlying t, mx with
    | some (.v (.string s)), some .string, none => match boundV st.eval lo 0, boundV st.eval hi (s.size : Int) with
      | some l, some h => some (decide (0 ≤ l) && (decide (l ≤ h) && decide (h ≤ (s.size : Int))), .v (.string (s.extract l.toNat h.toNat)), st.mem)
      | _, _ => none
    | _, _, _ => none
  | .binOp .add _ x y _ => match st.eval x, st.eval y with
    | some (.v (.string a)), some (.v (.string b)) => some (Nat.ble (a.size + b.size) 9223372036854775807, .v (.string (a ++ b)), st.mem)
    | _, _ => none
  | .index t x ix => match st.eval x, st.eval ix, P.underlying t with
    | some (.v (.string s)), some (.v (.int _ i)), some .string => some (decide (0 ≤ i) && decide (i < (s.size : Int)), .v (.int .u8 (strAt s i)), st.mem)
    | _, _, _ => none
  | .makeSlice t l c => match al with
    | some _ => none
    | none => match elemT P t, st.eval l, st.eval c with
      | some (e, k, z, bytes), some (.v (.int _ x)), some (.v (.int _ y)) =>
        some (decide (0 ≤ x ∧ x = y ∧ (bytes : Int) * x ≤ 281474976710656 ∧ x ≤ 9223372036854775807), .row st.mem.rows.length, withRow st.mem (.live ⟨e, k, List.replicate x.toNat z, true, false⟩))
      | _, _, _ => none
  | .call { callee := .value (.func f), args, argTypes } => match al with
    | none => match effC Γ f st args.toList with
      | some r => some r
      | none => match allOps st.eval st.mem.rows args.toList with
      | some vs => match Γ.call f vs with
        | some (g, .v r) => some (g, .v r, st.mem)
        | some (g, .ints e k L) => some (g, .row st.mem.rows.length, withRow st.mem (.live ⟨e, k, L, true, false⟩))
        | some (_, .ptr _) => none
        | none => none
      | none => none
    | some al => match al.wr f with
      | true => match effC Γ f st args.toList with
        | some (g, .v x, m) => some (g, .v x, m)
        | _ => none
      | false => match allOps st.eval (rowsFor P argTypes st.mem.rows) args.toList with
        | some vs => match Γ.call f vs with
          | some (g, .v r) => some (g, .v r, st.mem)
          | some (g, .ints e k L) => match lookR al.r o.dst with
            | some l => match st.mem.rows[l]? with
              | some .pend => some (g, .row l, { st.mem with rows := st.mem.rows.set l (.live ⟨e, k, L, true, false⟩) })
              | _ => none
            | none => none
          | some (_, .ptr _) => none
          | none => none
        | none => match allE (blkFor P argTypes st.mem.blk) (rowsFor P argTypes st.mem.rows) st.eval args.toList with
          | some (vs, ls) => match Γ.rd f vs with
            | some (g, r) => match nodupB ls with
              | true => some (g, .v r, st.mem)
              | false => none
            | none => none
          | none => none
  | .call { callee := .builtin .append, args, argTypes } => match al with
    | some _ => none
    | none => match args.toList, argTypes.toList with
      | [s, x], [t, t'] => match elemT P t, st.eval s, st.eval x with
        | some (e, k, _, bytes), some (.row r), some (.row r') => match rowAt st.mem.rows r, rowAt st.mem.rows r' with
          | some rc, some rc' => if t' = t ∧ rc.own = true ∧ rc.mark = false ∧ rc.e = e ∧ rc.k = k ∧ rc'.k = k then
              some (decide ((rc.L.length + rc'.L.length) * bytes ≤ 140737488355328 ∧ rc.L.length + rc'.L.length ≤ 9223372036854775807),
                .row st.mem.rows.length, { st.mem with rows := st.mem.rows.set r .dead ++ [.live ⟨e, k, rc.L ++ rc'.L, true, false⟩] })
            else none
          | _, _ => none
        | some (e, k, _, bytes), some (.v (.slice none 0 0)), some (.row r') => match rowAt st.mem.rows r' with
          | some rc' => if t' = t ∧ rc'.k = k then
              some (decide (0 < rc'.L.length ∧ rc'.L.length * bytes ≤ 140737488355328 ∧ rc'.L.length ≤ 9223372036854775807),
                .row st.mem.rows.length, withRow st.mem (.live ⟨e, k, rc'.L, true, false⟩))
            else none
          | none => none
        | _, _, _ => none
      | _, _ => none
  | _ => none

def goG (al : Option Al) (o : Oper) (st : St) (k : St → Option R) : Option R :=
  match opG Γ P al o st with
  | some (g, x, m) => bif g then goM Γ o st x m k else none
  | none => none

def opK (al : Option Al) (o : Oper) (st : St) (k : St → Option R) : Option R :=
  match o.op with
  | .pick c _ _ => match st.eval c with
    | some (.v (.bool t)) => bif t then goR Γ o (setOp st c true) (opR Γ P al o (setOp st c true)) k else goR Γ o (setOp st c false) (opR Γ P al o (setOp st c false)) k
    | _ => none
  | .binOp .quo _ x y _ => match st.eval x, st.eval y with
    | some (.v (.int i a)), some (.v (.int j b)) => if i = j then (bif b == 0 then none else goV Γ o st (.v (.int i (i.wrap (a.tdiv b)))) k) else none
    | _, _ => none
  | .binOp .rem _ x y _ => match st.eval x, st.eval y with
    | some (.v (.int i a)), some (.v (.int j b)) => if i = j then (bif b == 0 then none else goV Γ o st (.v (.int i (a.tmod b))) k) else none
    | _, _ => none
  | .binOp .shl _ x y _ => match st.eval x, st.eval y with
    | some (.v (.int i a)), some (.v (.int _ b)) => bif decide (b < 0) then none else goV Γ o st (.v (.int i (i.wrap (a * 2 ^ (min b.toNat i.bits))))) k
    | _, _ => none
  | .binOp .shr _ x y _ => match st.eval x, st.eval y with
    | some (.v (.int i a)), some (.v (.int _ b)) => bif decide (b < 0) then none else goV Γ o st (.v (.int i (a.fdiv (2 ^ (min b.toNat i.bits))))) k
    | _, _ => none
  | .indexAddr _ _ _ => goG Γ P al o st k
  | .index _ x _ => match st.eval x with
    | some (.v (.string _)) => goG Γ P al o st k
    | _ => goR Γ o st (opR Γ P al o st) k
  | .slice _ x _ _ _ => match st.eval x with
    | some (.v (.string _)) => goG Γ P al o st k
    | _ => goR Γ o st (opR Γ P al o st) k
  | .binOp .add _ x _ _ => match st.eval x with
    | some (.v (.string _)) => goG Γ P al o st k
    | _ => goR Γ o st (opR Γ P al o st) k
  | .makeSlice _ _ _ => goG Γ P al o st k
  | .call { callee := .value (.func _), .. } => goG Γ P al o st k
  | .call { callee := .builtin .append, .. } => goG Γ P al o st k
  | _ => goR Γ o st (opR Γ P al o st) k

def stepK (al : Option Al) (ops : Array Oper) (o : Oper) (st : St) (k : St → Option R) : Option R :=
  match o.guard with
  | none => opK Γ P al o st k
  | some (j, want) => match yieldS ops st j with
    | some (.v (.bool t)) =>
      bif t then (match want with
        | true => opK Γ P al o (setG ops st j true) k
        | false => k ((setG ops st j true).put o.dst (.v undef)))
      else (match want with
        | true => k ((setG ops st j false).put o.dst (.v undef))
        | false => opK Γ P al o (setG ops st j false) k)
    | some (.v _) => k (st.put o.dst (.v undef))
    | _ => none

def evOps (al : Option Al) (ops : Array Oper) : List Oper → St → (St → Option R) → Option R
  | [], st, k => k st
  | o :: r, st, k => stepK Γ P al ops o st (fun st' => evOps al ops r st' k)

def evO (al : Option Al) (ops : Array Oper) : List Nat → St → (St → Option R) → Option R
  | [], st, k => k st
  | i :: r, st, k => match ops[i]? with
    | some o => stepK Γ P al ops o st (fun st' => evO al ops r st' k)
    | none => none

end

section
variable {R : Type} {Γ : Orc} {P : Program} {al : Option Al}

theorem goR_some {o : Oper} {st : St} {k : St → Option R} {r : R} (h : goR Γ o st (opR Γ P al o st) k = some r) : ∃ st', opS Γ P al o st = some st' ∧ k st' = some r := by
  unfold goR at h
  unfold opS
  cases hq : opR Γ P al o st with
  | none => rw [hq] at h; cases h
  | some q =>
    obtain ⟨x, m⟩ := q
    rw [hq] at h
    simp only at h
    rw [fS_eq] at h
    exact ⟨_, rfl, h⟩

theorem opR_plain {al : Al} {o : Oper} {st : St} (h : isWr al o = false) : opR Γ P (some al) o st = match opV Γ P al o st.eval st.mem.blk st.mem.rows, opM Γ al P o st.eval st.mem with
    | some x, some m => some (x, m)
    | _, _ => none := core_eq h

theorem opG_some {o : Oper} {st : St} {x : SV} {m : Mem} (h : opG Γ P al o st = some (true, x, m)) : opR Γ P al o st = some (x, m) := by
  unfold opG at h
  split at h
  · rename_i t y ix hop
    split at h
    · rename_i r kk i e h1 h2 h3
      split at h
      · rename_i rc hr hs
        injection h with h
        injection h with e1 e2
        injection e2 with e2 e3
        subst e2 e3
        have hv : ∀ al, opV Γ P al o st.eval st.mem.blk st.mem.rows = some (.rp r i) := fun al => by
          simp only [opV, hop, h1, h2, h3, hr, hs, e1, cond_true]
        have hm : ∀ al, opM Γ al P o st.eval st.mem = some st.mem := fun al => by simp [opM, opB, opL, opW, hop]
        cases al with
        | some al => rw [opR_plain (by simp [isWr, hop])]; simp only [hv, hm]
        | none => simp only [opR, hop, hv, hm]
      · rename_i n hr hs
        split at h
        · rename_i ks L hw
          split at h
          · rename_i hk
            injection h with h
            injection h with e1 e2
            injection e2 with e2 e3
            subst e2 e3
            have hv : ∀ al, opV Γ P al o st.eval st.mem.blk st.mem.rows = some (.wp r n i) := fun al => by
              simp only [opV, hop, h1, h2, h3, hr, hs, hw, hk, e1, cond_true, if_true]
            have hm : ∀ al, opM Γ al P o st.eval st.mem = some st.mem := fun al => by simp [opM, opB, opL, opW, hop]
            cases al with
            | some al => rw [opR_plain (by simp [isWr, hop])]; simp only [hv, hm]
            | none => simp only [opR, hop, hv, hm]
          · cases h
        · cases h
      · cases h
    · rename_i l off kk i n e h1 h2 h3
      split at h
      · rename_i s hs
        split at h
        · rename_i y' hy'
          injection h with h
          injection h with e1 e2
          injection e2 with e2 e3
          subst e2 e3
          have hv : ∀ al, opV Γ P al o st.eval st.mem.blk st.mem.rows = some y' := fun al => by
            simp only [opV, hop, h1, h2, h3, hs, hy', e1, cond_true]
          have hm : ∀ al, opM Γ al P o st.eval st.mem = some st.mem := fun al => by simp [opM, opB, opL, opW, hop]
          cases al with
          | some al => rw [opR_plain (by simp [isWr, hop])]; simp only [hv, hm]
          | none => simp only [opR, hop, hv, hm]
        · cases h
      · cases h
    · cases h
  · rename_i t y lo hi mx hop
    split at h
    · rename_i s h1 h2
      split at h
      · rename_i l u hl hu
        injection h with h
        injection h with e1 e2
        injection e2 with e2 e3
        subst e2 e3
        have hv : ∀ al, opV Γ P al o st.eval st.mem.blk st.mem.rows = some (.v (.string (s.extract l.toNat u.toNat))) := fun al => by
          simp only [opV, hop, h1, h2, hl, hu, e1, cond_true]
        have hm : ∀ al, opM Γ al P o st.eval st.mem = some st.mem := fun al => by simp [opM, opB, opL, opW, hop]
        cases al with
        | some al => rw [opR_plain (by simp [isWr, hop])]; simp only [hv, hm]
        | none => simp only [opR, hop, hv, hm]
      · cases h
    · cases h
  · rename_i t y z t' hop
    split at h
    · rename_i sa sb h1 h2
      injection h with h
      injection h with e1 e2
      injection e2 with e2 e3
      subst e2 e3
      have hv : ∀ al, opV Γ P al o st.eval st.mem.blk st.mem.rows = some (.v (.string (sa ++ sb))) := fun al => by
        simp only [opV, hop, h1, h2, e1, cond_true]
      have hm : ∀ al, opM Γ al P o st.eval st.mem = some st.mem := fun al => by simp [opM, opB, opL, opW, hop]
      cases al with
      | some al => rw [opR_plain (by simp [isWr, hop])]; simp only [hv, hm]
      | none => simp only [opR, hop, hv, hm]
    · cases h
  · rename_i t y ix hop
    split at h
    · rename_i s kk i h1 h2 h3
      injection h with h
      injection h with e1 e2
      injection e2 with e2 e3
      subst e2 e3
      have hv : ∀ al, opV Γ P al o st.eval st.mem.blk st.mem.rows = some (.v (.int .u8 (strAt s i))) := fun al => by
        simp only [opV, hop, h1, h2, h3, e1, cond_true]
      have hm : ∀ al, opM Γ al P o st.eval st.mem = some st.mem := fun al => by simp [opM, opB, opL, opW, hop]
      cases al with
      | some al => rw [opR_plain (by simp [isWr, hop])]; simp only [hv, hm]
      | none => simp only [opR, hop, hv, hm]
    · cases h
  · rename_i t l c hop
    cases al with
    | some al => cases h
    | none =>
      simp only at h
      split at h
      · rename_i e k z bytes _ a _ b h1 h2 h3
        injection h with h
        injection h with e1 e2
        injection e2 with e2 e3
        subst e2 e3
        simp only [opR, hop, h1, h2, h3, e1, cond_true]
      · cases h
  · rename_i f args at_ hop
    cases al with
    | none =>
      simp only at h
      split at h
      · rename_i q he
        injection h with h
        subst h
        simp only [opR, hop, he, cond_true]
      rename_i he
      split at h
      · rename_i vs hvs
        split at h
        · rename_i g r hr
          injection h with h
          injection h with e1 e2
          injection e2 with e2 e3
          subst e1 e2 e3
          simp only [opR, hop, he, hvs, hr, cond_true]
        · rename_i g e k L hr
          injection h with h
          injection h with e1 e2
          injection e2 with e2 e3
          subst e1 e2 e3
          simp only [opR, hop, he, hvs, hr, cond_true]
        · cases h
        · cases h
      · cases h
    | some al =>
      simp only at h
      split at h
      · rename_i hw
        have hw : isWr al o = true := by simp [isWr, hop, hw]
        split at h
        · rename_i g y m' he
          injection h with h
          injection h with e1 e2
          injection e2 with e2 e3
          subst e1 e2 e3
          unfold opR
          simp only [hw, hop, he, cond_true]
        · cases h
      rename_i hw
      rw [opR_plain (by simp [isWr, hop, hw])]
      split at h
      · rename_i vs hvs
        split at h
        · rename_i g r hr
          injection h with h
          injection h with e1 e2
          injection e2 with e2 e3
          subst e1 e2 e3
          simp only [opV, opM, opB, opL, opW, hop, hvs, hr, cond_true]
        · rename_i g e k L hr
          split at h
          · rename_i l hl
            split at h
            · rename_i hp
              injection h with h
              injection h with e1 e2
              injection e2 with e2 e3
              subst e1 e2 e3
              simp only [opV, opM, opB, opL, opW, hop, hvs, hr, hl, hp, cond_true]
            · cases h
          · cases h
        · cases h
        · cases h
      · rename_i hvs
        split at h
        · rename_i vs ls hall
          split at h
          · rename_i g r hr
            split at h
            · rename_i hn
              injection h with h
              injection h with e1 e2
              injection e2 with e2 e3
              subst e1 e2 e3
              simp only [opV, opM, opB, opL, opW, hop, hvs, hall, hr, hn, cond_true]
            · cases h
          · cases h
        · cases h
  · rename_i args at_ hop
    cases al with
    | some al => cases h
    | none =>
      simp only at h
      split at h
      · rename_i s y t t' ha hat
        split at h
        · rename_i e k z bytes r r' h1 h2 h3
          split at h
          · rename_i rc rc' hr hr'
            split at h
            · rename_i hc
              injection h with h
              injection h with e1 e2
              injection e2 with e2 e3
              subst e2 e3
              simp only [opR, hop, ha, hat, h1, h2, h3, hr, hr', hc, e1, cond_true, and_self, if_true]
            · cases h
          · cases h
        · rename_i e k z bytes r' h1 h2 h3
          split at h
          · rename_i rc' hr'
            split at h
            · rename_i hc
              injection h with h
              injection h with e1 e2
              injection e2 with e2 e3
              subst e2 e3
              simp only [opR, hop, ha, hat, h1, h2, h3, hr', hc, e1, cond_true, and_self, if_true]
            · cases h
          · cases h
        · cases h
      · cases h
  · cases h

theorem goG_some {o : Oper} {st : St} {k : St → Option R} {r : R} (h : goG Γ P al o st k = some r) : ∃ st', opS Γ P al o st = some st' ∧ k st' = some r := by
  unfold goG at h
  split at h
  · rename_i g x m hg
    cases g
    · cases h
    · have := opG_some hg
      simp only [cond_true] at h
      unfold goM at h
      rw [fS_eq] at h
      exact ⟨_, by unfold opS; simp only [this], h⟩
  · cases h

theorem opS_binOp {o : Oper} {st : St} {b : BinOp} {t t' : TypeId} {x y : Operand} {v : SV} (hop : o.op = .binOp b t x y t') (h : ∀ al, opV Γ P al o st.eval st.mem.blk st.mem.rows = some v) : opS Γ P al o st = some (st.put o.dst v) := by
  have hm : ∀ al, opM Γ al P o st.eval st.mem = some st.mem := fun al => by simp [opM, opB, opL, opW, hop]
  cases al with
  | some al => unfold opS; rw [opR_plain (by simp [isWr, hop])]; simp [h, hm]
  | none => simp [opS, opR, hop, h, hm]

theorem opK_some {o : Oper} {st : St} {k : St → Option R} {r : R} (h : opK Γ P al o st k = some r) : ∃ st', opS Γ P al o st = some st' ∧ k st' = some r := by
  unfold opK at h
  split at h
  · rename_i c x y hop
    split at h
    · rename_i t ht
      have e := setOp_eq ht
      cases t
      · simp only [cond_false, e] at h
        exact goR_some h
      · simp only [cond_true, e] at h
        exact goR_some h
    · cases h
  · rename_i t x y t' hop
    split at h
    · rename_i i a j b hx hy
      split at h
      · rename_i hij
        cases hb : b == 0
        · rw [hb] at h
          simp only [cond_false] at h
          unfold goV at h; rw [fS_eq] at h
          exact ⟨_, opS_binOp hop (fun al => by simp [opV, hop, hx, hy, hij, hb]), h⟩
        · simp [hb] at h
      · cases h
    · cases h
  · rename_i t x y t' hop
    split at h
    · rename_i i a j b hx hy
      split at h
      · rename_i hij
        cases hb : b == 0
        · rw [hb] at h
          simp only [cond_false] at h
          unfold goV at h; rw [fS_eq] at h
          exact ⟨_, opS_binOp hop (fun al => by simp [opV, hop, hx, hy, hij, hb]), h⟩
        · simp [hb] at h
      · cases h
    · cases h
  · rename_i t x y t' hop
    split at h
    · rename_i i a j b hx hy
      cases hb : decide (b < 0)
      · rw [hb] at h
        simp only [cond_false] at h
        unfold goV at h; rw [fS_eq] at h
        exact ⟨_, opS_binOp hop (fun al => by simp only [opV, hop, hx, hy, hb]; rfl), h⟩
      · simp [hb] at h
    · cases h
  · rename_i t x y t' hop
    split at h
    · rename_i i a j b hx hy
      cases hb : decide (b < 0)
      · rw [hb] at h
        simp only [cond_false] at h
        unfold goV at h; rw [fS_eq] at h
        exact ⟨_, opS_binOp hop (fun al => by simp only [opV, hop, hx, hy, hb]; rfl), h⟩
      · simp [hb] at h
    · cases h
  · exact goG_some h
  · split at h
    · exact goG_some h
    · exact goR_some h
  · split at h
    · exact goG_some h
    · exact goR_some h
  · split at h
    · exact goG_some h
    · exact goR_some h
  · exact goG_some h
  · exact goG_some h
  · exact goG_some h
  · exact goR_some h

theorem stepK_some {ops : Array Oper} {o : Oper} {st : St} {k : St → Option R} {r : R} (h : stepK Γ P al ops o st k = some r) : ∃ st', stepS Γ P al ops o st = some st' ∧ k st' = some r := by
  unfold stepK at h
  split at h
  · rename_i hg
    obtain ⟨st', h1, h2⟩ := opK_some h
    exact ⟨st', by simp [stepS, hg, h1], h2⟩
  · rename_i j want hg
    split at h
    · rename_i t ht
      have e := setG_eq ht
      cases t <;> cases want <;> simp only [cond_true, cond_false, e] at h
      · obtain ⟨st', h1, h2⟩ := opK_some h
        exact ⟨st', by simp [stepS, hg, ht, h1], h2⟩
      · exact ⟨_, by simp [stepS, hg, ht], h⟩
      · exact ⟨_, by simp [stepS, hg, ht], h⟩
      · obtain ⟨st', h1, h2⟩ := opK_some h
        exact ⟨st', by simp [stepS, hg, ht, h1], h2⟩
    · rename_i y hne hy
      refine ⟨_, ?_, h⟩
      unfold stepS
      simp only [hg, hy]
    · cases h

theorem evOps_some {ops : Array Oper} {k : St → Option R} {r : R} : ∀ (l : List Oper) (st : St), evOps Γ P al ops l st k = some r → ∃ st', stepsS Γ P al ops l st = some st' ∧ k st' = some r
  | [], st, h => ⟨st, rfl, h⟩
  | o :: l, st, h => by
    simp only [evOps] at h
    obtain ⟨st1, h1, h2⟩ := stepK_some h
    obtain ⟨st2, h3, h4⟩ := evOps_some l st1 h2
    exact ⟨st2, by simp [stepsS, h1, h3], h4⟩

theorem evO_some {ops : Array Oper} {k : St → Option R} {r : R} : ∀ (l : List Nat) (st : St), evO Γ P al ops l st k = some r → ∃ st', stepsO Γ P al ops l st = some st' ∧ k st' = some r
  | [], st, h => ⟨st, rfl, h⟩
  | i :: l, st, h => by
    simp only [evO] at h
    split at h
    · rename_i o ho
      obtain ⟨st1, h1, h2⟩ := stepK_some h
      obtain ⟨st2, h3, h4⟩ := evO_some l st1 h2
      exact ⟨st2, by simp [stepsO, ho, h1, h3], h4⟩
    · cases h
end
end Go.Sx

namespace Go.Sx
open Go.RowKit

/-- What is known of loops: where a loop with this body comes to, from this state, under a test. -/
abbrev LoopOrc := Code → St → Option (Bool × Ex × St)

section
variable {R : Type} (Γ : Orc) (Λ : LoopOrc) (P : Program)

/-- What a region will make, taken apart: so that its order is reckoned once, however often it comes. -/
def fAl {S : Type} (Γ : Orc) (al : Al) (k : Al → S) : S :=
  fL (fun x k => fN x.1 fun d => fN x.2.1 fun l => fN x.2.2 fun e => k (d, l, e)) al.a fun a => fL (fun x k => fN x.1 fun d => fN x.2 fun l => k (d, l)) al.r fun r => k ⟨a, r, Γ.wr, Γ.sb⟩
theorem fAl_eq {S : Type} (Γ : Orc) (al : Al) (k : Al → S) : fAl Γ al k = k { al with wr := Γ.wr, sb := Γ.sb } := by
  unfold fAl
  rw [fL_eq (fun x k => by simp only [fN_eq]), fL_eq (fun x k => by simp only [fN_eq])]

def ev : Code → St → (Ex → St → Option R) → Option R
  | .skip, st, k => k .normal st
  | .label _, st, k => k .normal st
  | .region _ ops draw, st, k => match draw with
    | false => evOps Γ P none ops ops.toList st (k .normal)
    | true => match preAl P ops.toList st.mem with
      | some (al, m) => fAl Γ al fun al => match lexS P al ops ops.size (Array.replicate ops.size false) with
        | some ord => evO Γ P (some al) ops ord { st with mem := m } (k .normal)
        | none => none
      | none => none
  | .seq a b, st, k => ev a st (fun e st' => match e with
    | .normal => ev b st' k
    | .exit id => k (.exit id) st'
    | .ret => k .ret st')
  | .cond c x y, st, k => match st.eval c with
    | some (.v (.bool t)) => bif t then ev x (setOp st c true) k else ev y (setOp st c false) k
    | _ => none
  | .block id body, st, k => ev body st (fun e st' => match e with
    | .exit id' => if id' = id then k .normal st' else k (.exit id') st'
    | .normal => k .normal st'
    | .ret => k .ret st')
  | .scope body, st, k => ev body st k
  | .exit id, st, k => k (.exit id) st
  | .ret, st, k => k .ret st
  | .loop body, st, k => match Λ body st with
    | some (g, e, st') => bif g then k e st' else none
    | none => none
  | _, _, _ => none

/-- The loops of a code that lie in no other loop. -/
def loopsOf : Code → List Code
  | .seq a b => loopsOf a ++ loopsOf b
  | .cond _ a b => loopsOf a ++ loopsOf b
  | .block _ a => loopsOf a
  | .scope a => loopsOf a
  | .loop a => [a]
  | _ => []

def LoopOk (w0 : Base) (body : Code) : Prop :=
  ∀ st e st', Λ body st = some (true, e, st') → ∀ a w, RelP P { a := [], r := [] } w0 st a w → (Code.loop body).wp P (fun e' a' w' => e' = e.out ∧ RelP P { a := [], r := [] } w0 st' a' w') a w

end

section
variable {R : Type} {Γ : Orc} {Λ : LoopOrc} {P : Program} {w0 : Base}

theorem ev_sound (hΓ : Γ.Ok P) (hm : P.follows .mixedOrders = true) : ∀ (c : Code) (_ : ∀ b ∈ loopsOf c, LoopOk Λ P w0 b) (st : St) (k : Ex → St → Option R) (r : R) (Q : Exit → Act → World → Prop) (a : Act) (w : World),
    ev Γ Λ P c st k = some r → RelP P { a := [], r := [] } w0 st a w → (∀ e st', k e st' = some r → ∀ a w, RelP P { a := [], r := [] } w0 st' a w → Q e.out a w) → c.wp P Q a w
  | .skip, hL, st, k, r, Q, a, w, h, hR, hQ => wp_skip (hQ .normal st h a w hR)
  | .label _, hL, st, k, r, Q, a, w, h, hR, hQ => wp_label (hQ .normal st h a w hR)
  | .exit id, hL, st, k, r, Q, a, w, h, hR, hQ => wp_exit (hQ (.exit id) st h a w hR)
  | .ret, hL, st, k, r, Q, a, w, h, hR, hQ => wp_ret (hQ .ret st h a w hR)
  | .region id ops false, hL, st, k, r, Q, a, w, h, hR, hQ => by
    obtain ⟨st', h1, h2⟩ := evOps_some ops.toList st (by simpa [ev] using h)
    exact region_plain_sound hΓ h1 hR (fun a w hR' => hQ .normal st' h2 a w hR')
  | .region id ops true, hL, st, k, r, Q, a, w, h, hR, hQ => by
    simp only [ev] at h
    split at h
    · rename_i al m hpre
      rw [fAl_eq] at h
      split at h
      · rename_i ord hlex
        obtain ⟨st', h1, h2⟩ := evO_some ord _ h
        exact region_draw_sound hΓ hm (al := { al with wr := Γ.wr, sb := Γ.sb }) (al0 := al) rfl hlex hpre h1 hR (fun a w hR' => hQ .normal st' h2 a w hR')
      · cases h
    · cases h
  | .seq x y, hL, st, k, r, Q, a, w, h, hR, hQ => by
    refine wp_seq (ev_sound hΓ hm x (fun b hb => hL b (by simp [loopsOf, hb])) st _ r _ a w h hR ?_)
    intro e st' hk a' w' hR'
    cases e with
    | normal => exact ev_sound hΓ hm y (fun b hb => hL b (by simp [loopsOf, hb])) st' k r Q a' w' hk hR' hQ
    | exit id => exact hQ (.exit id) st' hk a' w' hR'
    | ret => exact hQ .ret st' hk a' w' hR'
  | .cond c x y, hL, st, k, r, Q, a, w, h, hR, hQ => by
    simp only [ev] at h
    split at h
    · rename_i t ht
      have e := setOp_eq ht
      obtain ⟨V, hR0, hp⟩ := hR
      have hc : a.eval c = .bool t := hR0.eval ht
      refine wp_cond hc ?_
      cases t with
      | false =>
        simp only [cond_false, e] at h
        exact ev_sound hΓ hm y (fun b hb => hL b (by simp [loopsOf, hb])) st k r Q a w h ⟨V, hR0, hp⟩ hQ
      | true =>
        simp only [cond_true, e] at h
        exact ev_sound hΓ hm x (fun b hb => hL b (by simp [loopsOf, hb])) st k r Q a w h ⟨V, hR0, hp⟩ hQ
    · cases h
  | .block id body, hL, st, k, r, Q, a, w, h, hR, hQ => by
    refine wp_block (ev_sound hΓ hm body (fun b hb => hL b (by simpa [loopsOf] using hb)) st _ r _ a w h hR ?_)
    intro e st' hk a' w' hR'
    cases e with
    | normal => exact hQ .normal st' hk a' w' hR'
    | exit id' =>
      simp only at hk
      simp only [Ex.out, Exit.inBlock]
      split at hk
      · rename_i he
        rw [if_pos he]
        exact hQ .normal st' hk a' w' hR'
      · rename_i he
        rw [if_neg he]
        exact hQ (.exit id') st' hk a' w' hR'
    | ret => exact hQ .ret st' hk a' w' hR'
  | .scope body, hL, st, k, r, Q, a, w, h, hR, hQ => by
    refine wp_scope_straight (ev_sound hΓ hm body (fun b hb => hL b (by simpa [loopsOf] using hb)) st k r _ a w h hR ?_)
    intro e st' hk a' w' hR'
    cases e with
    | normal => exact hQ .normal st' hk a' w' hR'
    | exit id' => exact hQ (.exit id') st' hk a' w' hR'
    | ret => exact hQ .ret st' hk a' w' hR'
  | .loop body, hL, st, k, r, Q, a, w, h, hR, hQ => by
    simp only [ev] at h
    split at h
    · rename_i g e st' hl
      cases g with
      | false => cases h
      | true =>
      refine wp_mono (hL body (by simp [loopsOf]) st e st' hl a w hR) ?_
      rintro e' a' w' ⟨rfl, hR'⟩
      exact hQ e st' h a' w' hR'
    · cases h
  | .rangeFunc .., hL, st, k, r, Q, a, w, h, hR, hQ => by simp [ev] at h
  | .goto _, hL, st, k, r, Q, a, w, h, hR, hQ => by simp [ev] at h
  | .refuse _, hL, st, k, r, Q, a, w, h, hR, hQ => by simp [ev] at h

/-! ### A function -/

def resV (P : Program) (st : St) : List ResultVar → Option (List Value)
  | [] => some []
  | .tmp t :: r => match st.tmps.get t, resV P st r with
    | some (.v y), some l => some (y :: l)
    | _, _ => none
  | .cell t ty :: r => match st.tmps.get t, aggT P ty, sizT P ty with
    | some (.ptr l off), some ag, some n => match st.mem.blk[l]? with
      | some cs => if off + n ≤ cs.length then (match fromCells ag ((cs.drop off).take n), resV P st r with
        | some (.v y), some l => some (y :: l)
        | _, _ => none) else none
      | none => none
    | _, _, _ => none

def tupV (l : List Value) : Value :=
  match l with
  | [y] => y
  | l => .tuple l.toArray

/-- A slice that is handed back. -/
def rowRes (st : St) : List ResultVar → Option RowC
  | [.tmp t] => match st.tmps.get t with
    | some (.row r) => rowAt st.mem.rows r
    | _ => none
  | _ => none

def fin (Γ : Orc) (P : Program) (fn : Func) (e : Ex) (st : St) : Option Res :=
  match e with
  | .exit _ => none
  | _ => match rowRes st fn.results.toList with
    | some rc => match rc.own with
      | true => match rc.mark with
        | false => fRow Γ.conc (.live rc) (fun x => match x with
          | .live rc => some (.ints rc.e rc.k rc.L)
          | _ => none)
        | true => none
      | false => none
    | none => match resV P st fn.results.toList with
      | some l => fV Γ.conc (tupV l) (fun y => some (.v y))
      | none => none

def initRows : List Arg → List RowS
  | [] => []
  | .v _ :: r => initRows r
  | .ptr _ _ :: r => initRows r
  | .ints k L :: r => .live ⟨0, k, L, false, false⟩ :: initRows r
  | .wide ks L :: r => .wide ks L :: initRows r

def initBlks : List Arg → List (List SV)
  | [] => []
  | .ptr cs _ :: r => cs.map .v :: initBlks r
  | _ :: r => initBlks r

def initArgs : List Arg → Nat → Nat → List SV
  | [], _, _ => []
  | .v x :: r, n, m => .v x :: initArgs r n m
  | .ints _ _ :: r, n, m => .row n :: initArgs r (n + 1) m
  | .wide _ _ :: r, n, m => .row n :: initArgs r (n + 1) m
  | .ptr _ off :: r, n, m => .ptr m off :: initArgs r n (m + 1)

def slicesOf : List Arg → List Value → List Value
  | .v _ :: r, _ :: s => slicesOf r s
  | .ptr _ _ :: r, _ :: s => slicesOf r s
  | .ints _ _ :: r, y :: s => y :: slicesOf r s
  | .wide _ _ :: r, y :: s => y :: slicesOf r s
  | _, _ => []

def initSt (fn : Func) (args : List Arg) : St := ⟨Tr.ofList (initArgs args 0 0 ++ List.replicate (fn.ntmps - args.length) (SV.v undef)), ⟨initBlks args, (initBlks args).map (fun _ => true), initRows args⟩⟩

def runA (Γ : Orc) (Λ : LoopOrc) (P : Program) (fn : Func) (args : List Arg) : Option Res :=
  match fn.body with
  | some c => ev Γ Λ P c (initSt fn args) (fin Γ P fn)
  | none => none

/-- Values alone, in and out. -/
def finV (Γ : Orc) (P : Program) (fn : Func) (e : Ex) (st : St) : Option Value :=
  match e with
  | .exit _ => none
  | _ => match resV P st fn.results.toList with
    | some l => fV Γ.conc (tupV l) some
    | none => none

def run (Γ : Orc) (Λ : LoopOrc) (P : Program) (fn : Func) (args : List Value) : Option Value :=
  match fn.body with
  | some c => ev Γ Λ P c (initSt fn (args.map .v)) (finV Γ P fn)
  | none => none

/-- What is in the first blocks. -/
def outsL : List (List SV) → Nat → Option (List (List Value))
  | _, 0 => some []
  | cs :: r, k + 1 => match allV cs with
    | some vs => match outsL r k with
      | some l => some (vs :: l)
      | none => none
    | none => none
  | [], _ + 1 => none

/-- A block that is handed back. -/
def ptrRes (st : St) (k : Nat) : List ResultVar → Option (List Value)
  | [.tmp t] => match st.tmps.get t with
    | some (.ptr l 0) => match Nat.ble k l with
      | true => match st.mem.blk[l]? with
        | some cs => allV cs
        | none => none
      | false => none
    | _ => none
  | _ => none

def finE (Γ : Orc) (P : Program) (fn : Func) (k : Nat) (e : Ex) (st : St) : Option (Res × List (List Value)) :=
  match e with
  | .exit _ => none
  | _ => match outsL st.mem.blk k with
    | some outs => match ptrRes st k fn.results.toList with
      | some cs => some (.ptr cs, outs)
      | none => match resV P st fn.results.toList with
        | some l => fV Γ.conc (tupV l) (fun y => some (.v y, outs))
        | none => none
    | none => none

/-- A call that is lent blocks: what it hands back, what is in the blocks then. -/
def runE (Γ : Orc) (Λ : LoopOrc) (P : Program) (fn : Func) (args : List Arg) : Option (Res × List (List Value)) :=
  match fn.body with
  | some c => ev Γ Λ P c (initSt fn args) (finE Γ P fn (initBlks args).length)
  | none => none

section
variable {K : Nat → Prop} {w : World}
theorem ArgsE.length : ∀ {args : List Arg} {vs : List Value} {bs : List (Nat × Nat)}, ArgsE K w args vs bs → vs.length = args.length
  | [], [], [], _ => rfl
  | .v _ :: r, _ :: s, q, h => by simp [ArgsE.length h.2]
  | .ints _ _ :: r, _ :: s, q, h => by simp [ArgsE.length h.2]
  | .wide _ _ :: r, _ :: s, q, h => by simp [ArgsE.length h.2]
  | .ptr _ _ :: r, _ :: s, _ :: q, h => by simp [ArgsE.length h.2.2.2]
  | [], _ :: _, _, h => by cases ‹List (Nat × Nat)› <;> exact h.elim
  | [], [], _ :: _, h => h.elim
  | .v _ :: _, [], _, h => h.elim
  | .ints _ _ :: _, [], _, h => h.elim
  | .wide _ _ :: _, [], _, h => h.elim
  | .ptr _ _ :: _, [], _, h => h.elim
  | .ptr _ _ :: _, _ :: _, [], h => h.elim

theorem initArgs_length : ∀ (args : List Arg) (n m : Nat), (initArgs args n m).length = args.length
  | [], _, _ => rfl
  | .v _ :: r, n, m => by simp [initArgs, initArgs_length r n m]
  | .ints _ _ :: r, n, m => by simp [initArgs, initArgs_length r (n + 1) m]
  | .wide _ _ :: r, n, m => by simp [initArgs, initArgs_length r (n + 1) m]
  | .ptr _ _ :: r, n, m => by simp [initArgs, initArgs_length r n (m + 1)]

theorem initBlks_ok : ∀ {args : List Arg} {vs : List Value} {bs : List (Nat × Nat)}, ArgsE K w args vs bs → (initBlks args).length = bs.length ∧ ∀ (i : Nat) cs, (initBlks args)[i]? = some cs → ∃ (q : Nat × Nat) (vs' : List Value), bs[i]? = some q ∧ cs = vs'.map SV.v ∧ q.1 < w.heap.size ∧ ∀ (j : Nat) x, vs'[j]? = some x → w.cell? ⟨q.1, q.2 + j, none⟩ = some x ∧ w.frozen? ⟨q.1, q.2 + j, none⟩ = false
  | [], [], [], _ => by simp [initBlks]
  | .v _ :: r, _ :: s, q, h => initBlks_ok (args := r) h.2
  | .ints _ _ :: r, _ :: s, q, h => initBlks_ok (args := r) h.2
  | .wide _ _ :: r, _ :: s, q, h => initBlks_ok (args := r) h.2
  | .ptr cs _ :: r, _ :: s, b :: q, h => by
    obtain ⟨h1, h2⟩ := initBlks_ok (args := r) h.2.2.2
    refine ⟨by simp [initBlks, h1], fun i cs' hi => ?_⟩
    cases i with
    | zero =>
      simp [initBlks] at hi
      exact ⟨b, cs, by simp, hi.symm, h.2.1, h.2.2.1⟩
    | succ i => exact h2 i cs' (by simpa [initBlks] using hi)
  | [], _ :: _, _, h => by cases ‹List (Nat × Nat)› <;> exact h.elim
  | [], [], _ :: _, h => h.elim
  | .v _ :: _, [], _, h => h.elim
  | .ints _ _ :: _, [], _, h => h.elim
  | .wide _ _ :: _, [], _, h => h.elim
  | .ptr _ _ :: _, [], _, h => h.elim
  | .ptr _ _ :: _, _ :: _, [], h => h.elim

theorem initRows_ok : ∀ {args : List Arg} {vs : List Value} {bs : List (Nat × Nat)}, ArgsE K w args vs bs → ∀ i : Nat, (∀ s, (initRows args)[i]? = some s → ∃ u, (slicesOf args vs)[i]? = some u ∧ ((∃ k L, s = .live ⟨0, k, L, false, false⟩ ∧ Reads K w k L u) ∨ ∃ ks L, s = .wide ks L ∧ ReadsW K w ks L u)) ∧ ((initRows args)[i]? = none → (slicesOf args vs)[i]? = none)
  | [], [], [], _, i => by simp [initRows, slicesOf]
  | .v x :: r, y :: s, q, h, i => initRows_ok (args := r) h.2 i
  | .ptr _ _ :: r, y :: s, _ :: q, h, i => initRows_ok (args := r) h.2.2.2 i
  | .ints k L :: r, y :: s, q, h, 0 => ⟨fun t ht => ⟨y, by simp [slicesOf], .inl ⟨k, L, by simpa [initRows] using ht.symm, h.1⟩⟩, fun hn => by simp [initRows] at hn⟩
  | .ints k L :: r, y :: s, q, h, i + 1 => by
    have := initRows_ok (args := r) h.2 i
    simpa [initRows, slicesOf] using this
  | .wide k L :: r, y :: s, q, h, 0 => ⟨fun t ht => ⟨y, by simp [slicesOf], .inr ⟨k, L, by simpa [initRows] using ht.symm, h.1⟩⟩, fun hn => by simp [initRows] at hn⟩
  | .wide k L :: r, y :: s, q, h, i + 1 => by
    have := initRows_ok (args := r) h.2 i
    simpa [initRows, slicesOf] using this
  | [], _ :: _, _, h, _ => by cases ‹List (Nat × Nat)› <;> exact h.elim
  | [], [], _ :: _, h, _ => h.elim
  | .v _ :: _, [], _, h, _ => h.elim
  | .ints _ _ :: _, [], _, h, _ => h.elim
  | .wide _ _ :: _, [], _, h, _ => h.elim
  | .ptr _ _ :: _, [], _, h, _ => h.elim
  | .ptr _ _ :: _, _ :: _, [], h, _ => h.elim

theorem initArgs_ok : ∀ {args : List Arg} {vs : List Value} {bs : List (Nat × Nat)}, ArgsE K w args vs bs → ∀ (n m t : Nat) (s : SV) (y : Value), (initArgs args n m)[t]? = some s → vs[t]? = some y →
    s = .v y ∨ (∃ i, s = .row (n + i) ∧ (slicesOf args vs)[i]? = some y) ∨ ∃ i off q, s = .ptr (m + i) off ∧ bs[i]? = some q ∧ y = .pointer (some ⟨q.1, q.2 + off, none⟩)
  | [], [], [], _, n, m, t, s, y, hs, hy => by simp at hy
  | .v x :: r, z :: l, q, h, n, m, 0, s, y, hs, hy => by
    have e : z = x := h.1
    simp [initArgs] at hs hy
    subst e hs hy
    exact .inl rfl
  | .v x :: r, z :: l, q, h, n, m, t + 1, s, y, hs, hy => initArgs_ok (args := r) h.2 n m t s y (by simpa [initArgs] using hs) (by simpa using hy)
  | .ints k L :: r, z :: l, q, h, n, m, 0, s, y, hs, hy => by
    simp [initArgs] at hs hy
    subst hs hy
    exact .inr (.inl ⟨0, rfl, by simp [slicesOf]⟩)
  | .ints k L :: r, z :: l, q, h, n, m, t + 1, s, y, hs, hy => by
    rcases initArgs_ok (args := r) h.2 (n + 1) m t s y (by simpa [initArgs] using hs) (by simpa using hy) with h1 | ⟨i, h1, h2⟩ | h1
    · exact .inl h1
    · exact .inr (.inl ⟨i + 1, by rw [h1]; congr 1; omega, by simpa [slicesOf] using h2⟩)
    · exact .inr (.inr h1)
  | .wide k L :: r, z :: l, q, h, n, m, 0, s, y, hs, hy => by
    simp [initArgs] at hs hy
    subst hs hy
    exact .inr (.inl ⟨0, rfl, by simp [slicesOf]⟩)
  | .wide k L :: r, z :: l, q, h, n, m, t + 1, s, y, hs, hy => by
    rcases initArgs_ok (args := r) h.2 (n + 1) m t s y (by simpa [initArgs] using hs) (by simpa using hy) with h1 | ⟨i, h1, h2⟩ | h1
    · exact .inl h1
    · exact .inr (.inl ⟨i + 1, by rw [h1]; congr 1; omega, by simpa [slicesOf] using h2⟩)
    · exact .inr (.inr h1)
  | .ptr cs off :: r, z :: l, b :: q, h, n, m, 0, s, y, hs, hy => by
    simp [initArgs] at hs hy
    subst hs hy
    exact .inr (.inr ⟨0, off, b, rfl, by simp, h.1⟩)
  | .ptr cs off :: r, z :: l, b :: q, h, n, m, t + 1, s, y, hs, hy => by
    rcases initArgs_ok (args := r) h.2.2.2 n (m + 1) t s y (by simpa [initArgs] using hs) (by simpa using hy) with h1 | h1 | ⟨i, o, b', h1, h2, h3⟩
    · exact .inl h1
    · exact .inr (.inl h1)
    · exact .inr (.inr ⟨i + 1, o, b', by rw [h1]; congr 1; omega, by simpa using h2, h3⟩)
  | [], _ :: _, _, h, _, _, _, _, _, _, _ => by cases ‹List (Nat × Nat)› <;> exact h.elim
  | [], [], _ :: _, h, _, _, _, _, _, _, _ => h.elim
  | .v _ :: _, [], _, h, _, _, _, _, _, _, _ => h.elim
  | .ints _ _ :: _, [], _, h, _, _, _, _, _, _, _ => h.elim
  | .wide _ _ :: _, [], _, h, _, _, _, _, _, _, _ => h.elim
  | .ptr _ _ :: _, [], _, h, _, _, _, _, _, _, _ => h.elim
  | .ptr _ _ :: _, _ :: _, [], h, _, _, _, _, _, _, _ => h.elim
end

theorem Base.still_refl (w : World) (bs : List (Nat × Nat)) : (Base.mk w bs).Still w := ⟨rfl, rfl, rfl, Nat.le_refl _, fun _ _ => rfl⟩

theorem initSt_rel (fn : Func) {args : List Arg} {vs : List Value} {bs : List (Nat × Nat)} {w : World} (hnd : (bs.map (·.1)).Nodup) (hA : ArgsE (Base.mk w bs).Kept w args vs bs) :
    Rel (Base.mk w bs) (initSt fn args) ⟨fun l => bs[l]?, fun i => ((slicesOf args vs)[i]?).map some⟩ { tmps := vs.toArray ++ Array.replicate (fn.ntmps - vs.toArray.size) undef, defers := [] } w := by
  have hlen := hA.length
  obtain ⟨hbl, hblk⟩ := initBlks_ok hA
  have hg : ∀ (t : Nat) x, (initSt fn args).tmps.get t = some x → (initArgs args 0 0 ++ List.replicate (fn.ntmps - args.length) (SV.v undef))[t]? = some x := by
    intro t x hx
    simp only [initSt, Tr.get_ofList] at hx
    simpa using hx
  have he : ∀ t : Nat, (vs.toArray ++ Array.replicate (fn.ntmps - vs.toArray.size) undef)[t]? = (vs ++ List.replicate (fn.ntmps - vs.length) undef)[t]? := by
    intro t
    rw [← Array.getElem?_toList]; simp
  have hrow : ∀ r rc, rowAt (initSt fn args).mem.rows r = some rc → rc.own = false ∧ ∃ u, (slicesOf args vs)[r]? = some u ∧ RowOk (Base.mk w bs) w rc u := by
    intro r rc hr
    unfold rowAt at hr
    simp only [initSt] at hr
    split at hr
    · rename_i rc' hrc
      injection hr with hr
      subst hr
      obtain ⟨u, h2, ⟨k, L, h1, h3⟩ | ⟨ks, L, h1, h3⟩⟩ := (initRows_ok hA r).1 _ hrc
      · injection h1 with h1
        subst h1
        exact ⟨rfl, u, h2, h3⟩
      · cases h1
    · cases hr
  refine { len := fun t x hx => ?_, tmps := fun t x hx y hy => ?_, defers := rfl, mem := fun l b o h cs hcs j x hx => ?_, inj := fun l l' b o b' o' h h' hne => ?_, own := fun l b o h => ?_, lent := fun l q h => h, base0 := fun l b o h hl => ?_, dom := fun l h => ?_, rows := fun r rc hr => ?_, wides := fun r ks L hr => ?_, rowsN := fun r hr => ?_, apart := fun r r' rc rc' u u' g h1 h2 => ?_, apartb := fun r rc u g l b o h1 h2 => ?_, below := Base.still_refl _ _, froz := fun _ _ => rfl }
  · have hx' := hg t x hx
    rcases Nat.lt_or_ge t (initArgs args 0 0 ++ List.replicate (fn.ntmps - args.length) (SV.v undef)).length with h' | h'
    · simp [initArgs_length] at h'
      simp [hlen]
      omega
    · rw [List.getElem?_eq_none h'] at hx'
      cases hx'
  · have hx' := hg t x hx
    rw [he] at hy
    rcases Nat.lt_or_ge t args.length with h' | h'
    · rw [List.getElem?_append_left (by rw [initArgs_length]; exact h')] at hx'
      rw [List.getElem?_append_left (by rw [hlen]; exact h')] at hy
      rcases initArgs_ok hA 0 0 t x y hx' hy with h1 | ⟨i, h1, h2⟩ | ⟨i, off, q, h1, h2, h3⟩
      · subst h1; rfl
      · subst h1
        refine ⟨by simp [h2], fun u hu => ?_⟩
        simp [h2] at hu
        exact hu
      · subst h1
        exact ⟨q.1, q.2, by simpa using h2, h3⟩
    · rw [List.getElem?_append_right (by rw [initArgs_length]; exact h'), List.getElem?_replicate] at hx'
      rw [List.getElem?_append_right (by rw [hlen]; exact h'), List.getElem?_replicate] at hy
      split at hx'
      · split at hy
        · injection hx' with hx'
          injection hy with hy
          subst hx' hy
          rfl
        · cases hy
      · cases hx'
  · obtain ⟨q, vs', h1, h2, h3, h4⟩ := hblk l cs hcs
    have h' : bs[l]? = some (b, o) := h
    rw [h1] at h'
    injection h' with h'
    subst h' h2
    rw [List.getElem?_map] at hx
    cases hj : vs'[j]? with
    | none => simp [hj] at hx
    | some y =>
      simp [hj] at hx
      subst hx
      obtain ⟨c1, c2⟩ := h4 j y hj
      exact ⟨y, c1, rfl, c2⟩
  · have h1 : bs[l]? = some (b, o) := h
    have h2 : bs[l']? = some (b', o') := h'
    intro e
    subst e
    have hl : l < (bs.map (·.1)).length := by
      rcases Nat.lt_or_ge l bs.length with h' | h'
      · simpa using h'
      · rw [List.getElem?_eq_none h'] at h1; cases h1
    exact hne ((List.getElem?_inj hl hnd).1 (by simp [h1, h2]))
  · have h1 : bs[l]? = some (b, o) := h
    have hl : l < bs.length := by
      rcases Nat.lt_or_ge l bs.length with h' | h'
      · exact h'
      · rw [List.getElem?_eq_none h'] at h1; cases h1
    refine ⟨.inr hl, ?_⟩
    obtain ⟨q, vs', h3, _, h4, _⟩ := hblk l ((initBlks args)[l]'(by omega)) (by simp)
    rw [h1] at h3
    injection h3 with h3
    subst h3
    exact h4
  · have h1 : bs[l]? = some (b, o) := h
    rw [List.getElem?_eq_none hl] at h1
    cases h1
  · have hl : l < bs.length := by
      rcases Nat.lt_or_ge l bs.length with h' | h'
      · exact h'
      · exact absurd (List.getElem?_eq_none h') h
    simp only [initSt, List.getElem?_map]
    rw [List.getElem?_eq_getElem (by omega)]
    rfl
  · obtain ⟨_, u, h1, h2⟩ := hrow r rc hr
    exact ⟨u, by simp [h1], h2⟩
  · unfold wideAt at hr
    simp only [initSt] at hr
    split at hr
    · rename_i ks' L' hrc
      injection hr with hr
      injection hr with e1 e2
      subst e1 e2
      obtain ⟨u, h2, ⟨k, L, h1, h3⟩ | ⟨ks, L, h1, h3⟩⟩ := (initRows_ok hA r).1 _ hrc
      · cases h1
      · injection h1 with e1 e2
        subst e1 e2
        exact ⟨u, by simp [h2], h3⟩
    · cases hr
  · have hn : (initRows args)[r]? = none := by
      rcases hr with hr | hr
      · exact hr
      · obtain ⟨u, _, ⟨k, L, h1, _⟩ | ⟨ks, L, h1, _⟩⟩ := (initRows_ok hA r).1 _ hr
        · cases h1
        · cases h1
    simp [(initRows_ok hA r).2 hn]
  · rw [(hrow r rc h1).1] at h2; cases h2
  · rw [(hrow r rc h1).1] at h2; cases h2

theorem argsE_of {w : World} : ∀ {args : List Arg} {vs : List Value}, ArgsOk w args vs → ArgsE (Base.mk w []).Kept w args vs []
  | [], [], _ => trivial
  | .v _ :: r, _ :: s, h => ⟨h.1, argsE_of (args := r) h.2⟩
  | .ints k L :: r, y :: s, h => by
    refine ⟨?_, argsE_of (args := r) h.2⟩
    rcases h.1 with h1 | ⟨b, o, cap, h1, h2, h3⟩
    · exact .inl h1
    · exact .inr ⟨b, o, cap, h1, fun hne => ⟨h2 hne, by simp⟩, h3⟩
  | .wide ks L :: r, y :: s, h => by
    refine ⟨?_, argsE_of (args := r) h.2⟩
    rcases h.1 with h1 | ⟨b, o, cap, h1, h2, h3⟩
    · exact .inl h1
    · exact .inr ⟨b, o, cap, h1, fun hne => ⟨h2 hne, by simp⟩, h3⟩
  | .ptr _ _ :: _, _ :: _, h => h.1.elim
  | [], _ :: _, h => h.elim
  | _ :: _, [], h => h.elim

theorem still_below {w w' : World} (h : (Base.mk w []).Still w') : Below w.heap.size w w' := ⟨h.os, h.tape, h.output, h.size, fun k hk => h.block k ⟨hk, by simp⟩⟩

theorem results_run {st : St} {V : Vl} {a : Act} {w : World} (h : Rel w0 st V a w) : ∀ (l : List ResultVar) (vs : List Value), resV P st l = some vs →
    (l.mapM (m := Sem) fun
      | .tmp t => pure (a.tmps.getD t undef)
      | .cell b t => do loadVar t (← asAddr (a.tmps.getD b undef))).run P w = .ok vs w
  | [], vs, hv => by simp [resV] at hv; subst hv; rfl
  | .tmp t :: r, vs, hv => by
    unfold resV at hv
    split at hv
    · rename_i y l h1 h2
      injection hv with hv
      subst hv
      have hy : a.tmps.getD t undef = y := h.eval (x := .tmp t) h1
      have ih := results_run h r l h2
      rw [List.mapM_cons]
      rw [run_andThen _ _ w w y (by rw [← hy]; rfl)]
      rw [run_andThen _ _ w w l ih]
      rfl
    · cases hv
  | .cell t ty :: r, vs, hv => by
    unfold resV at hv
    split at hv
    · rename_i l off ag n h1 h2 h3
      split at hv
      · rename_i cs hcs
        split at hv
        · rename_i hn
          split at hv
          · rename_i y l' h4 h5
            injection hv with hv
            subst hv
            obtain ⟨y', hy', hd⟩ := load_run (P := P) h (p := .tmp t) h1 h2 h3 hcs hn h4
            have hd' : y' = y := hd
            subst hd'
            obtain ⟨b, o, hb, he⟩ := h.eval (x := .tmp t) h1
            have he' : a.tmps.getD t undef = .pointer (some ⟨b, o + off, none⟩) := he
            have ih := results_run h r l' h5
            rw [List.mapM_cons]
            have hh : (do loadVar ty (← asAddr (a.tmps.getD t undef)) : Sem Value).run P w = .ok y' w := by
              rw [he']
              have : (Instr.loadAt ty (.pointer (some ⟨b, o + off, none⟩))).run P w = .ok y' w := by
                rw [← he]; exact hy'
              simpa [Instr.loadAt, Instr.sureAddr, asAddr] using this
            rw [run_andThen _ _ w w y' hh]
            rw [run_andThen _ _ w w l' ih]
            rfl
          · cases hv
        · cases hv
      · cases hv
    · cases hv

theorem results_of {fn : Func} {a : Act} {w : World} (l : List Value) (hr : (fn.results.toList.mapM (m := Sem) fun
      | .tmp t => pure (a.tmps.getD t undef)
      | .cell b t => do loadVar t (← asAddr (a.tmps.getD b undef))).run P w = .ok l w) : (results fn a.tmps).run P w = .ok (tupV l) w := by
  unfold results
  have hmap : (fn.results.mapM (m := Sem) fun
      | .tmp t => pure (a.tmps.getD t undef)
      | .cell b t => do loadVar t (← asAddr (a.tmps.getD b undef))).run P w = .ok l.toArray w := by
    rw [Array.mapM_eq_mapM_toList]
    rw [map_eq_pure_bind, run_andThen _ _ w w l hr]
    rfl
  refine (run_andThen _ _ w w l.toArray ?_).trans ?_
  · exact hmap
  cases l with
  | nil => rfl
  | cons x l =>
    cases l with
    | nil => rfl
    | cons y l => simp [tupV, pure]

theorem argsV_ok (w : World) : ∀ vs : List Value, ArgsOk w (vs.map .v) vs
  | [] => trivial
  | _ :: r => ⟨rfl, argsV_ok w r⟩

theorem argsV_eq {w : World} : ∀ {vs us : List Value}, ArgsOk w (vs.map .v) us → us = vs
  | [], [], _ => rfl
  | _ :: r, _ :: s, h => by
    have h1 := h.1
    have h2 := argsV_eq (vs := r) (us := s) h.2
    unfold ArgOk at h1
    rw [h1, h2]
  | [], _ :: _, h => h.elim
  | _ :: _, [], h => h.elim

theorem runV_sound (hΓ : Γ.Ok P) (hm : P.follows .mixedOrders = true) {f : FuncId} {fn : Func} {c : Code} (hf : P.funcs[f]? = some fn) (hb : fn.body = some c) {args : List Value} {r : Value}
    (h : run Γ Λ P fn args = some r) (w : World) (hL : ∀ b ∈ loopsOf c, LoopOk Λ P ⟨w, []⟩ b) : Calls P f args.toArray w (fun e w' => e = .returned r ∧ Kp w w') := by
  unfold run at h
  rw [hb] at h
  refine calls_of_wp hf hb ?_
  refine ev_sound hΓ hm c hL _ _ r _ _ w h ⟨_, initSt_rel fn (by simp) (argsE_of (argsV_ok w args)), (fun _ _ _ hm => by cases hm)⟩ ?_
  rintro e st' hk a' w' ⟨V, hR, _⟩
  have main : (match resV P st' fn.results.toList with
    | some l => fV Γ.conc (tupV l) some
    | none => none) = some r → a'.defers = [] ∧ ∃ v, (results fn a'.tmps).run P w' = .ok v w' ∧ (v = r ∧ Kp w w') := by
    intro hk
    split at hk
    · rename_i l hl
      rw [fV_eq] at hk
      injection hk with hk
      exact ⟨hR.defers, tupV l, results_of l (results_run hR fn.results.toList l hl), hk, still_below hR.below, hR.froz⟩
    · cases hk
  cases e with
  | normal =>
    obtain ⟨h1, v, h2, rfl, h3⟩ := main hk
    exact ⟨h1, v, h2, rfl, h3⟩
  | exit id => cases hk
  | ret =>
    obtain ⟨h1, v, h2, rfl, h3⟩ := main hk
    exact ⟨h1, v, h2, rfl, h3⟩

theorem run_sound (hΓ : Γ.Ok P) (hm : P.follows .mixedOrders = true) {f : FuncId} {fn : Func} {c : Code} (hf : P.funcs[f]? = some fn) (hb : fn.body = some c) {args : List Arg} {r : Res}
    (h : runA Γ Λ P fn args = some r) (w : World) (hL : ∀ b ∈ loopsOf c, LoopOk Λ P ⟨w, []⟩ b) {vs : List Value} (hA : ArgsOk w args vs) : Calls P f vs.toArray w (fun e w' => ∃ y, e = .returned y ∧ ResOk w w' r y ∧ Kp w w') := by
  unfold runA at h
  rw [hb] at h
  refine calls_of_wp hf hb ?_
  refine ev_sound hΓ hm c hL _ _ r _ _ w h ⟨_, initSt_rel fn (by simp) (argsE_of hA), (fun _ _ _ hm => by cases hm)⟩ ?_
  rintro e st' hk a' w' ⟨V, hR, _⟩
  have hres : ∀ l : List Value, (fn.results.toList.mapM (m := Sem) fun
      | .tmp t => pure (a'.tmps.getD t undef)
      | .cell b t => do loadVar t (← asAddr (a'.tmps.getD b undef))).run P w' = .ok l w' → (results fn a'.tmps).run P w' = .ok (tupV l) w' := by
    intro l hr
    unfold results
    have hmap : (fn.results.mapM (m := Sem) fun
        | .tmp t => pure (a'.tmps.getD t undef)
        | .cell b t => do loadVar t (← asAddr (a'.tmps.getD b undef))).run P w' = .ok l.toArray w' := by
      rw [Array.mapM_eq_mapM_toList]
      rw [map_eq_pure_bind, run_andThen _ _ w' w' l hr]
      rfl
    refine (run_andThen _ _ w' w' l.toArray ?_).trans ?_
    · exact hmap
    cases l with
    | nil => rfl
    | cons x l =>
      cases l with
      | nil => rfl
      | cons y l => simp [tupV, pure]
  have main : (match rowRes st' fn.results.toList with
    | some rc => match rc.own with
      | true => match rc.mark with
        | false => fRow Γ.conc (.live rc) (fun x => match x with
          | .live rc => some (.ints rc.e rc.k rc.L)
          | _ => none)
        | true => none
      | false => none
    | none => match resV P st' fn.results.toList with
      | some l => fV Γ.conc (tupV l) (fun y => some (.v y))
      | none => none) = some r → a'.defers = [] ∧ ∃ v, (results fn a'.tmps).run P w' = .ok v w' ∧ (ResOk w w' r v ∧ Kp w w') := by
    intro hk
    refine ⟨hR.defers, ?_⟩
    split at hk
    · rename_i rc hrc
      split at hk
      · rename_i hown
        split at hk
        · rename_i hmk
          rw [fRow_eq] at hk
          injection hk with hk
          unfold rowRes at hrc
          split at hrc
          · rename_i t ht
            split at hrc
            · rename_i i hi
              obtain ⟨u, hu, hok⟩ := hR.rows i rc hrc
              have hy : a'.tmps.getD t undef = u := (hR.eval (x := .tmp t) hi).2 u hu
              refine ⟨u, hres [u] ?_, ?_, still_below hR.below, hR.froz⟩
              · rw [ht, List.mapM_cons]
                rw [run_andThen _ _ w' w' u (by rw [← hy]; rfl)]
                rfl
              · subst hk
                unfold RowOk at hok
                simp only [hown, hmk] at hok
                exact hok
            · cases hrc
          · cases hrc
        · cases hk
      · cases hk
    · split at hk
      · rename_i l hl
        rw [fV_eq] at hk
        injection hk with hk
        subst hk
        exact ⟨tupV l, hres l (results_run hR fn.results.toList l hl), rfl, still_below hR.below, hR.froz⟩
      · cases hk
  cases e with
  | normal =>
    obtain ⟨h1, v, h2, h3, h4⟩ := main hk
    exact ⟨h1, v, h2, v, rfl, h3, h4⟩
  | exit id => cases hk
  | ret =>
    obtain ⟨h1, v, h2, h3, h4⟩ := main hk
    exact ⟨h1, v, h2, v, rfl, h3, h4⟩


theorem outsL_ok {w0 : Base} {st : St} {V : Vl} {a : Act} {w : World} (h : Rel w0 st V a w) : ∀ (k n : Nat) (outs : List (List Value)) (blk : List (List SV)), outsL blk k = some outs → (∀ i, blk[i]? = st.mem.blk[n + i]?) → ∀ (i : Nat) b o cs, V.b (n + i) = some (b, o) → outs[i]? = some cs → ∀ (j : Nat) x, cs[j]? = some x → w.cell? ⟨b, o + j, none⟩ = some x ∧ w.frozen? ⟨b, o + j, none⟩ = false
  | 0, n, outs, blk, ho, hb, i, b, o, cs, hi, hc, j, x, hx => by
    simp [outsL] at ho
    subst ho
    simp at hc
  | k + 1, n, outs, [], ho, hb, i, b, o, cs, hi, hc, j, x, hx => by simp [outsL] at ho
  | k + 1, n, outs, c :: blk, ho, hb, i, b, o, cs, hi, hc, j, x, hx => by
    unfold outsL at ho
    split at ho
    · rename_i vs hvs
      split at ho
      · rename_i l hl
        injection ho with ho
        subst ho
        cases i with
        | zero =>
          simp at hc
          subst hc
          have h0 := hb 0
          simp at h0
          obtain ⟨y, c1, c2, c3⟩ := h.mem n b o (by simpa using hi) c h0.symm j (.v x) (by rw [allV_eq _ _ hvs]; simp [hx])
          have c2' : y = x := c2
          subst c2'
          exact ⟨c1, c3⟩
        | succ i =>
          refine outsL_ok h k (n + 1) l blk hl (fun i => ?_) i b o cs (by rw [← hi]; congr 1; omega) (by simpa using hc) j x hx
          have := hb (i + 1)
          simp at this
          rw [this]; congr 1; omega
      · cases ho
    · cases ho

theorem run_soundE (hΓ : Γ.Ok P) (hm : P.follows .mixedOrders = true) {f : FuncId} {fn : Func} {c : Code} (hf : P.funcs[f]? = some fn) (hb : fn.body = some c) {args : List Arg} {r : Res} {outs : List (List Value)}
    (h : runE Γ Λ P fn args = some (r, outs)) (w : World) {bs : List (Nat × Nat)} (hL : ∀ b ∈ loopsOf c, LoopOk Λ P ⟨w, bs⟩ b) {vs : List Value} (hnd : (bs.map (·.1)).Nodup) (hA : ArgsE (Base.mk w bs).Kept w args vs bs) :
    Calls P f vs.toArray w (fun e w' => ∃ y, e = .returned y ∧ EffPost w bs r outs y w') := by
  unfold runE at h
  rw [hb] at h
  refine calls_of_wp hf hb ?_
  refine ev_sound hΓ hm c hL _ _ (r, outs) _ _ w h ⟨_, initSt_rel fn hnd hA, (fun _ _ _ hm => by cases hm)⟩ ?_
  have hbl := (initBlks_ok hA).1
  rintro e st' hk a' w' ⟨V, hR, _⟩
  have main : (match outsL st'.mem.blk (initBlks args).length with
    | some outs => match ptrRes st' (initBlks args).length fn.results.toList with
      | some cs => some (Res.ptr cs, outs)
      | none => match resV P st' fn.results.toList with
        | some l => fV Γ.conc (tupV l) (fun y => some (Res.v y, outs))
        | none => none
    | none => none) = some (r, outs) → a'.defers = [] ∧ ∃ v, (results fn a'.tmps).run P w' = .ok v w' ∧ EffPost w bs r outs v w' := by
    intro hk
    refine ⟨hR.defers, ?_⟩
    split at hk
    · rename_i outs' ho
      have hout : OutsOk w' bs outs' := fun i b o cs hi hc j x hx => outsL_ok hR _ 0 outs' st'.mem.blk ho (fun i => by simp) i b o cs (by rw [Nat.zero_add]; exact hR.lent i (b, o) hi) hc j x hx
      split at hk
      · rename_i cs hcs
        injection hk with hk
        injection hk with e1 e2
        subst e1 e2
        unfold ptrRes at hcs
        split at hcs
        · rename_i t ht
          split at hcs
          · rename_i l hl
            split at hcs
            · rename_i hle
              split at hcs
              · rename_i cc hcc
                have hl' : bs.length ≤ l := by rw [← hbl]; exact Nat.le_of_ble_eq_true hle
                obtain ⟨b, o, hb', he⟩ := hR.eval (x := .tmp t) hl
                have hy : a'.tmps.getD t undef = .pointer (some ⟨b, o + 0, none⟩) := he
                have hvv := allV_eq _ _ hcs
                have hown := hR.own l b o hb'
                have ho0 : o = 0 := hR.base0 l b o hb' hl'
                subst ho0
                refine ⟨.pointer (some ⟨b, 0, none⟩), results_of [.pointer (some ⟨b, 0, none⟩)] ?_, ⟨b, rfl, ?_, hown.2, fun j x hx => ?_⟩, hR.below, hR.froz, hout⟩
                · rw [ht, List.mapM_cons]
                  rw [run_andThen _ _ w' w' (.pointer (some ⟨b, 0, none⟩)) (by rw [← hy]; rfl)]
                  rfl
                · rcases hown.1 with h1 | h1
                  · exact h1
                  · have : l < bs.length := h1
                    omega
                · obtain ⟨y, c1, c2, c3⟩ := hR.mem l b 0 hb' cc hcc j (.v x) (by rw [hvv]; simp [hx])
                  have c2' : y = x := c2
                  subst c2'
                  simp only [Nat.zero_add] at c1 c3
                  exact ⟨c1, c3⟩
              · cases hcs
            · cases hcs
          · cases hcs
        · cases hcs
      · split at hk
        · rename_i l hl
          rw [fV_eq] at hk
          injection hk with hk
          injection hk with e1 e2
          subst e1 e2
          exact ⟨tupV l, results_of l (results_run hR fn.results.toList l hl), rfl, hR.below, hR.froz, hout⟩
        · cases hk
    · cases hk
  cases e with
  | normal =>
    obtain ⟨h1, v, h2, h3⟩ := main hk
    exact ⟨h1, v, h2, v, rfl, h3⟩
  | exit id => cases hk
  | ret =>
    obtain ⟨h1, v, h2, h3⟩ := main hk
    exact ⟨h1, v, h2, v, rfl, h3⟩
end
end Go.Sx

namespace Go.Sx
open Go.RowKit

/-- Two structs of integers and bools, field by field. -/
def flatEq (P : Program) : List Field → List Value → List Value → Option Bool
  | [], _, _ => some true
  | f :: fs, xs, ys => match P.underlying f.type, xs[f.offset]?, ys[f.offset]?, flatEq P fs xs ys with
    | some (.int _), some (.int k a), some (.int k' b), some r => if k = k' then some ((a == b) && r) else none
    | some .bool, some (.bool a), some (.bool b), some r => some ((a == b) && r)
    | _, _, _, _ => none

def eqTypeOk (P : Program) (t : TypeId) : Bool :=
  !P.stoodInHeld t && !P.eqGuardType P.depth t && (match P.underlying t with
    | some (.struct fs) => fs.toList.all fun f => f.name != "_"
    | _ => false)

def eqvOf (P : Program) (good : List TypeId) (t : TypeId) (xs ys : List Value) : Option Bool :=
  match good.contains t, P.underlying t with
  | true, some (.struct fs) => flatEq P fs.toList xs ys
  | _, _ => none

section
variable {P : Program} {w : World}

theorem run_part {t : TypeId} {cs : Array Value} {off : Nat} {v : Value} {d : TypeDesc} (hu : P.underlying t = some d) (hd : (∀ f, d ≠ .struct f) ∧ (∀ n e, d ≠ .array n e)) (hv : cs[off]? = some v) : (part t cs off).run P w = .ok v w := by
  unfold part
  have : (isAgg t).run P w = .ok false w := by
    unfold isAgg
    rw [run_andThen _ _ w w d (run_underlying hu w)]
    cases d <;> first | rfl | (exact absurd rfl (hd.1 _)) | (exact absurd rfl (hd.2 _ _))
  rw [run_andThen _ _ w w false this]
  simp [hv]

theorem run_equalIn_int {n : Nat} {t : TypeId} {k k' : IntKind} {a b : Int} (hu : P.underlying t = some (.int k')) : (Op.equalIn (n + 1) t (.int k a) (.int k b)).run P w = .ok (a == b) w := by
  unfold Op.equalIn
  rw [run_andThen _ _ w w _ (run_underlying hu w)]
  simp

theorem run_equalIn_bool {n : Nat} {t : TypeId} {a b : Bool} (hu : P.underlying t = some .bool) : (Op.equalIn (n + 1) t (.bool a) (.bool b)).run P w = .ok (a == b) w := by
  unfold Op.equalIn
  rw [run_andThen _ _ w w _ (run_underlying hu w)]
  simp

theorem run_equalIn_struct {n : Nat} {t : TypeId} {fs : Array Field} {xs ys : Array Value} (hu : P.underlying t = some (.struct fs)) (hs : P.stoodInHeld t = false) (hn : ∀ f ∈ fs.toList, f.name ≠ "_") {r : Bool}
    (h : flatEq P fs.toList xs.toList ys.toList = some r) : (Op.equalIn (n + 2) t (.agg xs) (.agg ys)).run P w = .ok r w := by
  unfold Op.equalIn
  rw [run_andThen _ _ w w _ (run_underlying hu w)]
  simp only []
  rw [run_andThen program _ w w P rfl]
  simp only [hs, Bool.false_eq_true, if_false]
  rw [← Array.forIn_toList]
  generalize fs.toList = l at *
  clear hu hs
  induction l generalizing r with
  | nil =>
    simp [flatEq] at h
    subst h
    simp
  | cons f l ih =>
    have hf : f.name ≠ "_" := hn f (by simp)
    unfold flatEq at h
    split at h
    · rename_i kk k a k' b r' h1 h2 h3 h4
      split at h
      · rename_i hk
        subst hk
        injection h with h
        subst h
        have p1 := run_part (P := P) (w := w) (t := f.type) (cs := xs) (off := f.offset) h1 ⟨by simp, by simp⟩ (by simpa using h2)
        have p2 := run_part (P := P) (w := w) (t := f.type) (cs := ys) (off := f.offset) h1 ⟨by simp, by simp⟩ (by simpa using h3)
        have p3 := run_equalIn_int (P := P) (w := w) (n := n) (k := k) (a := a) (b := b) h1
        have ih' := ih (fun f hf => hn f (by simp [hf])) h4
        simp only [List.forIn_cons, hf, ne_eq, not_false_eq_true, if_true]
        cases hab : a == b
        · simp [Sem.run_bind, p1, p2, p3, hab, Result.andThen]
        · simp only [Sem.run_bind, p1, p2, p3, hab, Result.andThen] at *
          simpa using ih'
      · cases h
    · rename_i a b r' h1 h2 h3 h4
      injection h with h
      subst h
      have p1 := run_part (P := P) (w := w) (t := f.type) (cs := xs) (off := f.offset) h1 ⟨by simp, by simp⟩ (by simpa using h2)
      have p2 := run_part (P := P) (w := w) (t := f.type) (cs := ys) (off := f.offset) h1 ⟨by simp, by simp⟩ (by simpa using h3)
      have p3 := run_equalIn_bool (P := P) (w := w) (n := n) (a := a) (b := b) h1
      have ih' := ih (fun f hf => hn f (by simp [hf])) h4
      simp only [List.forIn_cons, hf, ne_eq, not_false_eq_true, if_true]
      cases hab : a == b
      · simp [Sem.run_bind, p1, p2, p3, hab, Result.andThen]
      · simp only [Sem.run_bind, p1, p2, p3, hab, Result.andThen] at *
        simpa using ih'
    · cases h

theorem eqvOf_ok {good : List TypeId} (hg : good.all (eqTypeOk P) = true) (t : TypeId) (xs ys : List Value) (r : Bool) (h : eqvOf P good t xs ys = some r) (w : World) (op : BinOp) (x y : Operand) (hop : op = .eql ∨ op = .neq) :
    (eqGuard op t x y (.agg xs.toArray) (.agg ys.toArray)).run P w = .ok () w ∧ (Op.equal t (.agg xs.toArray) (.agg ys.toArray)).run P w = .ok r w := by
  unfold eqvOf at h
  split at h
  · rename_i fs hc hu
    have ht : eqTypeOk P t = true := List.all_eq_true.1 hg t (by simpa using hc)
    unfold eqTypeOk at ht
    simp only [hu, Bool.and_eq_true, Bool.not_eq_true', List.all_eq_true] at ht
    refine ⟨?_, ?_⟩
    · rcases hop with rfl | rfl <;> simp [eqGuard, program, Sem.run, ht.1.2]
    · unfold Op.equal Op.maxDepth
      exact run_equalIn_struct (n := 9998) hu ht.1.1 (fun f hf => by simpa using ht.2 f hf) (by simpa using h)
  · cases h
end

section
variable {R : Type} (Γ : Orc) (P : Program)
/-- A loop, carried out. -/
def evLoop (Λ : LoopOrc) (cut : St → St) (body : Code) : Nat → St → (Ex → St → Option R) → Option R
  | 0, _, _ => none
  | n + 1, st, k => ev Γ Λ P body st (fun e st' => match e with
    | .normal => fSt Γ.conc (cut st') (fun st' => evLoop Λ cut body n st' k)
    | .exit id => k (.exit id) st'
    | .ret => k .ret st')

/-- Loops within loops, carried out: d deep, n rounds each. -/
def loopX (n : Nat) : Nat → LoopOrc
  | 0 => fun _ _ => none
  | d + 1 => fun body st => match evLoop Γ P (loopX n d) id body n st (fun e st' => some (e, st')) with
    | some (e, st') => some (true, e, st')
    | none => none
end

section
variable {R : Type} {Γ : Orc} {P : Program} {w0 : Base}

theorem evLoop_sound (hΓ : Γ.Ok P) (hm : P.follows .mixedOrders = true) {Λ : LoopOrc} {body : Code} (hL : ∀ b ∈ loopsOf body, LoopOk Λ P w0 b) {cut : St → St} (hcut : ∀ st a w, RelP P { a := [], r := [] } w0 st a w → RelP P { a := [], r := [] } w0 (cut st) a w)
    {k : Ex → St → Option R} {r : R} {Q : Exit → Act → World → Prop} (hQ : ∀ e st', e ≠ .normal → k e st' = some r → ∀ a w, RelP P { a := [], r := [] } w0 st' a w → Q e.out a w) : ∀ (n : Nat) (st : St) (a : Act) (w : World),
    evLoop Γ P Λ cut body n st k = some r → RelP P { a := [], r := [] } w0 st a w → Code.rounds P body Q n a w
  | 0, st, a, w, h, hR => by simp [evLoop] at h
  | n + 1, st, a, w, h, hR => by
    simp only [evLoop] at h
    rw [rounds_succ]
    refine ev_sound hΓ hm body hL st _ r _ a w h hR ?_
    intro e st' hk a' w' hR'
    cases e with
    | normal =>
      rw [fSt_eq] at hk
      exact evLoop_sound hΓ hm hL hcut hQ n (cut st') a' w' hk (hcut _ _ _ hR')
    | exit id => exact hQ (.exit id) st' (by simp) hk a' w' hR'
    | ret => exact hQ .ret st' (by simp) hk a' w' hR'

theorem loopX_ok (hΓ : Γ.Ok P) (hm : P.follows .mixedOrders = true) (n : Nat) : ∀ (d : Nat) (body : Code), LoopOk (loopX Γ P n d) P w0 body
  | 0, body => fun st e st' h => by simp [loopX] at h
  | d + 1, body => fun st e st' h a w hR => by
    simp only [loopX] at h
    split at h
    case h_2 => cases h
    rename_i e2 st2 h0
    injection h with h
    injection h with _ h
    injection h with h1 h2
    subst h1 h2
    have h := h0
    refine wp_loop_rounds n (evLoop_sound hΓ hm (fun b _ => loopX_ok hΓ hm n d b) (fun _ _ _ h => h) (r := (e2, st2)) ?_ n st a w h hR)
    intro e1 st1 _ hk a' w' hR'
    injection hk with hk
    injection hk with h1 h2
    subst h1 h2
    exact ⟨rfl, hR'⟩

theorem callFunc_enter {f : FuncId} {fn : Func} {vs : List Value} (hf : P.funcs[f]? = some fn) (hb : fn.body.isSome = true) (hn : fn.name ≠ "runtime.NumGoroutine") (w : World) : (callFunc f vs.toArray).run P w = .ok (.enter f vs.toArray) w := by
  unfold callFunc
  rw [run_andThen program _ w w P rfl]
  simp only [hf]
  have : (fn.name == "runtime.NumGoroutine") = false := by simpa using hn
  simp only [this, Bool.false_eq_true, if_false]
  cases hb' : fn.body with
  | none => simp [hb'] at hb
  | some c => rfl

def namesOk (P : Program) : Bool := P.funcs.toList.all fun fn => fn.body.isNone || fn.name != "runtime.NumGoroutine"

theorem names_of (h : namesOk P = true) {f : FuncId} {fn : Func} (hf : P.funcs[f]? = some fn) (hb : fn.body.isSome = true) : fn.name ≠ "runtime.NumGoroutine" := by
  have := List.all_eq_true.1 h fn (by
    rw [Array.mem_toList_iff]
    exact Array.mem_of_getElem? hf)
  cases hb' : fn.body with
  | none => simp [hb'] at hb
  | some c => simpa [hb'] using this

theorem callOk_of_run (hΓ : Γ.Ok P) (hm : P.follows .mixedOrders = true) (hN : namesOk P = true) {Λ : LoopOrc} {f : FuncId} {fn : Func} {c : Code} (hf : P.funcs[f]? = some fn) (hb : fn.body = some c) (hL : ∀ w, ∀ b ∈ loopsOf c, LoopOk Λ P ⟨w, []⟩ b) {vs : List Arg} {r : Res}
    (h : runA Γ Λ P fn vs = some r) : CallOk P f vs r := fun w _ hA =>
  .inr ⟨callFunc_enter hf (by simp [hb]) (names_of hN hf (by simp [hb])) w, run_sound hΓ hm hf hb h w (hL w) hA⟩

theorem effOk_of_run (hΓ : Γ.Ok P) (hm : P.follows .mixedOrders = true) (hN : namesOk P = true) {Λ : LoopOrc} {f : FuncId} {fn : Func} {c : Code} (hf : P.funcs[f]? = some fn) (hb : fn.body = some c) (hL : ∀ z, ∀ b ∈ loopsOf c, LoopOk Λ P z b) {vs : List Arg} {r : Res} {outs : List (List Value)}
    (h : runE Γ Λ P fn vs = some (r, outs)) : EffOk P f vs r outs := fun w _ bs hnd hA =>
  .inr ⟨callFunc_enter hf (by simp [hb]) (names_of hN hf (by simp [hb])) w, run_soundE hΓ hm hf hb h w (hL ⟨w, bs⟩) hnd hA⟩

theorem callV (P : Program) {f : FuncId} {vs : List Value} {r : Value} (h : ∀ w, (callFunc f vs.toArray).run P w = .ok (.value r) w ∨ ((callFunc f vs.toArray).run P w = .ok (.enter f vs.toArray) w ∧ Calls P f vs.toArray w (fun e w' => e = .returned r ∧ Kp w w'))) : CallOk P f (vs.map .v) (.v r) := by
  intro w us hA
  obtain rfl := argsV_eq hA
  rcases h w with h | ⟨h1, h2⟩
  · exact .inl ⟨r, h, rfl⟩
  · exact .inr ⟨h1, h2.mono fun e w' ⟨he, hk⟩ => ⟨r, he, rfl, hk⟩⟩

theorem callOk_of_runV (hΓ : Γ.Ok P) (hm : P.follows .mixedOrders = true) (hN : namesOk P = true) {Λ : LoopOrc} {f : FuncId} {fn : Func} {c : Code} (hf : P.funcs[f]? = some fn) (hb : fn.body = some c) (hL : ∀ w, ∀ b ∈ loopsOf c, LoopOk Λ P ⟨w, []⟩ b) {vs : List Value} {r : Value}
    (h : run Γ Λ P fn vs = some r) : CallOk P f (vs.map .v) (.v r) :=
  callV P fun w => .inr ⟨callFunc_enter hf (by simp [hb]) (names_of hN hf (by simp [hb])) w, runV_sound hΓ hm hf hb h w (hL w)⟩

def argVals : List Arg → Option (List Value)
  | [] => some []
  | .v x :: r => match argVals r with | some l => some (x :: l) | none => none
  | _ :: _ => none

theorem argVals_eq : ∀ {as : List Arg} {l : List Value}, argVals as = some l → as = l.map .v
  | [], l, h => by injection h with h; subst h; rfl
  | .v x :: r, l, h => by
    unfold argVals at h
    split at h
    · rename_i l' hl
      injection h with h
      subst h
      rw [argVals_eq hl]; rfl
    · cases h
  | .ints _ _ :: _, l, h => by cases h
  | .wide _ _ :: _, l, h => by cases h
  | .ptr _ _ :: _, l, h => by cases h

/-- A table over values alone. -/
def tabV (t : FuncId → List Value → Option (Bool × Value)) : FuncId → List Arg → Option (Bool × Res) := fun f as =>
  match argVals as with
  | some l => match t f l with
    | some (g, r) => some (g, .v r)
    | none => none
  | none => none

theorem tabV_ok {t : FuncId → List Value → Option (Bool × Value)} (h : ∀ f vs r, t f vs = some (true, r) → CallOk P f (vs.map .v) (.v r)) : ∀ f as r, tabV t f as = some (true, r) → CallOk P f as r := by
  intro f as r hr
  unfold tabV at hr
  split at hr
  · rename_i l hl
    split at hr
    · rename_i g y hy
      injection hr with hr
      injection hr with e1 e2
      subst e1 e2
      rw [argVals_eq hl]
      exact h f l y hy
    · cases hr
  · cases hr

/-- Callees carried out, d deep. -/
def exec (P : Program) (ext : FuncId → List Arg → Option (Bool × Res)) (xeff : FuncId → List Arg → Option (Bool × Res × List (List Value))) (eqv : TypeId → List Value → List Value → Option Bool) (wr : FuncId → Bool) (n : Nat) (once : FuncId → List Value → Nat → FuncId → Nat → Option (Bool × List Value) := fun _ _ _ _ _ => none) : Nat → Orc
  | 0 => { call := ext, eqv := eqv, conc := true, eff := xeff, wr := wr, once := once }
  | d + 1 => { call := (fun f vs => match ext f vs with
      | some r => some r
      | none => match P.funcs[f]? with
        | some fn => match runA (exec P ext xeff eqv wr n once d) (loopX (exec P ext xeff eqv wr n once d) P n 2) P fn vs with
          | some v => some (true, v)
          | none => none
        | none => none), eqv := eqv, conc := true, eff := (fun f vs => match xeff f vs with
      | some r => some r
      | none => match P.funcs[f]? with
        | some fn => match runE (exec P ext xeff eqv wr n once d) (loopX (exec P ext xeff eqv wr n once d) P n 2) P fn vs with
          | some (r, outs) => some (true, r, outs)
          | none => none
        | none => none), wr := wr, once := once }

theorem exec_ok (hm : P.follows .mixedOrders = true) (hN : namesOk P = true) {ext : FuncId → List Arg → Option (Bool × Res)} {xeff : FuncId → List Arg → Option (Bool × Res × List (List Value))} {eqv : TypeId → List Value → List Value → Option Bool} {wr : FuncId → Bool} {once : FuncId → List Value → Nat → FuncId → Nat → Option (Bool × List Value)} (h0 : Orc.Ok { call := ext, eqv := eqv, conc := true, eff := xeff, wr := wr, once := once } P) (n : Nat) : ∀ d, (exec P ext xeff eqv wr n once d).Ok P
  | 0 => h0
  | d + 1 => by
    have ih := exec_ok hm hN h0 n d
    refine ⟨fun f vs r h => ?_, (fun _ _ _ h => by cases h), fun f vs r outs h => ?_, h0.once, h0.eqv⟩
    · simp only [exec] at h
      split at h
      · rename_i q hq
        injection h with h
        subst h
        exact h0.call f vs r hq
      · split at h
        · rename_i fn hf
          split at h
          · rename_i v hv
            injection h with h
            injection h with _ h
            subst h
            cases hb : fn.body with
            | none => simp [runA, hb] at hv
            | some c => exact callOk_of_run ih hm hN hf hb (fun w b _ => loopX_ok ih hm n 2 b) hv
          · cases h
        · cases h
    · simp only [exec] at h
      split at h
      · rename_i q hq
        injection h with h
        subst h
        exact h0.eff f vs r outs hq
      · split at h
        · rename_i fn hf
          split at h
          · rename_i r' outs' hv
            injection h with h
            injection h with _ h
            injection h with e1 e2
            subst e1 e2
            cases hb : fn.body with
            | none => simp [runE, hb] at hv
            | some c => exact effOk_of_run ih hm hN hf hb (fun w b _ => loopX_ok ih hm n 2 b) hv
          · cases h
        · cases h
end
end Go.Sx

namespace Go.Sx
open Go.RowKit

def cutL (get : Nat → Option SV) : List Bool → Nat → List SV
  | [], _ => []
  | f :: r, i => match get i with
    | some x => (match f with | true => x | false => .poison) :: cutL get r (i + 1)
    | none => []

/-- At a loop's head: the slots that are kept; the others are unknown. -/
def cutS (keep : List Bool) (st : St) : St := ⟨Tr.ofList (cutL st.tmps.get keep 0), st.mem⟩

theorem cutL_get (get : Nat → Option SV) : ∀ (keep : List Bool) (i j : Nat) (x : SV), (cutL get keep i)[j]? = some x → get (i + j) = some x ∨ (x = .poison ∧ (get (i + j)).isSome = true)
  | [], i, j, x, h => by simp [cutL] at h
  | f :: r, i, j, x, h => by
    unfold cutL at h
    cases hg : get i with
    | none => simp [hg] at h
    | some y =>
      simp only [hg] at h
      cases j with
      | zero =>
        cases f
        · simp at h; exact .inr ⟨h.symm, by simp [hg]⟩
        · simp at h; subst h; exact .inl hg
      | succ j =>
        have := cutL_get get r (i + 1) j x (by simpa using h)
        rwa [show i + 1 + j = i + (j + 1) by omega] at this

section
variable {Γ : Orc} {P : Program} {w0 : Base}

theorem cutS_rel {al : Al} {keep : List Bool} {st : St} {a : Act} {w : World} (h : RelP P al w0 st a w) : RelP P al w0 (cutS keep st) a w := by
  obtain ⟨V, hR, hp⟩ := h
  have key : ∀ (t : Nat) x, (cutS keep st).tmps.get t = some x → st.tmps.get t = some x ∨ (x = .poison ∧ (st.tmps.get t).isSome = true) := by
    intro t x hx
    simp only [cutS, Tr.get_ofList] at hx
    have := cutL_get _ _ _ _ _ hx
    simpa using this
  refine ⟨V, { hR with len := fun t x hx => ?_, tmps := fun t x hx y hy => ?_ }, hp⟩
  · rcases key t x hx with h1 | ⟨_, h1⟩
    · exact hR.len t x h1
    · obtain ⟨z, hz⟩ := Option.isSome_iff_exists.1 h1
      exact hR.len t z hz
  · rcases key t x hx with h1 | ⟨rfl, _⟩
    · exact hR.tmps t x h1 y hy
    · trivial

/-- A loop that is known by where it comes to. -/
theorem loop_ok (hΓ : Γ.Ok P) (hm : P.follows .mixedOrders = true) {Λ Λ' : LoopOrc} {body : Code} {keep : List Bool} (hL : ∀ b ∈ loopsOf body, LoopOk Λ P w0 b) {F : St → Option (Bool × Ex × St)} (hF : ∀ st, Λ' body st = F st)
    (h : ∀ st e st', F st = some (true, e, st') → ∃ n, evLoop (R := Ex × St) Γ P Λ (cutS keep) body n (cutS keep st) (fun e st => some (e, st)) = some (e, st')) : LoopOk Λ' P w0 body := by
  intro st e st' hs a w hR
  rw [hF] at hs
  obtain ⟨n, hn⟩ := h st e st' hs
  refine wp_loop_rounds n (evLoop_sound hΓ hm hL (fun _ _ _ h => cutS_rel h) (r := (e, st')) ?_ n _ a w hn (cutS_rel hR))
  intro e1 st1 _ hk a' w' hR'
  injection hk with hk
  injection hk with h1 h2
  subst h1 h2
  exact ⟨rfl, hR'⟩
end

/-- The n-th loop of a code: its body. -/
def loopAt (c : Code) (n : Nat) : Code := ((loopsOf c)[n]?).getD .skip
end Go.Sx

namespace Go.Sx
open Go.RowKit

def addR (m : List Nat) : SV → List Nat
  | .row r => bif m.contains r then m else m ++ [r]
  | .rp r _ => bif m.contains r then m else m ++ [r]
  | .wp r _ _ => bif m.contains r then m else m ++ [r]
  | _ => m

def ixOf : List Nat → Nat → Nat → Option Nat
  | [], _, _ => none
  | a :: l, r, i => bif a == r then some i else ixOf l r (i + 1)

def reS (m : List Nat) : SV → SV
  | .row r => match ixOf m r 0 with
    | some i => .row i
    | none => .poison
  | .rp r j => match ixOf m r 0 with
    | some i => .rp i j
    | none => .poison
  | .wp r n j => match ixOf m r 0 with
    | some i => .wp i n j
    | none => .poison
  | x => x

def noRow : SV → SV
  | .row _ => .poison
  | .rp _ _ => .poison
  | .wp _ _ _ => .poison
  | x => x

/-- At a loop's head: the slots that are kept, and the rows that they name, numbered anew. -/
def cutG (keep : List Bool) (st : St) : St :=
  ⟨Tr.ofList ((cutL st.tmps.get keep 0).map (reS ((cutL st.tmps.get keep 0).foldl addR []))),
    ⟨st.mem.blk.map (fun cs => cs.map noRow), st.mem.live, ((cutL st.tmps.get keep 0).foldl addR []).map (fun r => (st.mem.rows[r]?).getD .dead)⟩⟩

theorem addR_nodup {m : List Nat} (h : m.Nodup) (s : SV) : (addR m s).Nodup := by
  have key : ∀ r, (bif m.contains r then m else m ++ [r]).Nodup := by
    intro r
    cases hc : m.contains r
    · have : r ∉ m := by simpa using hc
      simp only [cond_false]
      rw [List.nodup_append]
      refine ⟨h, by simp, fun a ha b hb => ?_⟩
      simp at hb
      subst hb
      exact fun e => this (e ▸ ha)
    · exact h
  cases s <;> first | exact key _ | exact h

theorem foldR_nodup : ∀ (l : List SV) (m : List Nat), m.Nodup → (l.foldl addR m).Nodup
  | [], _, h => h
  | s :: l, _, h => foldR_nodup l _ (addR_nodup h s)

theorem ixOf_some : ∀ (l : List Nat) (r i j : Nat), ixOf l r i = some j → ∃ d, j = i + d ∧ l[d]? = some r
  | [], _, _, _, h => by cases h
  | a :: l, r, i, j, h => by
    unfold ixOf at h
    cases hc : a == r
    · rw [hc] at h
      obtain ⟨d, h1, h2⟩ := ixOf_some l r (i + 1) j h
      exact ⟨d + 1, by omega, by simpa using h2⟩
    · rw [hc] at h
      have : a = r := by simpa using hc
      subst this
      injection h with h
      exact ⟨0, by omega, by simp⟩

section
variable {Γ : Orc} {P : Program} {w0 : Base}

theorem cutG_rel {al : Al} {keep : List Bool} {st : St} {a : Act} {w : World} (h : RelP P al w0 st a w) : RelP P al w0 (cutG keep st) a w := by
  obtain ⟨V, hR, hp⟩ := h
  have hnd := foldR_nodup (cutL st.tmps.get keep 0) [] (by simp)
  unfold cutG
  generalize hl : cutL st.tmps.get keep 0 = l at *
  generalize l.foldl addR [] = m at *
  have key : ∀ (t : Nat) x, l[t]? = some x → st.tmps.get t = some x ∨ (x = .poison ∧ (st.tmps.get t).isSome = true) := by
    intro t x hx
    subst hl
    have := cutL_get _ _ _ _ _ hx
    simpa using this
  have den : ∀ x y, Den V x y → Den ⟨V.b, fun i => (m[i]?).bind V.r⟩ (reS m x) y := by
    intro x y hd
    cases x with
    | row r =>
      simp only [reS]
      cases hi : ixOf m r 0 with
      | none => trivial
      | some i =>
        obtain ⟨d, h1, h2⟩ := ixOf_some _ _ _ _ hi
        have : i = d := by omega
        subst this
        simpa [Den, h2] using hd
    | rp r j =>
      simp only [reS]
      cases hi : ixOf m r 0 with
      | none => trivial
      | some i =>
        obtain ⟨d, h1, h2⟩ := ixOf_some _ _ _ _ hi
        have : i = d := by omega
        subst this
        simpa [Den, h2] using hd
    | wp r n j =>
      simp only [reS]
      cases hi : ixOf m r 0 with
      | none => trivial
      | some i =>
        obtain ⟨d, h1, h2⟩ := ixOf_some _ _ _ _ hi
        have : i = d := by omega
        subst this
        simpa [Den, h2] using hd
    | _ => exact hd
  have den2 : ∀ x y, Den V x y → Den ⟨V.b, fun i => (m[i]?).bind V.r⟩ (noRow x) y := by
    intro x y hd
    cases x <;> first | exact hd | trivial
  have row : ∀ r rc, rowAt (m.map (fun r => (st.mem.rows[r]?).getD .dead)) r = some rc → ∃ r', m[r]? = some r' ∧ rowAt st.mem.rows r' = some rc := by
    intro r rc hr
    unfold rowAt at hr
    rw [List.getElem?_map] at hr
    cases hm : m[r]? with
    | none => simp [hm] at hr
    | some r' =>
      refine ⟨r', rfl, ?_⟩
      unfold rowAt
      simp only [hm, Option.map_some] at hr
      cases hs : st.mem.rows[r']? with
      | none => simp [hs] at hr
      | some q => simpa [hs] using hr
  refine ⟨⟨V.b, fun i => (m[i]?).bind V.r⟩, ?_, ?_⟩
  · refine { len := fun t x hx => ?_, tmps := fun t x hx y hy => ?_, defers := hR.defers, mem := fun b b' o hb cs hcs j x hx => ?_, inj := hR.inj, own := hR.own, lent := hR.lent, base0 := hR.base0, dom := hR.dom, rows := fun r rc hr => ?_, wides := fun r ks L hr => ?_, rowsN := fun r hr => ?_, apart := fun r r' rc rc' u u' g h1 h2 h3 h4 h5 h6 h7 h8 => ?_, apartb := fun r rc u g b b' o h1 h2 h3 h4 h5 => ?_, below := hR.below, froz := hR.froz }
    · simp only [Tr.get_ofList, List.getElem?_map, Option.map_eq_some_iff] at hx
      obtain ⟨x0, hx0, _⟩ := hx
      rcases key t x0 hx0 with h1 | ⟨_, h1⟩
      · exact hR.len t x0 h1
      · obtain ⟨z, hz⟩ := Option.isSome_iff_exists.1 h1
        exact hR.len t z hz
    · simp only [Tr.get_ofList, List.getElem?_map, Option.map_eq_some_iff] at hx
      obtain ⟨x0, hx0, rfl⟩ := hx
      rcases key t x0 hx0 with h1 | ⟨rfl, _⟩
      · exact den _ _ (hR.tmps t x0 h1 y hy)
      · trivial
    · simp only [List.getElem?_map, Option.map_eq_some_iff] at hcs
      obtain ⟨cs0, hcs0, rfl⟩ := hcs
      rw [List.getElem?_map, Option.map_eq_some_iff] at hx
      obtain ⟨x0, hx0, rfl⟩ := hx
      obtain ⟨y, h1, h2, h3⟩ := hR.mem b b' o hb cs0 hcs0 j x0 hx0
      exact ⟨y, h1, den2 _ _ h2, h3⟩
    · obtain ⟨r', h1, h2⟩ := row r rc hr
      obtain ⟨u, h3, h4⟩ := hR.rows r' rc h2
      exact ⟨u, by simp [h1, h3], h4⟩
    · unfold wideAt at hr
      simp only [List.getElem?_map] at hr
      cases hm : m[r]? with
      | none => simp [hm] at hr
      | some r' =>
        simp only [hm, Option.map_some] at hr
        cases hs : st.mem.rows[r']? with
        | none => simp [hs] at hr
        | some q =>
          simp only [hs, Option.getD_some] at hr
          split at hr
          · rename_i ks' L' hq
            injection hr with hr
            injection hr with e1 e2
            subst e1 e2
            injection hq with hq
            subst hq
            obtain ⟨u, h3, h4⟩ := hR.wides r' ks' L' (by unfold wideAt; rw [hs])
            exact ⟨u, by simp [hm, h3], h4⟩
          · cases hr
    · simp only [List.getElem?_map] at hr
      cases hm : m[r]? with
      | none => simp [hm]
      | some r' =>
        simp only [hm, Option.map_some, Option.bind_some] at hr ⊢
        rcases hr with hr | hr
        · cases hr
        · refine hR.rowsN r' (.inr ?_)
          cases hs : st.mem.rows[r']? with
          | none => simp [hs] at hr
          | some q => simpa [hs] using hr
    · obtain ⟨q, e1, e2⟩ := row r rc h1
      obtain ⟨q', e3, e4⟩ := row r' rc' h3
      simp only [e1, e3, Option.bind_some] at h5 h6
      refine hR.apart q q' rc rc' u u' g e2 h2 e4 h4 h5 h6 ?_ h8
      rintro rfl
      have hlt : r < m.length := by
        rcases Nat.lt_or_ge r m.length with h' | h'
        · exact h'
        · simp [List.getElem?_eq_none h'] at e1
      exact h7 ((List.getElem?_inj hlt hnd).1 (e1.trans e3.symm))
    · obtain ⟨q, e1, e2⟩ := row r rc h1
      simp only [e1, Option.bind_some] at h3
      exact hR.apartb q rc u g b b' o e2 h2 h3 h4 h5
  · intro d b e hm hn
    obtain ⟨z, h1, h2⟩ := hp d b e hm hn
    refine ⟨z, h1, ?_⟩
    simp only [List.getElem?_map, h2, Option.map_some]
    congr 1
    simp [noRow]

/-- A loop that is known by where it comes to. -/
theorem loop_okG (hΓ : Γ.Ok P) (hm : P.follows .mixedOrders = true) {Λ Λ' : LoopOrc} {body : Code} {keep : List Bool} (hL : ∀ b ∈ loopsOf body, LoopOk Λ P w0 b) {F : St → Option (Bool × Ex × St)} (hF : ∀ st, Λ' body st = F st)
    (h : ∀ st e st', F st = some (true, e, st') → ∃ n, evLoop (R := Ex × St) Γ P Λ (cutG keep) body n (cutG keep st) (fun e st => some (e, st)) = some (e, st')) : LoopOk Λ' P w0 body := by
  intro st e st' hs a w hR
  rw [hF] at hs
  obtain ⟨n, hn⟩ := h st e st' hs
  refine wp_loop_rounds n (evLoop_sound hΓ hm hL (fun _ _ _ h => cutG_rel h) (r := (e, st')) ?_ n _ a w hn (cutG_rel hR))
  intro e1 st1 _ hk a' w' hR'
  injection hk with hk
  injection hk with h1 h2
  subst h1 h2
  exact ⟨rfl, hR'⟩
end
end Go.Sx

namespace Go.Sx
open Go.RowKit

/-- The slots that are kept, one by one. -/
def pickB : List Bool → List SV → List SV
  | true :: k, x :: l => x :: pickB k l
  | false :: k, _ :: l => pickB k l
  | _, _ => []
def fillB : List Bool → List SV → List SV
  | true :: k, x :: l => x :: fillB k l
  | false :: k, l => .poison :: fillB k l
  | _, _ => []
/-- A state at a loop's head: the slots that are kept; the others are unknown. -/
def mk (keep : List Bool) (vals : List SV) (m : Mem) : St := ⟨Tr.ofList (fillB keep vals), m⟩

theorem fillB_pick (get : Nat → Option SV) : ∀ (keep : List Bool) (i : Nat), (cutL get keep i).length = keep.length → fillB keep (pickB keep (cutL get keep i)) = cutL get keep i
  | [], _, _ => rfl
  | b :: k, i, h => by
    unfold cutL at h ⊢
    cases hg : get i with
    | none => simp [hg] at h
    | some x =>
      simp only [hg, List.length_cons, Nat.add_right_cancel_iff] at h ⊢
      have := fillB_pick get k (i + 1) h
      cases b <;> simp [pickB, fillB, this]

theorem fillB_map {f : SV → SV} (hf : f .poison = .poison) : ∀ (keep : List Bool) (l : List SV), (fillB keep l).map f = fillB keep (l.map f)
  | [], l => by cases l <;> rfl
  | true :: k, [] => rfl
  | true :: k, x :: l => by simp [fillB, fillB_map hf k l]
  | false :: k, l => by
    cases l with
    | nil => simp [fillB, hf]; exact fillB_map hf k []
    | cons x l => simp [fillB, hf]; exact fillB_map hf k (x :: l)

/-- What a loop's head sees of a state. -/
def viewK (keep : List Bool) (st : St) : Option (List SV × Mem) :=
  match Nat.beq (cutL st.tmps.get keep 0).length keep.length with
  | true => some ((pickB keep (cutL st.tmps.get keep 0)).map (reS ((cutL st.tmps.get keep 0).foldl addR [])), (cutG keep st).mem)
  | false => none

theorem viewK_some {keep : List Bool} {st : St} {vals : List SV} {m : Mem} (h : viewK keep st = some (vals, m)) : cutG keep st = mk keep vals m := by
  unfold viewK at h
  split at h
  · rename_i hl
    injection h with h
    injection h with h1 h2
    have hl' : (cutL st.tmps.get keep 0).length = keep.length := Nat.eq_of_beq_eq_true hl
    subst h1 h2
    unfold mk
    rw [← fillB_map rfl, fillB_pick _ _ _ hl']
    rfl
  · cases h

def viaK (keep : List Bool) (G : List SV → Mem → Option (Bool × Ex × St)) (st : St) : Option (Bool × Ex × St) :=
  match viewK keep st with
  | some (vals, m) => G vals m
  | none => none

section
variable {Γ : Orc} {P : Program} {w0 : Base}

/-- A loop that is known by where it comes to; behind it, too, only some slots are kept. -/
theorem loop_okK (hΓ : Γ.Ok P) (hm : P.follows .mixedOrders = true) {Λ Λ' : LoopOrc} {body : Code} {keep : List Bool} {kx : Ex → List Bool} (hL : ∀ b ∈ loopsOf body, LoopOk Λ P w0 b) {G : List SV → Mem → Option (Bool × Ex × St)} (hF : ∀ st, Λ' body st = viaK keep G st)
    (h : ∀ vals m e st', G vals m = some (true, e, st') → ∃ n, evLoop (R := Ex × St) Γ P Λ (cutG keep) body n (mk keep vals m) (fun e st => some (e, cutG (kx e) st)) = some (e, st')) : LoopOk Λ' P w0 body := by
  intro st e st' hs a w hR
  rw [hF] at hs
  unfold viaK at hs
  split at hs
  · rename_i vals m hv
    obtain ⟨n, hn⟩ := h vals m e st' hs
    rw [← viewK_some hv] at hn
    refine wp_loop_rounds n (evLoop_sound hΓ hm hL (fun _ _ _ h => cutG_rel h) (r := (e, st')) ?_ n _ a w hn (cutG_rel hR))
    intro e1 st1 _ hk a' w' hR'
    injection hk with hk
    injection hk with h1 h2
    subst h1 h2
    exact ⟨rfl, cutG_rel hR'⟩
  · cases hs
end

/-! Which slots are still asked for. -/
def rdO : Operand → List Nat
  | .tmp t => [t]
  | _ => []
def uni (a b : List Nat) : List Nat := a ++ b.filter fun x => !a.contains x
def liveOp (ops : Array Oper) (o : Oper) (out : List Nat) : List Nat :=
  uni (match o.guard with
    | some (j, _) => match (ops[j]?).bind (·.dst) with
      | some t => [t]
      | none => []
    | none => []) (uni (o.op.operands.toList.flatMap rdO) (match o.dst with
    | some d => out.filter fun x => !(x == d)
    | none => out))
def liveC (ret : List Nat) : Code → List (Nat × List Nat) → List Nat → List Nat
  | .region _ ops _, _, out => ops.toList.foldr (liveOp ops) out
  | .seq a b, env, out => liveC ret a env (liveC ret b env out)
  | .cond c a b, env, out => uni (rdO c) (uni (liveC ret a env out) (liveC ret b env out))
  | .block id a, env, out => liveC ret a ((id, out) :: env) out
  | .scope a, env, out => liveC ret a env out
  | .exit id, env, _ => match env.find? (fun p => p.1 == id) with
    | some p => p.2
    | none => []
  | .loop b, env, _ => liveC ret b env (liveC ret b env (liveC ret b env []))
  | .ret, _, _ => ret
  | _, _, out => out
/-- The slots that are asked for at the head of each loop (and behind each way out of it). -/
def liveL (ret : List Nat) : Code → List (Nat × List Nat) → List Nat → List (List Nat × List (Nat × List Nat))
  | .seq a b, env, out => liveL ret a env (liveC ret b env out) ++ liveL ret b env out
  | .cond _ a b, env, out => liveL ret a env out ++ liveL ret b env out
  | .block id a, env, out => liveL ret a ((id, out) :: env) out
  | .scope a, env, out => liveL ret a env out
  | .loop b, env, _ => [(liveC ret (.loop b) env [], env)]
  | _, _, _ => []
def retOf (fn : Func) : List Nat := fn.results.toList.map fun
  | .tmp t => t
  | .cell t _ => t
def maskOf (n : Nat) (l : List Nat) : List Bool := (List.range n).map fun i => l.contains i
/-- .. of a function's n-th loop: at its head, and behind it. -/
def headK (fn : Func) (n : Nat) : List Bool := maskOf fn.ntmps (((liveL (retOf fn) (fn.body.getD .skip) [] [])[n]?).getD ([], [])).1
def exitK (fn : Func) (n : Nat) (e : Ex) : List Bool := maskOf fn.ntmps (match e with
  | .exit id => match ((((liveL (retOf fn) (fn.body.getD .skip) [] [])[n]?).getD ([], [])).2.find? fun p => p.1 == id) with
    | some p => p.2
    | none => []
  | _ => retOf fn)
end Go.Sx

namespace Go.Sx
open Go.RowKit

/-! Loops that make blocks of their own in each round: at the head only the first blocks are kept. -/
def okB (n : Nat) : SV → Bool
  | .ptr l _ => Nat.ble (l + 1) n
  | .clo _ l _ => Nat.ble (l + 1) n
  | .el l _ _ _ => Nat.ble (l + 1) n
  | _ => true
def cutM (n : Nat) (m : Mem) : Mem := ⟨m.blk.take n, m.live.take n, m.rows⟩
def viewB (n : Nat) (keep : List Bool) (st : St) : Option (List SV × Mem) :=
  match viewK keep st with
  | some (vals, m) => match vals.all (okB n) && (m.blk.take n).all (fun cs => cs.all (okB n)) with
    | true => some (vals, cutM n m)
    | false => none
  | none => none
def cutB (n : Nat) (keep : List Bool) (st : St) : St :=
  match viewB n keep st with
  | some (vals, m) => mk keep vals m
  | none => cutG keep st

def viaB (n : Nat) (keep : List Bool) (G : List SV → Mem → Option (Bool × Ex × St)) (st : St) : Option (Bool × Ex × St) :=
  match viewB n keep st with
  | some (vals, m) => G vals m
  | none => none

theorem fillB_mem : ∀ (keep : List Bool) (l : List SV) (x : SV), x ∈ fillB keep l → x = .poison ∨ x ∈ l
  | [], l, x, h => by cases l <;> simp [fillB] at h
  | true :: k, [], x, h => by simp [fillB] at h
  | true :: k, y :: l, x, h => by
    simp only [fillB, List.mem_cons] at h
    rcases h with rfl | h
    · exact .inr (by simp)
    · exact (fillB_mem k l x h).imp id (List.mem_cons_of_mem _)
  | false :: k, l, x, h => by
    have h : x = .poison ∨ x ∈ fillB k l := by cases l <;> simpa [fillB] using h
    rcases h with h | h
    · exact .inl h
    · exact fillB_mem k l x h

section
variable {Γ : Orc} {P : Program} {w0 : Base}

theorem Rel.cutM {st : St} {V : Vl} {a : Act} {w : World} (h : Rel w0 st V a w) (n : Nat) (hn : w0.L.length ≤ n) (ht : ∀ (t : Nat) x, st.tmps.get t = some x → okB n x = true) (hb : ∀ cs ∈ st.mem.blk.take n, ∀ x ∈ cs, okB n x = true) :
    Rel w0 ⟨st.tmps, Go.Sx.cutM n st.mem⟩ ⟨fun l => if l < n then V.b l else none, V.r⟩ a w := by
  have vb : ∀ l q, (if l < n then V.b l else none) = some q → l < n ∧ V.b l = some q := by
    intro l q h
    split at h
    · exact ⟨by assumption, h⟩
    · cases h
  have den : ∀ x y, okB n x = true → Den V x y → Den ⟨fun l => if l < n then V.b l else none, V.r⟩ x y := by
    intro x y hx hd
    cases x with
    | ptr l off =>
      have hl : l < n := Nat.le_of_ble_eq_true hx
      obtain ⟨b, o, h1, h2⟩ := hd
      exact ⟨b, o, by simp only [hl, if_true]; exact h1, h2⟩
    | clo f l off =>
      have hl : l < n := Nat.le_of_ble_eq_true hx
      obtain ⟨b, o, h1, h2⟩ := hd
      exact ⟨b, o, by simp only [hl, if_true]; exact h1, h2⟩
    | el l off m i =>
      have hl : l < n := Nat.le_of_ble_eq_true hx
      obtain ⟨b, o, h1, h2⟩ := hd
      exact ⟨b, o, by simp only [hl, if_true]; exact h1, h2⟩
    | _ => exact hd
  refine ⟨h.len, fun t x hx y hy => den x y (ht t x hx) (h.tmps t x hx y hy), h.defers, ?_, ?_, ?_, ?_, ?_, ?_, h.rows, h.wides, h.rowsN, h.apart, ?_, h.below, h.froz⟩
  · intro l b o hv cs hcs j x hx
    obtain ⟨h1, h2⟩ := vb l _ hv
    have hcs' : st.mem.blk[l]? = some cs := by
      have : (st.mem.blk.take n)[l]? = some cs := hcs
      rwa [List.getElem?_take_of_lt h1] at this
    obtain ⟨y, g1, g2, g3⟩ := h.mem l b o h2 cs hcs' j x hx
    exact ⟨y, g1, den x y (hb cs (List.mem_of_getElem? hcs) x (List.mem_of_getElem? hx)) g2, g3⟩
  · intro l l' b o b' o' h1 h2 hne
    exact h.inj l l' b o b' o' (vb _ _ h1).2 (vb _ _ h2).2 hne
  · intro l b o h1
    exact h.own l b o (vb _ _ h1).2
  · intro l q hq
    have hl : l < n := by
      rcases Nat.lt_or_ge l w0.L.length with h' | h'
      · omega
      · rw [List.getElem?_eq_none h'] at hq; cases hq
    show (if l < n then V.b l else none) = some q
    rw [if_pos hl]; exact h.lent l q hq
  · intro l b o h1 h2
    exact h.base0 l b o (vb _ _ h1).2 h2
  · intro l hv
    have hl : l < n := by
      rcases Nat.lt_or_ge l n with h' | h'
      · exact h'
      · exact absurd (if_neg (by omega)) hv
    have h2 : V.b l ≠ none := by
      intro e; apply hv; show (if l < n then V.b l else none) = none; rw [if_pos hl]; exact e
    show (st.mem.live.take n)[l]? = some true
    rw [List.getElem?_take_of_lt hl]
    exact h.dom l h2
  · intro r rc u g l b o h1 h2 h3 h4 h5
    exact h.apartb r rc u g l b o h1 h2 h3 h4 (vb _ _ h5).2

theorem viewB_some {n : Nat} {keep : List Bool} {st : St} {vals : List SV} {m : Mem} (h : viewB n keep st = some (vals, m)) : ∃ m0, cutG keep st = mk keep vals m0 ∧ m = cutM n m0 ∧ (∀ x ∈ vals, okB n x = true) ∧ ∀ cs ∈ m0.blk.take n, ∀ x ∈ cs, okB n x = true := by
  unfold viewB at h
  split at h
  · rename_i vals' m0 hv
    split at h
    · rename_i hc
      injection h with h
      injection h with h1 h2
      subst h1 h2
      simp only [Bool.and_eq_true, List.all_eq_true] at hc
      exact ⟨m0, viewK_some hv, rfl, hc.1, hc.2⟩
    · cases h
  · cases h

theorem cutB_rel {n : Nat} (hn : w0.L.length ≤ n) {keep : List Bool} {st : St} {a : Act} {w : World} (h : RelP P { a := [], r := [] } w0 st a w) : RelP P { a := [], r := [] } w0 (cutB n keep st) a w := by
  have hg := cutG_rel (keep := keep) h
  unfold cutB
  split
  · rename_i vals m hv
    obtain ⟨m0, h1, rfl, h2, h3⟩ := viewB_some hv
    rw [h1] at hg
    obtain ⟨V, hR, _⟩ := hg
    refine ⟨_, hR.cutM n hn ?_ h3, fun _ _ _ hm => by cases hm⟩
    intro t x hx
    simp only [mk, Tr.get_ofList] at hx
    rcases fillB_mem keep vals x (List.mem_of_getElem? hx) with rfl | h'
    · rfl
    · exact h2 x h'
  · exact hg

theorem loop_okB (hΓ : Γ.Ok P) (hm : P.follows .mixedOrders = true) {Λ Λ' : LoopOrc} {body : Code} (n : Nat) (hn : w0.L.length ≤ n) {keep : List Bool} {kx : Ex → List Bool} (hL : ∀ b ∈ loopsOf body, LoopOk Λ P w0 b) {G : List SV → Mem → Option (Bool × Ex × St)} (hF : ∀ st, Λ' body st = viaB n keep G st)
    (h : ∀ vals m e st', G vals m = some (true, e, st') → ∃ k, evLoop (R := Ex × St) Γ P Λ (cutB n keep) body k (mk keep vals m) (fun e st => some (e, cutB n (kx e) st)) = some (e, st')) : LoopOk Λ' P w0 body := by
  intro st e st' hs a w hR
  rw [hF] at hs
  unfold viaB at hs
  split at hs
  · rename_i vals m hv
    obtain ⟨k, hk⟩ := h vals m e st' hs
    have hc := cutB_rel (P := P) hn (keep := keep) hR
    unfold cutB at hc
    rw [hv] at hc
    refine wp_loop_rounds k (evLoop_sound hΓ hm hL (fun _ _ _ h => cutB_rel hn h) (r := (e, st')) ?_ k _ a w hk hc)
    intro e1 st1 _ hk a' w' hR'
    injection hk with hk
    injection hk with h1 h2
    subst h1 h2
    exact ⟨rfl, cutB_rel hn hR'⟩
  · cases hs
end
end Go.Sx

namespace Go.Sx
open Go.RowKit

section
variable {P : Program} {w : World}

theorem run_aload {k : IntKind} {n : Int} {a : Addr} (h : w.cell? a = some (.int k n)) : (Extern.Atomic.loadT (.int k) #[.pointer (some a)]).run P w = .ok (.int k n) w := by
  rw [show Extern.Atomic.loadT (.int k) #[.pointer (some a)] = (do Extern.Atomic.read (.int k) (← asAddr (.pointer (some a)))) from rfl]
  simp [Extern.Atomic.read, asAddr, load, Sem.run, h, bind, Sem.bind, pure]

theorem run_astore {k : IntKind} {n : Int} {a : Addr} {u : Value} (h : w.cell? a = some u) (hf : w.frozen? a = false) : (Extern.Atomic.storeT #[.pointer (some a), .int k n]).run P w = .ok (.tuple #[]) (w.setCell a (.int k n)) := by
  rw [show Extern.Atomic.storeT #[.pointer (some a), .int k n] = (do store (← asAddr (.pointer (some a))) (.int k n) .atomic; pure Extern.Atomic.none_) from rfl]
  simp [asAddr, store, Sem.run, h, hf, bind, Sem.bind, pure, Extern.Atomic.none_]

theorem shape_of_cell {a : Addr} {u : Value} (h : w.cell? a = some u) : ∃ x, w.shape? a.block = some x := by
  unfold World.cell? at h
  unfold World.shape?
  split at h
  · rename_i c e f hc
    exact ⟨(e, c.size), rfl⟩
  · cases h

theorem setCell_self_int {a : Addr} {u : Value} (h : w.cell? a = some u) : ∃ w', w' = w.setCell a u ∧ ∀ p, w'.cell? p = w.cell? p := ⟨_, rfl, fun p => by
  by_cases e : a = p
  · subst e; rw [World.cell?_setCell_same _ _ _ h, h]
  · rw [World.cell?_setCell_other _ _ _ _ e]⟩

theorem run_acas {k : IntKind} {n old new : Int} {a : Addr} (h : w.cell? a = some (.int k n)) (hf : w.frozen? a = false) : (Extern.Atomic.casT (.int k) #[.pointer (some a), .int k old, .int k new]).run P w = .ok (.bool (n == old)) (bif n == old then w.setCell a (.int k new) else w) := by
  obtain ⟨x, hx⟩ := shape_of_cell h
  rw [show Extern.Atomic.casT (.int k) #[.pointer (some a), .int k old, .int k new] = (do
    let a ← asAddr (.pointer (some a))
    if ← Extern.Atomic.touchesFrozen a then unsupported (.unsafePointer "a write to bytes that a string shares")
    let eq ← match Extern.Atomic.T.int k, ← Extern.Atomic.read (.int k) a, Value.int k old with
      | _, .int _ x, .int _ y => pure (x == y)
      | .ptr, .pointer x, .pointer y => samePointer x y
      | .int _, .pointer (some _), .int _ 0 | .int _, .int _ 0, .pointer (some _) => pure false
      | .int _, .pointer (some _), _ | .int _, _, .pointer (some _) => unsupported .addressObserved
      | _, _, _ => stuck "atomic.CompareAndSwap: old is no T"
    if eq then store a (.int k new) .atomic
    pure (.bool eq)) from rfl]
  by_cases hn : n = old
  · have hb : (n == old) = true := by simpa using hn
    rw [hb]
    simp [Extern.Atomic.read, Extern.Atomic.touchesFrozen, viewAt, asAddr, load, store, shape, frozen, Sem.run, h, hf, hx, hn, bind, Sem.bind, pure]
  · have hb : (n == old) = false := by simpa using hn
    rw [hb]
    simp [Extern.Atomic.read, Extern.Atomic.touchesFrozen, viewAt, asAddr, load, store, shape, frozen, Sem.run, h, hf, hx, hn, bind, Sem.bind, pure]
end

theorem argsE_nil {K : Nat → Prop} {w : World} {us : List Value} {bs : List (Nat × Nat)} (h : ArgsE K w [] us bs) : us = [] ∧ bs = [] := by
  cases us <;> cases bs <;> first | exact ⟨rfl, rfl⟩ | exact h.elim
theorem argsE_v {K : Nat → Prop} {w : World} {x : Value} {r : List Arg} {us : List Value} {bs : List (Nat × Nat)} (h : ArgsE K w (.v x :: r) us bs) : ∃ us', us = x :: us' ∧ ArgsE K w r us' bs := by
  cases us with
  | nil => exact h.elim
  | cons u us => exact ⟨us, by rw [h.1], h.2⟩
theorem argsE_ptr {K : Nat → Prop} {w : World} {cs : List Value} {off : Nat} {r : List Arg} {us : List Value} {bs : List (Nat × Nat)} (h : ArgsE K w (.ptr cs off :: r) us bs) :
    ∃ b o us' bs', us = .pointer (some ⟨b, o + off, none⟩) :: us' ∧ bs = (b, o) :: bs' ∧ (∀ (j : Nat) x, cs[j]? = some x → w.cell? ⟨b, o + j, none⟩ = some x ∧ w.frozen? ⟨b, o + j, none⟩ = false) ∧ ArgsE K w r us' bs' := by
  cases us with
  | nil => exact h.elim
  | cons u us =>
    cases bs with
    | nil => exact h.elim
    | cons q bs => exact ⟨q.1, q.2, us, bs, by rw [h.1], rfl, h.2.2.1, h.2.2.2⟩

/-- What is lent, but for one cell, stays. -/
theorem still_setCell {w : World} {b o off : Nat} {u : Value} : (Base.mk w [(b, o)]).Still (w.setCell ⟨b, off, none⟩ u) :=
  ⟨rfl, rfl, rfl, by simp [Base.B], fun k hk => Below.heap_setCell _ _ _ _ (fun e => hk.2 o (by rw [e]; simp))⟩

/-- The atomic reads and writes of a cell that is lent. -/
def atomicE (ld st cas : FuncId) (k : IntKind) : FuncId → List Arg → Option (Bool × Res × List (List Value)) := fun f args =>
  match args with
  | [.ptr cs off] => if f = ld then (match cs[off]? with
    | some (.int k' n) => if k' = k then some (true, .v (.int k n), [cs]) else none
    | _ => none) else none
  | [.ptr cs off, .v (.int k'' x)] => if f = st then (match cs[off]? with
    | some (.int k' _) => if k' = k ∧ k'' = k then some (true, .v (.tuple #[]), [cs.set off (.int k x)]) else none
    | _ => none) else none
  | [.ptr cs off, .v (.int k1 old), .v (.int k2 new)] => if f = cas then (match cs[off]? with
    | some (.int k' n) => if k' = k ∧ k1 = k ∧ k2 = k then some (true, .v (.bool (n == old)), [cs.set off (.int k (bif n == old then new else n))]) else none
    | _ => none) else none
  | _ => none

structure Ext (P : Program) (f : FuncId) (e : Array Value → Sem Value) : Prop where
  run : ∀ args w, (callFunc f args).run P w = ((e args).run P w).andThen fun v w' => .ok (.value v) w'

theorem outs_set {w w' : World} {b o off : Nat} {cs : List Value} {u v : Value} (h0 : cs[off]? = some v) (hc : ∀ (j : Nat) x, cs[j]? = some x → w.cell? ⟨b, o + j, none⟩ = some x ∧ w.frozen? ⟨b, o + j, none⟩ = false) (hw : w' = w.setCell ⟨b, o + off, none⟩ u) : OutsOk w' [(b, o)] [cs.set off u] := by
  intro i b' o' cs' hb hcs j x hx
  cases i with
  | succ i => simp at hb
  | zero =>
    simp at hb hcs
    obtain ⟨rfl, rfl⟩ := hb
    subst hcs hw
    rw [List.getElem?_set] at hx
    split at hx
    · rename_i e
      subst e
      split at hx
      · injection hx with hx
        subst hx
        exact ⟨World.cell?_setCell_same _ _ _ (hc off v h0).1, by rw [World.frozen?_setCell]; exact (hc off v h0).2⟩
      · cases hx
    · rename_i e
      rw [World.cell?_setCell_other _ _ _ _ (fun h => by injection h with _ h; omega), World.frozen?_setCell]
      exact hc j x hx

theorem atomicE_ok {P : Program} {ld st cas : FuncId} {k : IntKind} (h1 : Ext P ld (Extern.Atomic.loadT (.int k))) (h2 : Ext P st Extern.Atomic.storeT) (h3 : Ext P cas (Extern.Atomic.casT (.int k))) (f : FuncId) (vs : List Arg) (r : Res) (outs : List (List Value))
    (h : atomicE ld st cas k f vs = some (true, r, outs)) : EffOk P f vs r outs := by
  intro w us bs hnd hA
  left
  unfold atomicE at h
  split at h
  · rename_i cs off
    split at h
    case isFalse => cases h
    rename_i hf
    subst hf
    split at h
    · rename_i k' n hc
      split at h
      · rename_i hk
        subst hk
        injection h with h
        injection h with _ h
        injection h with e1 e2
        subst e1 e2
        obtain ⟨b, o, us', bs', rfl, rfl, e3, hA1⟩ := argsE_ptr hA
        obtain ⟨rfl, rfl⟩ := argsE_nil hA1
        · skip
          refine ⟨.int k' n, w, ?_, rfl, Base.still_refl _ _, fun _ _ => rfl, ?_⟩
          · rw [h1.run]
            have := run_aload (P := P) (w := w) (k := k') (n := n) (a := ⟨b, o + off, none⟩) (e3 off _ hc).1
            show Result.andThen ((Extern.Atomic.loadT (.int k') #[.pointer (some ⟨b, o + off, none⟩)]).run P w) _ = _
            rw [this]; rfl
          · intro i b' o' cs' hb hcs j x hx
            cases i with
            | succ i => simp at hb
            | zero =>
              simp at hb hcs
              obtain ⟨rfl, rfl⟩ := hb
              subst hcs
              exact e3 j x hx
      · cases h
    · cases h
  · rename_i cs off k'' x
    split at h
    case isFalse => cases h
    rename_i hf
    subst hf
    split at h
    · rename_i k' n hc
      split at h
      · rename_i hk
        obtain ⟨rfl, rfl⟩ := hk
        injection h with h
        injection h with _ h
        injection h with e1 e2
        subst e1 e2
        obtain ⟨b, o, us', bs', rfl, rfl, e3, hA1⟩ := argsE_ptr hA
        obtain ⟨us2, rfl, hA2⟩ := argsE_v hA1
        obtain ⟨rfl, rfl⟩ := argsE_nil hA2
        · skip
          refine ⟨.tuple #[], w.setCell ⟨b, o + off, none⟩ (.int _ x), ?_, rfl, still_setCell, fun p _ => World.frozen?_setCell _ _ _ _, outs_set hc e3 rfl⟩
          rw [h2.run]
          have := run_astore (P := P) (w := w) (k := k'') (n := x) (a := ⟨b, o + off, none⟩) (e3 off _ hc).1 (e3 off _ hc).2
          show Result.andThen ((Extern.Atomic.storeT #[.pointer (some ⟨b, o + off, none⟩), .int k'' x]).run P w) _ = _
          rw [this]; rfl
      · cases h
    · cases h
  · rename_i cs off k1 old k2 new
    split at h
    case isFalse => cases h
    rename_i hf
    subst hf
    split at h
    · rename_i k' n hc
      split at h
      · rename_i hk
        obtain ⟨rfl, rfl, rfl⟩ := hk
        injection h with h
        injection h with _ h
        injection h with e1 e2
        subst e1 e2
        obtain ⟨b, o, us', bs', rfl, rfl, e3, hA1⟩ := argsE_ptr hA
        obtain ⟨us2, rfl, hA2⟩ := argsE_v hA1
        obtain ⟨us3, rfl, hA3⟩ := argsE_v hA2
        obtain ⟨rfl, rfl⟩ := argsE_nil hA3
        · skip
          have hrun := run_acas (P := P) (w := w) (k := k2) (n := n) (old := old) (new := new) (a := ⟨b, o + off, none⟩) (e3 off _ hc).1 (e3 off _ hc).2
          refine ⟨.bool (n == old), bif n == old then w.setCell ⟨b, o + off, none⟩ (.int k2 new) else w, ?_, rfl, ?_, fun p _ => ?_, ?_⟩
          · rw [h3.run]
            show Result.andThen ((Extern.Atomic.casT (.int k2) #[.pointer (some ⟨b, o + off, none⟩), .int k2 old, .int k2 new]).run P w) _ = _
            rw [hrun]; rfl
          · cases n == old
            · exact Base.still_refl _ _
            · exact still_setCell
          · cases n == old
            · rfl
            · exact World.frozen?_setCell _ _ _ _
          · cases hn : n == old
            · intro i b' o' cs' hb hcs j x hx
              cases i with
              | succ i => simp at hb
              | zero =>
                simp at hb hcs
                obtain ⟨rfl, rfl⟩ := hb
                subst hcs
                have : cs.set off (.int k2 n) = cs := by
                  apply List.ext_getElem?
                  intro i
                  rw [List.getElem?_set]
                  split
                  · rename_i e; subst e
                    split
                    · exact hc.symm
                    · rename_i hlt; rw [List.getElem?_eq_none (by omega)]
                  · rfl
                rw [this] at hx
                exact e3 j x hx
            · exact outs_set hc e3 rfl
      · cases h
    · cases h
  · cases h

/-- sync/atomic.AddT, LoadT of another kind. -/
def addE (ad : FuncId) (k : IntKind) : FuncId → List Arg → Option (Bool × Res × List (List Value)) := fun f args =>
  match Nat.beq f ad, args with
  | true, [.ptr cs off, .v (.int k' x)] => match cs[off]? with
    | some (.int k'' n) => if k' = k ∧ k'' = k then some (true, .v (.int k (wr true k (n + x))), [cs.set off (.int k (wr true k (n + x)))]) else none
    | _ => none
  | _, _ => none
def loadE (ld : FuncId) (k : IntKind) : FuncId → List Arg → Option (Bool × Value) := fun f args =>
  match Nat.beq f ld, args with
  | true, [.ptr cs off] => match cs[off]? with
    | some (.int k'' n) => if k'' = k then some (true, .int k n) else none
    | _ => none
  | _, _ => none

theorem addE_ok {P : Program} {ad : FuncId} {fn : Func} {k : IntKind} (hf : P.funcs[ad]? = some fn) (hname : (fn.name == "runtime.NumGoroutine") = false) (hb : fn.body.isNone = true) (hn : Extern.findNext fn = none)
    (he : Extern.find fn = some (Extern.Atomic.update (Op.intArith .add) k true)) : ∀ f args r outs, addE ad k f args = some (true, r, outs) → EffOk P f args r outs := by
  intro f args r outs h w vs bs hnd hA
  unfold addE at h
  split at h
  · rename_i cs off k' x hfe
    have hfe' : f = ad := Nat.eq_of_beq_eq_true hfe
    subst hfe'
    split at h
    · rename_i k'' n hc
      split at h
      · rename_i hk
        obtain ⟨rfl, rfl⟩ := hk
        injection h with h
        injection h with _ h
        injection h with e1 e2
        subst e1 e2
        obtain ⟨b, o, us', bs', rfl, rfl, e3, hA1⟩ := argsE_ptr hA
        obtain ⟨us2, rfl, hA2⟩ := argsE_v hA1
        obtain ⟨rfl, rfl⟩ := argsE_nil hA2
        have h1 := e3 off _ hc
        refine .inl ⟨_, _, run_call_add hf hname hb hn k'' he (s := wr true k'' (n + x)) h1.1 h1.2 (by rw [wr_eq]; rfl), rfl, still_setCell, fun p _ => World.frozen?_setCell _ _ _ _, outs_set hc e3 rfl⟩
      · cases h
    · cases h
  · cases h

theorem loadE_ok {P : Program} {ld : FuncId} {fn : Func} {k : IntKind} (hf : P.funcs[ld]? = some fn) (hname : (fn.name == "runtime.NumGoroutine") = false) (hb : fn.body.isNone = true) (hn : Extern.findNext fn = none)
    (he : Extern.find fn = some (Extern.Atomic.loadT (.int k))) : ∀ f args r, loadE ld k f args = some (true, r) → EffOk P f args (.v r) (ptrCells args) := by
  intro f args r h w vs bs hnd hA
  unfold loadE at h
  split at h
  · rename_i cs off hfe
    have hfe' : f = ld := Nat.eq_of_beq_eq_true hfe
    subst hfe'
    split at h
    · rename_i k'' n hc
      split at h
      · rename_i hk
        subst hk
        injection h with h
        injection h with _ h
        subst h
        obtain ⟨b, o, us', bs', rfl, rfl, e3, hA1⟩ := argsE_ptr hA
        obtain ⟨rfl, rfl⟩ := argsE_nil hA1
        have h1 := e3 off _ hc
        refine .inl ⟨_, _, run_call_load hf hname hb hn k'' he h1.1, rfl, Base.still_refl _ _, fun _ _ => rfl, ?_⟩
        intro i b' o' cs' hb hcs j x hx
        cases i with
        | succ i => simp at hb
        | zero =>
          simp [ptrCells] at hb hcs
          obtain ⟨rfl, rfl⟩ := hb
          subst hcs
          exact e3 j x hx
      · cases h
    · cases h
  · cases h
end Go.Sx

namespace Go.Sx
open Go.RowKit

section
variable {H : Type} {enc : TypeId × Value → H} {P : Program}

def szOk (P : Program) : Bool := (List.range P.types.size).all fun t => match P.underlying t with
  | some (.slice e) => Nat.blt 0 (P.cellsOf e)
  | _ => true

/-- What reads, and stays as it was, reads as it did. -/
theorem stayAll (hl : laidOutB P = true) (hm : mapsRowed P = true) (hz : szOk P = true) {W W' : World} {sp : Nat → Bool} : ∀ {ts : List TypeId} {vs : List Value} {ds : List (DataW H)} {p : List MemPlace}, (∀ t ∈ ts, t < P.types.size) →
    DataW.TrodAll enc P W 0 (fun _ => true) true ts vs ds p → (∀ q ∈ p, W.sameAt W' q) → (∀ q ∈ p, sp q.block = true) → DataW.TrodAll enc P W' 0 sp true ts vs ds p
  | [], [], [], p, _, h, _, _ => h
  | t :: ts, v :: vs, d :: ds, p, hT, h, hs, hb => by
    obtain ⟨q, r, ⟨n, h1⟩, h2, rfl⟩ := h
    have hz' : ∀ {t e : TypeId}, t < P.types.size → P.underlying t = some (.slice e) → 0 < P.cellsOf e := fun {t e} ht hu => by
      have := List.all_eq_true.1 hz t (List.mem_range.2 ht)
      rw [hu] at this
      exact Nat.lt_of_lt_of_le (by decide : 0 < 1) (Nat.le_of_ble_eq_true this)
    refine ⟨q, r, ⟨n, DataW.trod_stays (T := (· < P.types.size)) (kids_rows hl hm) hz' (fun h => by cases h) (hT t (by simp)) h1 (fun x hx => hs x (List.mem_append_left _ hx)) (fun x hx => hb x (List.mem_append_left _ hx))⟩, ?_, rfl⟩
    exact stayAll hl hm hz (fun t ht => hT t (List.mem_cons_of_mem _ ht)) h2 (fun x hx => hs x (List.mem_append_right _ hx)) (fun x hx => hb x (List.mem_append_right _ hx))
  | [], [], _ :: _, _, _, h, _, _ => h.elim
  | [], _ :: _, _, _, _, h, _, _ => h.elim
  | _ :: _, [], _, _, _, h, _, _ => h.elim
  | _ :: _, _ :: _, [], _, _, h, _, _ => h.elim

/-- A slice of numbers, opened. -/
theorem open_row {w : World} {b0 : Nat} {t e : TypeId} {k : IntKind} {v : Value} {d : DataW H} {ps : List MemPlace} (ht : P.underlying t = some (.slice e)) (he : P.underlying e = some (.int k)) (hc : P.cellsOf e = 1)
    (hv : Value.okWide P w .any b0 t v) (h : DataW.Trod enc P w 0 (fun _ => true) true t v d ps) :
    ∃ L, Reads (· < w.heap.size) w k L v ∧ (∀ n ∈ L, (Lit.int k n).wf = true) ∧ (L = [] ∨ ∃ elems spare, d = .slice elems spare ∧ L.length = elems.length) := by
  obtain ⟨fuel, h⟩ := h
  have hcs : v.cells.toList = [v] := by
    unfold Value.okWide at hv
    simp only [ht] at hv
    unfold Cell.okWide at hv
    simp only [ht] at hv
    cases v <;> first | rfl | (unfold Cell.ok at hv; simp only [ht] at hv)
  rw [hcs] at h
  rcases Go.ChangeShapes.open_ints ht he hc h with ⟨h1, h2⟩ | ⟨a, len, cap, zs, h1, _, h3, h4, h5, h6, h7, h8⟩
  · injection h1 with h1
    exact ⟨[], .inl ⟨h1, rfl⟩, by simp, .inl rfl⟩
  · injection h1 with h1
    subst h1
    have hsp : a.spot = none := by
      unfold Value.okWide at hv
      simp only [ht] at hv
      unfold Cell.okWide at hv
      simp only [ht] at hv
      unfold Cell.ok at hv
      simp only [ht] at hv
      exact hv.2.2.2.1
    obtain ⟨b, o, spot⟩ := a
    simp only at hsp
    subst hsp
    simp only [if_true] at h5
    have hlen : (zs.take len).length = len := by simp; omega
    have cell : ∀ (j : Nat) x, (zs.take len)[j]? = some x → w.cell? ⟨b, o + j, none⟩ = some (.int k x) := by
      intro j x hx
      have hj : j < len := by
        rcases Nat.lt_or_ge j len with h' | h'
        · exact h'
        · rw [List.getElem?_eq_none (by simp; omega)] at hx; cases hx
      have hz : zs[j]? = some x := by rwa [List.getElem?_take_of_lt hj] at hx
      have := h7 j (by omega)
      rw [add_place] at this
      rw [this]
      simp [List.getD, hz]
    refine ⟨zs.take len, .inr ⟨b, o, cap, by rw [hlen], fun hne => ?_, cell⟩, fun n hn => h8 n (List.mem_of_mem_take hn), .inr ⟨_, _, by injection h6 with h6 _, ?_⟩⟩
    · cases hz : zs.take len with
      | nil => exact absurd hz hne
      | cons x r => exact World.block_lt_of_cell? w ⟨b, o + 0, none⟩ (cell 0 x (by rw [hz]; rfl))
    · simp [Go.ChangeShapes.lits]

/-- As the kit's law, but marks are asked of old blocks alone. -/
theorem post_of_same2 {f : Func} {s : ChangeSpec} {apart fresh handsOn again : Bool} {W W' : World} {args : Array Value} {v : Value} {ds gs : List (DataW H)} {before pa pv : List MemPlace}
    (hW : DataW.Whole enc P f.params.toList s.vars apart W args.toList ds gs before)
    (hres : ∀ (b : Nat) (sp : Nat → Bool) (hd : Bool), DataW.TrodAll enc P W' b sp hd f.resultTypes.toList (v.resultList f.resultTypes.size) (s.fn H (ds ++ gs)).results [])
    (hargs : ∀ sp : Nat → Bool, (∀ p ∈ before, sp p.block = true) → DataW.TrodAll enc P W' 0 sp true f.params.toList args.toList (s.fn H (ds ++ gs)).args pa)
    (hvars : ∀ sp : Nat → Bool, (∀ p ∈ before, sp p.block = true) → DataW.TrodVars enc P W' sp s.vars (s.fn H (ds ++ gs)).vars pv)
    (hps : before = pa ++ pv) (hk : W.keptBut W' (· ∈ before)) (hfz : ∀ a, a.block < W.heap.size → W'.frozen? a = W.frozen? a)
    (hok : ∀ (j : Nat) (t : TypeId) (r : Value), f.resultTypes[j]? = some t → (v.resultList f.resultTypes.size)[j]? = some r → Value.okWide P W' .any 0 t r) :
    s.post enc P f apart fresh handsOn again W args v W' := by
  have hold : ∀ p ∈ before, (fun b => decide (b < W.heap.size)) p.block = true := fun p hp => by simpa using hW.lt p hp
  have hlt := hW.lt
  refine ⟨ds, gs, before, [], pa, pv, hW, hres _ _ _, hargs _ hold, hvars _ hold, World.keptBut_mono (fun p hp => ⟨hp, ?_⟩) hk, fun _ => ?_⟩
  · rw [hps, List.mem_append] at hp
    exact Or.inr hp
  · obtain ⟨_, _, _, _, _, hz, hn⟩ := hW
    refine ⟨hok, _, _, ([] ++ pa) ++ pv, ⟨[] ++ pa, pv, Go.ChangeShapes.trodAll_append (hargs _ (fun _ _ => rfl)) (hres _ _ _), hvars _ (fun _ _ => rfl), rfl, ?_, ?_⟩, ?_⟩
    · intro b off hp
      have hb := hlt _ (by rw [hps]; simpa using hp)
      rw [hfz _ hb]
      exact hz b off (by rw [hps]; simpa using hp)
    · intro ha
      have := hn ha
      rw [hps] at this
      simpa using this
    · intro p hp _
      rw [hps]
      simpa using hp
end
end Go.Sx

namespace Go.Sx
open Go.RowKit Go.Joins Go.Deep Go.ChangeShapes

section
variable {H : Type} {enc : TypeId × Value → H} {P : Program}

def pairOf (y : DataW H × List MemPlace) : List Dat := match y.1 with
  | .agg [.lit (.int _ a), .lit (.int _ b)] => [.n a, .n b]
  | _ => []

/-- A slice of structs of two numbers, opened. -/
theorem open_wide2 {w : World} {b0 : Nat} {t e : TypeId} {f0 f1 : Field} {k0 k1 : IntKind} {v : Value} {d : DataW H} {ps : List MemPlace} (ht : P.underlying t = some (.slice e)) (hs : P.underlying e = some (.struct #[f0, f1])) (hone : oneCellFields P #[f0, f1] = true) (h0 : P.underlying f0.type = some (.int k0)) (h1 : P.underlying f1.type = some (.int k1)) (hc : P.cellsOf e = 2)
    (hv : Value.okWide P w .any b0 t v) (h : DataW.Trod enc P w 0 (fun _ => true) true t v d ps) :
    ∃ L, ReadsW (· < w.heap.size) w [.num k0, .num k1] L v ∧ (∀ o ∈ L, ∃ a b, o = [.n a, .n b] ∧ (Lit.int k0 a).wf = true ∧ (Lit.int k1 b).wf = true) ∧ (L = [] ∨ ∃ elems spare, d = .slice elems spare ∧ L.length = elems.length) := by
  obtain ⟨fuel, h⟩ := h
  have hcs : v.cells.toList = [v] := by
    unfold Value.okWide at hv
    simp only [ht] at hv
    unfold Cell.okWide at hv
    simp only [ht] at hv
    cases v <;> first | rfl | (unfold Cell.ok at hv; simp only [ht] at hv)
  rw [hcs] at h
  rcases DataW.trod_slice ht h with ⟨h2, h3⟩ | ⟨a, len, cap, elems, rest, n, _, h2, h3, hb, hl, hm, hlen, hel, _, _⟩
  · injection h2 with h2
    exact ⟨[], .inl ⟨h2, rfl⟩, by simp, .inl rfl⟩
  · injection h2 with h2
    subst h2
    have hsp : a.spot = none := by
      unfold Value.okWide at hv
      simp only [ht] at hv
      unfold Cell.okWide at hv
      simp only [ht] at hv
      unfold Cell.ok at hv
      simp only [ht] at hv
      exact hv.2.2.2.1
    obtain ⟨b, o, spot⟩ := a
    simp only at hsp
    subst hsp
    obtain ⟨o0, c0⟩ := hone_of hone 0 f0 rfl
    obtain ⟨o1, c1⟩ := hone_of hone 1 f1 rfl
    have each : ∀ i y, elems[i]? = some y → ∃ p q, pairOf y = [.n p, .n q] ∧ (Lit.int k0 p).wf = true ∧ (Lit.int k1 q).wf = true ∧ w.cell? ⟨b, o + i * 2, none⟩ = some (.int k0 p) ∧ w.cell? ⟨b, o + i * 2 + 1, none⟩ = some (.int k1 q) := by
      intro i y hy
      have hi : i < len := by
        rcases Nat.lt_or_ge i len with h' | h'
        · exact h'
        · rw [List.getElem?_eq_none (by omega)] at hy; cases hy
      have hb' := (hel i hi).trans hy
      rw [hc, Option.bind_eq_some_iff] at hb'
      obtain ⟨cs, hcs, hy'⟩ := hb'
      obtain ⟨g1, g2, g3⟩ := World.cells?_some hcs
      obtain ⟨y0, y1, m, rfl, hn, q0, q1⟩ := trod_struct2 hs hy'
      have e0 := g3 0 (by omega)
      have e1 := g3 1 (by omega)
      rw [hc] at hn
      match cs, hn with
      | [z0, z1], _ =>
        rw [o0, c0] at q0
        rw [o1, c1] at q1
        simp only [List.drop_zero, List.drop_succ_cons, List.take_succ_cons, List.take_zero] at q0 q1
        obtain ⟨p, r1, rfl, r3⟩ := DataW.trod_int h0 q0
        obtain ⟨q, r4, rfl, r6⟩ := DataW.trod_int h1 q1
        simp at r1 r4
        subst r1 r4
        rw [add_place, add_place] at e0 e1
        exact ⟨p, q, rfl, r3, r6, by simpa using e0, by simpa using e1⟩
    have hL : (elems.map pairOf).length = len := by simp [hlen]
    have cell : ∀ (i j : Nat) l y, (elems.map pairOf)[i]? = some l → (mkEl [.num k0, .num k1] l)[j]? = some y → w.cell? ⟨b, o + (i * 2 + j), none⟩ = some y := by
      intro i j l y hl hy
      rw [List.getElem?_map, Option.map_eq_some_iff] at hl
      obtain ⟨z, hz, rfl⟩ := hl
      obtain ⟨p, q, e, _, _, g1, g2⟩ := each i z hz
      rw [e] at hy
      match j with
      | 0 => simp [mkEl, CK.cell, Dat.toI] at hy; subst hy; simpa using g1
      | 1 => simp [mkEl, CK.cell, Dat.toI] at hy; subst hy; simpa [Nat.add_assoc] using g2
      | j + 2 => simp [mkEl] at hy
    refine ⟨elems.map pairOf, .inr ⟨b, o, cap, by rw [hL], fun hne => ?_, cell⟩, fun l hl => ?_, .inr ⟨_, _, by injection h3 with h3 _, ?_⟩⟩
    · cases he : elems with
      | nil => rw [he] at hne; exact absurd rfl hne
      | cons z r =>
        obtain ⟨p, q, e, _, _, g1, _⟩ := each 0 z (by rw [he]; rfl)
        exact World.block_lt_of_cell? w _ g1
    · obtain ⟨z, hz, rfl⟩ := List.mem_map.1 hl
      obtain ⟨i, hi⟩ := List.getElem?_of_mem hz
      obtain ⟨p, q, e, g1, g2, _⟩ := each i z hi
      exact ⟨p, q, e, g1, g2⟩
    · simp

def textOf (y : DataW H × List MemPlace) : List Dat := match y.1 with
  | .lit (.string b) => [.s ⟨b.toArray⟩]
  | _ => []

/-- A slice of texts, opened. -/
theorem open_texts {w : World} {b0 : Nat} {t e : TypeId} {v : Value} {d : DataW H} {ps : List MemPlace} (ht : P.underlying t = some (.slice e)) (hs : P.underlying e = some .string) (hc : P.cellsOf e = 1)
    (hv : Value.okWide P w .any b0 t v) (h : DataW.Trod enc P w 0 (fun _ => true) true t v d ps) :
    ∃ L, ReadsW (· < w.heap.size) w [.str] L v ∧ (∀ o ∈ L, ∃ b, o = [.s b] ∧ b.size ≤ maxLen) ∧ (L = [] ∨ ∃ elems spare, d = .slice elems spare ∧ L.length = elems.length) := by
  obtain ⟨fuel, h⟩ := h
  have hcs : v.cells.toList = [v] := by
    unfold Value.okWide at hv
    simp only [ht] at hv
    unfold Cell.okWide at hv
    simp only [ht] at hv
    cases v <;> first | rfl | (unfold Cell.ok at hv; simp only [ht] at hv)
  rw [hcs] at h
  rcases DataW.trod_slice ht h with ⟨h2, h3⟩ | ⟨a, len, cap, elems, rest, n, _, h2, h3, hb, hl, hm, hlen, hel, _, _⟩
  · injection h2 with h2
    exact ⟨[], .inl ⟨h2, rfl⟩, by simp, .inl rfl⟩
  · injection h2 with h2
    subst h2
    have hsp : a.spot = none := by
      unfold Value.okWide at hv
      simp only [ht] at hv
      unfold Cell.okWide at hv
      simp only [ht] at hv
      unfold Cell.ok at hv
      simp only [ht] at hv
      exact hv.2.2.2.1
    obtain ⟨b, o, spot⟩ := a
    simp only at hsp
    subst hsp
    have each : ∀ i y, elems[i]? = some y → ∃ p : ByteArray, textOf y = [.s p] ∧ p.size ≤ maxLen ∧ w.cell? ⟨b, o + i * 1, none⟩ = some (.string p) := by
      intro i y hy
      have hi : i < len := by
        rcases Nat.lt_or_ge i len with h' | h'
        · exact h'
        · rw [List.getElem?_eq_none (by omega)] at hy; cases hy
      have hb' := (hel i hi).trans hy
      rw [hc, Option.bind_eq_some_iff] at hb'
      obtain ⟨cs, hcs, hy'⟩ := hb'
      obtain ⟨g1, g2, g3⟩ := World.cells?_some hcs
      have e0 := g3 0 (by omega)
      match cs, g1 with
      | [z0], _ =>
        obtain ⟨p, r1, rfl, r2⟩ := DataW.trod_string hs hy'
        simp at r1
        subst r1
        rw [add_place] at e0
        exact ⟨p, by cases p; simp [textOf], r2, by rw [add_place] at e0; simpa using e0⟩
    have hL : (elems.map textOf).length = len := by simp [hlen]
    have cell : ∀ (i j : Nat) l y, (elems.map textOf)[i]? = some l → (mkEl [.str] l)[j]? = some y → w.cell? ⟨b, o + (i * 1 + j), none⟩ = some y := by
      intro i j l y hl hy
      rw [List.getElem?_map, Option.map_eq_some_iff] at hl
      obtain ⟨z, hz, rfl⟩ := hl
      obtain ⟨p, e, _, g1⟩ := each i z hz
      rw [e] at hy
      match j with
      | 0 => simp [mkEl, CK.cell, Dat.toS] at hy; subst hy; simpa using g1
      | j + 1 => simp [mkEl] at hy
    refine ⟨elems.map textOf, .inr ⟨b, o, cap, by rw [hL], fun hne => ?_, cell⟩, fun l hl => ?_, .inr ⟨_, _, by injection h3 with h3 _, ?_⟩⟩
    · cases he : elems with
      | nil => rw [he] at hne; exact absurd rfl hne
      | cons z r =>
        obtain ⟨p, e, _, g1⟩ := each 0 z (by rw [he]; rfl)
        exact World.block_lt_of_cell? w _ g1
    · obtain ⟨z, hz, rfl⟩ := List.mem_map.1 hl
      obtain ⟨i, hi⟩ := List.getElem?_of_mem hz
      obtain ⟨p, e, g2, g1⟩ := each i z hi
      exact ⟨p, e, g2⟩
    · simp
end
end Go.Sx

