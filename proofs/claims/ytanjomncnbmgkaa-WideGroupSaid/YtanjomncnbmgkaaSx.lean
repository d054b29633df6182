/-
  An executor of the model's code over values in part unknown, and its soundness: what it comes to, the call comes to, in whatever order; all that was there stays as it was. No condition.
-/
import Derived.Still
import Derived.Below
import Derived.KernelRfl
import Derived.LoopN
import Derived.Scope
namespace Go.Sx
open Go.RowKit

/-- A symbolic value: a value as it is; a pointer into a block that the call itself made; a value that nobody knows. -/
inductive SV where
  | v (x : Value)
  | ptr (l off : Nat)
  | poison

/-- A row of values, so kept that each is met, and put, in few steps: the first one, those at odd places, those at even ones. -/
inductive Tr where
  | lf
  | nd (l : Tr) (x : SV) (r : Tr)

def Tr.get : Tr → Nat → Option SV
  | .lf, _ => none
  | .nd l x r, n => match n with
    | 0 => some x
    | n + 1 => match Nat.beq (n % 2) 0 with
      | true => l.get (n / 2)
      | false => r.get (n / 2)

def Tr.set : Tr → Nat → SV → Tr
  | .lf, _, _ => .lf
  | .nd l x r, n, y => match n with
    | 0 => .nd l y r
    | n + 1 => match Nat.beq (n % 2) 0 with
      | true => .nd (l.set (n / 2) y) x r
      | false => .nd l x (r.set (n / 2) y)

def Tr.cons (x : SV) : Tr → Tr
  | .lf => .nd .lf x .lf
  | .nd l y r => .nd (r.cons y) x l

def Tr.ofList : List SV → Tr
  | [] => .lf
  | x :: l => (Tr.ofList l).cons x

theorem Tr.get_nd_odd (l r : Tr) (x : SV) (k : Nat) : (Tr.nd l x r).get (2 * k + 1) = l.get k := by
  have h1 : Nat.beq (2 * k % 2) 0 = true := by rw [show 2 * k % 2 = 0 by omega]; rfl
  have h2 : 2 * k / 2 = k := by omega
  simp only [Tr.get, h1, h2]

theorem Tr.get_nd_even (l r : Tr) (x : SV) (k : Nat) : (Tr.nd l x r).get (2 * k + 2) = r.get k := by
  have h1 : Nat.beq ((2 * k + 1) % 2) 0 = false := by rw [show (2 * k + 1) % 2 = 1 by omega]; rfl
  have h2 : (2 * k + 1) / 2 = k := by omega
  simp only [Tr.get, h1, h2]

theorem Tr.get_cons_zero (x : SV) (t : Tr) : (t.cons x).get 0 = some x := by cases t <;> rfl

theorem Tr.get_cons_succ : ∀ (t : Tr) (x : SV) (n : Nat), (t.cons x).get (n + 1) = t.get n
  | .lf, x, n => by
    rcases Nat.mod_two_eq_zero_or_one n with h | h
    · obtain ⟨k, rfl⟩ : ∃ k, n = 2 * k := ⟨n / 2, by omega⟩
      rw [Tr.cons, Tr.get_nd_odd]; rfl
    · obtain ⟨k, rfl⟩ : ∃ k, n = 2 * k + 1 := ⟨n / 2, by omega⟩
      rw [Tr.cons, Tr.get_nd_even]; rfl
  | .nd l y r, x, n => by
    rcases Nat.mod_two_eq_zero_or_one n with h | h
    · obtain ⟨k, rfl⟩ : ∃ k, n = 2 * k := ⟨n / 2, by omega⟩
      rw [Tr.cons, Tr.get_nd_odd]
      cases k with
      | zero => exact Tr.get_cons_zero _ _
      | succ k => rw [Tr.get_cons_succ r y k, show 2 * (k + 1) = 2 * k + 2 by omega, Tr.get_nd_even]
    · obtain ⟨k, rfl⟩ : ∃ k, n = 2 * k + 1 := ⟨n / 2, by omega⟩
      rw [Tr.cons, Tr.get_nd_even, Tr.get_nd_odd]

theorem Tr.get_ofList : ∀ (l : List SV) (n : Nat), (Tr.ofList l).get n = l[n]?
  | [], n => by simp [Tr.ofList, Tr.get]
  | x :: l, 0 => by simp [Tr.ofList, Tr.get_cons_zero]
  | x :: l, n + 1 => by simp [Tr.ofList, Tr.get_cons_succ, Tr.get_ofList l n]

theorem Tr.set_nd_odd (l r : Tr) (x y : SV) (k : Nat) : (Tr.nd l x r).set (2 * k + 1) y = .nd (l.set k y) x r := by
  have h1 : Nat.beq (2 * k % 2) 0 = true := by rw [show 2 * k % 2 = 0 by omega]; rfl
  have h2 : 2 * k / 2 = k := by omega
  simp only [Tr.set, h1, h2]

theorem Tr.set_nd_even (l r : Tr) (x y : SV) (k : Nat) : (Tr.nd l x r).set (2 * k + 2) y = .nd l x (r.set k y) := by
  have h1 : Nat.beq ((2 * k + 1) % 2) 0 = false := by rw [show (2 * k + 1) % 2 = 1 by omega]; rfl
  have h2 : (2 * k + 1) / 2 = k := by omega
  simp only [Tr.set, h1, h2]

theorem nat_cases3 (n : Nat) : n = 0 ∨ (∃ k, n = 2 * k + 1) ∨ (∃ k, n = 2 * k + 2) := by
  rcases Nat.mod_two_eq_zero_or_one n with h | h
  · rcases Nat.eq_zero_or_pos n with h0 | h0
    · exact .inl h0
    · exact .inr (.inr ⟨n / 2 - 1, by omega⟩)
  · exact .inr (.inl ⟨n / 2, by omega⟩)

theorem Tr.get_set_ne : ∀ (t : Tr) (d e : Nat) (y : SV), d ≠ e → (t.set d y).get e = t.get e
  | .lf, d, e, y, _ => rfl
  | .nd l x r, d, e, y, h => by
    rcases nat_cases3 d with rfl | ⟨k, rfl⟩ | ⟨k, rfl⟩ <;> rcases nat_cases3 e with rfl | ⟨j, rfl⟩ | ⟨j, rfl⟩
    · exact absurd rfl h
    · show (Tr.nd l y r).get _ = _; rw [Tr.get_nd_odd, Tr.get_nd_odd]
    · show (Tr.nd l y r).get _ = _; rw [Tr.get_nd_even, Tr.get_nd_even]
    · rw [Tr.set_nd_odd]; rfl
    · rw [Tr.set_nd_odd, Tr.get_nd_odd, Tr.get_nd_odd]; exact Tr.get_set_ne l k j y (by omega)
    · rw [Tr.set_nd_odd, Tr.get_nd_even, Tr.get_nd_even]
    · rw [Tr.set_nd_even]; rfl
    · rw [Tr.set_nd_even, Tr.get_nd_odd, Tr.get_nd_odd]
    · rw [Tr.set_nd_even, Tr.get_nd_even, Tr.get_nd_even]; exact Tr.get_set_ne r k j y (by omega)

theorem Tr.get_set_self : ∀ (t : Tr) (d : Nat) (y : SV), (t.set d y).get d = (t.get d).map fun _ => y
  | .lf, d, y => rfl
  | .nd l x r, d, y => by
    rcases nat_cases3 d with rfl | ⟨k, rfl⟩ | ⟨k, rfl⟩
    · rfl
    · rw [Tr.set_nd_odd, Tr.get_nd_odd, Tr.get_nd_odd]; exact Tr.get_set_self l k y
    · rw [Tr.set_nd_even, Tr.get_nd_even, Tr.get_nd_even]; exact Tr.get_set_self r k y

theorem Tr.set_self : ∀ (t : Tr) (d : Nat) (y : SV), t.get d = some y → t.set d y = t
  | .lf, d, y, _ => rfl
  | .nd l x r, d, y, h => by
    rcases nat_cases3 d with rfl | ⟨k, rfl⟩ | ⟨k, rfl⟩
    · injection h with h; subst h; rfl
    · rw [Tr.get_nd_odd] at h; rw [Tr.set_nd_odd, Tr.set_self l k y h]
    · rw [Tr.get_nd_even] at h; rw [Tr.set_nd_even, Tr.set_self r k y h]

theorem Tr.set_comm : ∀ (t : Tr) (d e : Nat) (x y : SV), d ≠ e → (t.set d x).set e y = (t.set e y).set d x
  | .lf, d, e, x, y, _ => rfl
  | .nd l z r, d, e, x, y, h => by
    rcases nat_cases3 d with rfl | ⟨k, rfl⟩ | ⟨k, rfl⟩ <;> rcases nat_cases3 e with rfl | ⟨j, rfl⟩ | ⟨j, rfl⟩
    · exact absurd rfl h
    · show (Tr.nd l x r).set _ _ = _; rw [Tr.set_nd_odd, Tr.set_nd_odd]; rfl
    · show (Tr.nd l x r).set _ _ = _; rw [Tr.set_nd_even, Tr.set_nd_even]; rfl
    · rw [Tr.set_nd_odd]; show Tr.nd _ _ _ = (Tr.nd l y r).set _ _; rw [Tr.set_nd_odd]
    · rw [Tr.set_nd_odd, Tr.set_nd_odd, Tr.set_nd_odd, Tr.set_nd_odd, Tr.set_comm l k j x y (by omega)]
    · rw [Tr.set_nd_odd, Tr.set_nd_even, Tr.set_nd_even, Tr.set_nd_odd]
    · rw [Tr.set_nd_even]; show Tr.nd _ _ _ = (Tr.nd l y r).set _ _; rw [Tr.set_nd_even]
    · rw [Tr.set_nd_even, Tr.set_nd_odd, Tr.set_nd_odd, Tr.set_nd_even]
    · rw [Tr.set_nd_even, Tr.set_nd_even, Tr.set_nd_even, Tr.set_nd_even, Tr.set_comm r k j x y (by omega)]

structure Mem where
  blk : List (List SV)
  live : List Bool

structure St where
  tmps : Tr
  mem : Mem

def St.eval (st : St) : Operand → Option SV
  | .tmp t => st.tmps.get t
  | .const x => some (.v x)
  | .global g => some (.v (.pointer (some ⟨g, 0, none⟩)))
  | .func f => some (.v (.func (.func f) #[] #[]))

def St.put (st : St) (d : Option Tmp) (x : SV) : St :=
  match d with
  | none => st
  | some d => { st with tmps := st.tmps.set d x }

def asV : Option SV → Option Value
  | some (.v y) => some y
  | _ => none

def isV (s : Option SV) : Bool :=
  match s with
  | some (.v _) => true
  | _ => false

def vOr (s : Option SV) : Value :=
  match s with
  | some (.v y) => y
  | _ => undef

/-- A computation that only asks for the program. -/
def pev {α : Type} (P : Program) : Sem α → Option α
  | .pure a => some a
  | .program k => pev P (k P)
  | .mark _ k => pev P k
  | _ => none

theorem pev_run {α : Type} {P : Program} : ∀ (s : Sem α) (a : α), pev P s = some a → ∀ w, s.run P w = .ok a w
  | .pure b, a, h, w => by simp [pev] at h; subst h; rfl
  | .program k, a, h, w => by simp only [pev] at h; simp only [Sem.run]; exact pev_run (k P) a h w
  | .mark _ k, a, h, w => by simp only [pev] at h; simp only [Sem.run]; exact pev_run k a h w
  | .load .., a, h, w => by simp [pev] at h
  | .store .., a, h, w => by simp [pev] at h
  | .new .., a, h, w => by simp [pev] at h
  | .shape .., a, h, w => by simp [pev] at h
  | .freeze .., a, h, w => by simp [pev] at h
  | .frozen .., a, h, w => by simp [pev] at h
  | .getObj .., a, h, w => by simp [pev] at h
  | .setObj .., a, h, w => by simp [pev] at h
  | .choose .., a, h, w => by simp [pev] at h
  | .sys .., a, h, w => by simp [pev] at h
  | .halt .., a, h, w => by simp [pev] at h

def aggT (P : Program) (t : TypeId) : Option Bool :=
  match P.underlying t with
  | some (.struct _) => some true
  | some (.array _ _) => some true
  | some _ => some false
  | none => none
def sizT (P : Program) (t : TypeId) : Option Nat :=
  match P.info? t with
  | some i => some i.size
  | none => none
def zeroT (P : Program) (t : TypeId) : Option Value :=
  match P.info? t with
  | some i => i.zero
  | none => none

def toCells : SV → Option (List SV)
  | .v (.agg cs) => some (cs.toList.map .v)
  | .v y => some [.v y]
  | .ptr l o => some [.ptr l o]
  | .poison => none

def allV : List SV → Option (List Value)
  | [] => some []
  | .v x :: r => match allV r with | some l => some (x :: l) | none => none
  | _ :: _ => none

def fromCells (ag : Bool) (cs : List SV) : Option SV :=
  match ag with
  | true => match allV cs with | some l => some (.v (.agg l.toArray)) | none => none
  | false => match cs with | [x] => some x | _ => none

/-- What is known of callees: a call's result, under a test, where it is a value and the call leaves all that was there as it was; whether two values of a type are equal. -/
structure Orc where
  call : FuncId → List Value → Option (Bool × Value)
  eqv : TypeId → List Value → List Value → Option Bool
  /-- All numbers are known, and are reckoned as they come. -/
  conc : Bool := false

def allOps (ev : Operand → Option SV) : List Operand → Option (List Value)
  | [] => some []
  | x :: r => match asV (ev x), allOps ev r with | some y, some l => some (y :: l) | _, _ => none

def lookAl (al : List (Tmp × Nat × TypeId)) (d : Option Tmp) : Option (Nat × TypeId) :=
  match d, al with
  | some d, (d', l, e) :: r => if d' = d then some (l, e) else lookAl r (some d)
  | _, _ => none

def isSel : Op → Bool
  | .select _ _ => true
  | _ => false

def pureV (P : Program) (o : Oper) (ev : Operand → Option SV) : Option SV :=
  match o.op.operands.toList.all (fun x => isV (ev x)) && !isSel o.op with
  | true => match pev P (execOp (fun x => vOr (ev x)) o) with
    | some (.value y) => some (.v y)
    | some .skip => some (.v undef)
    | _ => none
  | false => none

/-- A number as its kind holds it; where all numbers are known, by literals. -/
def wr (c : Bool) (k : IntKind) (n : Int) : Int :=
  match c with
  | false => k.wrap n
  | true => match k with
    | .u64 => n % 18446744073709551616
    | .i64 => match decide (n % 18446744073709551616 ≥ 9223372036854775808) with
      | true => n % 18446744073709551616 - 18446744073709551616
      | false => n % 18446744073709551616
    | .u8 => n % 256
    | .u32 => n % 4294967296
    | .u16 => n % 65536
    | k => k.wrap n

theorem wr_eq (c : Bool) (k : IntKind) (n : Int) : wr c k n = k.wrap n := by
  have e64 : (2 : Int) ^ 64 = 18446744073709551616 := by decide
  have e63 : (2 : Int) ^ 63 = 9223372036854775808 := by decide
  cases c with
  | false => rfl
  | true =>
    cases k <;> simp only [wr, IntKind.wrap, IntKind.signed, IntKind.bits, Bool.true_and, Bool.false_and, Bool.false_eq_true, if_false, e64, e63, Nat.reduceSub, Int.reducePow]
    split <;> simp_all <;> omega

/-- Two numbers of one kind. -/
def intBin (c : Bool) (op : BinOp) (k : IntKind) (a b : Int) : Option Value :=
  match op with
  | .add => some (.int k (wr c k (a + b)))
  | .sub => some (.int k (wr c k (a - b)))
  | .mul => some (.int k (wr c k (a * b)))
  | .and => some (.int k (wr c k (BitVec.ofInt k.bits a &&& BitVec.ofInt k.bits b).toNat))
  | .or => some (.int k (wr c k (BitVec.ofInt k.bits a ||| BitVec.ofInt k.bits b).toNat))
  | .xor => some (.int k (wr c k (BitVec.ofInt k.bits a ^^^ BitVec.ofInt k.bits b).toNat))
  | .andNot => some (.int k (wr c k (BitVec.ofInt k.bits a &&& ~~~ BitVec.ofInt k.bits b).toNat))
  | .eql => some (.bool (a == b))
  | .neq => some (.bool (a != b))
  | .lss => some (.bool (decide (a < b)))
  | .leq => some (.bool (decide (a ≤ b)))
  | .gtr => some (.bool (decide (a > b)))
  | .geq => some (.bool (decide (a ≥ b)))
  | _ => none

theorem intBin_run {P : Program} {w : World} {c : Bool} {op : BinOp} {k : IntKind} {a b : Int} {r : Value} {t : TypeId} (h : intBin c op k a b = some r) : (binOp op t (.int k a) (.int k b)).run P w = .ok r w := by
  cases op <;> simp only [intBin, wr_eq] at h <;> first | (injection h with h; subst h; simp [binOp, Op.intArith, Op.intBits, Op.intCmp, pure]; done) | cases h

def aggBin (Γ : Orc) (op : BinOp) (t : TypeId) (a b : List Value) : Option SV :=
  match op with
  | .eql => match Γ.eqv t a b with | some r => some (.v (.bool r)) | none => none
  | .neq => match Γ.eqv t a b with | some r => some (.v (.bool (!r))) | none => none
  | _ => none

/-- The value that an operation yields. -/
def opV (Γ : Orc) (P : Program) (al : List (Tmp × Nat × TypeId)) (o : Oper) (ev : Operand → Option SV) (blk : List (List SV)) : Option SV :=
  match o.op with
  | .move x => ev x
  | .assign x => ev x
  | .pick c x y => match ev c with
    | some (.v (.bool t)) => bif t then ev x else ev y
    | _ => none
  | .alloc e => match lookAl al o.dst with
    | some (l, e') => if e' = e then some (.ptr l 0) else none
    | none => none
  | .load t p => match ev p, aggT P t, sizT P t with
    | some (.ptr l off), some ag, some n => match blk[l]? with
      | some cs => if off + n ≤ cs.length then fromCells ag ((cs.drop off).take n) else none
      | none => none
    | _, _, _ => none
  | .store .. => some (.v undef)
  | .fieldAddr s p f => match ev p, P.underlying s with
    | some (.ptr l off), some (.struct fs) => match fs[f]? with
      | some fd => match sizT P fd.type with
        | some (_ + 1) => some (.ptr l (off + fd.offset))
        | _ => none
      | none => none
    | _, _ => none
  | .binOp .quo _ x y _ => match ev x, ev y with
    | some (.v (.int k a)), some (.v (.int k' b)) => if k = k' then (bif b == 0 then none else some (.v (.int k (k.wrap (a.tdiv b))))) else none
    | _, _ => none
  | .binOp .rem _ x y _ => match ev x, ev y with
    | some (.v (.int k a)), some (.v (.int k' b)) => if k = k' then (bif b == 0 then none else some (.v (.int k (a.tmod b)))) else none
    | _, _ => none
  | .binOp .shl _ x y _ => match ev x, ev y with
    | some (.v (.int k a)), some (.v (.int _ b)) => bif decide (b < 0) then none else some (.v (.int k (k.wrap (a * 2 ^ (min b.toNat k.bits)))))
    | _, _ => none
  | .binOp .shr _ x y _ => match ev x, ev y with
    | some (.v (.int k a)), some (.v (.int _ b)) => bif decide (b < 0) then none else some (.v (.int k (a.fdiv (2 ^ (min b.toNat k.bits)))))
    | _, _ => none
  | .binOp op t x y _ => match ev x, ev y with
    | some (.v (.int k a)), some (.v (.int k' b)) => if k = k' then (match intBin Γ.conc op k a b with | some r => some (.v r) | none => none) else none
    | some (.v (.agg a)), some (.v (.agg b)) => aggBin Γ op t a.toList b.toList
    | _, _ => pureV P o ev
  | .convert s d x => match ev x, P.underlying s, P.underlying d with
    | some (.v (.int _ n)), some _, some (.int k) => some (.v (.int k (wr Γ.conc k n)))
    | _, _, _ => pureV P o ev
  | .call { callee := .value (.func f), args, .. } => match allOps ev args.toList with
    | some vs => match Γ.call f vs with | some (g, r) => (bif g then some (.v r) else none) | none => none
    | none => none
  | _ => pureV P o ev

def oneCell : SV → Bool
  | .v (.agg _) => false
  | .v (.tuple _) => false
  | .poison => false
  | _ => true

/-- What an operation does to memory: to the blocks' cells; to which blocks there are. -/
def opB (P : Program) (o : Oper) (ev : Operand → Option SV) (blk : List (List SV)) : Option (List (List SV)) :=
  match o.op with
  | .store t p x => match ev p, sizT P t with
    | some (.ptr l off), some n => match (ev x).bind toCells, blk[l]? with
      | some xs, some cs => if xs.length = n ∧ off + n ≤ cs.length ∧ xs.all oneCell = true then some (blk.set l (cs.take off ++ xs ++ cs.drop (off + n))) else none
      | _, _ => none
    | _, _ => none
  | _ => some blk

def opL (al : List (Tmp × Nat × TypeId)) (o : Oper) (live : List Bool) : Option (List Bool) :=
  match o.op with
  | .alloc _ => match lookAl al o.dst with
    | some (l, _) => match live[l]? with
      | some false => some (live.set l true)
      | _ => none
    | none => none
  | _ => some live

def opM (al : List (Tmp × Nat × TypeId)) (P : Program) (o : Oper) (ev : Operand → Option SV) (m : Mem) : Option Mem :=
  match opB P o ev m.blk, opL al o m.live with
  | some b, some l => some ⟨b, l⟩
  | _, _ => none

end Go.Sx

namespace Go.Sx
open Go.RowKit

def Den (β : Nat → Option (Nat × Nat)) : SV → Value → Prop
  | .v x, y => y = x
  | .ptr l off, y => ∃ b o, β l = some (b, o) ∧ y = .pointer (some ⟨b, o + off, none⟩)
  | .poison, _ => True

structure Rel (w0 : World) (st : St) (β : Nat → Option (Nat × Nat)) (a : Act) (w : World) : Prop where
  len : ∀ (t : Nat) x, st.tmps.get t = some x → t < a.tmps.size
  tmps : ∀ (t : Nat) x, st.tmps.get t = some x → ∀ y, a.tmps[t]? = some y → Den β x y
  defers : a.defers = []
  mem : ∀ l b o, β l = some (b, o) → ∀ cs, st.mem.blk[l]? = some cs → ∀ (j : Nat) x, cs[j]? = some x →
    ∃ y, w.cell? ⟨b, o + j, none⟩ = some y ∧ Den β x y ∧ w.frozen? ⟨b, o + j, none⟩ = false
  inj : ∀ l l' b o b' o', β l = some (b, o) → β l' = some (b', o') → l ≠ l' → b ≠ b'
  own : ∀ l b o, β l = some (b, o) → w0.heap.size ≤ b ∧ b < w.heap.size
  dom : ∀ l, β l ≠ none → st.mem.live[l]? = some true
  below : Below w0.heap.size w0 w
  froz : ∀ p, w.frozen? p = w0.frozen? p

/-- All that was there is as it was; nothing is frozen, or let go. -/
def Kp (w w' : World) : Prop := Below w.heap.size w w' ∧ ∀ p, w'.frozen? p = w.frozen? p

def Pend (P : Program) (al : List (Tmp × Nat × TypeId)) (st : St) (β : Nat → Option (Nat × Nat)) : Prop :=
  ∀ d l e, (d, l, e) ∈ al → β l = none → ∃ z, zeroT P e = some z ∧ st.mem.blk[l]? = some (z.cells.toList.map .v)

def RelP (P : Program) (al : List (Tmp × Nat × TypeId)) (w0 : World) (st : St) (a : Act) (w : World) : Prop :=
  ∃ β, Rel w0 st β a w ∧ Pend P al st β

def CallOk (P : Program) (f : FuncId) (vs : List Value) (r : Value) : Prop :=
  ∀ w, (callFunc f vs.toArray).run P w = .ok (.value r) w ∨
    ((callFunc f vs.toArray).run P w = .ok (.enter f vs.toArray) w ∧ Calls P f vs.toArray w (fun e w' => e = .returned r ∧ Kp w w'))

structure Orc.Ok (Γ : Orc) (P : Program) : Prop where
  call : ∀ f vs r, Γ.call f vs = some (true, r) → CallOk P f vs r
  eqv : ∀ t xs ys r, Γ.eqv t xs ys = some r → ∀ w op x y, op = .eql ∨ op = .neq → (eqGuard op t x y (.agg xs.toArray) (.agg ys.toArray)).run P w = .ok () w ∧ (Op.equal t (.agg xs.toArray) (.agg ys.toArray)).run P w = .ok r w

section
variable {P : Program} {al : List (Tmp × Nat × TypeId)} {w0 : World} {st : St} {β : Nat → Option (Nat × Nat)} {a : Act} {w : World}

theorem Rel.eval (h : Rel w0 st β a w) {x : Operand} {s : SV} (hx : st.eval x = some s) : Den β s (a.eval x) := by
  cases x with
  | tmp t =>
    have hl : t < a.tmps.size := h.len t s hx
    have := h.tmps t s hx (a.tmps[t]) (by simp [hl])
    simpa [Act.eval, Array.getD, hl] using this
  | const v => simp [St.eval] at hx; subst hx; rfl
  | global g => simp [St.eval] at hx; subst hx; rfl
  | func f => simp [St.eval] at hx; subst hx; rfl

theorem Rel.put (h : Rel w0 st β a w) (d : Option Tmp) {x : SV} {y : Value} (hd : Den β x y) : Rel w0 (st.put d x) β (a.put d y) w := by
  cases d with
  | none => exact h
  | some d =>
    have key : ∀ (t : Nat) z, ((st.put (some d) x).tmps).get t = some z → (d = t ∧ z = x ∧ d < a.tmps.size) ∨ (d ≠ t ∧ st.tmps.get t = some z) := by
      intro t z hz
      simp only [St.put] at hz
      by_cases hdt : d = t
      · subst hdt
        rw [Tr.get_set_self] at hz
        cases hh : st.tmps.get d with
        | none => simp [hh] at hz
        | some q =>
          simp [hh] at hz
          exact .inl ⟨rfl, hz.symm, h.len d q hh⟩
      · rw [Tr.get_set_ne _ _ _ _ hdt] at hz
        exact .inr ⟨hdt, hz⟩
    refine ⟨fun t z hz => ?_, fun t z hz y' hy' => ?_, h.defers, h.mem, h.inj, h.own, h.dom, h.below, h.froz⟩
    · simp only [Act.put, Array.size_setIfInBounds]
      rcases key t z hz with ⟨rfl, _, hl⟩ | ⟨_, hz⟩
      · exact hl
      · exact h.len t z hz
    · simp only [Act.put] at hy'
      rcases key t z hz with ⟨rfl, rfl, hl⟩ | ⟨hdt, hz⟩
      · simp [hl] at hy'
        subst hy'
        exact hd
      · rw [Array.getElem?_setIfInBounds_ne hdt] at hy'
        exact h.tmps t z hz y' hy'

theorem Rel.below' (h : Rel w0 st β a w) {w' : World} (hk : Kp w w') : Rel w0 st β a w' := by
  obtain ⟨hb, hf⟩ := hk
  refine ⟨h.len, h.tmps, h.defers, fun l b o hl cs hcs j x hx => ?_, h.inj, fun l b o hl => ?_, h.dom, h.below.trans (hb.mono h.below.size), fun p => (hf p).trans (h.froz p)⟩
  · obtain ⟨y, h1, h2, h3⟩ := h.mem l b o hl cs hcs j x hx
    have hbb := (h.own l b o hl).2
    exact ⟨y, by rw [hb.cell (p := ⟨b, o + j, none⟩) hbb]; exact h1, h2, by rw [hb.frozen (p := ⟨b, o + j, none⟩) hbb]; exact h3⟩
  · have := h.own l b o hl
    exact ⟨this.1, Nat.lt_of_lt_of_le this.2 hb.size⟩

theorem Rel.drew (h : Rel w0 st β a w) : Rel w0 st β a { w with drawn := w.drawn + 1 } :=
  h.below' ⟨⟨rfl, rfl, rfl, Nat.le_refl _, fun _ _ => rfl⟩, fun _ => rfl⟩

theorem Pend.put (h : Pend P al st β) (d : Option Tmp) (x : SV) : Pend P al (st.put d x) β := by
  cases d <;> exact h

theorem den_v {s : Option SV} {x : Value} (hs : s = some (.v x)) {y : Value} (h : ∀ z, s = some z → Den β z y) : y = x := h _ hs

theorem Rel.evalV (h : Rel w0 st β a w) {x : Operand} (hx : isV (st.eval x) = true) : a.eval x = vOr (st.eval x) := by
  cases hs : st.eval x with
  | none => simp [hs, isV] at hx
  | some s =>
    cases s with
    | v y => have := h.eval hs; simpa [Den, vOr] using this
    | ptr l o => simp [hs, isV] at hx
    | poison => simp [hs, isV] at hx

theorem pureV_run (h : Rel w0 st β a w) {o : Oper} {x : SV} (hV : pureV P o st.eval = some x) :
    ∃ y, x = .v y ∧ ((execOp a.eval o).run P w = .ok (.value y) w ∨ ((execOp a.eval o).run P w = .ok .skip w ∧ y = undef)) := by
  unfold pureV at hV
  split at hV
  · rename_i hall
    simp only [Bool.and_eq_true, List.all_eq_true] at hall
    have hc : execOp a.eval o = execOp (fun x => vOr (st.eval x)) o := by
      refine execOp_congr o (fun cs b hsel => ?_) (fun x hx => ?_)
      · have := hall.2; rw [hsel] at this; simp [isSel] at this
      · exact h.evalV (hall.1 x (by simpa using hx))
    split at hV
    · rename_i y hp
      cases hV
      exact ⟨y, rfl, .inl (by rw [hc]; exact pev_run _ _ hp w)⟩
    · rename_i hp
      cases hV
      exact ⟨undef, rfl, .inr ⟨by rw [hc]; exact pev_run _ _ hp w, rfl⟩⟩
    · cases hV
  · cases hV

theorem allOps_eval (h : Rel w0 st β a w) : ∀ (l : List Operand) (vs : List Value), allOps st.eval l = some vs → l.map a.eval = vs
  | [], vs, hv => by simp [allOps] at hv; subst hv; rfl
  | x :: r, vs, hv => by
    unfold allOps at hv
    cases hx : asV (st.eval x) with
    | none => simp [hx] at hv
    | some y =>
      cases hr : allOps st.eval r with
      | none => simp [hx, hr] at hv
      | some l =>
        simp [hx, hr] at hv
        subst hv
        have h1 := allOps_eval h r l hr
        have h2 : a.eval x = y := by
          cases hs : st.eval x with
          | none => simp [hs, asV] at hx
          | some s => cases s <;> simp [hs, asV] at hx; subst hx; exact h.eval hs
        simp [h1, h2]

theorem lookAl_mem {d : Option Tmp} {l : Nat} {e : TypeId} : ∀ (al : List (Tmp × Nat × TypeId)), lookAl al d = some (l, e) → ∃ d', (d', l, e) ∈ al
  | [], h => by cases d <;> simp [lookAl] at h
  | (d', l', e') :: r, h => by
    cases d with
    | none => simp [lookAl] at h
    | some d =>
      unfold lookAl at h
      split at h
      · simp at h; obtain ⟨rfl, rfl⟩ := h; exact ⟨d', by simp⟩
      · obtain ⟨d'', hm⟩ := lookAl_mem r h; exact ⟨d'', by simp [hm]⟩
end
end Go.Sx

namespace Go.Sx
open Go.RowKit

section
variable {P : Program} {al : List (Tmp × Nat × TypeId)} {w0 : World} {st : St} {β : Nat → Option (Nat × Nat)} {a : Act} {w : World}

theorem run_andThen {α γ : Type} (s : Sem α) (f : α → Sem γ) (w w' : World) (x : α) (h : s.run P w = .ok x w') : (s >>= f).run P w = (f x).run P w' := by
  rw [Sem.run_bind, h]; rfl

theorem aggT_isAgg {t : TypeId} {ag : Bool} (h : aggT P t = some ag) : (isAgg t).run P w = .ok ag w := by
  unfold aggT at h
  cases hu : P.underlying t with
  | none => simp [hu] at h
  | some d =>
    unfold isAgg
    rw [run_andThen _ _ w w d (run_underlying hu w)]
    cases d <;> simp [hu] at h <;> subst h <;> rfl

theorem sizT_run {t : TypeId} {n : Nat} (h : sizT P t = some n) : (sizeOf t).run P w = .ok n w := by
  unfold sizT at h
  cases hi : P.info? t with
  | none => simp [hi] at h
  | some i =>
    simp [hi] at h
    subst h
    simp [sizeOf, typeInfo, hi]

theorem zeroT_run {t : TypeId} {z : Value} (h : zeroT P t = some z) : (zeroValue t).run P w = .ok z w := by
  unfold zeroT at h
  cases hi : P.info? t with
  | none => simp [hi] at h
  | some i =>
    simp [hi] at h
    simp [zeroValue, typeInfo, hi, h]

theorem add_place (b o i : Nat) : (Addr.add ⟨b, o, none⟩ i) = ⟨b, o + i, none⟩ := by
  unfold Addr.add
  split
  · rename_i h; subst h; rfl
  · rfl

theorem run_loadCellsFrom (b o : Nat) : ∀ (vs : List Value) (i : Nat) (acc : Array Value), (∀ (j : Nat) y, vs[j]? = some y → w.cell? ⟨b, o + (i + j), none⟩ = some y) →
    (loadCellsFrom ⟨b, o, none⟩ i vs.length acc).run P w = .ok (acc ++ vs.toArray) w
  | [], i, acc, _ => by simp [loadCellsFrom]
  | v :: r, i, acc, h => by
    have h0 := h 0 v (by simp)
    simp only [List.length_cons, loadCellsFrom]
    have hl : (load (Addr.add ⟨b, o, none⟩ i)).run P w = .ok v w := by
      rw [add_place]
      simp only [load, Sem.run]
      simp only [Nat.add_zero] at h0
      simp [h0]
    rw [run_andThen _ _ w w v hl, run_loadCellsFrom b o r (i + 1) (acc.push v) (fun j y hj => by
      have := h (j + 1) y (by simpa using hj)
      rwa [show i + 1 + j = i + (j + 1) by omega])]
    simp

theorem run_loadVar_agg {t : TypeId} (b o : Nat) (vs : List Value) (h1 : aggT P t = some true) (h2 : sizT P t = some vs.length)
    (h : ∀ (j : Nat) y, vs[j]? = some y → w.cell? ⟨b, o + j, none⟩ = some y) : (loadVar t ⟨b, o, none⟩).run P w = .ok (.agg vs.toArray) w := by
  unfold loadVar
  rw [run_andThen _ _ w w true (aggT_isAgg h1)]
  simp only [if_true]
  rw [run_andThen _ _ w w vs.length (sizT_run h2)]
  unfold loadCells
  rw [run_andThen _ _ w w vs.toArray (by rw [run_loadCellsFrom b o vs 0 #[] (by simpa using h)]; simp)]
  rfl

theorem run_loadVar_one {t : TypeId} (b o : Nat) (y : Value) (h1 : aggT P t = some false) (h : w.cell? ⟨b, o, none⟩ = some y) :
    (loadVar t ⟨b, o, none⟩).run P w = .ok y w := by
  unfold loadVar
  rw [run_andThen _ _ w w false (aggT_isAgg h1)]
  simp [load, Sem.run, h]

theorem allV_eq : ∀ (cs : List SV) (vs : List Value), allV cs = some vs → cs = vs.map .v
  | [], vs, h => by simp [allV] at h; subst h; rfl
  | .v x :: r, vs, h => by
    unfold allV at h
    cases hr : allV r with
    | none => simp [hr] at h
    | some l => simp [hr] at h; subst h; simp [allV_eq r l hr]
  | .ptr .. :: _, vs, h => by simp [allV] at h
  | .poison :: _, vs, h => by simp [allV] at h

theorem getElem?_part {cs : List SV} {off n : Nat} {j : Nat} {x : SV} (h : ((cs.drop off).take n)[j]? = some x) : cs[off + j]? = some x ∧ j < n := by
  rw [List.getElem?_take] at h
  split at h
  · rename_i hj
    rw [List.getElem?_drop] at h
    exact ⟨h, hj⟩
  · cases h

/-- A load. -/
theorem load_run (h : Rel w0 st β a w) {t : TypeId} {p : Operand} {l off n : Nat} {ag : Bool} {cs : List SV} {x : SV} (hp : st.eval p = some (.ptr l off)) (h1 : aggT P t = some ag) (h2 : sizT P t = some n)
    (hc : st.mem.blk[l]? = some cs) (hn : off + n ≤ cs.length) (hx : fromCells ag ((cs.drop off).take n) = some x) :
    ∃ y, (Instr.loadAt t (a.eval p)).run P w = .ok y w ∧ Den β x y := by
  obtain ⟨b, o, hb, he⟩ := h.eval hp
  have hrun : ∀ y, (loadVar t ⟨b, o + off, none⟩).run P w = .ok y w → (Instr.loadAt t (a.eval p)).run P w = .ok y w := fun y hy => by
    rw [he]; simpa [Instr.loadAt, Instr.sureAddr] using hy
  cases ag with
  | true =>
    unfold fromCells at hx
    simp only at hx
    cases hv : allV ((cs.drop off).take n) with
    | none => simp [hv] at hx
    | some vs =>
      simp [hv] at hx
      subst hx
      have heq := allV_eq _ _ hv
      have hlen : vs.length = n := by
        have := congrArg List.length heq
        simp at this; omega
      refine ⟨.agg vs.toArray, hrun _ (run_loadVar_agg b (o + off) vs h1 (by rw [hlen]; exact h2) fun j y hj => ?_), rfl⟩
      have hj' : ((cs.drop off).take n)[j]? = some (.v y) := by rw [heq]; simp [hj]
      obtain ⟨hj2, _⟩ := getElem?_part hj'
      obtain ⟨y', c1, c2, _⟩ := h.mem l b o hb cs hc (off + j) _ hj2
      have c2' : y' = y := c2
      rw [Nat.add_assoc, c1, c2']
  | false =>
    unfold fromCells at hx
    simp only at hx
    split at hx
    · rename_i z hz
      have hzx : z = x := by simpa using hx
      subst hzx
      obtain ⟨hj2, _⟩ := getElem?_part (j := 0) (x := z) (by rw [hz]; rfl)
      obtain ⟨y', c1, c2, _⟩ := h.mem l b o hb cs hc (off + 0) _ hj2
      exact ⟨y', hrun _ (run_loadVar_one b (o + off) y' h1 (by simpa using c1)), c2⟩
    · cases hx

/-- What a row of stores leaves. -/
structure Stored (w : World) (b o : Nat) (ys : List Value) (w' : World) : Prop where
  os : w'.os = w.os
  tape : w'.tape = w.tape
  output : w'.output = w.output
  size : w'.heap.size = w.heap.size
  block : ∀ k, k ≠ b → w'.heap[k]? = w.heap[k]?
  far : ∀ p : Addr, p.block = b → (p.off < o ∨ o + ys.length ≤ p.off) → w'.cell? p = w.cell? p
  near : ∀ (j : Nat) y, ys[j]? = some y → w'.cell? ⟨b, o + j, none⟩ = some y
  frozen : ∀ p, w'.frozen? p = w.frozen? p

theorem run_storeCells (b o : Nat) : ∀ (ys : List Value) (i : Nat) (w : World), (∀ y ∈ ys, (∀ c, y ≠ .agg c) ∧ (∀ c, y ≠ .tuple c)) →
    (∀ (j : Nat), j < ys.length → (∃ u, w.cell? ⟨b, o + (i + j), none⟩ = some u) ∧ w.frozen? ⟨b, o + (i + j), none⟩ = false) →
    ∃ w', (storeCells ⟨b, o, none⟩ ys i).run P w = .ok () w' ∧ Stored w b (o + i) ys w'
  | [], i, w, _, _ => ⟨w, by simp [storeCells], rfl, rfl, rfl, rfl, fun _ _ => rfl, fun _ _ _ => rfl, fun j y hj => by simp at hj, fun _ => rfl⟩
  | y :: r, i, w, hy, hc => by
    obtain ⟨⟨u, hu⟩, hf⟩ := hc 0 (by simp)
    simp only [Nat.add_zero] at hu hf
    have hst : (store (Addr.add ⟨b, o, none⟩ i) y).run P w = .ok () (w.setCell ⟨b, o + i, none⟩ y) := by
      rw [add_place]
      have h1 := (hy y (by simp)).1
      have h2 := (hy y (by simp)).2
      cases y <;> simp [store, Sem.run, hu, hf]
      · exact absurd rfl (h1 _)
      · exact absurd rfl (h2 _)
    obtain ⟨w', hr, hs⟩ := run_storeCells b o r (i + 1) (w.setCell ⟨b, o + i, none⟩ y) (fun z hz => hy z (by simp [hz])) (fun j hj => by
      obtain ⟨⟨u', hu'⟩, hf'⟩ := hc (j + 1) (by simpa using hj)
      rw [show i + (j + 1) = i + 1 + j by omega] at hu' hf'
      refine ⟨⟨u', ?_⟩, by simpa using hf'⟩
      rw [World.cell?_setCell_other]
      · exact hu'
      · intro e; injection e; omega)
    refine ⟨w', ?_, ?_⟩
    · unfold storeCells
      rw [run_andThen _ _ _ _ _ hst]
      exact hr
    · refine ⟨hs.os, hs.tape, hs.output, by rw [hs.size]; simp, fun k hk => ?_, fun p hp ho => ?_, fun j z hj => ?_, fun p => by rw [hs.frozen]; simp⟩
      · rw [hs.block k hk, Below.heap_setCell _ _ _ _ hk]
      · rw [hs.far p hp (by simp at ho; omega), World.cell?_setCell_other]
        intro e
        have : p.off = o + i := by rw [← e]
        simp at ho
        omega
      · cases j with
        | zero =>
          simp at hj
          subst hj
          rw [hs.far _ rfl (by simp)]
          exact World.cell?_setCell_same _ _ _ hu
        | succ j =>
          have := hs.near j z (by simpa using hj)
          rwa [show o + i + (j + 1) = o + (i + 1) + j by omega]
end
end Go.Sx

namespace Go.Sx
open Go.RowKit

section
variable {P : Program} {al : List (Tmp × Nat × TypeId)} {w0 : World} {st : St} {β : Nat → Option (Nat × Nat)} {a : Act} {w : World} {Γ : Orc} {Q : Exit → Act → World → Prop}

theorem wp_val {o : Oper} {x : SV} {y : Value} (hrun : (execOp a.eval o).run P w = .ok (.value y) w) (h : Rel w0 st β a w) (hp : Pend P al st β) (hd : Den β x y) :
    o.wp P a w (fun a' w' => RelP P al w0 (st.put o.dst x) a' w') Q := by
  unfold Oper.wp
  rw [hrun, Oper.upon_value]
  exact ⟨β, h.put o.dst hd, hp.put o.dst x⟩

theorem wp_pure {o : Oper} {x : SV} (hV : pureV P o st.eval = some x) (h : Rel w0 st β a w) (hp : Pend P al st β) :
    o.wp P a w (fun a' w' => RelP P al w0 (st.put o.dst x) a' w') Q := by
  obtain ⟨y, rfl, hr | ⟨hr, rfl⟩⟩ := pureV_run h hV
  · exact wp_val hr h hp rfl
  · unfold Oper.wp
    rw [hr, Oper.upon_skip]
    exact ⟨β, h.put o.dst rfl, hp.put o.dst _⟩

theorem run_v {s : Sem Value} {y : Value} {w' : World} (h : s.run P w = .ok y w') : (do pure (Next.value (← s)) : Sem Next).run P w = .ok (.value y) w' := by
  rw [run_andThen _ _ _ _ _ h]; rfl

/-- A new block. -/
theorem Rel.newBlock (h : Rel w0 st β a w) {l : Nat} (hl : st.mem.live[l]? = some false) {cs : List Value} (hc : st.mem.blk[l]? = some (cs.map .v)) (t : TypeId) :
    Rel w0 { st with mem := { st.mem with live := st.mem.live.set l true } } (fun i => if i = l then some (w.heap.size, 0) else β i) a (w.alloc (.cells cs.toArray t)) ∧ β l = none := by
  have hn : β l = none := by
    cases hb : β l with
    | none => rfl
    | some q => have := h.dom l (by simp [hb]); rw [hl] at this; simp at this
  have hmono : ∀ x y, Den β x y → Den (fun i => if i = l then some (w.heap.size, 0) else β i) x y := by
    intro x y hd
    cases x with
    | v z => exact hd
    | ptr k off =>
      obtain ⟨b, o, hb, he⟩ := hd
      refine ⟨b, o, ?_, he⟩
      have : k ≠ l := by rintro rfl; rw [hn] at hb; cases hb
      simp [this, hb]
    | poison => trivial
  refine ⟨⟨h.len, fun t x hx y hy => hmono x y (h.tmps t x hx y hy), h.defers, fun i b o hi cs' hcs' j x hx => ?_, fun i i' b o b' o' hi hi' hne => ?_, fun i b o hi => ?_, fun i hi => ?_, ?_, fun p => ?_⟩, hn⟩
  · by_cases hil : i = l
    · subst hil
      simp only [if_true] at hi
      injection hi with hi
      injection hi with h1 h2
      subst h1 h2
      simp only [hc] at hcs'
      injection hcs' with hcs'
      subst hcs'
      rw [List.getElem?_map] at hx
      cases hj : cs[j]? with
      | none => simp [hj] at hx
      | some y =>
        simp [hj] at hx
        subst hx
        refine ⟨y, by simp [hj], rfl, by simp⟩
    · simp only [if_neg hil] at hi
      obtain ⟨y, h1, h2, h3⟩ := h.mem i b o hi cs' hcs' j x hx
      have hbb := (h.own i b o hi).2
      exact ⟨y, by rw [World.cell?_alloc_lt _ _ _ hbb]; exact h1, hmono x y h2, by rw [World.frozen?_alloc_old _ _ _ (by simp; omega)]; exact h3⟩
  · by_cases hil : i = l
    · have hil' : i' ≠ l := fun e => hne (hil.trans e.symm)
      simp only [hil, if_true] at hi
      simp only [if_neg hil'] at hi'
      injection hi with hi
      injection hi with h1 h2
      have := (h.own i' b' o' hi').2
      omega
    · simp only [if_neg hil] at hi
      by_cases hil' : i' = l
      · simp only [hil', if_true] at hi'
        injection hi' with hi'
        injection hi' with h1 h2
        have := (h.own i b o hi).2
        omega
      · simp only [if_neg hil'] at hi'
        exact h.inj i i' b o b' o' hi hi' hne
  · by_cases hil : i = l
    · simp only [hil, if_true] at hi
      injection hi with hi
      injection hi with h1 h2
      have := h.below.size
      simp
      omega
    · simp only [if_neg hil] at hi
      have := h.own i b o hi
      simp
      omega
  · by_cases hil : i = l
    · subst hil
      rw [List.getElem?_set_self' ]
      simp [hl]
    · simp only [if_neg hil] at hi
      rw [List.getElem?_set_ne (Ne.symm hil)]
      exact h.dom i hi
  · exact h.below.alloc h.below.size _
  · rw [frozen?_alloc_cells, h.froz]

theorem toCells_den {x : SV} {y : Value} {xs : List SV} (hd : Den β x y) (hx : toCells x = some xs) : xs.length = y.cells.size ∧ ∀ (j : Nat) z, xs[j]? = some z → ∃ u, y.cells[j]? = some u ∧ Den β z u := by
  cases x with
  | v q =>
    have : y = q := hd
    subst this
    cases y <;> simp [toCells] at hx <;> subst hx <;> refine ⟨by simp [Value.cells], fun j z hz => ?_⟩
    all_goals first
      | (simp at hz
         obtain ⟨u, hu, rfl⟩ := hz
         exact ⟨u, by simpa [Value.cells] using hu, rfl⟩)
      | (cases j with
         | zero => simp at hz; subst hz; exact ⟨_, by simp [Value.cells], rfl⟩
         | succ j => simp at hz)
  | ptr l off =>
    obtain ⟨b, o, hb, he⟩ := hd
    simp [toCells] at hx
    subst hx
    subst he
    refine ⟨by simp [Value.cells], fun j z hz => ?_⟩
    cases j with
    | zero => simp at hz; subst hz; exact ⟨_, by simp [Value.cells], b, o, hb, rfl⟩
    | succ j => simp at hz
  | poison => simp [toCells] at hx

theorem oneCell_den {z : SV} {u : Value} (hd : Den β z u) (h : oneCell z = true) : (∀ c, u ≠ .agg c) ∧ (∀ c, u ≠ .tuple c) := by
  cases z with
  | v q =>
    have : u = q := hd
    subst this
    cases u <;> simp [oneCell] at h <;> simp
  | ptr l off => obtain ⟨b, o, hb, he⟩ := hd; subst he; simp
  | poison => simp [oneCell] at h

/-- A store. -/
theorem store_run (h : Rel w0 st β a w) {t : TypeId} {p v : Operand} {l off n : Nat} {xs cs : List SV} (hp : st.eval p = some (.ptr l off)) (h2 : sizT P t = some n)
    (hv : (st.eval v).bind toCells = some xs) (hc : st.mem.blk[l]? = some cs) (hlen : xs.length = n) (hn : off + n ≤ cs.length) (hone : xs.all oneCell = true) :
    ∃ w', (Instr.storeAt t (a.eval p) (a.eval v)).run P w = .ok () w' ∧
      Rel w0 { st with mem := { st.mem with blk := st.mem.blk.set l (cs.take off ++ xs ++ cs.drop (off + n)) } } β a w' := by
  obtain ⟨b, o, hb, he⟩ := h.eval hp
  cases hs : st.eval v with
  | none => simp [hs] at hv
  | some s =>
    simp [hs] at hv
    have hd := h.eval hs
    obtain ⟨hcl, hcd⟩ := toCells_den hd hv
    generalize a.eval v = y at *
    have hcell : ∀ (j : Nat) u, y.cells.toList[j]? = some u → ∃ z, xs[j]? = some z ∧ Den β z u := by
      intro j u hu
      have hj : j < xs.length := by
        rw [hcl]
        rcases Nat.lt_or_ge j y.cells.size with h' | h'
        · exact h'
        · simp [Array.getElem?_eq_none h'] at hu
      obtain ⟨u', hu', hd'⟩ := hcd j xs[j] (by simp [hj])
      have : u' = u := by simpa [hu'] using hu
      subst this
      exact ⟨xs[j], by simp [hj], hd'⟩
    obtain ⟨w', hr, hst⟩ := run_storeCells (P := P) b (o + off) y.cells.toList 0 w (fun u hu => by
      obtain ⟨j, hj, hju⟩ := List.mem_iff_getElem.1 hu
      obtain ⟨z, hz, hzd⟩ := hcell j u (by simp [← hju])
      exact oneCell_den hzd (List.all_eq_true.1 hone z (List.mem_of_getElem? hz))) (fun j hj => by
      have hj' : off + j < cs.length := by simp at hj; omega
      obtain ⟨u, c1, _, c3⟩ := h.mem l b o hb cs hc (off + j) cs[off + j] (by simp [hj'])
      simp only [Nat.zero_add]
      rw [Nat.add_assoc]
      exact ⟨⟨u, c1⟩, c3⟩)
    refine ⟨w', ?_, ?_⟩
    · rw [he]
      simp only [Instr.storeAt, Instr.sureAddr]
      rw [run_andThen _ _ w w ⟨b, o + off, none⟩ rfl]
      unfold storeVar
      rw [run_andThen _ _ w w n (sizT_run h2)]
      rw [if_neg (by omega)]
      simpa [pure, Sem.run] using hr
    · simp only [Nat.add_zero] at hst
      have hbw := h.own l b o hb
      refine ⟨h.len, h.tmps, h.defers, fun i b' o' hi cs' hcs' j x hx => ?_, h.inj, fun i b' o' hi => ?_, h.dom, ?_, fun p => (hst.frozen p).trans (h.froz p)⟩
      · by_cases hil : i = l
        · subst hil
          rw [hb] at hi
          injection hi with hi
          injection hi with e1 e2
          subst e1 e2
          simp only at hcs'
          rw [List.getElem?_set_self'] at hcs'
          simp [hc] at hcs'
          subst hcs'
          by_cases hj1 : j < off
          · have hx' : cs[j]? = some x := by
              rw [List.getElem?_append_left (by simp; omega), List.getElem?_take, if_pos hj1] at hx
              exact hx
            obtain ⟨u, c1, c2, c3⟩ := h.mem i b o hb cs hc j x hx'
            exact ⟨u, by rw [hst.far _ rfl (by simp; omega)]; exact c1, c2, by rw [hst.frozen]; exact c3⟩
          · by_cases hj2 : j < off + n
            · have hx' : xs[j - off]? = some x := by
                rw [List.getElem?_append_right (by simp; omega), List.getElem?_append_left (by simp; omega)] at hx
                rw [List.length_take, Nat.min_eq_left (by omega)] at hx
                exact hx
              obtain ⟨u, hu, hud⟩ := hcd _ _ hx'
              have hnear := hst.near (j - off) u (by simpa using hu)
              rw [show o + off + (j - off) = o + j by omega] at hnear
              obtain ⟨u', _, _, c3⟩ := h.mem i b o hb cs hc j (cs[j]'(by omega)) (by simp)
              exact ⟨u, hnear, hud, by rw [hst.frozen]; exact c3⟩
            · have hx' : cs[j]? = some x := by
                rw [List.getElem?_append_right (by simp; omega), List.getElem?_append_right (by simp; omega), List.getElem?_drop] at hx
                rw [List.length_take, Nat.min_eq_left (by omega)] at hx
                rwa [show off + n + (j - off - xs.length) = j by omega] at hx
              obtain ⟨u, c1, c2, c3⟩ := h.mem i b o hb cs hc j x hx'
              have hy : y.cells.toList.length = n := by simp; omega
              exact ⟨u, by rw [hst.far _ rfl (by rw [hy]; simp only; omega)]; exact c1, c2, by rw [hst.frozen]; exact c3⟩
        · simp only at hcs'
          rw [List.getElem?_set_ne (Ne.symm hil)] at hcs'
          obtain ⟨u, c1, c2, c3⟩ := h.mem i b' o' hi cs' hcs' j x hx
          have hne := h.inj i l b' o' b o hi hb hil
          exact ⟨u, by rw [World.cell?_of_block (w := w) (hst.block b' hne)]; exact c1, c2, by rw [hst.frozen]; exact c3⟩
      · rw [hst.size]; exact h.own i b' o' hi
      · refine h.below.trans ⟨hst.os, hst.tape, hst.output, by rw [hst.size]; exact Nat.le_refl _, fun k hk => hst.block k (by omega)⟩
end
end Go.Sx

namespace Go.Sx
open Go.RowKit

section
variable {P : Program} {al : List (Tmp × Nat × TypeId)} {w0 : World} {st : St} {β : Nat → Option (Nat × Nat)} {a : Act} {w : World} {Γ : Orc} {Q : Exit → Act → World → Prop}

theorem field_run (h : Rel w0 st β a w) {s : TypeId} {p : Operand} {f l off n : Nat} {fs : Array Field} {fd : Field} (hp : st.eval p = some (.ptr l off)) (h1 : P.underlying s = some (.struct fs)) (hf : fs[f]? = some fd) (h2 : sizT P fd.type = some (n + 1)) :
    ∃ y, (Instr.fieldAt s (a.eval p) f).run P w = .ok y w ∧ Den β (.ptr l (off + fd.offset)) y := by
  obtain ⟨b, o, hb, he⟩ := h.eval hp
  refine ⟨.pointer (some ⟨b, o + (off + fd.offset), none⟩), ?_, b, o, hb, rfl⟩
  rw [he]
  unfold Instr.fieldAt
  rw [run_andThen _ _ w w _ (run_underlying h1 w)]
  simp only [hf]
  rw [run_andThen _ _ w w ⟨b, o + off, none⟩ rfl]
  have hpl : (fieldPlace ⟨b, o + off, none⟩ fd).run P w = .ok ⟨b, o + (off + fd.offset), none⟩ w := by
    unfold fieldPlace
    rw [run_andThen _ _ w w _ (sizT_run h2)]
    simp only [Nat.add_eq_zero_iff, Nat.succ_ne_self, and_false, if_false, add_place, Nat.add_assoc]
    rfl
  rw [run_andThen _ _ w w _ hpl]
  rfl

theorem den_int {k : IntKind} {n : Int} {x : Operand} (h : Rel w0 st β a w) (hx : st.eval x = some (.v (.int k n))) : a.eval x = .int k n := h.eval hx

theorem call_run (h : Rel w0 st β a w) {o : Oper} {f : FuncId} {args : Array Operand} {at_ : Array TypeId} {vs : List Value} (ho : o.op = .call { callee := .value (.func f), args, argTypes := at_ }) (hv : allOps st.eval args.toList = some vs) {r : Next} {w' : World}
    (hr : (callFunc f vs.toArray).run P w = .ok r w') : (execOp a.eval o).run P w = .ok r w' := by
  have hm : args.map a.eval = vs.toArray := by
    have := allOps_eval h args.toList vs hv
    apply Array.ext'
    simpa using this
  unfold execOp
  rw [ho]
  simp only [resolve, hm, Act.eval, Deferred.ofValue]
  rw [run_andThen _ _ w w ⟨.fn (.func f) #[], #[] ++ vs.toArray⟩ rfl]
  simp only [invoke, Array.append_empty, Array.empty_append]
  exact hr

theorem op_sound (hΓ : Γ.Ok P) {o : Oper} {x : SV} {m : Mem} (hV : opV Γ P al o st.eval st.mem.blk = some x) (hM : opM al P o st.eval st.mem = some m)
    (h : Rel w0 st β a w) (hp : Pend P al st β) : o.wp P a w (fun a' w' => RelP P al w0 (({ st with mem := m } : St).put o.dst x) a' w') Q := by
  have same : (o.wp P a w (fun a' w' => RelP P al w0 (st.put o.dst x) a' w') Q) → opM al P o st.eval st.mem = some st.mem → o.wp P a w (fun a' w' => RelP P al w0 (({ st with mem := m } : St).put o.dst x) a' w') Q := by
    intro hw he
    rw [he] at hM
    injection hM with hM
    subst hM
    exact hw
  have pure_ : pureV P o st.eval = some x → opM al P o st.eval st.mem = some st.mem → o.wp P a w (fun a' w' => RelP P al w0 (({ st with mem := m } : St).put o.dst x) a' w') Q :=
    fun hv he => same (wp_pure hv h hp) he
  have val_ : ∀ y, (execOp a.eval o).run P w = .ok (.value y) w → Den β x y → opM al P o st.eval st.mem = some st.mem → o.wp P a w (fun a' w' => RelP P al w0 (({ st with mem := m } : St).put o.dst x) a' w') Q :=
    fun y hr hd he => same (wp_val hr h hp hd) he
  cases hop : o.op
  case move y =>
    simp only [opV, hop] at hV
    exact val_ (a.eval y) (by simp [execOp, hop, pure]) (h.eval hV) (by simp [opM, opB, opL, hop])
  case assign y =>
    simp only [opV, hop] at hV
    exact val_ (a.eval y) (by simp [execOp, hop, pure]) (h.eval hV) (by simp [opM, opB, opL, hop])
  case pick c y z =>
    simp only [opV, hop] at hV
    split at hV
    · rename_i t hc
      have hct : a.eval c = .bool t := h.eval hc
      cases t
      · exact val_ (a.eval z) (by simp [execOp, hop, hct, asBool, pure, Sem.run]) (h.eval (by simpa using hV)) (by simp [opM, opB, opL, hop])
      · exact val_ (a.eval y) (by simp [execOp, hop, hct, asBool, pure, Sem.run]) (h.eval (by simpa using hV)) (by simp [opM, opB, opL, hop])
    · cases hV
  case alloc e =>
    simp only [opV, hop] at hV
    simp only [opM, opB, opL, hop] at hM
    split at hV
    · rename_i l e' hl
      simp only [hl] at hM
      split at hV
      · rename_i hee
        subst hee
        injection hV with hV
        subst hV
        cases hlive : st.mem.live[l]? with
        | none => simp [hlive] at hM
        | some bl =>
          cases bl with
          | true => simp [hlive] at hM
          | false =>
            simp [hlive] at hM
            subst hM
            have hn : β l = none := by
              cases hb : β l with
              | none => rfl
              | some q => have := h.dom l (by simp [hb]); rw [hlive] at this; simp at this
            obtain ⟨d', hmem⟩ := lookAl_mem al hl
            obtain ⟨z, hz, hblk⟩ := hp d' l e' hmem hn
            obtain ⟨hR, _⟩ := h.newBlock hlive hblk e'
            have hrun : (execOp a.eval o).run P w = .ok (.value (.pointer (some ⟨w.heap.size, 0, none⟩))) (w.alloc (.cells z.cells e')) := by
              unfold execOp
              rw [hop]
              refine run_v ?_
              unfold Instr.alloc
              rw [run_andThen _ _ w w z (zeroT_run hz)]
              simp [newVar, newRow, newObj, pure, Sem.run, bind, Sem.bind]
            unfold Oper.wp
            rw [hrun, Oper.upon_value]
            have hsz : (z.cells.toList).toArray = z.cells := by simp
            rw [hsz] at hR
            refine ⟨_, hR.put o.dst ⟨w.heap.size, 0, by simp, by simp⟩, ?_⟩
            refine Pend.put (fun d l' e'' hm' hn' => ?_) _ _
            refine hp d l' e'' hm' ?_
            by_cases hll : l' = l
            · subst hll; exact hn
            · simpa [hll] using hn'
      · cases hV
    · cases hV
  case load t p =>
    simp only [opV, hop] at hV
    split at hV
    · rename_i l off ag n h1 h2 h3
      split at hV
      · rename_i cs hcs
        split at hV
        · rename_i hn
          obtain ⟨y, hy, hd⟩ := load_run h h1 h2 h3 hcs hn hV
          exact val_ y (by unfold execOp; rw [hop]; exact run_v hy) hd (by simp [opM, opB, opL, hop])
        · cases hV
      · cases hV
    · cases hV
  case store t p v =>
    simp only [opV, hop] at hV
    injection hV with hV
    subst hV
    have hM' : opB P o st.eval st.mem.blk = some m.blk ∧ st.mem.live = m.live := by
      simp only [opM, opL, hop] at hM
      split at hM
      · rename_i b l h1 h2
        injection hM with hM
        injection h2 with h2
        subst hM
        exact ⟨h1, h2⟩
      · cases hM
    obtain ⟨hM1, hM2⟩ := hM'
    simp only [opB, hop] at hM1
    split at hM1
    · rename_i l off n h1 h2
      split at hM1
      · rename_i xs cs h3 h4
        split at hM1
        · rename_i hc
          injection hM1 with hM1
          obtain ⟨mb, ml⟩ := m
          simp only at hM1 hM2
          subst hM1 hM2
          obtain ⟨w', hr, hR⟩ := store_run h h1 h2 h3 h4 hc.1 hc.2.1 hc.2.2
          have hrun : (execOp a.eval o).run P w = .ok .skip w' := by
            unfold execOp
            rw [hop]
            simp only
            rw [run_andThen _ _ w w' () hr]
            rfl
          unfold Oper.wp
          rw [hrun, Oper.upon_skip]
          refine ⟨β, hR.put o.dst rfl, Pend.put (fun d l' e hm' hn' => ?_) _ _⟩
          obtain ⟨z, hz, hb⟩ := hp d l' e hm' hn'
          refine ⟨z, hz, ?_⟩
          have hne : l ≠ l' := by
            rintro rfl
            obtain ⟨b, o', hb', _⟩ := h.eval h1
            rw [hn'] at hb'
            cases hb'
          simp only
          rw [List.getElem?_set_ne hne]
          exact hb
        · cases hM1
      · cases hM1
    · cases hM1
  case fieldAddr s p f =>
    simp only [opV, hop] at hV
    split at hV
    · rename_i l off fs h1 h2
      split at hV
      · rename_i fd hfd
        split at hV
        · rename_i n hn
          injection hV with hV
          subst hV
          obtain ⟨y, hy, hd⟩ := field_run h h1 h2 hfd hn
          exact val_ y (by unfold execOp; rw [hop]; exact run_v hy) hd (by simp [opM, opB, opL, hop])
        · cases hV
      · cases hV
    · cases hV
  case binOp bop t y z t' =>
    have he : opM al P o st.eval st.mem = some st.mem := by simp [opM, opB, opL, hop]
    have hbin : ∀ (u v : Value) (r : Value), a.eval y = u → a.eval z = v → (eqGuard bop t y z u v).run P w = .ok () w → (binOp bop t u v).run P w = .ok r w → (execOp a.eval o).run P w = .ok (.value r) w := by
      intro u v r hu hv hg hb
      unfold execOp
      rw [hop]
      refine run_v ?_
      rw [hu, hv, run_andThen _ _ w w () hg]
      exact hb
    have guard_int : ∀ k n k' n', (eqGuard bop t y z (.int k n) (.int k' n')).run P w = .ok () w := by
      intro k n k' n'
      unfold eqGuard
      split <;> rfl
    cases bop
    case quo =>
      simp only [opV, hop] at hV
      split at hV
      · rename_i k n k' b h1 h2
        split at hV
        · rename_i hk
          subst hk
          by_cases hb : b = 0
          · simp [hb] at hV
          · have hb' : (b == 0) = false := by simpa using hb
            simp [hb'] at hV
            subst hV
            exact val_ _ (hbin _ _ _ (h.eval h1) (h.eval h2) (guard_int _ _ _ _) (by simp [binOp, Op.intDiv, hb, pure])) rfl he
        · cases hV
      · cases hV
    case rem =>
      simp only [opV, hop] at hV
      split at hV
      · rename_i k n k' b h1 h2
        split at hV
        · rename_i hk
          subst hk
          by_cases hb : b = 0
          · simp [hb] at hV
          · have hb' : (b == 0) = false := by simpa using hb
            simp [hb'] at hV
            subst hV
            exact val_ _ (hbin _ _ _ (h.eval h1) (h.eval h2) (guard_int _ _ _ _) (by simp [binOp, Op.intDiv, hb, pure])) rfl he
        · cases hV
      · cases hV
    case shl =>
      simp only [opV, hop] at hV
      split at hV
      · rename_i k n k' b h1 h2
        by_cases hb : b < 0
        · simp [hb] at hV
        · simp [hb] at hV
          subst hV
          exact val_ _ (hbin _ _ _ (h.eval h1) (h.eval h2) (guard_int _ _ _ _) (by simp [binOp, Op.shift, hb, pure])) rfl he
      · cases hV
    case shr =>
      simp only [opV, hop] at hV
      split at hV
      · rename_i k n k' b h1 h2
        by_cases hb : b < 0
        · simp [hb] at hV
        · simp [hb] at hV
          subst hV
          exact val_ _ (hbin _ _ _ (h.eval h1) (h.eval h2) (guard_int _ _ _ _) (by simp [binOp, Op.shift, hb, pure])) rfl he
      · cases hV
    all_goals
      simp only [opV, hop] at hV
      split at hV
      · rename_i k n k' b h1 h2
        split at hV
        · rename_i hk
          subst hk
          split at hV
          · rename_i r hr
            injection hV with hV
            subst hV
            exact val_ _ (hbin _ _ _ (h.eval h1) (h.eval h2) (guard_int _ _ _ _) (intBin_run hr)) rfl he
          · cases hV
        · cases hV
      · rename_i xs ys h1 h2
        unfold aggBin at hV
        first
          | cases hV
          | (simp only at hV
             split at hV
             · rename_i r hr
               injection hV with hV
               subst hV
               first
                 | (obtain ⟨g1, g2⟩ := hΓ.eqv t _ _ r hr w .eql y z (.inl rfl)
                    refine val_ _ (hbin _ _ _ (h.eval h1) (h.eval h2) (by simpa using g1) ?_) rfl he
                    simp only [binOp]
                    rw [run_andThen _ _ w w r (by simpa using g2)]
                    rfl)
                 | (obtain ⟨g1, g2⟩ := hΓ.eqv t _ _ r hr w .neq y z (.inr rfl)
                    refine val_ _ (hbin _ _ _ (h.eval h1) (h.eval h2) (by simpa using g1) ?_) rfl he
                    simp only [binOp]
                    rw [run_andThen _ _ w w r (by simpa using g2)]
                    rfl)
             · cases hV)
      · exact pure_ hV he
  case convert s d y =>
    have he : opM al P o st.eval st.mem = some st.mem := by simp [opM, opB, opL, hop]
    simp only [opV, hop] at hV
    split at hV
    · rename_i i n ds k h1 h2 h3
      injection hV with hV
      subst hV
      refine val_ _ ?_ rfl he
      unfold execOp
      rw [hop]
      refine run_v ?_
      rw [show a.eval y = .int i n from h.eval h1]
      unfold convert
      rw [run_andThen _ _ w w _ (run_underlying h2 w), run_andThen _ _ w w _ (run_underlying h3 w)]
      simp [Conv.intToInt, wr_eq, pure]
    · exact pure_ hV he
  case call c =>
    have he : opM al P o st.eval st.mem = some st.mem := by simp [opM, opB, opL, hop]
    obtain ⟨callee, args, at_⟩ := c
    by_cases hcal : ∃ f, callee = .value (.func f)
    · obtain ⟨f, rfl⟩ := hcal
      simp only [opV, hop] at hV
      split at hV
      · rename_i vs hvs
        split at hV
        · rename_i g r hr
          cases g with
          | false => cases hV
          | true =>
          injection hV with hV
          subst hV
          rcases hΓ.call f vs r hr w with h1 | ⟨h1, h2⟩
          · exact val_ r (call_run h hop hvs h1) rfl he
          · refine same ?_ he
            unfold Oper.wp
            rw [call_run h hop hvs h1, Oper.upon_enter]
            refine h2.mono ?_
            rintro e w' ⟨rfl, hb⟩
            exact ⟨β, (h.below' hb).put o.dst rfl, hp.put _ _⟩
        · cases hV
      · cases hV
    · refine pure_ ?_ he
      rw [← hV]
      unfold opV
      rw [hop]
      cases callee with
      | value f =>
        cases f with
        | func f => exact absurd ⟨f, rfl⟩ hcal
        | _ => rfl
      | _ => rfl
  all_goals (simp only [opV, hop] at hV; exact pure_ hV (by simp [opM, opB, opL, hop]))
end
end Go.Sx

namespace Go.Sx
open Go.RowKit

/-- One operation, in a region that draws no order (al = none: blocks are made as they come), or in one that does (al: the blocks that its allocs will make): its value, and what it makes of memory. -/
def opR (Γ : Orc) (P : Program) (al : Option (List (Tmp × Nat × TypeId))) (o : Oper) (st : St) : Option (SV × Mem) :=
  match al with
  | some al => match opV Γ P al o st.eval st.mem.blk, opM al P o st.eval st.mem with
    | some x, some m => some (x, m)
    | _, _ => none
  | none => match o.op with
    | .alloc e => match zeroT P e, st.mem.blk.length == st.mem.live.length with
      | some z, true => some (.ptr st.mem.blk.length 0, ⟨st.mem.blk ++ [z.cells.toList.map .v], st.mem.live ++ [true]⟩)
      | _, _ => none
    | .box _ x => match st.eval x, st.mem.blk.length == st.mem.live.length with
      | some (.v y), true => some (.ptr st.mem.blk.length 0, ⟨st.mem.blk ++ [y.cells.toList.map .v], st.mem.live ++ [true]⟩)
      | _, _ => none
    | _ => match opV Γ P [] o st.eval st.mem.blk, opM [] P o st.eval st.mem with
      | some x, some m => some (x, m)
      | _, _ => none

def opS (Γ : Orc) (P : Program) (al : Option (List (Tmp × Nat × TypeId))) (o : Oper) (st : St) : Option St :=
  match opR Γ P al o st with
  | some (x, m) => some (({ st with mem := m } : St).put o.dst x)
  | none => none

def alOf (al : Option (List (Tmp × Nat × TypeId))) : List (Tmp × Nat × TypeId) := al.getD []

def yieldS (ops : Array Oper) (st : St) (j : Nat) : Option SV := ((ops[j]?).bind (·.dst)).bind (st.tmps.get ·)

def stepS (Γ : Orc) (P : Program) (al : Option (List (Tmp × Nat × TypeId))) (ops : Array Oper) (o : Oper) (st : St) : Option St :=
  match o.guard with
  | none => opS Γ P al o st
  | some (j, want) => match yieldS ops st j with
    | some (.v (.bool t)) => bif t == want then opS Γ P al o st else some (st.put o.dst (.v undef))
    | some (.v _) => some (st.put o.dst (.v undef))
    | _ => none

def stepsS (Γ : Orc) (P : Program) (al : Option (List (Tmp × Nat × TypeId))) (ops : Array Oper) : List Oper → St → Option St
  | [], st => some st
  | o :: r, st => match stepS Γ P al ops o st with
    | some st' => stepsS Γ P al ops r st'
    | none => none

section
variable {P : Program} {al : Option (List (Tmp × Nat × TypeId))} {w0 : World} {st : St} {β : Nat → Option (Nat × Nat)} {a : Act} {w : World} {Γ : Orc} {Q : Exit → Act → World → Prop}

theorem Rel.extend (h : Rel w0 st β a w) (cs : List SV) (b : Bool) : Rel w0 { st with mem := ⟨st.mem.blk ++ [cs], st.mem.live ++ [b]⟩ } β a w ∨ st.mem.blk.length ≠ st.mem.live.length := by
  by_cases hl : st.mem.blk.length = st.mem.live.length
  · left
    refine ⟨h.len, h.tmps, h.defers, fun l b' o hb cs' hc j x hx => ?_, h.inj, h.own, fun l hb => ?_, h.below, h.froz⟩
    · have hd := h.dom l (by simp [hb])
      have hlt : l < st.mem.live.length := by
        rcases Nat.lt_or_ge l st.mem.live.length with h' | h'
        · exact h'
        · simp [List.getElem?_eq_none h'] at hd
      simp only at hc
      rw [List.getElem?_append_left (by omega)] at hc
      exact h.mem l b' o hb cs' hc j x hx
    · have hd := h.dom l hb
      have hlt : l < st.mem.live.length := by
        rcases Nat.lt_or_ge l st.mem.live.length with h' | h'
        · exact h'
        · simp [List.getElem?_eq_none h'] at hd
      simp only
      rw [List.getElem?_append_left hlt]
      exact hd
  · exact .inr hl

/-- A block made as it comes. -/
theorem Rel.append (h : Rel w0 st β a w) (hl : st.mem.blk.length = st.mem.live.length) (y : Value) (t : TypeId) :
    ∃ β', Rel w0 { st with mem := ⟨st.mem.blk ++ [y.cells.toList.map .v], st.mem.live ++ [true]⟩ } β' a (w.alloc (.cells y.cells t)) ∧ β' st.mem.blk.length = some (w.heap.size, 0) := by
  have h1 := (h.extend (y.cells.toList.map .v) false).resolve_right (fun e => e hl)
  obtain ⟨hR, _⟩ := h1.newBlock (l := st.mem.blk.length) (cs := y.cells.toList) (by simp [hl]) (by simp) t
  refine ⟨fun i => if i = st.mem.blk.length then some (w.heap.size, 0) else β i, ?_, by simp⟩
  have e1 : (st.mem.live ++ [false]).set st.mem.blk.length true = st.mem.live ++ [true] := by
    rw [hl]; simp
  simpa [e1] using hR

theorem alloc_run {o : Oper} {e : TypeId} {z : Value} (hop : o.op = .alloc e) (hz : zeroT P e = some z) :
    (execOp a.eval o).run P w = .ok (.value (.pointer (some ⟨w.heap.size, 0, none⟩))) (w.alloc (.cells z.cells e)) := by
  unfold execOp
  rw [hop]
  refine run_v ?_
  unfold Instr.alloc
  rw [run_andThen _ _ w w z (zeroT_run hz)]
  simp [newVar, newRow, newObj, pure, Sem.run, bind, Sem.bind]

theorem box_run {o : Oper} {e : TypeId} {x : Operand} {y : Value} (hop : o.op = .box e x) (hx : a.eval x = y) :
    (execOp a.eval o).run P w = .ok (.value (.pointer (some ⟨w.heap.size, 0, none⟩))) (w.alloc (.cells y.cells e)) := by
  unfold execOp
  rw [hop]
  refine run_v ?_
  rw [hx]
  simp [Instr.box, newVar, newRow, newObj, pure, Sem.run, bind, Sem.bind]

theorem opS_sound (hΓ : Γ.Ok P) {o : Oper} {st' : St} (hS : opS Γ P al o st = some st') (h : RelP P (alOf al) w0 st a w) :
    o.wp P a w (fun a' w' => RelP P (alOf al) w0 st' a' w') Q := by
  obtain ⟨β, hR, hp⟩ := h
  unfold opS at hS
  cases hq : opR Γ P al o st with
  | none => simp [hq] at hS
  | some q =>
    obtain ⟨x, m⟩ := q
    simp [hq] at hS
    subst hS
    have gen : ∀ l : List (Tmp × Nat × TypeId), Pend P l st β → (match opV Γ P l o st.eval st.mem.blk, opM l P o st.eval st.mem with
        | some x, some m => some (x, m)
        | _, _ => none) = some (x, m) → o.wp P a w (fun a' w' => RelP P l w0 (({ st with mem := m } : St).put o.dst x) a' w') Q := by
      intro l hp hS
      split at hS
      · rename_i x' m' h1 h2
        injection hS with hS
        injection hS with e1 e2
        subst e1 e2
        exact op_sound hΓ h1 h2 hR hp
      · cases hS
    cases al with
    | some l => exact gen l hp hq
    | none =>
      have nopend : ∀ st β, Pend P [] st β := fun _ _ d l e hm => by cases hm
      unfold opR at hq
      simp only at hq
      split at hq
      · rename_i e hop
        split at hq
        · rename_i z hz hl
          injection hq with hq
          injection hq with e1 e2
          subst e1 e2
          obtain ⟨β', hR', hb'⟩ := hR.append (by simpa using hl) z e
          unfold Oper.wp
          rw [alloc_run hop hz, Oper.upon_value]
          exact ⟨β', hR'.put o.dst ⟨_, _, hb', by simp⟩, nopend _ _⟩
        · cases hq
      · rename_i e x' hop
        split at hq
        · rename_i y hy hl
          injection hq with hq
          injection hq with e1 e2
          subst e1 e2
          obtain ⟨β', hR', hb'⟩ := hR.append (by simpa using hl) y e
          unfold Oper.wp
          rw [box_run hop (hR.eval hy), Oper.upon_value]
          exact ⟨β', hR'.put o.dst ⟨_, _, hb', by simp⟩, nopend _ _⟩
        · cases hq
      · exact gen [] (nopend _ _) hq

theorem yieldS_ok (hR : Rel w0 st β a w) {ops : Array Oper} {j : Nat} {s : SV} (h : yieldS ops st j = some s) :
    ∃ y, ((ops[j]?).bind (·.dst)).bind (a.tmps[·]?) = some y ∧ Den β s y := by
  unfold yieldS at h
  cases hd : (ops[j]?).bind (·.dst) with
  | none => simp [hd] at h
  | some d =>
    simp only [hd, Option.bind_some] at h ⊢
    have hlt : d < a.tmps.size := hR.len d s h
    refine ⟨a.tmps[d], by simp [hlt], hR.tmps d s h _ (by simp [hlt])⟩

theorem stepS_sound (hΓ : Γ.Ok P) {ops : Array Oper} {o : Oper} {st' : St} (hS : stepS Γ P al ops o st = some st') (h : RelP P (alOf al) w0 st a w) :
    if Region.wanted o (yielded ops a.tmps) then o.wp P a w (fun a' w' => RelP P (alOf al) w0 st' a' w') Q else RelP P (alOf al) w0 st' (a.put o.dst undef) w := by
  obtain ⟨β, hR, hp⟩ := h
  have skip : RelP P (alOf al) w0 (st.put o.dst (.v undef)) (a.put o.dst undef) w := ⟨β, hR.put o.dst rfl, hp.put _ _⟩
  unfold stepS at hS
  split at hS
  · rename_i hg
    have : Region.wanted o (yielded ops a.tmps) = true := by simp [Region.wanted, hg]
    rw [if_pos this]
    exact opS_sound hΓ hS ⟨β, hR, hp⟩
  · rename_i j want hg
    split at hS
    · rename_i t ht
      obtain ⟨y, hy, hd⟩ := yieldS_ok hR ht
      have hy' : y = .bool t := hd
      subst hy'
      have hw : Region.wanted o (yielded ops a.tmps) = (t == want) := by
        simp only [Region.wanted, hg, yielded, hy]
        cases t <;> cases want <;> rfl
      rw [hw]
      cases htw : t == want
      · simp [htw] at hS
        subst hS
        simpa using skip
      · simp [htw] at hS
        simpa using opS_sound (Q := Q) hΓ hS ⟨β, hR, hp⟩
    · rename_i y' hne ht
      obtain ⟨y, hy, hd⟩ := yieldS_ok hR ht
      have hy' : y = y' := hd
      subst hy'
      injection hS with hS
      subst hS
      have hw : Region.wanted o (yielded ops a.tmps) = false := by
        simp only [Region.wanted, hg, yielded, hy]
        cases y <;> first | rfl | (exact absurd rfl (fun e => by first | exact hne _ ht | exact hne _ e))
      rw [hw]
      simpa using skip
    · cases hS

theorem wpOp_of_stepS (hΓ : Γ.Ok P) {ops : Array Oper} {i : Nat} {o : Oper} {st' : St} (ho : ops[i]? = some o) (hS : stepS Γ P al ops o st = some st') (h : RelP P (alOf al) w0 st a w)
    {K : Act → World → Prop} (hK : ∀ a w, RelP P (alOf al) w0 st' a w → K a w) : wpOp P ops Q i K a w := by
  unfold wpOp
  simp only [ho]
  have := stepS_sound (Q := Q) hΓ hS h
  split
  · rename_i hw
    rw [if_pos hw] at this
    exact .inl (Oper.wp_mono hK this)
  · rename_i hw
    rw [if_neg hw] at this
    exact hK _ _ this

/-- A region that draws no order. -/
theorem region_sound (hΓ : Γ.Ok P) {ops : Array Oper} {st' : St} : ∀ (l : List Oper) (k : Nat) (st : St) (a : Act) (w : World), (∀ j, l[j]? = ops[k + j]?) → 
    stepsS Γ P al ops l st = some st' → RelP P (alOf al) w0 st a w → (∀ a w, RelP P (alOf al) w0 st' a w → Q .normal a w) → wpOps P ops Q (List.range' k l.length) a w
  | [], k, st, a, w, _, hS, h, hQ => by
    simp only [stepsS] at hS
    injection hS with hS
    subst hS
    exact hQ a w h
  | o :: r, k, st, a, w, hl, hS, h, hQ => by
    simp only [stepsS] at hS
    split at hS
    · rename_i st1 h1
      have h0 : ops[k]? = some o := by simpa using (hl 0).symm
      rw [List.length_cons, List.range'_succ, wpOps_cons]
      exact wpOp_of_stepS hΓ h0 h1 h (fun a w h' => region_sound hΓ r (k + 1) st1 a w (fun j => by have := hl (j + 1); simpa [Nat.add_assoc, Nat.add_comm 1 j] using this) hS h' hQ)
    · cases hS
end
end Go.Sx

namespace Go.Sx
open Go.RowKit

def isLoad : Op → Bool
  | .load _ _ => true
  | _ => false
def isStore : Op → Bool
  | .store _ _ _ => true
  | _ => false
def clash (a b : Op) : Bool := (isLoad a && isStore b) || (isStore a && isLoad b) || (isStore a && isStore b)

section
variable {P : Program} {al : List (Tmp × Nat × TypeId)} {Γ : Orc} {ops : Array Oper}

theorem opM_some {o : Oper} {ev : Operand → Option SV} {m m' : Mem} : opM al P o ev m = some m' ↔ (opB P o ev m.blk = some m'.blk ∧ opL al o m.live = some m'.live) := by
  obtain ⟨b, l⟩ := m
  obtain ⟨b', l'⟩ := m'
  unfold opM
  split
  · rename_i h1 h2
    simp only at h1 h2
    simp [h1, h2]
  · rename_i h1
    simp only
    constructor
    · intro h; cases h
    · intro h; exact absurd h.2 (fun e => h1 _ _ h.1 e)

theorem pureV_congr {o : Oper} {ev ev' : Operand → Option SV} (h : ∀ x ∈ o.op.operands, ev x = ev' x) : pureV P o ev = pureV P o ev' := by
  unfold pureV
  have h1 : (o.op.operands.toList.all fun x => isV (ev x)) = (o.op.operands.toList.all fun x => isV (ev' x)) := by
    rw [Bool.eq_iff_iff, List.all_eq_true, List.all_eq_true]
    constructor <;> intro hh x hx
    · rw [← h x (by simpa using hx)]; exact hh x hx
    · rw [h x (by simpa using hx)]; exact hh x hx
  rw [h1]
  cases hs : isSel o.op
  · rw [execOp_congr o (fun cs b he => by rw [he] at hs; simp [isSel] at hs) (fun x hx => by rw [h x hx])]
  · simp

theorem allOps_congr {ev ev' : Operand → Option SV} : ∀ l : List Operand, (∀ x ∈ l, ev x = ev' x) → allOps ev l = allOps ev' l
  | [], _ => rfl
  | x :: r, h => by
    unfold allOps
    rw [h x (by simp), allOps_congr r (fun y hy => h y (by simp [hy]))]

theorem opV_congr {o : Oper} {ev ev' : Operand → Option SV} {blk blk' : List (List SV)} (h : ∀ x ∈ o.op.operands, ev x = ev' x) (hb : isLoad o.op = true → blk = blk') :
    opV Γ P al o ev blk = opV Γ P al o ev' blk' := by
  have hp := pureV_congr (P := P) h
  unfold opV
  cases hop : o.op
  case move x => simp only; exact h x (by simp [hop, Op.operands])
  case assign x => simp only; exact h x (by simp [hop, Op.operands])
  case pick c x y =>
    have h1 := h c (by simp [hop, Op.operands])
    have h2 := h x (by simp [hop, Op.operands])
    have h3 := h y (by simp [hop, Op.operands])
    simp only [h1, h2, h3]
  case alloc e => rfl
  case load t p =>
    have h1 := h p (by simp [hop, Op.operands])
    have h2 := hb (by simp [hop, isLoad])
    simp only [h1, h2]
  case store => rfl
  case fieldAddr s p f =>
    have h1 := h p (by simp [hop, Op.operands])
    simp only [h1]
  case binOp bop t x y t' =>
    have h1 := h x (by simp [hop, Op.operands])
    have h2 := h y (by simp [hop, Op.operands])
    cases bop <;> simp only [h1, h2, hp]
  case convert s d x =>
    have h1 := h x (by simp [hop, Op.operands])
    simp only [h1, hp]
  case call c =>
    obtain ⟨callee, args, at_⟩ := c
    have h1 : ∀ x ∈ args.toList, ev x = ev' x := fun x hx => h x (by simp [hop, Op.operands, Call.operands]; exact .inr (by simpa using hx))
    cases callee with
    | value f =>
      cases f with
      | func f => simp only [allOps_congr _ h1]
      | _ => simpa using hp
    | _ => simpa using hp
  all_goals simpa using hp

theorem opB_congr {o : Oper} {ev ev' : Operand → Option SV} {blk : List (List SV)} (h : ∀ x ∈ o.op.operands, ev x = ev' x) : opB P o ev blk = opB P o ev' blk := by
  unfold opB
  cases hop : o.op
  case store t p x =>
    have h1 := h p (by simp [hop, Op.operands])
    have h2 := h x (by simp [hop, Op.operands])
    simp only [h1, h2]
  all_goals rfl

theorem opB_other {o : Oper} {ev : Operand → Option SV} {blk : List (List SV)} (h : isStore o.op = false) : opB P o ev blk = some blk := by
  unfold opB
  cases hop : o.op
  case store => simp [hop, isStore] at h
  all_goals rfl

def core (Γ : Orc) (P : Program) (al : List (Tmp × Nat × TypeId)) (o : Oper) (st : St) : Option (SV × Mem) :=
  match opV Γ P al o st.eval st.mem.blk, opM al P o st.eval st.mem with
  | some x, some m => some (x, m)
  | _, _ => none

/-- One step, in a region that draws its order: its value, and what it makes of memory. -/
def stepR (Γ : Orc) (P : Program) (al : List (Tmp × Nat × TypeId)) (ops : Array Oper) (o : Oper) (st : St) : Option (SV × Mem) :=
  match o.guard with
  | none => core Γ P al o st
  | some (j, want) => match yieldS ops st j with
    | some (.v (.bool t)) => bif t == want then core Γ P al o st else some (.v undef, st.mem)
    | some (.v _) => some (.v undef, st.mem)
    | _ => none

theorem opS_some {o : Oper} {st : St} : opS Γ P (some al) o st = (core Γ P al o st).map fun q => ({ st with mem := q.2 } : St).put o.dst q.1 := by
  unfold core
  simp only [opS, opR]
  cases opV Γ P al o st.eval st.mem.blk <;> cases opM al P o st.eval st.mem <;> rfl

theorem stepS_eq {o : Oper} {st : St} : stepS Γ P (some al) ops o st = (stepR Γ P al ops o st).map fun q => ({ st with mem := q.2 } : St).put o.dst q.1 := by
  have h := opS_some (Γ := Γ) (P := P) (al := al) (o := o) (st := st)
  unfold stepS stepR
  generalize opS Γ P (some al) o st = u at *
  generalize core Γ P al o st = v at *
  cases hg : o.guard with
  | none => exact h
  | some jw =>
    obtain ⟨j, want⟩ := jw
    simp only
    cases hy : yieldS ops st j with
    | none => rfl
    | some s =>
      cases s with
      | v y =>
        cases y with
        | bool t =>
          simp only
          cases t == want
          · rfl
          · exact h
        | _ => rfl
      | _ => rfl

/-- What a step comes to, at what it looks at. -/
inductive StepAt (Γ : Orc) (P : Program) (al : List (Tmp × Nat × TypeId)) (ops : Array Oper) (o : Oper) (st : St) : SV → Mem → Prop where
  | runs (x : SV) (b : List (List SV)) (l : List Bool) (hg : o.guard = none ∨ ∃ j t, o.guard = some (j, t) ∧ yieldS ops st j = some (.v (.bool t)))
      (hv : opV Γ P al o st.eval st.mem.blk = some x) (hb : opB P o st.eval st.mem.blk = some b) (hl : opL al o st.mem.live = some l) : StepAt Γ P al ops o st x ⟨b, l⟩
  | skips (j : Nat) (t : Bool) (y : Value) (hg : o.guard = some (j, t)) (hy : yieldS ops st j = some (.v y)) (hne : y ≠ .bool t) : StepAt Γ P al ops o st (.v undef) st.mem

theorem stepR_iff {o : Oper} {st : St} {x : SV} {m : Mem} : stepR Γ P al ops o st = some (x, m) ↔ StepAt Γ P al ops o st x m := by
  constructor
  · intro h
    have main : core Γ P al o st = some (x, m) → (o.guard = none ∨ ∃ j t, o.guard = some (j, t) ∧ yieldS ops st j = some (.v (.bool t))) → StepAt Γ P al ops o st x m := by
      intro h hg
      unfold core at h
      split at h
      · rename_i x' m' h1 h2
        injection h with h
        injection h with e1 e2
        subst e1 e2
        have := opM_some.1 h2
        exact .runs x' m'.blk m'.live hg h1 this.1 this.2
      · cases h
    unfold stepR at h
    split at h
    · rename_i hg
      exact main h (.inl hg)
    · rename_i j want hg
      split at h
      · rename_i t ht
        cases htw : t == want
        · simp [htw] at h
          obtain ⟨rfl, rfl⟩ := h
          exact .skips j want (.bool t) hg ht (by intro e; injection e with e; subst e; simp at htw)
        · simp [htw] at h
          have : t = want := by simpa using htw
          subst this
          exact main h (.inr ⟨j, t, hg, ht⟩)
      · rename_i y hne hy
        injection h with h
        injection h with e1 e2
        subst e1 e2
        refine .skips j want y hg hy (fun e => ?_)
        subst e
        first | exact hne _ hy | exact hne _ rfl
      · cases h
  · intro h
    cases h with
    | runs x b l hg hv hb hl =>
      have hm : opM al P o st.eval st.mem = some ⟨b, l⟩ := opM_some.2 ⟨hb, hl⟩
      rcases hg with hg | ⟨j, t, hg, hy⟩
      · simp [stepR, core, hg, hv, hm]
      · simp [stepR, core, hg, hv, hm, hy]
    | skips j t y hg hy hne =>
      unfold stepR
      simp only [hg, hy]
      cases y with
      | bool b =>
        have : (b == t) = false := by cases b <;> cases t <;> simp at hne ⊢
        simp [this]
      | _ => rfl
end
end Go.Sx

namespace Go.Sx
open Go.RowKit

section
variable {P : Program} {al : List (Tmp × Nat × TypeId)} {Γ : Orc} {ops : Array Oper} {w0 : World} {Q : Exit → Act → World → Prop}

theorem eval_put {st : St} {d : Option Tmp} {x : SV} {m : Mem} {y : Operand} (h : ∀ t, d = some t → y ≠ .tmp t) : (({ st with mem := m } : St).put d x).eval y = st.eval y := by
  cases d with
  | none => cases y <;> rfl
  | some t =>
    cases y with
    | tmp u =>
      have : t ≠ u := fun e => h t rfl (e ▸ rfl)
      simp [St.eval, St.put, Tr.get_set_ne _ _ _ _ this]
    | _ => rfl

theorem yieldS_put {st : St} {d : Option Tmp} {x : SV} {m : Mem} {j : Nat} (h : ∀ t, d = some t → (ops[j]?).bind (·.dst) ≠ some t) : yieldS ops (({ st with mem := m } : St).put d x) j = yieldS ops st j := by
  cases d with
  | none => rfl
  | some t =>
    unfold yieldS
    cases hd : (ops[j]?).bind (·.dst) with
    | none => rfl
    | some u =>
      have : t ≠ u := fun e => h t rfl (by rw [hd, e])
      simp [St.put, Tr.get_set_ne _ _ _ _ this]

theorem looks_eval {o : Oper} {st : St} {d : Option Tmp} {z : SV} {m1 : Mem} (hd : ∀ t, d = some t → t ∉ o.looksAt ops) :
    (∀ y ∈ o.op.operands, (({ st with mem := m1 } : St).put d z).eval y = st.eval y) ∧ (∀ j t, o.guard = some (j, t) → yieldS ops (({ st with mem := m1 } : St).put d z) j = yieldS ops st j) :=
  ⟨fun y hy => eval_put fun t ht hyt => hd t ht (by
    subst hyt
    exact List.mem_append_left _ (List.mem_filterMap.2 ⟨.tmp t, by simpa using hy, rfl⟩)),
  fun j t hg => yieldS_put fun u hu hju => hd u hu (by
    refine List.mem_append_right _ ?_
    simp [hg, hju])⟩

theorem put_mem {st : St} {m : Mem} {d : Option Tmp} {x : SV} : (({ st with mem := m } : St).put d x).mem = m := by cases d <;> rfl

theorem put_put_comm {st : St} {m : Mem} {d e : Option Tmp} (x y : SV) (h : ∀ t, d = some t → e ≠ some t) : ((({ st with mem := m } : St).put d x)).put e y = (({ st with mem := m } : St).put e y).put d x := by
  cases d with
  | none => cases e <;> rfl
  | some t =>
    cases e with
    | none => rfl
    | some u =>
      have : t ≠ u := fun he => h t rfl (he ▸ rfl)
      simp [St.put, Tr.set_comm _ _ _ _ _ this]

theorem with_mem_put {st : St} {m m' : Mem} {d : Option Tmp} {x : SV} : ({ (({ st with mem := m } : St).put d x) with mem := m' } : St) = ({ st with mem := m' } : St).put d x := by
  cases d <;> rfl

theorem opL_comm {oi oj : Oper} {l l1 l2 : List Bool} (h1 : opL al oi l = some l1) (h2 : opL al oj l1 = some l2) : ∃ l', opL al oj l = some l' ∧ opL al oi l' = some l2 := by
  have other : ∀ (o : Oper) (l : List Bool), (∀ e, o.op ≠ .alloc e) → opL al o l = some l := by
    intro o l hne
    unfold opL
    cases hop : o.op
    case alloc e => exact absurd hop (hne e)
    all_goals rfl
  by_cases hi : ∃ e, oi.op = .alloc e
  · by_cases hj : ∃ e, oj.op = .alloc e
    · obtain ⟨e, hi⟩ := hi
      obtain ⟨e', hj⟩ := hj
      unfold opL at *
      simp only [hi] at h1 ⊢
      simp only [hj] at h2 ⊢
      cases hli : lookAl al oi.dst with
      | none => simp [hli] at h1
      | some qi =>
        obtain ⟨ii, ei⟩ := qi
        cases hlj : lookAl al oj.dst with
        | none => simp [hlj] at h2
        | some qj =>
          obtain ⟨jj, ej⟩ := qj
          simp only [hli] at h1 ⊢
          simp only [hlj] at h2 ⊢
          cases hb : l[ii]? with
          | none => simp [hb] at h1
          | some b =>
            cases b with
            | true => simp [hb] at h1
            | false =>
              simp [hb] at h1
              subst h1
              have hne : ii ≠ jj := by
                rintro rfl
                rw [List.getElem?_set_self'] at h2
                simp [hb] at h2
              rw [List.getElem?_set_ne hne] at h2
              cases hb2 : l[jj]? with
              | none => simp [hb2] at h2
              | some b2 =>
                cases b2 with
                | true => simp [hb2] at h2
                | false =>
                  simp [hb2] at h2
                  subst h2
                  refine ⟨l.set jj true, rfl, ?_⟩
                  rw [List.getElem?_set_ne (Ne.symm hne), hb]
                  simp [List.set_comm _ _ hne]
    · rw [other oj _ (fun e he => hj ⟨e, he⟩)] at h2
      injection h2 with h2
      subst h2
      exact ⟨l, other oj _ (fun e he => hj ⟨e, he⟩), h1⟩
  · rw [other oi _ (fun e he => hi ⟨e, he⟩)] at h1
    injection h1 with h1
    subst h1
    exact ⟨l2, h2, other oi _ (fun e he => hi ⟨e, he⟩)⟩

theorem clash_spec {a b : Op} (h : clash a b = false) : (isStore a = true → isLoad b = false ∧ isStore b = false) ∧ (isStore b = true → isLoad a = false ∧ isStore a = false) := by
  unfold clash at h
  cases h1 : isLoad a <;> cases h2 : isLoad b <;> cases h3 : isStore a <;> cases h4 : isStore b <;> simp_all

theorem stepS_comm {oi oj : Oper} (hap : oi.apart ops oj = true) (hcl : clash oi.op oj.op = false) {st s1 s2 : St} (h1 : stepS Γ P (some al) ops oi st = some s1) (h2 : stepS Γ P (some al) ops oj s1 = some s2) :
    ∃ s', stepS Γ P (some al) ops oj st = some s' ∧ stepS Γ P (some al) ops oi s' = some s2 := by
  obtain ⟨a1, a2, a3⟩ := Oper.apart_spec hap
  obtain ⟨c1, c2⟩ := clash_spec hcl
  rw [stepS_eq] at h1 h2
  cases hi : stepR Γ P al ops oi st with
  | none => simp [hi] at h1
  | some q1 =>
    obtain ⟨x, m1⟩ := q1
    simp [hi] at h1
    subst h1
    cases hj : stepR Γ P al ops oj (({ st with mem := m1 } : St).put oi.dst x) with
    | none => simp [hj] at h2
    | some q2 =>
      obtain ⟨y, m2⟩ := q2
      simp [hj] at h2
      rw [with_mem_put] at h2
      rw [stepR_iff] at hi hj
      have fin : ∀ m', StepAt Γ P al ops oj st y m' → StepAt Γ P al ops oi (({ st with mem := m' } : St).put oj.dst y) x m2 →
          ∃ s', stepS Γ P (some al) ops oj st = some s' ∧ stepS Γ P (some al) ops oi s' = some s2 := by
        intro m' g1 g2
        refine ⟨({ st with mem := m' } : St).put oj.dst y, ?_, ?_⟩
        · rw [stepS_eq, stepR_iff.2 g1]; rfl
        · rw [stepS_eq, stepR_iff.2 g2, ← h2]
          simp only [Option.map_some, with_mem_put]
          rw [put_put_comm x y a2]
      obtain ⟨ej, yj⟩ := looks_eval (o := oj) (st := st) (z := x) (m1 := m1) a1
      obtain ⟨ei, yi⟩ : (∀ m', ∀ z ∈ oi.op.operands, (({ st with mem := m' } : St).put oj.dst y).eval z = st.eval z) ∧ (∀ m', ∀ j t, oi.guard = some (j, t) → yieldS ops (({ st with mem := m' } : St).put oj.dst y) j = yieldS ops st j) :=
        ⟨fun m' => (looks_eval (o := oi) (st := st) (z := y) (m1 := m') a3).1, fun m' => (looks_eval (o := oi) (st := st) (z := y) (m1 := m') a3).2⟩
      cases hi with
      | runs _ b1 l1 hgi hvi hbi hli =>
        have hgi' : ∀ m', oi.guard = none ∨ ∃ j t, oi.guard = some (j, t) ∧ yieldS ops (({ st with mem := m' } : St).put oj.dst y) j = some (.v (.bool t)) := by
          intro m'
          rcases hgi with hg | ⟨j, t, hg, hy⟩
          · exact .inl hg
          · exact .inr ⟨j, t, hg, by rw [yi m' j t hg]; exact hy⟩
        cases hj with
        | runs _ b2 l2 hgj hvj hbj hlj =>
          rw [put_mem] at hvj hbj hlj
          simp only at hvj hbj hlj
          obtain ⟨l', hl1, hl2⟩ := opL_comm hli hlj
          have hgj' : oj.guard = none ∨ ∃ j t, oj.guard = some (j, t) ∧ yieldS ops st j = some (.v (.bool t)) := by
            rcases hgj with hg | ⟨j, t, hg, hy⟩
            · exact .inl hg
            · exact .inr ⟨j, t, hg, by rw [← yj j t hg]; exact hy⟩
          cases hs : isStore oi.op with
          | true =>
            obtain ⟨d1, d2⟩ := c1 hs
            rw [opB_other d2] at hbj
            injection hbj with hbj
            subst hbj
            refine fin ⟨st.mem.blk, l'⟩ (.runs y _ _ hgj' ?_ (opB_other d2) hl1) (.runs x _ _ (hgi' _) ?_ ?_ (by rw [put_mem]; exact hl2))
            · exact (opV_congr ej (fun h => by rw [d1] at h; cases h)).symm.trans hvj
            · rw [put_mem, opV_congr (ei _) (fun _ => rfl)]; exact hvi
            · rw [put_mem, opB_congr (ei _)]; exact hbi
          | false =>
            rw [opB_other hs] at hbi
            injection hbi with hbi
            subst hbi
            refine fin ⟨b2, l'⟩ (.runs y _ _ hgj' ?_ ?_ hl1) (.runs x _ _ (hgi' _) ?_ (by rw [put_mem]; exact opB_other hs) (by rw [put_mem]; exact hl2))
            · rw [← opV_congr ej (fun _ => rfl)]; exact hvj
            · rw [← opB_congr ej]; exact hbj
            · rw [put_mem, opV_congr (ei _) (blk' := st.mem.blk)]
              · exact hvi
              · intro hld
                cases hsj : isStore oj.op with
                | true => rw [(c2 hsj).1] at hld; cases hld
                | false =>
                  rw [opB_other hsj] at hbj
                  injection hbj with hbj
                  exact hbj.symm
        | skips j t u hg hy hne =>
          rw [put_mem] at *
          refine fin st.mem (.skips j t u hg (by rw [← yj j t hg]; exact hy) hne) (.runs x _ _ (hgi' _) ?_ ?_ (by rw [put_mem]; exact hli))
          · rw [put_mem, opV_congr (ei _) (fun _ => rfl)]; exact hvi
          · rw [put_mem, opB_congr (ei _)]; exact hbi
      | skips j t u hg hy hne =>
        cases hj with
        | runs _ b2 l2 hgj hvj hbj hlj =>
          rw [put_mem] at hvj hbj hlj
          have hgj' : oj.guard = none ∨ ∃ j t, oj.guard = some (j, t) ∧ yieldS ops st j = some (.v (.bool t)) := by
            rcases hgj with hg | ⟨j, t, hg, hy⟩
            · exact .inl hg
            · exact .inr ⟨j, t, hg, by rw [← yj j t hg]; exact hy⟩
          refine fin ⟨b2, l2⟩ (.runs y _ _ hgj' ?_ ?_ hlj) ?_
          · rw [← opV_congr ej (fun _ => rfl)]; exact hvj
          · rw [← opB_congr ej]; exact hbj
          · have := StepAt.skips (Γ := Γ) (P := P) (al := al) (o := oi) (st := (({ st with mem := ⟨b2, l2⟩ } : St).put oj.dst y)) j t u hg (by rw [yi _ j t hg]; exact hy) hne
            rwa [put_mem] at this
        | skips j' t' u' hg' hy' hne' =>
          rw [put_mem] at *
          refine fin st.mem (.skips j' t' u' hg' (by rw [← yj j' t' hg']; exact hy') hne') ?_
          have := StepAt.skips (Γ := Γ) (P := P) (al := al) (o := oi) (st := (({ st with mem := st.mem } : St).put oj.dst (.v undef))) j t u hg (by rw [yi _ j t hg]; exact hy) hne
          rwa [put_mem] at this
end
end Go.Sx

namespace Go.Sx
open Go.RowKit

def waitsB (ops : Array Oper) (j i : Nat) : Bool :=
  match ops[j]? with
  | some oj => oj.after.any fun e => Region.binds .any e && e.on == i
  | none => false

def freeS (ops : Array Oper) (listed : Array Bool) (k : Nat) : Bool :=
  match ops[k]? with
  | some ok => (List.range ops.size).all fun j => listed.getD j true || j == k || waitsB ops j k ||
    (match ops[j]? with
     | some oj => ok.apart ops oj && !clash ok.op oj.op
     | none => false)
  | none => false

def lexS (ops : Array Oper) : Nat → Nat → Array Bool → Bool
  | 0, _, listed => (Region.ready .any ops listed).isEmpty
  | f + 1, k, listed => (Region.ready .any ops listed).contains k && freeS ops listed k && lexS ops f (k + 1) (listed.setIfInBounds k true)

section
variable {P : Program} {al : List (Tmp × Nat × TypeId)} {Γ : Orc} {ops : Array Oper} {w0 : World} {Q : Exit → Act → World → Prop}

/-- Whatever order is picked from here on, the steps go through and come to the same. -/
def sAny (Γ : Orc) (P : Program) (al : List (Tmp × Nat × TypeId)) (ops : Array Oper) (T : St → Prop) : Nat → Array Bool → St → Prop
  | 0, listed, st => Region.ready .any ops listed = [] ∧ T st
  | f + 1, listed, st => (Region.ready .any ops listed = [] → T st) ∧
    ∀ i ∈ Region.ready .any ops listed, ∃ o st', ops[i]? = some o ∧ stepS Γ P (some al) ops o st = some st' ∧ sAny Γ P al ops T f (listed.setIfInBounds i true) st'

theorem sAny_first {T : St → Prop} {i : Nat} {oi : Oper} (hi : ops[i]? = some oi) : ∀ (f : Nat) (listed : Array Bool) (st st1 : St),
    (∀ j oj, ops[j]? = some oj → j ≠ i → listed.getD j true = false → (∀ e ∈ oj.after, Region.binds .any e = true → e.on ≠ i) → oi.apart ops oj = true ∧ clash oi.op oj.op = false) →
    i ∈ Region.ready .any ops listed → stepS Γ P (some al) ops oi st = some st1 → sAny Γ P al ops T f (listed.setIfInBounds i true) st1 → sAny Γ P al ops T (f + 1) listed st := by
  intro f
  induction f with
  | zero =>
    intro listed st st1 _ hr hs H
    refine ⟨fun h => (by rw [h] at hr; cases hr), fun j hj => ?_⟩
    by_cases hji : j = i
    · subst hji; exact ⟨oi, st1, hi, hs, H⟩
    · have := ready_mono hj hji
      rw [H.1] at this
      cases this
  | succ f ih =>
    intro listed st st1 hfree hr hs H
    refine ⟨fun h => (by rw [h] at hr; cases hr), fun j hj => ?_⟩
    by_cases hji : j = i
    · subst hji; exact ⟨oi, st1, hi, hs, H⟩
    · obtain ⟨oj, s2, hoj, h2, H2⟩ := H.2 j (ready_mono hj hji)
      obtain ⟨hjun, oj', hoj', hall⟩ := mem_ready.1 hj
      have : oj' = oj := Option.some.inj (hoj'.symm.trans hoj)
      subst this
      have hnot : ∀ e ∈ oj'.after, Region.binds .any e = true → e.on ≠ i := fun e he hb heq => by
        have h1 := hall e he hb
        have h0 := (mem_ready.1 hr).1
        rw [heq] at h1
        rcases Nat.lt_or_ge i listed.size with h' | h'
        · simp [h'] at h0 h1; rw [h0] at h1; cases h1
        · simp [Array.getElem?_eq_none h'] at h1
      obtain ⟨hap, hcl⟩ := hfree j oj' hoj hji hjun hnot
      obtain ⟨s', g1, g2⟩ := stepS_comm hap hcl hs h2
      have hfree' : ∀ k ok, ops[k]? = some ok → k ≠ i → (listed.setIfInBounds j true).getD k true = false →
          (∀ e ∈ ok.after, Region.binds .any e = true → e.on ≠ i) → oi.apart ops ok = true ∧ clash oi.op ok.op = false := fun k ok hk hki hun hno => by
        refine hfree k ok hk hki ?_ hno
        by_cases hjk : j = k
        · subst hjk; exact hjun
        · rw [getD_set_ne true hjk] at hun; exact hun
      refine ⟨oj', s', hoj, g1, ih (listed.setIfInBounds j true) s' s2 hfree' (ready_mono hr (Ne.symm hji)) g2 ?_⟩
      rw [Array.setIfInBounds_comm _ _ hji]
      exact H2

theorem freeS_spec {listed : Array Bool} {k : Nat} {ok : Oper} (hk : ops[k]? = some ok) (h : freeS ops listed k = true) :
    ∀ j oj, ops[j]? = some oj → j ≠ k → listed.getD j true = false → (∀ e ∈ oj.after, Region.binds .any e = true → e.on ≠ k) → ok.apart ops oj = true ∧ clash ok.op oj.op = false := by
  intro j oj hj hjk hl hno
  unfold freeS at h
  simp only [hk, List.all_eq_true, List.mem_range] at h
  have hlt : j < ops.size := by
    rcases Nat.lt_or_ge j ops.size with h' | h'
    · exact h'
    · simp [Array.getElem?_eq_none h'] at hj
  have := h j hlt
  have hw : waitsB ops j k = false := by
    unfold waitsB
    simp only [hj]
    rw [← Bool.not_eq_true, Array.any_eq_true']
    rintro ⟨e, he, hb⟩
    simp only [Bool.and_eq_true, beq_iff_eq] at hb
    exact hno e he hb.1 hb.2
  simp only [hl, hw, hj, Bool.false_or, Bool.or_false, Bool.or_eq_true, beq_iff_eq, Bool.and_eq_true, Bool.not_eq_true'] at this
  rcases this with h1 | h1
  · exact absurd h1 hjk
  · exact h1

theorem sAny_lex {T : St → Prop} : ∀ (l : List Oper) (k : Nat) (listed : Array Bool) (st st' : St), (∀ j, l[j]? = ops[k + j]?) → lexS ops l.length k listed = true →
    stepsS Γ P (some al) ops l st = some st' → T st' → sAny Γ P al ops T l.length listed st
  | [], k, listed, st, st', _, hB, hS, hT => by
    simp only [stepsS] at hS
    injection hS with hS
    subst hS
    exact ⟨by simpa [lexS] using hB, hT⟩
  | o :: l, k, listed, st, st', hl, hB, hS, hT => by
    have h0 : ops[k]? = some o := by simpa using (hl 0).symm
    simp only [List.length_cons, lexS, Bool.and_eq_true] at hB
    obtain ⟨⟨hr, hf⟩, hB'⟩ := hB
    simp only [stepsS] at hS
    split at hS
    · rename_i st1 h1
      exact sAny_first h0 l.length listed st st1 (freeS_spec h0 hf) (by simpa using hr) h1
        (sAny_lex l (k + 1) _ st1 st' (fun j => by have := hl (j + 1); simpa [Nat.add_assoc, Nat.add_comm 1 j] using this) hB' hS hT)
    · cases hS

theorem wpAny_of_sAny (hΓ : Γ.Ok P) {st' : St} (hQ : ∀ a w, RelP P al w0 st' a w → Q .normal a w) : ∀ (f : Nat) (listed : Array Bool) (st : St) (a : Act) (w : World),
    sAny Γ P al ops (· = st') f listed st → RelP P al w0 st a w → wpAny P .any ops Q f listed a w
  | 0, listed, st, a, w, h, hR => ⟨h.1, hQ a w (by have := h.2; subst this; exact hR)⟩
  | f + 1, listed, st, a, w, h, hR => ⟨fun h0 => hQ a w (by have := h.1 h0; subst this; exact hR), fun i hi => by
      obtain ⟨o, s1, ho, hs, hn⟩ := h.2 i hi
      exact wpOp_of_stepS (al := some al) hΓ ho hs hR (fun a w hR' => wpAny_of_sAny hΓ hQ f _ s1 a w hn hR')⟩

/-- The blocks that a region's allocs will make. -/
def preAl (P : Program) : List Oper → Mem → Option (List (Tmp × Nat × TypeId) × Mem)
  | [], m => some ([], m)
  | o :: r, m => match o.op, o.dst with
    | .alloc e, some d => match zeroT P e, m.blk.length == m.live.length with
      | some z, true => match preAl P r ⟨m.blk ++ [z.cells.toList.map .v], m.live ++ [false]⟩ with
        | some (al, m') => some ((d, m.blk.length, e) :: al, m')
        | none => none
      | _, _ => none
    | _, _ => preAl P r m

theorem preAl_ok {a : Act} {w : World} {β : Nat → Option (Nat × Nat)} : ∀ (l : List Oper) (st : St) (al : List (Tmp × Nat × TypeId)) (m' : Mem), preAl P l st.mem = some (al, m') → Rel w0 st β a w →
    Rel w0 { st with mem := m' } β a w ∧ Pend P al { st with mem := m' } β ∧ (∀ (i : Nat) x, st.mem.blk[i]? = some x → m'.blk[i]? = some x)
  | [], st, al, m', h, hR => by
    simp only [preAl] at h
    injection h with h
    injection h with e1 e2
    subst e1 e2
    exact ⟨hR, (fun _ _ _ hm => by cases hm), fun _ _ h => h⟩
  | o :: r, st, al, m', h, hR => by
    unfold preAl at h
    split at h
    · rename_i e d hop hd
      split at h
      · rename_i z hz hlen
        split at h
        · rename_i al' m'' hrec
          injection h with h
          injection h with e1 e2
          subst e1 e2
          have hlen' : st.mem.blk.length = st.mem.live.length := by simpa using hlen
          have hR1 := (hR.extend (z.cells.toList.map .v) false).resolve_right (fun h => h hlen')
          obtain ⟨g1, g2, g3⟩ := preAl_ok r { st with mem := ⟨st.mem.blk ++ [z.cells.toList.map .v], st.mem.live ++ [false]⟩ } al' m'' hrec hR1
          refine ⟨g1, fun d' l' e' hm hn => ?_, fun i x hx => g3 i x ?_⟩
          · rcases List.mem_cons.1 hm with hm | hm
            · injection hm with e1 e2
              injection e2 with e2 e3
              subst e1 e2 e3
              exact ⟨z, hz, g3 _ _ (by simp)⟩
            · exact g2 d' l' e' hm hn
          · simp only
            have hlt : i < st.mem.blk.length := by
              rcases Nat.lt_or_ge i st.mem.blk.length with h' | h'
              · exact h'
              · simp [List.getElem?_eq_none h'] at hx
            rw [List.getElem?_append_left hlt]
            exact hx
        · cases h
      · cases h
    · exact preAl_ok r st al m' h hR

theorem Rel.RelP0 {a : Act} {w : World} {st : St} {β : Nat → Option (Nat × Nat)} (h : Rel w0 st β a w) : RelP P [] w0 st a w := ⟨β, h, fun _ _ _ hm => by cases hm⟩

/-- A region that draws its order. -/
theorem region_draw_sound (hΓ : Γ.Ok P) (hm : P.follows .mixedOrders = true) {id : Nat} {st st' : St} {a : Act} {w : World} {m : Mem} (hlex : lexS ops ops.size 0 (Array.replicate ops.size false) = true) (hpre : preAl P ops.toList st.mem = some (al, m))
    (hS : stepsS Γ P (some al) ops ops.toList { st with mem := m } = some st') (h : RelP P [] w0 st a w) (hQ : ∀ a w, RelP P [] w0 st' a w → Q .normal a w) : (Code.region id ops true).wp P Q a w := by
  obtain ⟨β, hR, _⟩ := h
  obtain ⟨g1, g2, _⟩ := preAl_ok ops.toList st al m hpre hR
  refine wp_region_any hm ?_
  have hs := sAny_lex (Γ := Γ) (P := P) (al := al) (ops := ops) (T := (· = st')) ops.toList 0 (Array.replicate ops.size false) _ st' (by simp) (by simpa using hlex) hS rfl
  rw [Array.length_toList] at hs
  exact wpAny_of_sAny hΓ (fun a w ⟨β', hR', _⟩ => hQ a w hR'.RelP0) _ _ _ a _ hs ⟨β, g1.drew, g2⟩

theorem region_plain_sound (hΓ : Γ.Ok P) {id : Nat} {st st' : St} {a : Act} {w : World} (hS : stepsS Γ P none ops ops.toList st = some st') (h : RelP P [] w0 st a w) (hQ : ∀ a w, RelP P [] w0 st' a w → Q .normal a w) : (Code.region id ops false).wp P Q a w := by
  refine wp_region ?_
  have := region_sound (al := none) (Q := Q) hΓ ops.toList 0 st a w (by simp) hS h hQ
  rwa [Array.length_toList, ← List.range_eq_range'] at this
end
end Go.Sx

namespace Go.Sx
open Go.RowKit

inductive Ex where
  | normal
  | exit (id : Nat)
  | ret

def Ex.out : Ex → Exit
  | .normal => .normal
  | .exit id => .exit id
  | .ret => .ret

/-! Forcing: each hands its argument on, taken apart as far as its constructors go. -/
section
variable {R : Type}

def fL {α : Type} (f : α → (α → R) → R) : List α → (List α → R) → R
  | [], k => k []
  | x :: r, k => f x (fun x => fL f r (fun r => k (x :: r)))

theorem fL_eq {α : Type} {f : α → (α → R) → R} (hf : ∀ x k, f x k = k x) : ∀ (l : List α) (k : List α → R), fL f l k = k l
  | [], k => rfl
  | x :: r, k => by simp only [fL, hf, fL_eq hf r]

def fN (n : Nat) (k : Nat → R) : R :=
  match n with
  | 0 => k 0
  | n + 1 => k (n + 1)
theorem fN_eq (n : Nat) (k : Nat → R) : fN n k = k n := by cases n <;> rfl

def fI (c : Bool) (n : Int) (k : Int → R) : R :=
  match c with
  | false => k n
  | true => match n with
    | .ofNat m => fN m (fun m => k (.ofNat m))
    | .negSucc m => fN m (fun m => k (.negSucc m))
theorem fI_eq (c : Bool) (n : Int) (k : Int → R) : fI c n k = k n := by cases c <;> cases n <;> simp [fI, fN_eq]

def fT (c : Bool) (b : Bool) (k : Bool → R) : R :=
  match c with
  | false => k b
  | true => match b with
    | true => k true
    | false => k false
theorem fT_eq (c : Bool) (b : Bool) (k : Bool → R) : fT c b k = k b := by cases c <;> cases b <;> rfl

def fC (c : Bool) (x : Value) (k : Value → R) : R :=
  match x with
  | .int a n => fI c n (fun n => k (.int a n))
  | .bool b => fT c b (fun b => k (.bool b))
  | y => k y
theorem fC_eq (c : Bool) (x : Value) (k : Value → R) : fC c x k = k x := by cases x <;> simp [fC, fI_eq, fT_eq]

def fA (c : Bool) (x : Value) (k : Value → R) : R :=
  match x with
  | .int a n => fI c n (fun n => k (.int a n))
  | .bool b => fT c b (fun b => k (.bool b))
  | .agg cs => fL (fC c) cs.toList (fun l => k (.agg l.toArray))
  | y => k y
theorem fA_eq (c : Bool) (x : Value) (k : Value → R) : fA c x k = k x := by
  cases x <;> simp [fA, fI_eq, fT_eq, fL_eq (fC_eq c)]

def fV (c : Bool) (x : Value) (k : Value → R) : R :=
  match x with
  | .int a n => fI c n (fun n => k (.int a n))
  | .bool b => fT c b (fun b => k (.bool b))
  | .agg cs => fL (fC c) cs.toList (fun l => k (.agg l.toArray))
  | .tuple cs => fL (fA c) cs.toList (fun l => k (.tuple l.toArray))
  | y => k y
theorem fV_eq (c : Bool) (x : Value) (k : Value → R) : fV c x k = k x := by
  cases x <;> simp [fV, fI_eq, fT_eq, fL_eq (fC_eq c), fL_eq (fA_eq c)]

def fS (c : Bool) (x : SV) (k : SV → R) : R :=
  match x with
  | .v y => fV c y (fun y => k (.v y))
  | .ptr l o => fN l (fun l => fN o (fun o => k (.ptr l o)))
  | .poison => k .poison
theorem fS_eq (c : Bool) (x : SV) (k : SV → R) : fS c x k = k x := by cases x <;> simp [fS, fV_eq, fN_eq]

def fTr (c : Bool) : Tr → (Tr → R) → R
  | .lf, k => k .lf
  | .nd l x r, k => fTr c l fun l => fS c x fun x => fTr c r fun r => k (.nd l x r)
theorem fTr_eq (c : Bool) : ∀ (t : Tr) (k : Tr → R), fTr c t k = k t
  | .lf, k => rfl
  | .nd l x r, k => by simp only [fTr, fTr_eq c l, fS_eq, fTr_eq c r]

def fSt (c : Bool) (st : St) (k : St → R) : R :=
  fTr c st.tmps fun t => fL (fL (fS c)) st.mem.blk fun b => fL (fT true) st.mem.live fun l => k ⟨t, ⟨b, l⟩⟩
theorem fSt_eq (c : Bool) (st : St) (k : St → R) : fSt c st k = k st := by
  unfold fSt
  rw [fTr_eq c, fL_eq (fun x k => fL_eq (fS_eq c) x k), fL_eq (fT_eq true)]
end

def setOp (st : St) (c : Operand) (t : Bool) : St :=
  match c with
  | .tmp n => { st with tmps := st.tmps.set n (.v (.bool t)) }
  | _ => st

def setG (ops : Array Oper) (st : St) (j : Nat) (t : Bool) : St :=
  match (ops[j]?).bind (·.dst) with
  | some n => { st with tmps := st.tmps.set n (.v (.bool t)) }
  | none => st

theorem setOp_eq {st : St} {c : Operand} {t : Bool} (h : st.eval c = some (.v (.bool t))) : setOp st c t = st := by
  cases c with
  | tmp n => simp only [setOp]; rw [Tr.set_self _ _ _ h]
  | _ => rfl

theorem setG_eq {ops : Array Oper} {st : St} {j : Nat} {t : Bool} (h : yieldS ops st j = some (.v (.bool t))) : setG ops st j t = st := by
  unfold setG
  unfold yieldS at h
  cases hd : (ops[j]?).bind (·.dst) with
  | none => rfl
  | some n => simp only; rw [Tr.set_self _ _ _ (by simpa [hd] using h)]

section
variable {R : Type} (Γ : Orc) (P : Program)

def goR (o : Oper) (st : St) (q : Option (SV × Mem)) (k : St → Option R) : Option R :=
  match q with
  | some (x, m) => fS Γ.conc x (fun x => k (({ st with mem := m } : St).put o.dst x))
  | none => none

def goV (o : Oper) (st : St) (x : SV) (k : St → Option R) : Option R := fS Γ.conc x (fun x => k (st.put o.dst x))

def opK (al : Option (List (Tmp × Nat × TypeId))) (o : Oper) (st : St) (k : St → Option R) : Option R :=
  match o.op with
  | .pick c _ _ => match st.eval c with
    | some (.v (.bool t)) => bif t then goR Γ o (setOp st c true) (opR Γ P al o (setOp st c true)) k else goR Γ o (setOp st c false) (opR Γ P al o (setOp st c false)) k
    | _ => none
  | .binOp .quo _ x y _ => match st.eval x, st.eval y with
    | some (.v (.int i a)), some (.v (.int j b)) => if i = j then (bif b == 0 then none else goV Γ o st (.v (.int i (i.wrap (a.tdiv b)))) k) else none
    | _, _ => none
  | .binOp .rem _ x y _ => match st.eval x, st.eval y with
    | some (.v (.int i a)), some (.v (.int j b)) => if i = j then (bif b == 0 then none else goV Γ o st (.v (.int i (a.tmod b))) k) else none
    | _, _ => none
  | .binOp .shl _ x y _ => match st.eval x, st.eval y with
    | some (.v (.int i a)), some (.v (.int _ b)) => bif decide (b < 0) then none else goV Γ o st (.v (.int i (i.wrap (a * 2 ^ (min b.toNat i.bits))))) k
    | _, _ => none
  | .binOp .shr _ x y _ => match st.eval x, st.eval y with
    | some (.v (.int i a)), some (.v (.int _ b)) => bif decide (b < 0) then none else goV Γ o st (.v (.int i (a.fdiv (2 ^ (min b.toNat i.bits))))) k
    | _, _ => none
  | .call { callee := .value (.func f), args, .. } => match allOps st.eval args.toList with
    | some vs => match Γ.call f vs with
      | some (g, r) => bif g then goV Γ o st (.v r) k else none
      | none => none
    | none => none
  | _ => goR Γ o st (opR Γ P al o st) k

def stepK (al : Option (List (Tmp × Nat × TypeId))) (ops : Array Oper) (o : Oper) (st : St) (k : St → Option R) : Option R :=
  match o.guard with
  | none => opK Γ P al o st k
  | some (j, want) => match yieldS ops st j with
    | some (.v (.bool t)) =>
      bif t then (match want with
        | true => opK Γ P al o (setG ops st j true) k
        | false => k ((setG ops st j true).put o.dst (.v undef)))
      else (match want with
        | true => k ((setG ops st j false).put o.dst (.v undef))
        | false => opK Γ P al o (setG ops st j false) k)
    | some (.v _) => k (st.put o.dst (.v undef))
    | _ => none

def evOps (al : Option (List (Tmp × Nat × TypeId))) (ops : Array Oper) : List Oper → St → (St → Option R) → Option R
  | [], st, k => k st
  | o :: r, st, k => stepK Γ P al ops o st (fun st' => evOps al ops r st' k)

end

section
variable {R : Type} {Γ : Orc} {P : Program} {al : Option (List (Tmp × Nat × TypeId))}

theorem goR_some {o : Oper} {st : St} {k : St → Option R} {r : R} (h : goR Γ o st (opR Γ P al o st) k = some r) : ∃ st', opS Γ P al o st = some st' ∧ k st' = some r := by
  unfold goR at h
  unfold opS
  cases hq : opR Γ P al o st with
  | none => rw [hq] at h; cases h
  | some q =>
    obtain ⟨x, m⟩ := q
    rw [hq] at h
    simp only at h
    rw [fS_eq] at h
    exact ⟨_, rfl, h⟩

theorem opS_binOp {o : Oper} {st : St} {b : BinOp} {t t' : TypeId} {x y : Operand} {v : SV} (hop : o.op = .binOp b t x y t') (h : ∀ al, opV Γ P al o st.eval st.mem.blk = some v) : opS Γ P al o st = some (st.put o.dst v) := by
  have hm : ∀ al, opM al P o st.eval st.mem = some st.mem := fun al => by simp [opM, opB, opL, hop]
  cases al with
  | some al => simp [opS, opR, h, hm]
  | none => simp [opS, opR, hop, h, hm]

theorem opK_some {o : Oper} {st : St} {k : St → Option R} {r : R} (h : opK Γ P al o st k = some r) : ∃ st', opS Γ P al o st = some st' ∧ k st' = some r := by
  unfold opK at h
  split at h
  · rename_i c x y hop
    split at h
    · rename_i t ht
      have e := setOp_eq ht
      cases t
      · simp only [cond_false, e] at h
        exact goR_some h
      · simp only [cond_true, e] at h
        exact goR_some h
    · cases h
  · rename_i t x y t' hop
    split at h
    · rename_i i a j b hx hy
      split at h
      · rename_i hij
        cases hb : b == 0
        · rw [hb] at h
          simp only [cond_false] at h
          unfold goV at h; rw [fS_eq] at h
          exact ⟨_, opS_binOp hop (fun al => by simp [opV, hop, hx, hy, hij, hb]), h⟩
        · simp [hb] at h
      · cases h
    · cases h
  · rename_i t x y t' hop
    split at h
    · rename_i i a j b hx hy
      split at h
      · rename_i hij
        cases hb : b == 0
        · rw [hb] at h
          simp only [cond_false] at h
          unfold goV at h; rw [fS_eq] at h
          exact ⟨_, opS_binOp hop (fun al => by simp [opV, hop, hx, hy, hij, hb]), h⟩
        · simp [hb] at h
      · cases h
    · cases h
  · rename_i t x y t' hop
    split at h
    · rename_i i a j b hx hy
      cases hb : decide (b < 0)
      · rw [hb] at h
        simp only [cond_false] at h
        unfold goV at h; rw [fS_eq] at h
        exact ⟨_, opS_binOp hop (fun al => by simp only [opV, hop, hx, hy, hb]; rfl), h⟩
      · simp [hb] at h
    · cases h
  · rename_i t x y t' hop
    split at h
    · rename_i i a j b hx hy
      cases hb : decide (b < 0)
      · rw [hb] at h
        simp only [cond_false] at h
        unfold goV at h; rw [fS_eq] at h
        exact ⟨_, opS_binOp hop (fun al => by simp only [opV, hop, hx, hy, hb]; rfl), h⟩
      · simp [hb] at h
    · cases h
  · rename_i f args at_ hop
    split at h
    · rename_i vs hvs
      split at h
      · rename_i g v hv
        cases g
        · cases h
        · simp only [cond_true] at h
          unfold goV at h; rw [fS_eq] at h
          refine ⟨_, ?_, h⟩
          have h1 : ∀ al, opV Γ P al o st.eval st.mem.blk = some (.v v) := fun al => by simp [opV, hop, hvs, hv]
          have h2 : ∀ al, opM al P o st.eval st.mem = some st.mem := fun al => by simp [opM, opB, opL, hop]
          cases al with
          | some al => simp [opS, opR, h1, h2]
          | none => simp [opS, opR, hop, h1, h2]
      · cases h
    · cases h
  · exact goR_some h

theorem stepK_some {ops : Array Oper} {o : Oper} {st : St} {k : St → Option R} {r : R} (h : stepK Γ P al ops o st k = some r) : ∃ st', stepS Γ P al ops o st = some st' ∧ k st' = some r := by
  unfold stepK at h
  split at h
  · rename_i hg
    obtain ⟨st', h1, h2⟩ := opK_some h
    exact ⟨st', by simp [stepS, hg, h1], h2⟩
  · rename_i j want hg
    split at h
    · rename_i t ht
      have e := setG_eq ht
      cases t <;> cases want <;> simp only [cond_true, cond_false, e] at h
      · obtain ⟨st', h1, h2⟩ := opK_some h
        exact ⟨st', by simp [stepS, hg, ht, h1], h2⟩
      · exact ⟨_, by simp [stepS, hg, ht], h⟩
      · exact ⟨_, by simp [stepS, hg, ht], h⟩
      · obtain ⟨st', h1, h2⟩ := opK_some h
        exact ⟨st', by simp [stepS, hg, ht, h1], h2⟩
    · rename_i y hne hy
      refine ⟨_, ?_, h⟩
      unfold stepS
      simp only [hg, hy]
    · cases h

theorem evOps_some {ops : Array Oper} {k : St → Option R} {r : R} : ∀ (l : List Oper) (st : St), evOps Γ P al ops l st k = some r → ∃ st', stepsS Γ P al ops l st = some st' ∧ k st' = some r
  | [], st, h => ⟨st, rfl, h⟩
  | o :: l, st, h => by
    simp only [evOps] at h
    obtain ⟨st1, h1, h2⟩ := stepK_some h
    obtain ⟨st2, h3, h4⟩ := evOps_some l st1 h2
    exact ⟨st2, by simp [stepsS, h1, h3], h4⟩
end
end Go.Sx

namespace Go.Sx
open Go.RowKit

/-- What is known of loops: where a loop with this body comes to, from this state, under a test. -/
abbrev LoopOrc := Code → St → Option (Bool × Ex × St)

section
variable {R : Type} (Γ : Orc) (Λ : LoopOrc) (P : Program)

def ev : Code → St → (Ex → St → Option R) → Option R
  | .skip, st, k => k .normal st
  | .label _, st, k => k .normal st
  | .region _ ops draw, st, k => match draw with
    | false => evOps Γ P none ops ops.toList st (k .normal)
    | true => match lexS ops ops.size 0 (Array.replicate ops.size false), preAl P ops.toList st.mem with
      | true, some (al, m) => evOps Γ P (some al) ops ops.toList { st with mem := m } (k .normal)
      | _, _ => none
  | .seq a b, st, k => ev a st (fun e st' => match e with
    | .normal => ev b st' k
    | .exit id => k (.exit id) st'
    | .ret => k .ret st')
  | .cond c x y, st, k => match st.eval c with
    | some (.v (.bool t)) => bif t then ev x (setOp st c true) k else ev y (setOp st c false) k
    | _ => none
  | .block id body, st, k => ev body st (fun e st' => match e with
    | .exit id' => if id' = id then k .normal st' else k (.exit id') st'
    | .normal => k .normal st'
    | .ret => k .ret st')
  | .scope body, st, k => ev body st k
  | .exit id, st, k => k (.exit id) st
  | .ret, st, k => k .ret st
  | .loop body, st, k => match Λ body st with
    | some (g, e, st') => bif g then k e st' else none
    | none => none
  | _, _, _ => none

/-- The loops of a code that lie in no other loop. -/
def loopsOf : Code → List Code
  | .seq a b => loopsOf a ++ loopsOf b
  | .cond _ a b => loopsOf a ++ loopsOf b
  | .block _ a => loopsOf a
  | .scope a => loopsOf a
  | .loop a => [a]
  | _ => []

def LoopOk (w0 : World) (body : Code) : Prop :=
  ∀ st e st', Λ body st = some (true, e, st') → ∀ a w, RelP P [] w0 st a w → (Code.loop body).wp P (fun e' a' w' => e' = e.out ∧ RelP P [] w0 st' a' w') a w

end

section
variable {R : Type} {Γ : Orc} {Λ : LoopOrc} {P : Program} {w0 : World}

theorem ev_sound (hΓ : Γ.Ok P) (hm : P.follows .mixedOrders = true) : ∀ (c : Code) (_ : ∀ b ∈ loopsOf c, LoopOk Λ P w0 b) (st : St) (k : Ex → St → Option R) (r : R) (Q : Exit → Act → World → Prop) (a : Act) (w : World),
    ev Γ Λ P c st k = some r → RelP P [] w0 st a w → (∀ e st', k e st' = some r → ∀ a w, RelP P [] w0 st' a w → Q e.out a w) → c.wp P Q a w
  | .skip, hL, st, k, r, Q, a, w, h, hR, hQ => wp_skip (hQ .normal st h a w hR)
  | .label _, hL, st, k, r, Q, a, w, h, hR, hQ => wp_label (hQ .normal st h a w hR)
  | .exit id, hL, st, k, r, Q, a, w, h, hR, hQ => wp_exit (hQ (.exit id) st h a w hR)
  | .ret, hL, st, k, r, Q, a, w, h, hR, hQ => wp_ret (hQ .ret st h a w hR)
  | .region id ops false, hL, st, k, r, Q, a, w, h, hR, hQ => by
    obtain ⟨st', h1, h2⟩ := evOps_some ops.toList st (by simpa [ev] using h)
    exact region_plain_sound hΓ h1 hR (fun a w hR' => hQ .normal st' h2 a w hR')
  | .region id ops true, hL, st, k, r, Q, a, w, h, hR, hQ => by
    simp only [ev] at h
    split at h
    · rename_i al m hlex hpre
      obtain ⟨st', h1, h2⟩ := evOps_some ops.toList _ h
      exact region_draw_sound hΓ hm hlex hpre h1 hR (fun a w hR' => hQ .normal st' h2 a w hR')
    · cases h
  | .seq x y, hL, st, k, r, Q, a, w, h, hR, hQ => by
    refine wp_seq (ev_sound hΓ hm x (fun b hb => hL b (by simp [loopsOf, hb])) st _ r _ a w h hR ?_)
    intro e st' hk a' w' hR'
    cases e with
    | normal => exact ev_sound hΓ hm y (fun b hb => hL b (by simp [loopsOf, hb])) st' k r Q a' w' hk hR' hQ
    | exit id => exact hQ (.exit id) st' hk a' w' hR'
    | ret => exact hQ .ret st' hk a' w' hR'
  | .cond c x y, hL, st, k, r, Q, a, w, h, hR, hQ => by
    simp only [ev] at h
    split at h
    · rename_i t ht
      have e := setOp_eq ht
      obtain ⟨β, hR0, hp⟩ := hR
      have hc : a.eval c = .bool t := hR0.eval ht
      refine wp_cond hc ?_
      cases t with
      | false =>
        simp only [cond_false, e] at h
        exact ev_sound hΓ hm y (fun b hb => hL b (by simp [loopsOf, hb])) st k r Q a w h ⟨β, hR0, hp⟩ hQ
      | true =>
        simp only [cond_true, e] at h
        exact ev_sound hΓ hm x (fun b hb => hL b (by simp [loopsOf, hb])) st k r Q a w h ⟨β, hR0, hp⟩ hQ
    · cases h
  | .block id body, hL, st, k, r, Q, a, w, h, hR, hQ => by
    refine wp_block (ev_sound hΓ hm body (fun b hb => hL b (by simpa [loopsOf] using hb)) st _ r _ a w h hR ?_)
    intro e st' hk a' w' hR'
    cases e with
    | normal => exact hQ .normal st' hk a' w' hR'
    | exit id' =>
      simp only at hk
      simp only [Ex.out, Exit.inBlock]
      split at hk
      · rename_i he
        rw [if_pos he]
        exact hQ .normal st' hk a' w' hR'
      · rename_i he
        rw [if_neg he]
        exact hQ (.exit id') st' hk a' w' hR'
    | ret => exact hQ .ret st' hk a' w' hR'
  | .scope body, hL, st, k, r, Q, a, w, h, hR, hQ => by
    refine wp_scope_straight (ev_sound hΓ hm body (fun b hb => hL b (by simpa [loopsOf] using hb)) st k r _ a w h hR ?_)
    intro e st' hk a' w' hR'
    cases e with
    | normal => exact hQ .normal st' hk a' w' hR'
    | exit id' => exact hQ (.exit id') st' hk a' w' hR'
    | ret => exact hQ .ret st' hk a' w' hR'
  | .loop body, hL, st, k, r, Q, a, w, h, hR, hQ => by
    simp only [ev] at h
    split at h
    · rename_i g e st' hl
      cases g with
      | false => cases h
      | true =>
      refine wp_mono (hL body (by simp [loopsOf]) st e st' hl a w hR) ?_
      rintro e' a' w' ⟨rfl, hR'⟩
      exact hQ e st' h a' w' hR'
    · cases h
  | .rangeFunc .., hL, st, k, r, Q, a, w, h, hR, hQ => by simp [ev] at h
  | .goto _, hL, st, k, r, Q, a, w, h, hR, hQ => by simp [ev] at h
  | .refuse _, hL, st, k, r, Q, a, w, h, hR, hQ => by simp [ev] at h

/-! ### A function -/

def resV (P : Program) (st : St) : List ResultVar → Option (List Value)
  | [] => some []
  | .tmp t :: r => match st.tmps.get t, resV P st r with
    | some (.v y), some l => some (y :: l)
    | _, _ => none
  | .cell t ty :: r => match st.tmps.get t, aggT P ty, sizT P ty with
    | some (.ptr l off), some ag, some n => match st.mem.blk[l]? with
      | some cs => if off + n ≤ cs.length then (match fromCells ag ((cs.drop off).take n), resV P st r with
        | some (.v y), some l => some (y :: l)
        | _, _ => none) else none
      | none => none
    | _, _, _ => none

def tupV (l : List Value) : Value :=
  match l with
  | [y] => y
  | l => .tuple l.toArray

def fin (Γ : Orc) (P : Program) (fn : Func) (e : Ex) (st : St) : Option Value :=
  match e with
  | .exit _ => none
  | _ => match resV P st fn.results.toList with
    | some l => fV Γ.conc (tupV l) some
    | none => none

def initSt (fn : Func) (args : List Value) : St := ⟨Tr.ofList (args.map .v ++ List.replicate (fn.ntmps - args.length) (.v undef)), ⟨[], []⟩⟩

def run (Γ : Orc) (Λ : LoopOrc) (P : Program) (fn : Func) (args : List Value) : Option Value :=
  match fn.body with
  | some c => ev Γ Λ P c (initSt fn args) (fin Γ P fn)
  | none => none

theorem initSt_rel (fn : Func) (args : List Value) (w : World) : Rel w (initSt fn args) (fun _ => none) { tmps := args.toArray ++ Array.replicate (fn.ntmps - args.toArray.size) undef, defers := [] } w := by
  have hg : ∀ (t : Nat) x, (initSt fn args).tmps.get t = some x → ((args ++ List.replicate (fn.ntmps - args.length) undef).map SV.v)[t]? = some x := by
    intro t x hx
    simp only [initSt, Tr.get_ofList] at hx
    simpa using hx
  have he : ∀ t : Nat, (args.toArray ++ Array.replicate (fn.ntmps - args.toArray.size) undef)[t]? = (args ++ List.replicate (fn.ntmps - args.length) undef)[t]? := by
    intro t
    rw [← Array.getElem?_toList]; simp
  refine ⟨fun t x hx => ?_, fun t x hx y hy => ?_, rfl, (fun l b o h => by cases h), (fun l l' b o b' o' h => by cases h), (fun l b o h => by cases h), (fun l h => absurd rfl h), Below.refl _ _, fun _ => rfl⟩
  · have hx' := hg t x hx
    rcases Nat.lt_or_ge t (args ++ List.replicate (fn.ntmps - args.length) undef).length with h' | h'
    · simpa using h'
    · rw [List.getElem?_eq_none (by simpa using h')] at hx'
      cases hx'
  · have hx' := hg t x hx
    rw [List.getElem?_map] at hx'
    rw [he] at hy
    rw [hy] at hx'
    simp at hx'
    subst hx'
    rfl

theorem results_run {st : St} {β : Nat → Option (Nat × Nat)} {a : Act} {w : World} (h : Rel w0 st β a w) : ∀ (l : List ResultVar) (vs : List Value), resV P st l = some vs →
    (l.mapM (m := Sem) fun
      | .tmp t => pure (a.tmps.getD t undef)
      | .cell b t => do loadVar t (← asAddr (a.tmps.getD b undef))).run P w = .ok vs w
  | [], vs, hv => by simp [resV] at hv; subst hv; rfl
  | .tmp t :: r, vs, hv => by
    unfold resV at hv
    split at hv
    · rename_i y l h1 h2
      injection hv with hv
      subst hv
      have hy : a.tmps.getD t undef = y := h.eval (x := .tmp t) h1
      have ih := results_run h r l h2
      rw [List.mapM_cons]
      rw [run_andThen _ _ w w y (by rw [← hy]; rfl)]
      rw [run_andThen _ _ w w l ih]
      rfl
    · cases hv
  | .cell t ty :: r, vs, hv => by
    unfold resV at hv
    split at hv
    · rename_i l off ag n h1 h2 h3
      split at hv
      · rename_i cs hcs
        split at hv
        · rename_i hn
          split at hv
          · rename_i y l' h4 h5
            injection hv with hv
            subst hv
            obtain ⟨y', hy', hd⟩ := load_run (P := P) h (p := .tmp t) h1 h2 h3 hcs hn h4
            have hd' : y' = y := hd
            subst hd'
            obtain ⟨b, o, hb, he⟩ := h.eval (x := .tmp t) h1
            have he' : a.tmps.getD t undef = .pointer (some ⟨b, o + off, none⟩) := he
            have ih := results_run h r l' h5
            rw [List.mapM_cons]
            have hh : (do loadVar ty (← asAddr (a.tmps.getD t undef)) : Sem Value).run P w = .ok y' w := by
              rw [he']
              have : (Instr.loadAt ty (.pointer (some ⟨b, o + off, none⟩))).run P w = .ok y' w := by
                rw [← he]; exact hy'
              simpa [Instr.loadAt, Instr.sureAddr, asAddr] using this
            rw [run_andThen _ _ w w y' hh]
            rw [run_andThen _ _ w w l' ih]
            rfl
          · cases hv
        · cases hv
      · cases hv
    · cases hv

theorem run_sound (hΓ : Γ.Ok P) (hm : P.follows .mixedOrders = true) {f : FuncId} {fn : Func} {c : Code} (hf : P.funcs[f]? = some fn) (hb : fn.body = some c) {args : List Value} {r : Value}
    (h : run Γ Λ P fn args = some r) (w : World) (hL : ∀ b ∈ loopsOf c, LoopOk Λ P w b) : Calls P f args.toArray w (fun e w' => e = .returned r ∧ Kp w w') := by
  unfold run at h
  rw [hb] at h
  refine calls_of_wp hf hb ?_
  refine ev_sound hΓ hm c hL _ _ r _ _ w h ⟨_, initSt_rel fn args w, (fun _ _ _ hm => by cases hm)⟩ ?_
  rintro e st' hk a' w' ⟨β, hR, _⟩
  have main : (match resV P st' fn.results.toList with
    | some l => fV Γ.conc (tupV l) some
    | none => none) = some r → a'.defers = [] ∧ ∃ v, (results fn a'.tmps).run P w' = .ok v w' ∧ (v = r ∧ Kp w w') := by
    intro hk
    split at hk
    · rename_i l hl
      rw [fV_eq] at hk
      injection hk with hk
      refine ⟨hR.defers, tupV l, ?_, hk, hR.below, hR.froz⟩
      have hr := results_run hR fn.results.toList l hl
      unfold results
      have hmap : (fn.results.mapM (m := Sem) fun
          | .tmp t => pure (a'.tmps.getD t undef)
          | .cell b t => do loadVar t (← asAddr (a'.tmps.getD b undef))).run P w' = .ok l.toArray w' := by
        rw [Array.mapM_eq_mapM_toList]
        rw [map_eq_pure_bind, run_andThen _ _ w' w' l hr]
        rfl
      refine (run_andThen _ _ w' w' l.toArray ?_).trans ?_
      · exact hmap
      cases l with
      | nil => rfl
      | cons x l =>
        cases l with
        | nil => rfl
        | cons y l => simp [tupV, pure]
    · cases hk
  cases e with
  | normal =>
    obtain ⟨h1, v, h2, rfl, h3⟩ := main hk
    exact ⟨h1, v, h2, rfl, h3⟩
  | exit id => cases hk
  | ret =>
    obtain ⟨h1, v, h2, rfl, h3⟩ := main hk
    exact ⟨h1, v, h2, rfl, h3⟩
end
end Go.Sx

namespace Go.Sx
open Go.RowKit

/-- Two structs of integers and bools, field by field. -/
def flatEq (P : Program) : List Field → List Value → List Value → Option Bool
  | [], _, _ => some true
  | f :: fs, xs, ys => match P.underlying f.type, xs[f.offset]?, ys[f.offset]?, flatEq P fs xs ys with
    | some (.int _), some (.int k a), some (.int k' b), some r => if k = k' then some ((a == b) && r) else none
    | some .bool, some (.bool a), some (.bool b), some r => some ((a == b) && r)
    | _, _, _, _ => none

def eqTypeOk (P : Program) (t : TypeId) : Bool :=
  !P.stoodInHeld t && !P.eqGuardType P.depth t && (match P.underlying t with
    | some (.struct fs) => fs.toList.all fun f => f.name != "_"
    | _ => false)

def eqvOf (P : Program) (good : List TypeId) (t : TypeId) (xs ys : List Value) : Option Bool :=
  match good.contains t, P.underlying t with
  | true, some (.struct fs) => flatEq P fs.toList xs ys
  | _, _ => none

section
variable {P : Program} {w : World}

theorem run_part {t : TypeId} {cs : Array Value} {off : Nat} {v : Value} {d : TypeDesc} (hu : P.underlying t = some d) (hd : (∀ f, d ≠ .struct f) ∧ (∀ n e, d ≠ .array n e)) (hv : cs[off]? = some v) : (part t cs off).run P w = .ok v w := by
  unfold part
  have : (isAgg t).run P w = .ok false w := by
    unfold isAgg
    rw [run_andThen _ _ w w d (run_underlying hu w)]
    cases d <;> first | rfl | (exact absurd rfl (hd.1 _)) | (exact absurd rfl (hd.2 _ _))
  rw [run_andThen _ _ w w false this]
  simp [hv]

theorem run_equalIn_int {n : Nat} {t : TypeId} {k k' : IntKind} {a b : Int} (hu : P.underlying t = some (.int k')) : (Op.equalIn (n + 1) t (.int k a) (.int k b)).run P w = .ok (a == b) w := by
  unfold Op.equalIn
  rw [run_andThen _ _ w w _ (run_underlying hu w)]
  simp

theorem run_equalIn_bool {n : Nat} {t : TypeId} {a b : Bool} (hu : P.underlying t = some .bool) : (Op.equalIn (n + 1) t (.bool a) (.bool b)).run P w = .ok (a == b) w := by
  unfold Op.equalIn
  rw [run_andThen _ _ w w _ (run_underlying hu w)]
  simp

theorem run_equalIn_struct {n : Nat} {t : TypeId} {fs : Array Field} {xs ys : Array Value} (hu : P.underlying t = some (.struct fs)) (hs : P.stoodInHeld t = false) (hn : ∀ f ∈ fs.toList, f.name ≠ "_") {r : Bool}
    (h : flatEq P fs.toList xs.toList ys.toList = some r) : (Op.equalIn (n + 2) t (.agg xs) (.agg ys)).run P w = .ok r w := by
  unfold Op.equalIn
  rw [run_andThen _ _ w w _ (run_underlying hu w)]
  simp only []
  rw [run_andThen program _ w w P rfl]
  simp only [hs, Bool.false_eq_true, if_false]
  rw [← Array.forIn_toList]
  generalize fs.toList = l at *
  clear hu hs
  induction l generalizing r with
  | nil =>
    simp [flatEq] at h
    subst h
    simp
  | cons f l ih =>
    have hf : f.name ≠ "_" := hn f (by simp)
    unfold flatEq at h
    split at h
    · rename_i kk k a k' b r' h1 h2 h3 h4
      split at h
      · rename_i hk
        subst hk
        injection h with h
        subst h
        have p1 := run_part (P := P) (w := w) (t := f.type) (cs := xs) (off := f.offset) h1 ⟨by simp, by simp⟩ (by simpa using h2)
        have p2 := run_part (P := P) (w := w) (t := f.type) (cs := ys) (off := f.offset) h1 ⟨by simp, by simp⟩ (by simpa using h3)
        have p3 := run_equalIn_int (P := P) (w := w) (n := n) (k := k) (a := a) (b := b) h1
        have ih' := ih (fun f hf => hn f (by simp [hf])) h4
        simp only [List.forIn_cons, hf, ne_eq, not_false_eq_true, if_true]
        cases hab : a == b
        · simp [Sem.run_bind, p1, p2, p3, hab, Result.andThen]
        · simp only [Sem.run_bind, p1, p2, p3, hab, Result.andThen] at *
          simpa using ih'
      · cases h
    · rename_i a b r' h1 h2 h3 h4
      injection h with h
      subst h
      have p1 := run_part (P := P) (w := w) (t := f.type) (cs := xs) (off := f.offset) h1 ⟨by simp, by simp⟩ (by simpa using h2)
      have p2 := run_part (P := P) (w := w) (t := f.type) (cs := ys) (off := f.offset) h1 ⟨by simp, by simp⟩ (by simpa using h3)
      have p3 := run_equalIn_bool (P := P) (w := w) (n := n) (a := a) (b := b) h1
      have ih' := ih (fun f hf => hn f (by simp [hf])) h4
      simp only [List.forIn_cons, hf, ne_eq, not_false_eq_true, if_true]
      cases hab : a == b
      · simp [Sem.run_bind, p1, p2, p3, hab, Result.andThen]
      · simp only [Sem.run_bind, p1, p2, p3, hab, Result.andThen] at *
        simpa using ih'
    · cases h

theorem eqvOf_ok {good : List TypeId} (hg : good.all (eqTypeOk P) = true) (t : TypeId) (xs ys : List Value) (r : Bool) (h : eqvOf P good t xs ys = some r) (w : World) (op : BinOp) (x y : Operand) (hop : op = .eql ∨ op = .neq) :
    (eqGuard op t x y (.agg xs.toArray) (.agg ys.toArray)).run P w = .ok () w ∧ (Op.equal t (.agg xs.toArray) (.agg ys.toArray)).run P w = .ok r w := by
  unfold eqvOf at h
  split at h
  · rename_i fs hc hu
    have ht : eqTypeOk P t = true := List.all_eq_true.1 hg t (by simpa using hc)
    unfold eqTypeOk at ht
    simp only [hu, Bool.and_eq_true, Bool.not_eq_true', List.all_eq_true] at ht
    refine ⟨?_, ?_⟩
    · rcases hop with rfl | rfl <;> simp [eqGuard, program, Sem.run, ht.1.2]
    · unfold Op.equal Op.maxDepth
      exact run_equalIn_struct (n := 9998) hu ht.1.1 (fun f hf => by simpa using ht.2 f hf) (by simpa using h)
  · cases h
end

section
variable {R : Type} (Γ : Orc) (P : Program)
/-- A loop, carried out. -/
def evLoop (Λ : LoopOrc) (cut : St → St) (body : Code) : Nat → St → (Ex → St → Option R) → Option R
  | 0, _, _ => none
  | n + 1, st, k => ev Γ Λ P body st (fun e st' => match e with
    | .normal => fSt Γ.conc (cut st') (fun st' => evLoop Λ cut body n st' k)
    | .exit id => k (.exit id) st'
    | .ret => k .ret st')

/-- Loops within loops, carried out: d deep, n rounds each. -/
def loopX (n : Nat) : Nat → LoopOrc
  | 0 => fun _ _ => none
  | d + 1 => fun body st => match evLoop Γ P (loopX n d) id body n st (fun e st' => some (e, st')) with
    | some (e, st') => some (true, e, st')
    | none => none
end

section
variable {R : Type} {Γ : Orc} {P : Program} {w0 : World}

theorem evLoop_sound (hΓ : Γ.Ok P) (hm : P.follows .mixedOrders = true) {Λ : LoopOrc} {body : Code} (hL : ∀ b ∈ loopsOf body, LoopOk Λ P w0 b) {cut : St → St} (hcut : ∀ st a w, RelP P [] w0 st a w → RelP P [] w0 (cut st) a w)
    {k : Ex → St → Option R} {r : R} {Q : Exit → Act → World → Prop} (hQ : ∀ e st', e ≠ .normal → k e st' = some r → ∀ a w, RelP P [] w0 st' a w → Q e.out a w) : ∀ (n : Nat) (st : St) (a : Act) (w : World),
    evLoop Γ P Λ cut body n st k = some r → RelP P [] w0 st a w → Code.rounds P body Q n a w
  | 0, st, a, w, h, hR => by simp [evLoop] at h
  | n + 1, st, a, w, h, hR => by
    simp only [evLoop] at h
    rw [rounds_succ]
    refine ev_sound hΓ hm body hL st _ r _ a w h hR ?_
    intro e st' hk a' w' hR'
    cases e with
    | normal =>
      rw [fSt_eq] at hk
      exact evLoop_sound hΓ hm hL hcut hQ n (cut st') a' w' hk (hcut _ _ _ hR')
    | exit id => exact hQ (.exit id) st' (by simp) hk a' w' hR'
    | ret => exact hQ .ret st' (by simp) hk a' w' hR'

theorem loopX_ok (hΓ : Γ.Ok P) (hm : P.follows .mixedOrders = true) (n : Nat) : ∀ (d : Nat) (body : Code), LoopOk (loopX Γ P n d) P w0 body
  | 0, body => fun st e st' h => by simp [loopX] at h
  | d + 1, body => fun st e st' h a w hR => by
    simp only [loopX] at h
    split at h
    case h_2 => cases h
    rename_i e2 st2 h0
    injection h with h
    injection h with _ h
    injection h with h1 h2
    subst h1 h2
    have h := h0
    refine wp_loop_rounds n (evLoop_sound hΓ hm (fun b _ => loopX_ok hΓ hm n d b) (fun _ _ _ h => h) (r := (e2, st2)) ?_ n st a w h hR)
    intro e1 st1 _ hk a' w' hR'
    injection hk with hk
    injection hk with h1 h2
    subst h1 h2
    exact ⟨rfl, hR'⟩

theorem callFunc_enter {f : FuncId} {fn : Func} {vs : List Value} (hf : P.funcs[f]? = some fn) (hb : fn.body.isSome = true) (hn : fn.name ≠ "runtime.NumGoroutine") (w : World) : (callFunc f vs.toArray).run P w = .ok (.enter f vs.toArray) w := by
  unfold callFunc
  rw [run_andThen program _ w w P rfl]
  simp only [hf]
  have : (fn.name == "runtime.NumGoroutine") = false := by simpa using hn
  simp only [this, Bool.false_eq_true, if_false]
  cases hb' : fn.body with
  | none => simp [hb'] at hb
  | some c => rfl

def namesOk (P : Program) : Bool := P.funcs.toList.all fun fn => fn.body.isNone || fn.name != "runtime.NumGoroutine"

theorem names_of (h : namesOk P = true) {f : FuncId} {fn : Func} (hf : P.funcs[f]? = some fn) (hb : fn.body.isSome = true) : fn.name ≠ "runtime.NumGoroutine" := by
  have := List.all_eq_true.1 h fn (by
    rw [Array.mem_toList_iff]
    exact Array.mem_of_getElem? hf)
  cases hb' : fn.body with
  | none => simp [hb'] at hb
  | some c => simpa [hb'] using this

theorem callOk_of_run (hΓ : Γ.Ok P) (hm : P.follows .mixedOrders = true) (hN : namesOk P = true) {Λ : LoopOrc} {f : FuncId} {fn : Func} {c : Code} (hf : P.funcs[f]? = some fn) (hb : fn.body = some c) (hL : ∀ w, ∀ b ∈ loopsOf c, LoopOk Λ P w b) {vs : List Value} {r : Value}
    (h : run Γ Λ P fn vs = some r) : CallOk P f vs r := fun w =>
  .inr ⟨callFunc_enter hf (by simp [hb]) (names_of hN hf (by simp [hb])) w, run_sound hΓ hm hf hb h w (hL w)⟩

/-- Callees carried out, d deep. -/
def exec (P : Program) (ext : FuncId → List Value → Option (Bool × Value)) (eqv : TypeId → List Value → List Value → Option Bool) (n : Nat) : Nat → Orc
  | 0 => ⟨ext, eqv, true⟩
  | d + 1 => ⟨fun f vs => match ext f vs with
    | some r => some r
    | none => match P.funcs[f]? with
      | some fn => match run (exec P ext eqv n d) (loopX (exec P ext eqv n d) P n 2) P fn vs with
        | some v => some (true, v)
        | none => none
      | none => none, eqv, true⟩

theorem exec_ok (hm : P.follows .mixedOrders = true) (hN : namesOk P = true) {ext : FuncId → List Value → Option (Bool × Value)} {eqv : TypeId → List Value → List Value → Option Bool} (h0 : Orc.Ok ⟨ext, eqv, true⟩ P) (n : Nat) : ∀ d, (exec P ext eqv n d).Ok P
  | 0 => h0
  | d + 1 => by
    refine ⟨fun f vs r h => ?_, h0.eqv⟩
    simp only [exec] at h
    split at h
    · rename_i q hq
      injection h with h
      subst h
      exact h0.call f vs r hq
    · split at h
      · rename_i fn hf
        split at h
        · rename_i v hv
          injection h with h
          injection h with _ h
          subst h
          have ih := exec_ok hm hN h0 n d
          cases hb : fn.body with
          | none => simp [run, hb] at hv
          | some c => exact callOk_of_run ih hm hN hf hb (fun w b _ => loopX_ok ih hm n 2 b) hv
        · cases h
      · cases h
end
end Go.Sx

namespace Go.Sx
open Go.RowKit

def cutL (get : Nat → Option SV) : List Bool → Nat → List SV
  | [], _ => []
  | f :: r, i => match get i with
    | some x => (match f with | true => x | false => .poison) :: cutL get r (i + 1)
    | none => []

/-- At a loop's head: the slots that are kept; the others are unknown. -/
def cutS (keep : List Bool) (st : St) : St := ⟨Tr.ofList (cutL st.tmps.get keep 0), st.mem⟩

theorem cutL_get (get : Nat → Option SV) : ∀ (keep : List Bool) (i j : Nat) (x : SV), (cutL get keep i)[j]? = some x → get (i + j) = some x ∨ (x = .poison ∧ (get (i + j)).isSome = true)
  | [], i, j, x, h => by simp [cutL] at h
  | f :: r, i, j, x, h => by
    unfold cutL at h
    cases hg : get i with
    | none => simp [hg] at h
    | some y =>
      simp only [hg] at h
      cases j with
      | zero =>
        cases f
        · simp at h; exact .inr ⟨h.symm, by simp [hg]⟩
        · simp at h; subst h; exact .inl hg
      | succ j =>
        have := cutL_get get r (i + 1) j x (by simpa using h)
        rwa [show i + 1 + j = i + (j + 1) by omega] at this

section
variable {Γ : Orc} {P : Program} {w0 : World}

theorem cutS_rel {al : List (Tmp × Nat × TypeId)} {keep : List Bool} {st : St} {a : Act} {w : World} (h : RelP P al w0 st a w) : RelP P al w0 (cutS keep st) a w := by
  obtain ⟨β, hR, hp⟩ := h
  have key : ∀ (t : Nat) x, (cutS keep st).tmps.get t = some x → st.tmps.get t = some x ∨ (x = .poison ∧ (st.tmps.get t).isSome = true) := by
    intro t x hx
    simp only [cutS, Tr.get_ofList] at hx
    have := cutL_get _ _ _ _ _ hx
    simpa using this
  refine ⟨β, ⟨fun t x hx => ?_, fun t x hx y hy => ?_, hR.defers, hR.mem, hR.inj, hR.own, hR.dom, hR.below, hR.froz⟩, hp⟩
  · rcases key t x hx with h1 | ⟨_, h1⟩
    · exact hR.len t x h1
    · obtain ⟨z, hz⟩ := Option.isSome_iff_exists.1 h1
      exact hR.len t z hz
  · rcases key t x hx with h1 | ⟨rfl, _⟩
    · exact hR.tmps t x h1 y hy
    · trivial

/-- A loop that is known by where it comes to. -/
theorem loop_ok (hΓ : Γ.Ok P) (hm : P.follows .mixedOrders = true) {Λ Λ' : LoopOrc} {body : Code} {keep : List Bool} (hL : ∀ b ∈ loopsOf body, LoopOk Λ P w0 b) {F : St → Option (Bool × Ex × St)} (hF : ∀ st, Λ' body st = F st)
    (h : ∀ st e st', F st = some (true, e, st') → ∃ n, evLoop (R := Ex × St) Γ P Λ (cutS keep) body n (cutS keep st) (fun e st => some (e, st)) = some (e, st')) : LoopOk Λ' P w0 body := by
  intro st e st' hs a w hR
  rw [hF] at hs
  obtain ⟨n, hn⟩ := h st e st' hs
  refine wp_loop_rounds n (evLoop_sound hΓ hm hL (fun _ _ _ h => cutS_rel h) (r := (e, st')) ?_ n _ a w hn (cutS_rel hR))
  intro e1 st1 _ hk a' w' hR'
  injection hk with hk
  injection hk with h1 h2
  subst h1 h2
  exact ⟨rfl, hR'⟩
end

/-- The n-th loop of a code: its body. -/
def loopAt (c : Code) (n : Nat) : Code := ((loopsOf c)[n]?).getD .skip
end Go.Sx

