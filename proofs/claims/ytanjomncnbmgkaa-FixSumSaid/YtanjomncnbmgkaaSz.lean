/-
  An executor of the model's code over values in part unknown, with slices of numbers, and its soundness: what it comes to, the call comes to, in whatever order; all that was there stays as it was. No condition.
-/
import Derived.Still
import Derived.Below
import Derived.KernelRfl
import Derived.Laws.AppendOwn
import Derived.Laws.MakeOwn
import Derived.Laws.OwnMore
import Derived.LoopN
import Derived.Scope
import Derived.SizedLaws
import Derived.ChangeStays
import Derived.OpenShut
namespace Go.Sx
open Go.RowKit

/-- A symbolic value: a value as it is; a pointer into a block that the call itself made; a slice that is a whole row; a pointer to an element of a row; a value that nobody knows. -/
inductive SV where
  | v (x : Value)
  | ptr (l off : Nat)
  | row (r : Nat)
  | rp (r : Nat) (i : Int)
  | poison

/-- A row of numbers: the type and kind of its elements, what they are, and whether the call owns it (or only reads it). -/
structure RowC where
  e : TypeId
  k : IntKind
  L : List Int
  own : Bool

/-- A row of values, so kept that each is met, and put, in few steps: the first one, those at odd places, those at even ones. -/
inductive Tr where
  | lf
  | nd (l : Tr) (x : SV) (r : Tr)

def Tr.get : Tr → Nat → Option SV
  | .lf, _ => none
  | .nd l x r, n => match n with
    | 0 => some x
    | n + 1 => match Nat.beq (n % 2) 0 with
      | true => l.get (n / 2)
      | false => r.get (n / 2)

def Tr.set : Tr → Nat → SV → Tr
  | .lf, _, _ => .lf
  | .nd l x r, n, y => match n with
    | 0 => .nd l y r
    | n + 1 => match Nat.beq (n % 2) 0 with
      | true => .nd (l.set (n / 2) y) x r
      | false => .nd l x (r.set (n / 2) y)

def Tr.cons (x : SV) : Tr → Tr
  | .lf => .nd .lf x .lf
  | .nd l y r => .nd (r.cons y) x l

def Tr.ofList : List SV → Tr
  | [] => .lf
  | x :: l => (Tr.ofList l).cons x

theorem Tr.get_nd_odd (l r : Tr) (x : SV) (k : Nat) : (Tr.nd l x r).get (2 * k + 1) = l.get k := by
  have h1 : Nat.beq (2 * k % 2) 0 = true := by rw [show 2 * k % 2 = 0 by omega]; rfl
  have h2 : 2 * k / 2 = k := by omega
  simp only [Tr.get, h1, h2]

theorem Tr.get_nd_even (l r : Tr) (x : SV) (k : Nat) : (Tr.nd l x r).get (2 * k + 2) = r.get k := by
  have h1 : Nat.beq ((2 * k + 1) % 2) 0 = false := by rw [show (2 * k + 1) % 2 = 1 by omega]; rfl
  have h2 : (2 * k + 1) / 2 = k := by omega
  simp only [Tr.get, h1, h2]

theorem Tr.get_cons_zero (x : SV) (t : Tr) : (t.cons x).get 0 = some x := by cases t <;> rfl

theorem Tr.get_cons_succ : ∀ (t : Tr) (x : SV) (n : Nat), (t.cons x).get (n + 1) = t.get n
  | .lf, x, n => by
    rcases Nat.mod_two_eq_zero_or_one n with h | h
    · obtain ⟨k, rfl⟩ : ∃ k, n = 2 * k := ⟨n / 2, by omega⟩
      rw [Tr.cons, Tr.get_nd_odd]; rfl
    · obtain ⟨k, rfl⟩ : ∃ k, n = 2 * k + 1 := ⟨n / 2, by omega⟩
      rw [Tr.cons, Tr.get_nd_even]; rfl
  | .nd l y r, x, n => by
    rcases Nat.mod_two_eq_zero_or_one n with h | h
    · obtain ⟨k, rfl⟩ : ∃ k, n = 2 * k := ⟨n / 2, by omega⟩
      rw [Tr.cons, Tr.get_nd_odd]
      cases k with
      | zero => exact Tr.get_cons_zero _ _
      | succ k => rw [Tr.get_cons_succ r y k, show 2 * (k + 1) = 2 * k + 2 by omega, Tr.get_nd_even]
    · obtain ⟨k, rfl⟩ : ∃ k, n = 2 * k + 1 := ⟨n / 2, by omega⟩
      rw [Tr.cons, Tr.get_nd_even, Tr.get_nd_odd]

theorem Tr.get_ofList : ∀ (l : List SV) (n : Nat), (Tr.ofList l).get n = l[n]?
  | [], n => by simp [Tr.ofList, Tr.get]
  | x :: l, 0 => by simp [Tr.ofList, Tr.get_cons_zero]
  | x :: l, n + 1 => by simp [Tr.ofList, Tr.get_cons_succ, Tr.get_ofList l n]

theorem Tr.set_nd_odd (l r : Tr) (x y : SV) (k : Nat) : (Tr.nd l x r).set (2 * k + 1) y = .nd (l.set k y) x r := by
  have h1 : Nat.beq (2 * k % 2) 0 = true := by rw [show 2 * k % 2 = 0 by omega]; rfl
  have h2 : 2 * k / 2 = k := by omega
  simp only [Tr.set, h1, h2]

theorem Tr.set_nd_even (l r : Tr) (x y : SV) (k : Nat) : (Tr.nd l x r).set (2 * k + 2) y = .nd l x (r.set k y) := by
  have h1 : Nat.beq ((2 * k + 1) % 2) 0 = false := by rw [show (2 * k + 1) % 2 = 1 by omega]; rfl
  have h2 : (2 * k + 1) / 2 = k := by omega
  simp only [Tr.set, h1, h2]

theorem nat_cases3 (n : Nat) : n = 0 ∨ (∃ k, n = 2 * k + 1) ∨ (∃ k, n = 2 * k + 2) := by
  rcases Nat.mod_two_eq_zero_or_one n with h | h
  · rcases Nat.eq_zero_or_pos n with h0 | h0
    · exact .inl h0
    · exact .inr (.inr ⟨n / 2 - 1, by omega⟩)
  · exact .inr (.inl ⟨n / 2, by omega⟩)

theorem Tr.get_set_ne : ∀ (t : Tr) (d e : Nat) (y : SV), d ≠ e → (t.set d y).get e = t.get e
  | .lf, d, e, y, _ => rfl
  | .nd l x r, d, e, y, h => by
    rcases nat_cases3 d with rfl | ⟨k, rfl⟩ | ⟨k, rfl⟩ <;> rcases nat_cases3 e with rfl | ⟨j, rfl⟩ | ⟨j, rfl⟩
    · exact absurd rfl h
    · show (Tr.nd l y r).get _ = _; rw [Tr.get_nd_odd, Tr.get_nd_odd]
    · show (Tr.nd l y r).get _ = _; rw [Tr.get_nd_even, Tr.get_nd_even]
    · rw [Tr.set_nd_odd]; rfl
    · rw [Tr.set_nd_odd, Tr.get_nd_odd, Tr.get_nd_odd]; exact Tr.get_set_ne l k j y (by omega)
    · rw [Tr.set_nd_odd, Tr.get_nd_even, Tr.get_nd_even]
    · rw [Tr.set_nd_even]; rfl
    · rw [Tr.set_nd_even, Tr.get_nd_odd, Tr.get_nd_odd]
    · rw [Tr.set_nd_even, Tr.get_nd_even, Tr.get_nd_even]; exact Tr.get_set_ne r k j y (by omega)

theorem Tr.get_set_self : ∀ (t : Tr) (d : Nat) (y : SV), (t.set d y).get d = (t.get d).map fun _ => y
  | .lf, d, y => rfl
  | .nd l x r, d, y => by
    rcases nat_cases3 d with rfl | ⟨k, rfl⟩ | ⟨k, rfl⟩
    · rfl
    · rw [Tr.set_nd_odd, Tr.get_nd_odd, Tr.get_nd_odd]; exact Tr.get_set_self l k y
    · rw [Tr.set_nd_even, Tr.get_nd_even, Tr.get_nd_even]; exact Tr.get_set_self r k y

theorem Tr.set_self : ∀ (t : Tr) (d : Nat) (y : SV), t.get d = some y → t.set d y = t
  | .lf, d, y, _ => rfl
  | .nd l x r, d, y, h => by
    rcases nat_cases3 d with rfl | ⟨k, rfl⟩ | ⟨k, rfl⟩
    · injection h with h; subst h; rfl
    · rw [Tr.get_nd_odd] at h; rw [Tr.set_nd_odd, Tr.set_self l k y h]
    · rw [Tr.get_nd_even] at h; rw [Tr.set_nd_even, Tr.set_self r k y h]

theorem Tr.set_comm : ∀ (t : Tr) (d e : Nat) (x y : SV), d ≠ e → (t.set d x).set e y = (t.set e y).set d x
  | .lf, d, e, x, y, _ => rfl
  | .nd l z r, d, e, x, y, h => by
    rcases nat_cases3 d with rfl | ⟨k, rfl⟩ | ⟨k, rfl⟩ <;> rcases nat_cases3 e with rfl | ⟨j, rfl⟩ | ⟨j, rfl⟩
    · exact absurd rfl h
    · show (Tr.nd l x r).set _ _ = _; rw [Tr.set_nd_odd, Tr.set_nd_odd]; rfl
    · show (Tr.nd l x r).set _ _ = _; rw [Tr.set_nd_even, Tr.set_nd_even]; rfl
    · rw [Tr.set_nd_odd]; show Tr.nd _ _ _ = (Tr.nd l y r).set _ _; rw [Tr.set_nd_odd]
    · rw [Tr.set_nd_odd, Tr.set_nd_odd, Tr.set_nd_odd, Tr.set_nd_odd, Tr.set_comm l k j x y (by omega)]
    · rw [Tr.set_nd_odd, Tr.set_nd_even, Tr.set_nd_even, Tr.set_nd_odd]
    · rw [Tr.set_nd_even]; show Tr.nd _ _ _ = (Tr.nd l y r).set _ _; rw [Tr.set_nd_even]
    · rw [Tr.set_nd_even, Tr.set_nd_odd, Tr.set_nd_odd, Tr.set_nd_even]
    · rw [Tr.set_nd_even, Tr.set_nd_even, Tr.set_nd_even, Tr.set_nd_even, Tr.set_comm r k j x y (by omega)]

/-- A row: not made yet; gone (it was appended to: another one stands in its place); there. -/
inductive RowS where
  | pend
  | dead
  | live (c : RowC)

structure Mem where
  blk : List (List SV)
  live : List Bool
  rows : List RowS

structure St where
  tmps : Tr
  mem : Mem

def St.eval (st : St) : Operand → Option SV
  | .tmp t => st.tmps.get t
  | .const x => some (.v x)
  | .global g => some (.v (.pointer (some ⟨g, 0, none⟩)))
  | .func f => some (.v (.func (.func f) #[] #[]))

def St.put (st : St) (d : Option Tmp) (x : SV) : St :=
  match d with
  | none => st
  | some d => { st with tmps := st.tmps.set d x }

def asV : Option SV → Option Value
  | some (.v y) => some y
  | _ => none

def isV (s : Option SV) : Bool :=
  match s with
  | some (.v _) => true
  | _ => false

def vOr (s : Option SV) : Value :=
  match s with
  | some (.v y) => y
  | _ => undef

/-- A computation that only asks for the program. -/
def pev {α : Type} (P : Program) : Sem α → Option α
  | .pure a => some a
  | .program k => pev P (k P)
  | .mark _ k => pev P k
  | _ => none

theorem pev_run {α : Type} {P : Program} : ∀ (s : Sem α) (a : α), pev P s = some a → ∀ w, s.run P w = .ok a w
  | .pure b, a, h, w => by simp [pev] at h; subst h; rfl
  | .program k, a, h, w => by simp only [pev] at h; simp only [Sem.run]; exact pev_run (k P) a h w
  | .mark _ k, a, h, w => by simp only [pev] at h; simp only [Sem.run]; exact pev_run k a h w
  | .load .., a, h, w => by simp [pev] at h
  | .store .., a, h, w => by simp [pev] at h
  | .new .., a, h, w => by simp [pev] at h
  | .shape .., a, h, w => by simp [pev] at h
  | .freeze .., a, h, w => by simp [pev] at h
  | .frozen .., a, h, w => by simp [pev] at h
  | .getObj .., a, h, w => by simp [pev] at h
  | .setObj .., a, h, w => by simp [pev] at h
  | .choose .., a, h, w => by simp [pev] at h
  | .sys .., a, h, w => by simp [pev] at h
  | .halt .., a, h, w => by simp [pev] at h

def aggT (P : Program) (t : TypeId) : Option Bool :=
  match P.underlying t with
  | some (.struct _) => some true
  | some (.array _ _) => some true
  | some _ => some false
  | none => none
def sizT (P : Program) (t : TypeId) : Option Nat :=
  match P.info? t with
  | some i => some i.size
  | none => none
def zeroT (P : Program) (t : TypeId) : Option Value :=
  match P.info? t with
  | some i => i.zero
  | none => none

def toCells : SV → Option (List SV)
  | .v (.agg cs) => some (cs.toList.map .v)
  | .v y => some [.v y]
  | .ptr l o => some [.ptr l o]
  | _ => none

def allV : List SV → Option (List Value)
  | [] => some []
  | .v x :: r => match allV r with | some l => some (x :: l) | none => none
  | _ :: _ => none

def fromCells (ag : Bool) (cs : List SV) : Option SV :=
  match ag with
  | true => match allV cs with | some l => some (.v (.agg l.toArray)) | none => none
  | false => match cs with | [x] => some x | _ => none

/-- What is known of callees: a call's result, under a test, where it is a value and the call leaves all that was there as it was; whether two values of a type are equal. -/
inductive Arg where
  | v (x : Value)
  /-- a slice that is read -/
  | ints (k : IntKind) (L : List Int)
inductive Res where
  | v (x : Value)
  /-- a slice that the callee made -/
  | ints (e : TypeId) (k : IntKind) (L : List Int)

structure Orc where
  call : FuncId → List Arg → Option (Bool × Res)
  eqv : TypeId → List Value → List Value → Option Bool
  /-- All numbers are known, and are reckoned as they come. -/
  conc : Bool := false

def rowAt (rows : List RowS) (r : Nat) : Option RowC :=
  match rows[r]? with
  | some (.live rc) => some rc
  | _ => none

def asArg (rows : List RowS) (s : Option SV) : Option Arg :=
  match s with
  | some (.v y) => some (.v y)
  | some (.row r) => match rowAt rows r with
    | some rc => some (.ints rc.k rc.L)
    | none => none
  | _ => none

def allOps (ev : Operand → Option SV) (rows : List RowS) : List Operand → Option (List Arg)
  | [] => some []
  | x :: r => match asArg rows (ev x), allOps ev rows r with | some y, some l => some (y :: l) | _, _ => none

/-- What a region that draws its order will make: blocks, for its allocs; rows, for its calls that hand back a slice. -/
structure Al where
  a : List (Tmp × Nat × TypeId)
  r : List (Tmp × Nat)

def lookR (al : List (Tmp × Nat)) (d : Option Tmp) : Option Nat :=
  match d, al with
  | some d, (d', l) :: r => if d' = d then some l else lookR r (some d)
  | _, _ => none

def lookAl (al : List (Tmp × Nat × TypeId)) (d : Option Tmp) : Option (Nat × TypeId) :=
  match d, al with
  | some d, (d', l, e) :: r => if d' = d then some (l, e) else lookAl r (some d)
  | _, _ => none

def isSliceT (P : Program) (t : TypeId) : Bool :=
  match P.underlying t with
  | some (.slice _) => true
  | _ => false

/-- The rows that a call may read. -/
def rowsFor (P : Program) (at_ : Array TypeId) (rows : List RowS) : List RowS :=
  match at_.toList.any (isSliceT P) with
  | true => rows
  | false => []

def isSel : Op → Bool
  | .select _ _ => true
  | _ => false

def pureV (P : Program) (o : Oper) (ev : Operand → Option SV) : Option SV :=
  match o.op.operands.toList.all (fun x => isV (ev x)) && !isSel o.op with
  | true => match pev P (execOp (fun x => vOr (ev x)) o) with
    | some (.value y) => some (.v y)
    | some .skip => some (.v undef)
    | _ => none
  | false => none

/-- A number as its kind holds it; where all numbers are known, by literals. -/
def wr (c : Bool) (k : IntKind) (n : Int) : Int :=
  match c with
  | false => k.wrap n
  | true => match k with
    | .u64 => n % 18446744073709551616
    | .i64 => match decide (n % 18446744073709551616 ≥ 9223372036854775808) with
      | true => n % 18446744073709551616 - 18446744073709551616
      | false => n % 18446744073709551616
    | .u8 => n % 256
    | .u32 => n % 4294967296
    | .u16 => n % 65536
    | k => k.wrap n

theorem wr_eq (c : Bool) (k : IntKind) (n : Int) : wr c k n = k.wrap n := by
  have e64 : (2 : Int) ^ 64 = 18446744073709551616 := by decide
  have e63 : (2 : Int) ^ 63 = 9223372036854775808 := by decide
  cases c with
  | false => rfl
  | true =>
    cases k <;> simp only [wr, IntKind.wrap, IntKind.signed, IntKind.bits, Bool.true_and, Bool.false_and, Bool.false_eq_true, if_false, e64, e63, Nat.reduceSub, Int.reducePow]
    split <;> simp_all <;> omega

/-- Two numbers of one kind. -/
def intBin (c : Bool) (op : BinOp) (k : IntKind) (a b : Int) : Option Value :=
  match op with
  | .add => some (.int k (wr c k (a + b)))
  | .sub => some (.int k (wr c k (a - b)))
  | .mul => some (.int k (wr c k (a * b)))
  | .and => some (.int k (wr c k (BitVec.ofInt k.bits a &&& BitVec.ofInt k.bits b).toNat))
  | .or => some (.int k (wr c k (BitVec.ofInt k.bits a ||| BitVec.ofInt k.bits b).toNat))
  | .xor => some (.int k (wr c k (BitVec.ofInt k.bits a ^^^ BitVec.ofInt k.bits b).toNat))
  | .andNot => some (.int k (wr c k (BitVec.ofInt k.bits a &&& ~~~ BitVec.ofInt k.bits b).toNat))
  | .eql => some (.bool (a == b))
  | .neq => some (.bool (a != b))
  | .lss => some (.bool (decide (a < b)))
  | .leq => some (.bool (decide (a ≤ b)))
  | .gtr => some (.bool (decide (a > b)))
  | .geq => some (.bool (decide (a ≥ b)))
  | _ => none

theorem intBin_run {P : Program} {w : World} {c : Bool} {op : BinOp} {k : IntKind} {a b : Int} {r : Value} {t : TypeId} (h : intBin c op k a b = some r) : (binOp op t (.int k a) (.int k b)).run P w = .ok r w := by
  cases op <;> simp only [intBin, wr_eq] at h <;> first | (injection h with h; subst h; simp [binOp, Op.intArith, Op.intBits, Op.intCmp, pure]; done) | cases h

def aggBin (Γ : Orc) (op : BinOp) (t : TypeId) (a b : List Value) : Option SV :=
  match op with
  | .eql => match Γ.eqv t a b with | some r => some (.v (.bool r)) | none => none
  | .neq => match Γ.eqv t a b with | some r => some (.v (.bool (!r))) | none => none
  | _ => none

/-- A string's byte. -/
def strAt (s : ByteArray) (i : Int) : Int :=
  match s[i.toNat]? with
  | some b => (b.toNat : Int)
  | none => 0

/-- The value that an operation yields. -/
def opV (Γ : Orc) (P : Program) (al : Al) (o : Oper) (ev : Operand → Option SV) (blk : List (List SV)) (rows : List RowS) : Option SV :=
  match o.op with
  | .move x => ev x
  | .assign x => ev x
  | .pick c x y => match ev c with
    | some (.v (.bool t)) => bif t then ev x else ev y
    | _ => none
  | .alloc e => match lookAl al.a o.dst with
    | some (l, e') => if e' = e then some (.ptr l 0) else none
    | none => none
  | .load t p => match ev p, aggT P t, sizT P t with
    | some (.ptr l off), some ag, some n => match blk[l]? with
      | some cs => if off + n ≤ cs.length then fromCells ag ((cs.drop off).take n) else none
      | none => none
    | some (.rp r i), some false, some _ => match rowAt rows r with
      | some rc => some (.v (.int rc.k (rc.L.getD i.toNat 0)))
      | none => none
    | _, _, _ => none
  | .indexAddr t x ix => match ev x, ev ix, P.underlying t with
    | some (.row r), some (.v (.int _ i)), some (.slice e) => match rowAt rows r, sizT P e with
      | some rc, some 1 => bif decide (0 ≤ i) && decide (i < rc.L.length) then some (.rp r i) else none
      | _, _ => none
    | _, _, _ => none
  | .index t x ix => match ev x, ev ix, P.underlying t with
    | some (.v (.string s)), some (.v (.int _ i)), some .string => bif decide (0 ≤ i) && decide (i < (s.size : Int)) then some (.v (.int .u8 (strAt s i))) else none
    | _, _, _ => pureV P o ev
  | .store .. => some (.v undef)
  | .fieldAddr s p f => match ev p, P.underlying s with
    | some (.ptr l off), some (.struct fs) => match fs[f]? with
      | some fd => match sizT P fd.type with
        | some (_ + 1) => some (.ptr l (off + fd.offset))
        | _ => none
      | none => none
    | _, _ => none
  | .binOp .quo _ x y _ => match ev x, ev y with
    | some (.v (.int k a)), some (.v (.int k' b)) => if k = k' then (bif b == 0 then none else some (.v (.int k (k.wrap (a.tdiv b))))) else none
    | _, _ => none
  | .binOp .rem _ x y _ => match ev x, ev y with
    | some (.v (.int k a)), some (.v (.int k' b)) => if k = k' then (bif b == 0 then none else some (.v (.int k (a.tmod b)))) else none
    | _, _ => none
  | .binOp .shl _ x y _ => match ev x, ev y with
    | some (.v (.int k a)), some (.v (.int _ b)) => bif decide (b < 0) then none else some (.v (.int k (k.wrap (a * 2 ^ (min b.toNat k.bits)))))
    | _, _ => none
  | .binOp .shr _ x y _ => match ev x, ev y with
    | some (.v (.int k a)), some (.v (.int _ b)) => bif decide (b < 0) then none else some (.v (.int k (a.fdiv (2 ^ (min b.toNat k.bits)))))
    | _, _ => none
  | .binOp op t x y _ => match ev x, ev y with
    | some (.v (.int k a)), some (.v (.int k' b)) => if k = k' then (match intBin Γ.conc op k a b with | some r => some (.v r) | none => none) else none
    | some (.v (.agg a)), some (.v (.agg b)) => aggBin Γ op t a.toList b.toList
    | _, _ => pureV P o ev
  | .unOp .xor _ x => match ev x with
    | some (.v (.int .i64 n)) => some (.v (.int .i64 (wr Γ.conc .i64 (-1 - n))))
    | some (.v (.int .u64 n)) => some (.v (.int .u64 (wr Γ.conc .u64 (-1 - n))))
    | _ => pureV P o ev
  | .convert s d x => match ev x, P.underlying s, P.underlying d with
    | some (.v (.int _ n)), some _, some (.int k) => some (.v (.int k (wr Γ.conc k n)))
    | _, _, _ => pureV P o ev
  | .call { callee := .value (.func f), args, argTypes } => match allOps ev (rowsFor P argTypes rows) args.toList with
    | some vs => match Γ.call f vs with
      | some (g, .v r) => (bif g then some (.v r) else none)
      | some (g, .ints _ _ _) => match lookR al.r o.dst with
        | some l => bif g then some (.row l) else none
        | none => none
      | none => none
    | none => none
  | .call { callee := .builtin .len, args, argTypes } => match args.toList, argTypes.toList with
    | [x], [t] => match ev x, P.underlying t with
      | some (.row r), some (.slice _) => match rowAt rows r with
        | some rc => some (.v (.int .i64 (rc.L.length : Int)))
        | none => none
      | _, _ => pureV P o ev
    | _, _ => none
  | _ => pureV P o ev

def oneCell : SV → Bool
  | .v (.agg _) => false
  | .v (.tuple _) => false
  | .v _ => true
  | .ptr _ _ => true
  | _ => false

/-- What an operation does to memory: to the blocks' cells; to which blocks there are. -/
def opB (P : Program) (o : Oper) (ev : Operand → Option SV) (blk : List (List SV)) : Option (List (List SV)) :=
  match o.op with
  | .store t p x => match ev p, sizT P t with
    | some (.ptr l off), some n => match (ev x).bind toCells, blk[l]? with
      | some xs, some cs => if xs.length = n ∧ off + n ≤ cs.length ∧ xs.all oneCell = true then some (blk.set l (cs.take off ++ xs ++ cs.drop (off + n))) else none
      | _, _ => none
    | _, _ => none
  | _ => some blk

def opL (al : Al) (o : Oper) (live : List Bool) : Option (List Bool) :=
  match o.op with
  | .alloc _ => match lookAl al.a o.dst with
    | some (l, _) => match live[l]? with
      | some false => some (live.set l true)
      | _ => none
    | none => none
  | _ => some live

/-- .. to the rows: a call that hands back a slice. -/
def opW (Γ : Orc) (P : Program) (al : Al) (o : Oper) (ev : Operand → Option SV) (rows : List RowS) : Option (List RowS) :=
  match o.op with
  | .call { callee := .value (.func f), args, argTypes } => match allOps ev (rowsFor P argTypes rows) args.toList with
    | some vs => match Γ.call f vs with
      | some (_, .ints e k L) => match lookR al.r o.dst with
        | some l => match rows[l]? with
          | some .pend => some (rows.set l (.live ⟨e, k, L, true⟩))
          | _ => none
        | none => none
      | _ => some rows
    | none => some rows
  | _ => some rows

def opM (Γ : Orc) (al : Al) (P : Program) (o : Oper) (ev : Operand → Option SV) (m : Mem) : Option Mem :=
  match opB P o ev m.blk, opL al o m.live, opW Γ P al o ev m.rows with
  | some b, some l, some w => some ⟨b, l, w⟩
  | _, _, _ => none

end Go.Sx

namespace Go.Sx
open Go.RowKit

/-- Where the blocks lie, and what the slices are. -/
structure Vl where
  b : Nat → Option (Nat × Nat)
  r : Nat → Option (Option Value)

def Den (V : Vl) : SV → Value → Prop
  | .v x, y => y = x
  | .ptr l off, y => ∃ b o, V.b l = some (b, o) ∧ y = .pointer (some ⟨b, o + off, none⟩)
  | .row r, y => V.r r ≠ none ∧ ∀ u, V.r r = some (some u) → y = u
  | .rp r i, y => V.r r ≠ none ∧ ∀ u, V.r r = some (some u) → ∃ g o n c, u = .slice (some ⟨g, o, none⟩) n c ∧ 0 ≤ i ∧ i < (n : Int) ∧ y = .pointer (some ⟨g, o + i.toNat, none⟩)
  | .poison, _ => True

def Reads (B : Nat) (w : World) (k : IntKind) (L : List Int) (u : Value) : Prop :=
  (u = .slice none 0 0 ∧ L = []) ∨ ∃ b o cap, u = .slice (some ⟨b, o, none⟩) L.length cap ∧ (L ≠ [] → b < B) ∧ ∀ (j : Nat) x, L[j]? = some x → w.cell? ⟨b, o + j, none⟩ = some (.int k x)

def RowOk (B : Nat) (w : World) (rc : RowC) (u : Value) : Prop :=
  match rc.own with
  | true => w.ownsRow B rc.e 1 u rc.L.length (rc.L.map (.int rc.k))
  | false => Reads B w rc.k rc.L u

structure Rel (w0 : World) (st : St) (V : Vl) (a : Act) (w : World) : Prop where
  len : ∀ (t : Nat) x, st.tmps.get t = some x → t < a.tmps.size
  tmps : ∀ (t : Nat) x, st.tmps.get t = some x → ∀ y, a.tmps[t]? = some y → Den V x y
  defers : a.defers = []
  mem : ∀ l b o, V.b l = some (b, o) → ∀ cs, st.mem.blk[l]? = some cs → ∀ (j : Nat) x, cs[j]? = some x →
    ∃ y, w.cell? ⟨b, o + j, none⟩ = some y ∧ Den V x y ∧ w.frozen? ⟨b, o + j, none⟩ = false
  inj : ∀ l l' b o b' o', V.b l = some (b, o) → V.b l' = some (b', o') → l ≠ l' → b ≠ b'
  own : ∀ l b o, V.b l = some (b, o) → w0.heap.size ≤ b ∧ b < w.heap.size
  dom : ∀ l, V.b l ≠ none → st.mem.live[l]? = some true
  rows : ∀ r rc, rowAt st.mem.rows r = some rc → ∃ u, V.r r = some (some u) ∧ RowOk w0.heap.size w rc u
  rowsN : ∀ r, st.mem.rows[r]? = none ∨ st.mem.rows[r]? = some .pend → V.r r = none
  apart : ∀ r r' rc rc' u u' g, rowAt st.mem.rows r = some rc → rc.own = true → rowAt st.mem.rows r' = some rc' → rc'.own = true → V.r r = some (some u) → V.r r' = some (some u') → r ≠ r' → u.ownBlock = some g → u'.ownBlock ≠ some g
  apartb : ∀ r rc u g l b o, rowAt st.mem.rows r = some rc → rc.own = true → V.r r = some (some u) → u.ownBlock = some g → V.b l = some (b, o) → b ≠ g
  below : Below w0.heap.size w0 w
  froz : ∀ p, w.frozen? p = w0.frozen? p

/-- All that was there is as it was; nothing is frozen, or let go. -/
def Kp (w w' : World) : Prop := Below w.heap.size w w' ∧ ∀ p, w'.frozen? p = w.frozen? p

def Pend (P : Program) (al : Al) (st : St) (V : Vl) : Prop :=
  ∀ d l e, (d, l, e) ∈ al.a → V.b l = none → ∃ z, zeroT P e = some z ∧ st.mem.blk[l]? = some (z.cells.toList.map .v)

def RelP (P : Program) (al : Al) (w0 : World) (st : St) (a : Act) (w : World) : Prop :=
  ∃ V, Rel w0 st V a w ∧ Pend P al st V

def ArgOk (w : World) : Arg → Value → Prop
  | .v x, y => y = x
  | .ints k L, y => Reads w.heap.size w k L y

def ArgsOk (w : World) : List Arg → List Value → Prop
  | [], [] => True
  | a :: r, v :: s => ArgOk w a v ∧ ArgsOk w r s
  | _, _ => False

def ResOk (w w' : World) : Res → Value → Prop
  | .v x, y => y = x
  | .ints e k L, y => w'.ownsRow w.heap.size e 1 y L.length (L.map (.int k))

def CallOk (P : Program) (f : FuncId) (args : List Arg) (r : Res) : Prop :=
  ∀ w vs, ArgsOk w args vs → (∃ y, (callFunc f vs.toArray).run P w = .ok (.value y) w ∧ r = .v y) ∨
    ((callFunc f vs.toArray).run P w = .ok (.enter f vs.toArray) w ∧ Calls P f vs.toArray w (fun e w' => ∃ y, e = .returned y ∧ ResOk w w' r y ∧ Kp w w'))

structure Orc.Ok (Γ : Orc) (P : Program) : Prop where
  call : ∀ f vs r, Γ.call f vs = some (true, r) → CallOk P f vs r
  eqv : ∀ t xs ys r, Γ.eqv t xs ys = some r → ∀ w op x y, op = .eql ∨ op = .neq → (eqGuard op t x y (.agg xs.toArray) (.agg ys.toArray)).run P w = .ok () w ∧ (Op.equal t (.agg xs.toArray) (.agg ys.toArray)).run P w = .ok r w

section
variable {P : Program} {al : Al} {w0 : World} {st : St} {V : Vl} {a : Act} {w : World}

theorem Rel.eval (h : Rel w0 st V a w) {x : Operand} {s : SV} (hx : st.eval x = some s) : Den V s (a.eval x) := by
  cases x with
  | tmp t =>
    have hl : t < a.tmps.size := h.len t s hx
    have := h.tmps t s hx (a.tmps[t]) (by simp [hl])
    simpa [Act.eval, Array.getD, hl] using this
  | const v => simp [St.eval] at hx; subst hx; rfl
  | global g => simp [St.eval] at hx; subst hx; rfl
  | func f => simp [St.eval] at hx; subst hx; rfl

theorem Rel.put (h : Rel w0 st V a w) (d : Option Tmp) {x : SV} {y : Value} (hd : Den V x y) : Rel w0 (st.put d x) V (a.put d y) w := by
  cases d with
  | none => exact h
  | some d =>
    have key : ∀ (t : Nat) z, ((st.put (some d) x).tmps).get t = some z → (d = t ∧ z = x ∧ d < a.tmps.size) ∨ (d ≠ t ∧ st.tmps.get t = some z) := by
      intro t z hz
      simp only [St.put] at hz
      by_cases hdt : d = t
      · subst hdt
        rw [Tr.get_set_self] at hz
        cases hh : st.tmps.get d with
        | none => simp [hh] at hz
        | some q =>
          simp [hh] at hz
          exact .inl ⟨rfl, hz.symm, h.len d q hh⟩
      · rw [Tr.get_set_ne _ _ _ _ hdt] at hz
        exact .inr ⟨hdt, hz⟩
    refine { h with len := fun t z hz => ?_, tmps := fun t z hz y' hy' => ?_ }
    · simp only [Act.put, Array.size_setIfInBounds]
      rcases key t z hz with ⟨rfl, _, hl⟩ | ⟨_, hz⟩
      · exact hl
      · exact h.len t z hz
    · simp only [Act.put] at hy'
      rcases key t z hz with ⟨rfl, rfl, hl⟩ | ⟨hdt, hz⟩
      · simp [hl] at hy'
        subst hy'
        exact hd
      · rw [Array.getElem?_setIfInBounds_ne hdt] at hy'
        exact h.tmps t z hz y' hy'

theorem Below.grownBy' {w w' : World} (h : Below w.heap.size w w') (row : Option Nat) : w.grownBy w' row :=
  ⟨h.os, h.tape, h.output, h.size, fun k hk _ => h.block k hk⟩

theorem Reads.below {B : Nat} {k : IntKind} {L : List Int} {u : Value} {w w' : World} (h : Reads B w k L u) (hb : Below B w w') : Reads B w' k L u := by
  rcases h with h | ⟨b, o, cap, hu, hB, hc⟩
  · exact .inl h
  · refine .inr ⟨b, o, cap, hu, hB, fun j x hx => ?_⟩
    have hne : L ≠ [] := by rintro rfl; simp at hx
    rw [hb.cell (p := ⟨b, o + j, none⟩) (hB hne)]
    exact hc j x hx

theorem RowOk.below {B : Nat} {rc : RowC} {u : Value} {w w' : World} (hB : B ≤ w.heap.size) (h : RowOk B w rc u) (hb : Below w.heap.size w w') : RowOk B w' rc u := by
  unfold RowOk at *
  split
  · rename_i ho; simp only [ho] at h; exact World.ownsRow.kept h (Below.grownBy' hb none) (by cases u.ownBlock <;> simp)
  · rename_i ho; simp only [ho] at h; exact h.below (hb.mono hB)

theorem Rel.below' (h : Rel w0 st V a w) {w' : World} (hk : Kp w w') : Rel w0 st V a w' := by
  obtain ⟨hb, hf⟩ := hk
  refine { h with
    mem := fun l b o hl cs hcs j x hx => ?_
    own := fun l b o hl => ?_
    rows := fun r rc hr => ?_
    below := h.below.trans (hb.mono h.below.size)
    froz := fun p => (hf p).trans (h.froz p) }
  · obtain ⟨y, h1, h2, h3⟩ := h.mem l b o hl cs hcs j x hx
    have hbb := (h.own l b o hl).2
    exact ⟨y, by rw [hb.cell (p := ⟨b, o + j, none⟩) hbb]; exact h1, h2, by rw [hb.frozen (p := ⟨b, o + j, none⟩) hbb]; exact h3⟩
  · have := h.own l b o hl
    exact ⟨this.1, Nat.lt_of_lt_of_le this.2 hb.size⟩
  · obtain ⟨u, h1, h2⟩ := h.rows r rc hr
    exact ⟨u, h1, h2.below h.below.size hb⟩

theorem Rel.drew (h : Rel w0 st V a w) : Rel w0 st V a { w with drawn := w.drawn + 1 } :=
  h.below' ⟨⟨rfl, rfl, rfl, Nat.le_refl _, fun _ _ => rfl⟩, fun _ => rfl⟩

theorem Pend.put (h : Pend P al st V) (d : Option Tmp) (x : SV) : Pend P al (st.put d x) V := by
  cases d <;> exact h

theorem Rel.evalV (h : Rel w0 st V a w) {x : Operand} (hx : isV (st.eval x) = true) : a.eval x = vOr (st.eval x) := by
  cases hs : st.eval x with
  | none => simp [hs, isV] at hx
  | some s =>
    cases s with
    | v y => have := h.eval hs; simpa [Den, vOr] using this
    | _ => simp [hs, isV] at hx

theorem pureV_run (h : Rel w0 st V a w) {o : Oper} {x : SV} (hV : pureV P o st.eval = some x) :
    ∃ y, x = .v y ∧ ((execOp a.eval o).run P w = .ok (.value y) w ∨ ((execOp a.eval o).run P w = .ok .skip w ∧ y = undef)) := by
  unfold pureV at hV
  split at hV
  · rename_i hall
    simp only [Bool.and_eq_true, List.all_eq_true] at hall
    have hc : execOp a.eval o = execOp (fun x => vOr (st.eval x)) o := by
      refine execOp_congr o (fun cs b hsel => ?_) (fun x hx => ?_)
      · have := hall.2; rw [hsel] at this; simp [isSel] at this
      · exact h.evalV (hall.1 x (by simpa using hx))
    split at hV
    · rename_i y hp
      cases hV
      exact ⟨y, rfl, .inl (by rw [hc]; exact pev_run _ _ hp w)⟩
    · rename_i hp
      cases hV
      exact ⟨undef, rfl, .inr ⟨by rw [hc]; exact pev_run _ _ hp w, rfl⟩⟩
    · cases hV
  · cases hV

theorem asArg_ok (h : Rel w0 st V a w) {x : Operand} {g : Arg} (hx : asArg st.mem.rows (st.eval x) = some g) : ArgOk w g (a.eval x) := by
  cases hs : st.eval x with
  | none => simp [hs, asArg] at hx
  | some s =>
    cases s with
    | v y => simp [hs, asArg] at hx; subst hx; exact h.eval hs
    | row r =>
      simp only [hs, asArg] at hx
      cases hr : rowAt st.mem.rows r with
      | none => simp [hr] at hx
      | some rc =>
        simp [hr] at hx
        subst hx
        obtain ⟨u, hu, hok⟩ := h.rows r rc hr
        have he : a.eval x = u := (h.eval hs).2 u hu
        rw [he]
        unfold RowOk at hok
        split at hok
        · rcases hok.2 with ⟨rfl, h0⟩ | ⟨g, cap, cur, rfl, hb, hg, hn, hm, hsz, ht⟩
          · exact .inl ⟨rfl, List.eq_nil_of_length_eq_zero h0⟩
          · refine .inr ⟨g, 0, cap, rfl, fun _ => (Array.getElem?_eq_some_iff.1 hg).1, fun j x hx => ?_⟩
            have := World.ownsRow.cells hok (g := g) rfl j (.int rc.k x) (by simp [hx])
            rwa [show (Addr.add ⟨g, 0, none⟩ j) = ⟨g, 0 + j, none⟩ from by unfold Addr.add; split <;> simp_all] at this
        · rcases hok with h1 | ⟨b, o, cap, h1, h2, h3⟩
          · exact .inl h1
          · exact .inr ⟨b, o, cap, h1, fun hne => Nat.lt_of_lt_of_le (h2 hne) h.below.size, h3⟩
    | _ => simp [hs, asArg] at hx

theorem allOps_eval (h : Rel w0 st V a w) : ∀ (l : List Operand) (vs : List Arg), allOps st.eval st.mem.rows l = some vs → ArgsOk w vs (l.map a.eval)
  | [], vs, hv => by simp [allOps] at hv; subst hv; trivial
  | x :: r, vs, hv => by
    unfold allOps at hv
    cases hx : asArg st.mem.rows (st.eval x) with
    | none => simp [hx] at hv
    | some y =>
      cases hr : allOps st.eval st.mem.rows r with
      | none => simp [hx, hr] at hv
      | some l =>
        simp [hx, hr] at hv
        subst hv
        exact ⟨asArg_ok h hx, allOps_eval h r l hr⟩

theorem asArg_mono {rows rows' : List RowS} (hm : ∀ r rc, rowAt rows r = some rc → rowAt rows' r = some rc) {s : Option SV} {g : Arg} (h : asArg rows s = some g) : asArg rows' s = some g := by
  cases s with
  | none => simp [asArg] at h
  | some s =>
    cases s with
    | v y => exact h
    | row r =>
      simp only [asArg] at h ⊢
      cases hr : rowAt rows r with
      | none => simp [hr] at h
      | some rc => rw [hm r rc hr]; simpa [hr] using h
    | _ => simp [asArg] at h

theorem allOps_mono {rows rows' : List RowS} (hm : ∀ r rc, rowAt rows r = some rc → rowAt rows' r = some rc) {ev : Operand → Option SV} : ∀ (l : List Operand) (vs : List Arg), allOps ev rows l = some vs → allOps ev rows' l = some vs
  | [], vs, h => h
  | x :: r, vs, h => by
    unfold allOps at h ⊢
    cases hx : asArg rows (ev x) with
    | none => simp [hx] at h
    | some y =>
      cases hr : allOps ev rows r with
      | none => simp [hx, hr] at h
      | some l =>
        rw [asArg_mono hm hx, allOps_mono hm r l hr]
        simpa [hx, hr] using h

theorem rowsFor_mono {at_ : Array TypeId} {rows : List RowS} : ∀ r rc, rowAt (rowsFor P at_ rows) r = some rc → rowAt rows r = some rc := by
  intro r rc h
  unfold rowsFor at h
  split at h
  · exact h
  · simp [rowAt] at h

theorem lookAl_mem {d : Option Tmp} {l : Nat} {e : TypeId} : ∀ (al : List (Tmp × Nat × TypeId)), lookAl al d = some (l, e) → ∃ d', (d', l, e) ∈ al
  | [], h => by cases d <;> simp [lookAl] at h
  | (d', l', e') :: r, h => by
    cases d with
    | none => simp [lookAl] at h
    | some d =>
      unfold lookAl at h
      split at h
      · simp at h; obtain ⟨rfl, rfl⟩ := h; exact ⟨d', by simp⟩
      · obtain ⟨d'', hm⟩ := lookAl_mem r h; exact ⟨d'', by simp [hm]⟩
end
end Go.Sx

namespace Go.Sx
open Go.RowKit

section
variable {P : Program} {al : Al} {w0 : World} {st : St} {V : Vl} {a : Act} {w : World}

theorem run_andThen {α γ : Type} (s : Sem α) (f : α → Sem γ) (w w' : World) (x : α) (h : s.run P w = .ok x w') : (s >>= f).run P w = (f x).run P w' := by
  rw [Sem.run_bind, h]; rfl

theorem aggT_isAgg {t : TypeId} {ag : Bool} (h : aggT P t = some ag) : (isAgg t).run P w = .ok ag w := by
  unfold aggT at h
  cases hu : P.underlying t with
  | none => simp [hu] at h
  | some d =>
    unfold isAgg
    rw [run_andThen _ _ w w d (run_underlying hu w)]
    cases d <;> simp [hu] at h <;> subst h <;> rfl

theorem sizT_run {t : TypeId} {n : Nat} (h : sizT P t = some n) : (sizeOf t).run P w = .ok n w := by
  unfold sizT at h
  cases hi : P.info? t with
  | none => simp [hi] at h
  | some i =>
    simp [hi] at h
    subst h
    simp [sizeOf, typeInfo, hi]

theorem zeroT_run {t : TypeId} {z : Value} (h : zeroT P t = some z) : (zeroValue t).run P w = .ok z w := by
  unfold zeroT at h
  cases hi : P.info? t with
  | none => simp [hi] at h
  | some i =>
    simp [hi] at h
    simp [zeroValue, typeInfo, hi, h]

theorem add_place (b o i : Nat) : (Addr.add ⟨b, o, none⟩ i) = ⟨b, o + i, none⟩ := by
  unfold Addr.add
  split
  · rename_i h; subst h; rfl
  · rfl

theorem run_loadCellsFrom (b o : Nat) : ∀ (vs : List Value) (i : Nat) (acc : Array Value), (∀ (j : Nat) y, vs[j]? = some y → w.cell? ⟨b, o + (i + j), none⟩ = some y) →
    (loadCellsFrom ⟨b, o, none⟩ i vs.length acc).run P w = .ok (acc ++ vs.toArray) w
  | [], i, acc, _ => by simp [loadCellsFrom]
  | v :: r, i, acc, h => by
    have h0 := h 0 v (by simp)
    simp only [List.length_cons, loadCellsFrom]
    have hl : (load (Addr.add ⟨b, o, none⟩ i)).run P w = .ok v w := by
      rw [add_place]
      simp only [load, Sem.run]
      simp only [Nat.add_zero] at h0
      simp [h0]
    rw [run_andThen _ _ w w v hl, run_loadCellsFrom b o r (i + 1) (acc.push v) (fun j y hj => by
      have := h (j + 1) y (by simpa using hj)
      rwa [show i + 1 + j = i + (j + 1) by omega])]
    simp

theorem run_loadVar_agg {t : TypeId} (b o : Nat) (vs : List Value) (h1 : aggT P t = some true) (h2 : sizT P t = some vs.length)
    (h : ∀ (j : Nat) y, vs[j]? = some y → w.cell? ⟨b, o + j, none⟩ = some y) : (loadVar t ⟨b, o, none⟩).run P w = .ok (.agg vs.toArray) w := by
  unfold loadVar
  rw [run_andThen _ _ w w true (aggT_isAgg h1)]
  simp only [if_true]
  rw [run_andThen _ _ w w vs.length (sizT_run h2)]
  unfold loadCells
  rw [run_andThen _ _ w w vs.toArray (by rw [run_loadCellsFrom b o vs 0 #[] (by simpa using h)]; simp)]
  rfl

theorem run_loadVar_one {t : TypeId} (b o : Nat) (y : Value) (h1 : aggT P t = some false) (h : w.cell? ⟨b, o, none⟩ = some y) :
    (loadVar t ⟨b, o, none⟩).run P w = .ok y w := by
  unfold loadVar
  rw [run_andThen _ _ w w false (aggT_isAgg h1)]
  simp [load, Sem.run, h]

theorem allV_eq : ∀ (cs : List SV) (vs : List Value), allV cs = some vs → cs = vs.map .v
  | [], vs, h => by simp [allV] at h; subst h; rfl
  | .v x :: r, vs, h => by
    unfold allV at h
    cases hr : allV r with
    | none => simp [hr] at h
    | some l => simp [hr] at h; subst h; simp [allV_eq r l hr]
  | .ptr .. :: _, vs, h => by simp [allV] at h
  | .poison :: _, vs, h => by simp [allV] at h

theorem getElem?_part {cs : List SV} {off n : Nat} {j : Nat} {x : SV} (h : ((cs.drop off).take n)[j]? = some x) : cs[off + j]? = some x ∧ j < n := by
  rw [List.getElem?_take] at h
  split at h
  · rename_i hj
    rw [List.getElem?_drop] at h
    exact ⟨h, hj⟩
  · cases h

/-- A load. -/
theorem load_run (h : Rel w0 st V a w) {t : TypeId} {p : Operand} {l off n : Nat} {ag : Bool} {cs : List SV} {x : SV} (hp : st.eval p = some (.ptr l off)) (h1 : aggT P t = some ag) (h2 : sizT P t = some n)
    (hc : st.mem.blk[l]? = some cs) (hn : off + n ≤ cs.length) (hx : fromCells ag ((cs.drop off).take n) = some x) :
    ∃ y, (Instr.loadAt t (a.eval p)).run P w = .ok y w ∧ Den V x y := by
  obtain ⟨b, o, hb, he⟩ := h.eval hp
  have hrun : ∀ y, (loadVar t ⟨b, o + off, none⟩).run P w = .ok y w → (Instr.loadAt t (a.eval p)).run P w = .ok y w := fun y hy => by
    rw [he]; simpa [Instr.loadAt, Instr.sureAddr] using hy
  cases ag with
  | true =>
    unfold fromCells at hx
    simp only at hx
    cases hv : allV ((cs.drop off).take n) with
    | none => simp [hv] at hx
    | some vs =>
      simp [hv] at hx
      subst hx
      have heq := allV_eq _ _ hv
      have hlen : vs.length = n := by
        have := congrArg List.length heq
        simp at this; omega
      refine ⟨.agg vs.toArray, hrun _ (run_loadVar_agg b (o + off) vs h1 (by rw [hlen]; exact h2) fun j y hj => ?_), rfl⟩
      have hj' : ((cs.drop off).take n)[j]? = some (.v y) := by rw [heq]; simp [hj]
      obtain ⟨hj2, _⟩ := getElem?_part hj'
      obtain ⟨y', c1, c2, _⟩ := h.mem l b o hb cs hc (off + j) _ hj2
      have c2' : y' = y := c2
      rw [Nat.add_assoc, c1, c2']
  | false =>
    unfold fromCells at hx
    simp only at hx
    split at hx
    · rename_i z hz
      have hzx : z = x := by simpa using hx
      subst hzx
      obtain ⟨hj2, _⟩ := getElem?_part (j := 0) (x := z) (by rw [hz]; rfl)
      obtain ⟨y', c1, c2, _⟩ := h.mem l b o hb cs hc (off + 0) _ hj2
      exact ⟨y', hrun _ (run_loadVar_one b (o + off) y' h1 (by simpa using c1)), c2⟩
    · cases hx

theorem reads_cell {B : Nat} {k : IntKind} {L : List Int} {u : Value} {g o n c : Nat} {w : World} (h : Reads B w k L u) (hu : u = .slice (some ⟨g, o, none⟩) n c) {i : Int} (h0 : 0 ≤ i) (h1 : i < (n : Int)) :
    w.cell? ⟨g, o + i.toNat, none⟩ = some (.int k (L.getD i.toNat 0)) ∧ n = L.length := by
  rcases h with ⟨rfl, _⟩ | ⟨b, o', cap, rfl, _, hc⟩
  · cases hu
  · injection hu with e1 e2 e3
    injection e1 with e1
    injection e1 with e4 e5
    subst e4 e5 e2
    have hlt : i.toNat < L.length := by omega
    refine ⟨?_, rfl⟩
    rw [hc i.toNat L[i.toNat] (by simp [hlt])]
    simp [hlt]

theorem rowOk_reads {B : Nat} {rc : RowC} {u : Value} {w : World} (h : RowOk B w rc u) (hB : B ≤ w.heap.size) : Reads w.heap.size w rc.k rc.L u := by
  unfold RowOk at h
  split at h
  · rcases h.2 with ⟨rfl, h0⟩ | ⟨g, cap, cur, rfl, hb, hg, hn, hm, hsz, ht⟩
    · exact .inl ⟨rfl, List.eq_nil_of_length_eq_zero h0⟩
    · refine .inr ⟨g, 0, cap, rfl, fun _ => (Array.getElem?_eq_some_iff.1 hg).1, fun j x hx => ?_⟩
      have := World.ownsRow.cells h (g := g) rfl j (.int rc.k x) (by simp [hx])
      rwa [show (Addr.add ⟨g, 0, none⟩ j) = ⟨g, 0 + j, none⟩ from by unfold Addr.add; split <;> simp_all] at this
  · rcases h with h1 | ⟨b, o, cap, h1, h2, h3⟩
    · exact .inl h1
    · exact .inr ⟨b, o, cap, h1, fun hne => Nat.lt_of_lt_of_le (h2 hne) hB, h3⟩

/-- A load of a row's element. -/
theorem rp_load_run (h : Rel w0 st V a w) {t : TypeId} {p : Operand} {r : Nat} {i : Int} {rc : RowC} (hp : st.eval p = some (.rp r i)) (h1 : aggT P t = some false) (hr : rowAt st.mem.rows r = some rc) :
    (Instr.loadAt t (a.eval p)).run P w = .ok (.int rc.k (rc.L.getD i.toNat 0)) w := by
  obtain ⟨u, hu, hok⟩ := h.rows r rc hr
  obtain ⟨g, o, n, c, hs, h0, hi, he⟩ := (h.eval hp).2 u hu
  have hc := (reads_cell (rowOk_reads hok h.below.size) hs h0 hi).1
  rw [he]
  simpa [Instr.loadAt, Instr.sureAddr] using run_loadVar_one (P := P) g (o + i.toNat) _ h1 hc

/-- The address of a row's element. -/
theorem indexAddr_run (h : Rel w0 st V a w) {t e : TypeId} {x ix : Operand} {r : Nat} {k : IntKind} {i : Int} {rc : RowC} (hx : st.eval x = some (.row r)) (hix : st.eval ix = some (.v (.int k i))) (ht : P.underlying t = some (.slice e)) (he : sizT P e = some 1)
    (hr : rowAt st.mem.rows r = some rc) (h0 : 0 ≤ i) (h1 : i < (rc.L.length : Int)) : ∃ y, (Instr.indexAt t (a.eval x) (a.eval ix)).run P w = .ok y w ∧ Den V (.rp r i) y := by
  obtain ⟨u, hu, hok⟩ := h.rows r rc hr
  have hxe : a.eval x = u := (h.eval hx).2 u hu
  have hie : a.eval ix = .int k i := h.eval hix
  rcases rowOk_reads hok h.below.size with ⟨_, hL⟩ | ⟨b, o, cap, hs, _, hc⟩
  · rw [hL] at h1; simp at h1; omega
  · refine ⟨.pointer (some ⟨b, o + i.toNat, none⟩), ?_, by rw [hu]; simp, fun u' hu' => ?_⟩
    · rw [hxe, hie, hs]
      unfold Instr.indexAt
      rw [run_andThen _ _ w w (k, i) rfl]
      simp only
      rw [run_andThen _ _ w w _ (run_underlying ht w)]
      simp only
      rw [run_andThen _ _ w w (some ⟨b, o, none⟩, rc.L.length, e) rfl]
      simp only
      rw [run_andThen _ _ w w _ (run_underlying ht w)]
      rw [if_pos ⟨h0, h1⟩]
      rw [run_andThen _ _ w w 1 (sizT_run he)]
      simp [add_place, pure]
    · have : u' = u := by rw [hu] at hu'; injection hu' with hu'; injection hu' with hu'; exact hu'.symm
      subst this
      exact ⟨b, o, _, cap, hs, h0, h1, rfl⟩

/-- A row's length. -/
theorem len_run (h : Rel w0 st V a w) {t ty e : TypeId} {x : Operand} {r : Nat} {rc : RowC} (hx : st.eval x = some (.row r)) (ht : P.underlying t = some (.slice e)) (hr : rowAt st.mem.rows r = some rc) :
    (Builtin.len_ #[t] ty #[a.eval x]).run P w = .ok (.int .i64 (rc.L.length : Int)) w := by
  obtain ⟨u, hu, hok⟩ := h.rows r rc hr
  have hxe : a.eval x = u := (h.eval hx).2 u hu
  rw [hxe]
  rcases rowOk_reads hok h.below.size with ⟨hs, hL⟩ | ⟨b, o, cap, hs, _, hc⟩
  · rw [hs, hL]
    simp [Builtin.len_, run_underlying ht, goInt]
  · rw [hs]
    simp [Builtin.len_, run_underlying ht, goInt]

/-- What a row of stores leaves. -/
structure Stored (w : World) (b o : Nat) (ys : List Value) (w' : World) : Prop where
  os : w'.os = w.os
  tape : w'.tape = w.tape
  output : w'.output = w.output
  size : w'.heap.size = w.heap.size
  block : ∀ k, k ≠ b → w'.heap[k]? = w.heap[k]?
  far : ∀ p : Addr, p.block = b → (p.off < o ∨ o + ys.length ≤ p.off) → w'.cell? p = w.cell? p
  near : ∀ (j : Nat) y, ys[j]? = some y → w'.cell? ⟨b, o + j, none⟩ = some y
  frozen : ∀ p, w'.frozen? p = w.frozen? p

theorem run_storeCells (b o : Nat) : ∀ (ys : List Value) (i : Nat) (w : World), (∀ y ∈ ys, (∀ c, y ≠ .agg c) ∧ (∀ c, y ≠ .tuple c)) →
    (∀ (j : Nat), j < ys.length → (∃ u, w.cell? ⟨b, o + (i + j), none⟩ = some u) ∧ w.frozen? ⟨b, o + (i + j), none⟩ = false) →
    ∃ w', (storeCells ⟨b, o, none⟩ ys i).run P w = .ok () w' ∧ Stored w b (o + i) ys w'
  | [], i, w, _, _ => ⟨w, by simp [storeCells], rfl, rfl, rfl, rfl, fun _ _ => rfl, fun _ _ _ => rfl, fun j y hj => by simp at hj, fun _ => rfl⟩
  | y :: r, i, w, hy, hc => by
    obtain ⟨⟨u, hu⟩, hf⟩ := hc 0 (by simp)
    simp only [Nat.add_zero] at hu hf
    have hst : (store (Addr.add ⟨b, o, none⟩ i) y).run P w = .ok () (w.setCell ⟨b, o + i, none⟩ y) := by
      rw [add_place]
      have h1 := (hy y (by simp)).1
      have h2 := (hy y (by simp)).2
      cases y <;> simp [store, Sem.run, hu, hf]
      · exact absurd rfl (h1 _)
      · exact absurd rfl (h2 _)
    obtain ⟨w', hr, hs⟩ := run_storeCells b o r (i + 1) (w.setCell ⟨b, o + i, none⟩ y) (fun z hz => hy z (by simp [hz])) (fun j hj => by
      obtain ⟨⟨u', hu'⟩, hf'⟩ := hc (j + 1) (by simpa using hj)
      rw [show i + (j + 1) = i + 1 + j by omega] at hu' hf'
      refine ⟨⟨u', ?_⟩, by simpa using hf'⟩
      rw [World.cell?_setCell_other]
      · exact hu'
      · intro e; injection e; omega)
    refine ⟨w', ?_, ?_⟩
    · unfold storeCells
      rw [run_andThen _ _ _ _ _ hst]
      exact hr
    · refine ⟨hs.os, hs.tape, hs.output, by rw [hs.size]; simp, fun k hk => ?_, fun p hp ho => ?_, fun j z hj => ?_, fun p => by rw [hs.frozen]; simp⟩
      · rw [hs.block k hk, Below.heap_setCell _ _ _ _ hk]
      · rw [hs.far p hp (by simp at ho; omega), World.cell?_setCell_other]
        intro e
        have : p.off = o + i := by rw [← e]
        simp at ho
        omega
      · cases j with
        | zero =>
          simp at hj
          subst hj
          rw [hs.far _ rfl (by simp)]
          exact World.cell?_setCell_same _ _ _ hu
        | succ j =>
          have := hs.near j z (by simpa using hj)
          rwa [show o + i + (j + 1) = o + (i + 1) + j by omega]
end
end Go.Sx

namespace Go.Sx
open Go.RowKit

section
variable {P : Program} {al : Al} {w0 : World} {st : St} {V : Vl} {a : Act} {w : World} {Γ : Orc} {Q : Exit → Act → World → Prop}

theorem wp_val {o : Oper} {x : SV} {y : Value} (hrun : (execOp a.eval o).run P w = .ok (.value y) w) (h : Rel w0 st V a w) (hp : Pend P al st V) (hd : Den V x y) :
    o.wp P a w (fun a' w' => RelP P al w0 (st.put o.dst x) a' w') Q := by
  unfold Oper.wp
  rw [hrun, Oper.upon_value]
  exact ⟨V, h.put o.dst hd, hp.put o.dst x⟩

theorem wp_pure {o : Oper} {x : SV} (hV : pureV P o st.eval = some x) (h : Rel w0 st V a w) (hp : Pend P al st V) :
    o.wp P a w (fun a' w' => RelP P al w0 (st.put o.dst x) a' w') Q := by
  obtain ⟨y, rfl, hr | ⟨hr, rfl⟩⟩ := pureV_run h hV
  · exact wp_val hr h hp rfl
  · unfold Oper.wp
    rw [hr, Oper.upon_skip]
    exact ⟨V, h.put o.dst rfl, hp.put o.dst _⟩

theorem run_v {s : Sem Value} {y : Value} {w' : World} (h : s.run P w = .ok y w') : (do pure (Next.value (← s)) : Sem Next).run P w = .ok (.value y) w' := by
  rw [run_andThen _ _ _ _ _ h]; rfl

theorem Vl.mono {V V' : Vl} (hb : ∀ l q, V.b l = some q → V'.b l = some q) (hr : ∀ r, V.r r ≠ none → V'.r r ≠ none ∧ ∀ u, V'.r r = some (some u) → V.r r = some (some u)) : ∀ x y, Den V x y → Den V' x y := by
  intro x y hd
  cases x with
  | v z => exact hd
  | ptr k off => obtain ⟨b, o, hb', he⟩ := hd; exact ⟨b, o, hb _ _ hb', he⟩
  | row r => exact ⟨(hr r hd.1).1, fun u hu => hd.2 u ((hr r hd.1).2 u hu)⟩
  | rp r i => exact ⟨(hr r hd.1).1, fun u hu => hd.2 u ((hr r hd.1).2 u hu)⟩
  | poison => trivial

theorem RowOk.lt {B : Nat} {rc : RowC} {u : Value} (h : RowOk B w rc u) (ho : rc.own = true) {g : Nat} (hg : u.ownBlock = some g) : B ≤ g ∧ g < w.heap.size := by
  unfold RowOk at h
  simp only [ho] at h
  exact World.ownsRow.lt h g hg

/-- A new block. -/
theorem Rel.newBlock (h : Rel w0 st V a w) {l : Nat} (hl : st.mem.live[l]? = some false) {cs : List Value} (hc : st.mem.blk[l]? = some (cs.map .v)) (t : TypeId) :
    Rel w0 { st with mem := { st.mem with live := st.mem.live.set l true } } ⟨fun i => if i = l then some (w.heap.size, 0) else V.b i, V.r⟩ a (w.alloc (.cells cs.toArray t)) ∧ V.b l = none := by
  have hn : V.b l = none := by
    cases hb : V.b l with
    | none => rfl
    | some q => have := h.dom l (by simp [hb]); rw [hl] at this; simp at this
  have hmono : ∀ x y, Den V x y → Den ⟨fun i => if i = l then some (w.heap.size, 0) else V.b i, V.r⟩ x y := Vl.mono (fun k q hq => by
    have : k ≠ l := by rintro rfl; rw [hn] at hq; cases hq
    simp [this, hq]) (fun _ h => ⟨h, fun _ hu => hu⟩)
  have hbel : Below w.heap.size w (w.alloc (.cells cs.toArray t)) := (Below.refl _ _).alloc (Nat.le_refl _) _
  refine ⟨{ len := h.len, tmps := fun t x hx y hy => hmono x y (h.tmps t x hx y hy), defers := h.defers, mem := fun i b o hi cs' hcs' j x hx => ?_, inj := fun i i' b o b' o' hi hi' hne => ?_, own := fun i b o hi => ?_, dom := fun i hi => ?_
            rows := fun r rc hr => ?_, rowsN := h.rowsN, apart := h.apart, apartb := fun r rc u g i b o hr ho hu hg hi => ?_, below := ?_, froz := fun p => ?_ }, hn⟩
  · by_cases hil : i = l
    · subst hil
      simp only [if_true] at hi
      injection hi with hi
      injection hi with h1 h2
      subst h1 h2
      simp only [hc] at hcs'
      injection hcs' with hcs'
      subst hcs'
      rw [List.getElem?_map] at hx
      cases hj : cs[j]? with
      | none => simp [hj] at hx
      | some y =>
        simp [hj] at hx
        subst hx
        refine ⟨y, by simp [hj], rfl, by simp⟩
    · simp only [if_neg hil] at hi
      obtain ⟨y, h1, h2, h3⟩ := h.mem i b o hi cs' hcs' j x hx
      have hbb := (h.own i b o hi).2
      exact ⟨y, by rw [World.cell?_alloc_lt _ _ _ hbb]; exact h1, hmono x y h2, by rw [World.frozen?_alloc_old _ _ _ (by simp; omega)]; exact h3⟩
  · by_cases hil : i = l
    · have hil' : i' ≠ l := fun e => hne (hil.trans e.symm)
      simp only [hil, if_true] at hi
      simp only [if_neg hil'] at hi'
      injection hi with hi
      injection hi with h1 h2
      have := (h.own i' b' o' hi').2
      omega
    · simp only [if_neg hil] at hi
      by_cases hil' : i' = l
      · simp only [hil', if_true] at hi'
        injection hi' with hi'
        injection hi' with h1 h2
        have := (h.own i b o hi).2
        omega
      · simp only [if_neg hil'] at hi'
        exact h.inj i i' b o b' o' hi hi' hne
  · by_cases hil : i = l
    · simp only [hil, if_true] at hi
      injection hi with hi
      injection hi with h1 h2
      have := h.below.size
      simp
      omega
    · simp only [if_neg hil] at hi
      have := h.own i b o hi
      simp
      omega
  · by_cases hil : i = l
    · subst hil
      rw [List.getElem?_set_self' ]
      simp [hl]
    · simp only [if_neg hil] at hi
      rw [List.getElem?_set_ne (Ne.symm hil)]
      exact h.dom i hi
  · obtain ⟨u, h1, h2⟩ := h.rows r rc hr
    exact ⟨u, h1, h2.below h.below.size hbel⟩
  · by_cases hil : i = l
    · simp only [hil, if_true] at hi
      injection hi with hi
      injection hi with h1 h2
      obtain ⟨u', h3, h4⟩ := h.rows r rc hr
      have : u' = u := by rw [h3] at hu; injection hu with hu; injection hu
      subst this
      have := h4.lt ho hg
      omega
    · simp only [if_neg hil] at hi
      exact h.apartb r rc u g i b o hr ho hu hg hi
  · exact h.below.alloc h.below.size _
  · rw [frozen?_alloc_cells, h.froz]

theorem toCells_den {x : SV} {y : Value} {xs : List SV} (hd : Den V x y) (hx : toCells x = some xs) : xs.length = y.cells.size ∧ ∀ (j : Nat) z, xs[j]? = some z → ∃ u, y.cells[j]? = some u ∧ Den V z u := by
  cases x with
  | v q =>
    have : y = q := hd
    subst this
    cases y <;> simp [toCells] at hx <;> subst hx <;> refine ⟨by simp [Value.cells], fun j z hz => ?_⟩
    all_goals first
      | (simp at hz
         obtain ⟨u, hu, rfl⟩ := hz
         exact ⟨u, by simpa [Value.cells] using hu, rfl⟩)
      | (cases j with
         | zero => simp at hz; subst hz; exact ⟨_, by simp [Value.cells], rfl⟩
         | succ j => simp at hz)
  | ptr l off =>
    obtain ⟨b, o, hb, he⟩ := hd
    simp [toCells] at hx
    subst hx
    subst he
    refine ⟨by simp [Value.cells], fun j z hz => ?_⟩
    cases j with
    | zero => simp at hz; subst hz; exact ⟨_, by simp [Value.cells], b, o, hb, rfl⟩
    | succ j => simp at hz
  | _ => simp [toCells] at hx

theorem oneCell_den {z : SV} {u : Value} (hd : Den V z u) (h : oneCell z = true) : (∀ c, u ≠ .agg c) ∧ (∀ c, u ≠ .tuple c) := by
  cases z with
  | v q =>
    have : u = q := hd
    subst this
    cases u <;> simp [oneCell] at h <;> simp
  | ptr l off => obtain ⟨b, o, hb, he⟩ := hd; subst he; simp
  | _ => simp [oneCell] at h

theorem kp_alloc (w : World) (c : Array Value) (t : TypeId) : Kp w (w.alloc (.cells c t)) :=
  ⟨(Below.refl _ _).alloc (Nat.le_refl _) _, fun p => frozen?_alloc_cells w c t p⟩

/-- A new row. -/
theorem Rel.newRow (h : Rel w0 st V a w) {l : Nat} (hl : st.mem.rows[l]? = some .pend) {w' : World} (hk : Kp w w') {e : TypeId} {k : IntKind} {L : List Int} {y : Value}
    (hy : w'.ownsRow w.heap.size e 1 y L.length (L.map (.int k))) :
    Rel w0 { st with mem := { st.mem with rows := st.mem.rows.set l (.live ⟨e, k, L, true⟩) } } ⟨V.b, fun r => if r = l then some (some y) else V.r r⟩ a w' ∧ V.r l = none := by
  have hn : V.r l = none := h.rowsN l (.inr hl)
  have h' := h.below' hk
  have hlt : l < st.mem.rows.length := by
    rcases Nat.lt_or_ge l st.mem.rows.length with h1 | h1
    · exact h1
    · simp [List.getElem?_eq_none h1] at hl
  have hmono : ∀ x y', Den V x y' → Den ⟨V.b, fun r => if r = l then some (some y) else V.r r⟩ x y' := Vl.mono (fun _ _ h => h) (fun r hr => by
    have hne : r ≠ l := by rintro rfl; exact hr hn
    simp [hne, hr])
  have hat : ∀ r, rowAt (st.mem.rows.set l (.live ⟨e, k, L, true⟩)) r = if r = l then some ⟨e, k, L, true⟩ else rowAt st.mem.rows r := by
    intro r
    unfold rowAt
    by_cases hr : r = l
    · subst hr; simp [hlt]
    · rw [List.getElem?_set_ne (Ne.symm hr)]; simp [hr]
  have hB := h.below.size
  have hyl := World.ownsRow.lt hy
  refine ⟨{ len := h'.len, tmps := fun t x hx y' hy' => hmono x y' (h'.tmps t x hx y' hy'), defers := h'.defers, mem := fun i b o hi cs hcs j x hx => ?_, inj := h'.inj, own := h'.own, dom := h'.dom
            rows := fun r rc hr => ?_, rowsN := fun r hr => ?_, apart := fun r r' rc rc' u u' g hr ho hr' ho' hu hu' hne hg => ?_, apartb := fun r rc u g i b o hr ho hu hg hi => ?_, below := h'.below, froz := h'.froz }, hn⟩
  · obtain ⟨u, h1, h2, h3⟩ := h'.mem i b o hi cs hcs j x hx
    exact ⟨u, h1, hmono x u h2, h3⟩
  · rw [hat] at hr
    by_cases hrl : r = l
    · simp only [hrl, if_true] at hr ⊢
      injection hr with hr
      subst hr
      refine ⟨y, rfl, ?_⟩
      unfold RowOk
      refine ⟨hy.1, ?_⟩
      rcases hy.2 with h1 | ⟨g, cap, cur, h1, h2, h3⟩
      · exact .inl h1
      · exact .inr ⟨g, cap, cur, h1, Nat.le_trans hB h2, h3⟩
    · simp only [if_neg hrl] at hr ⊢
      exact h'.rows r rc hr
  · by_cases hrl : r = l
    · subst hrl
      simp [hlt] at hr
    · simp only [if_neg hrl]
      rw [List.getElem?_set_ne (Ne.symm hrl)] at hr
      exact h'.rowsN r hr
  · rw [hat] at hr hr'
    by_cases hrl : r = l
    · have hrl' : r' ≠ l := fun e => hne (hrl.trans e.symm)
      simp only [hrl, if_true] at hu
      simp only [if_neg hrl'] at hr' hu'
      injection hu with hu
      injection hu with hu
      subst hu
      obtain ⟨u2, h1, h2⟩ := h.rows r' rc' hr'
      have : u2 = u' := by rw [h1] at hu'; injection hu' with hu'; injection hu'
      subst this
      intro hg'
      have := (h2.lt ho' hg').2
      have := (hyl g hg).1
      omega
    · simp only [if_neg hrl] at hr hu
      by_cases hrl' : r' = l
      · simp only [hrl', if_true] at hu'
        injection hu' with hu'
        injection hu' with hu'
        subst hu'
        obtain ⟨u2, h1, h2⟩ := h.rows r rc hr
        have : u2 = u := by rw [h1] at hu; injection hu with hu; injection hu
        subst this
        intro hg'
        have := (h2.lt ho hg).2
        have := (hyl g hg').1
        omega
      · simp only [if_neg hrl'] at hr' hu'
        exact h'.apart r r' rc rc' u u' g hr ho hr' ho' hu hu' hne hg
  · rw [hat] at hr
    by_cases hrl : r = l
    · simp only [hrl, if_true] at hu
      injection hu with hu
      injection hu with hu
      subst hu
      have h1 := (hyl g hg).1
      have h2 := (h.own i b o hi).2
      omega
    · simp only [if_neg hrl] at hr hu
      exact h'.apartb r rc u g i b o hr ho hu hg hi

/-- A store. -/
theorem store_run (h : Rel w0 st V a w) {t : TypeId} {p v : Operand} {l off n : Nat} {xs cs : List SV} (hp : st.eval p = some (.ptr l off)) (h2 : sizT P t = some n)
    (hv : (st.eval v).bind toCells = some xs) (hc : st.mem.blk[l]? = some cs) (hlen : xs.length = n) (hn : off + n ≤ cs.length) (hone : xs.all oneCell = true) :
    ∃ w', (Instr.storeAt t (a.eval p) (a.eval v)).run P w = .ok () w' ∧
      Rel w0 { st with mem := { st.mem with blk := st.mem.blk.set l (cs.take off ++ xs ++ cs.drop (off + n)) } } V a w' := by
  obtain ⟨b, o, hb, he⟩ := h.eval hp
  cases hs : st.eval v with
  | none => simp [hs] at hv
  | some s =>
    simp [hs] at hv
    have hd := h.eval hs
    obtain ⟨hcl, hcd⟩ := toCells_den hd hv
    generalize a.eval v = y at *
    have hcell : ∀ (j : Nat) u, y.cells.toList[j]? = some u → ∃ z, xs[j]? = some z ∧ Den V z u := by
      intro j u hu
      have hj : j < xs.length := by
        rw [hcl]
        rcases Nat.lt_or_ge j y.cells.size with h' | h'
        · exact h'
        · simp [Array.getElem?_eq_none h'] at hu
      obtain ⟨u', hu', hd'⟩ := hcd j xs[j] (by simp [hj])
      have : u' = u := by simpa [hu'] using hu
      subst this
      exact ⟨xs[j], by simp [hj], hd'⟩
    obtain ⟨w', hr, hst⟩ := run_storeCells (P := P) b (o + off) y.cells.toList 0 w (fun u hu => by
      obtain ⟨j, hj, hju⟩ := List.mem_iff_getElem.1 hu
      obtain ⟨z, hz, hzd⟩ := hcell j u (by simp [← hju])
      exact oneCell_den hzd (List.all_eq_true.1 hone z (List.mem_of_getElem? hz))) (fun j hj => by
      have hj' : off + j < cs.length := by simp at hj; omega
      obtain ⟨u, c1, _, c3⟩ := h.mem l b o hb cs hc (off + j) cs[off + j] (by simp [hj'])
      simp only [Nat.zero_add]
      rw [Nat.add_assoc]
      exact ⟨⟨u, c1⟩, c3⟩)
    refine ⟨w', ?_, ?_⟩
    · rw [he]
      simp only [Instr.storeAt, Instr.sureAddr]
      rw [run_andThen _ _ w w ⟨b, o + off, none⟩ rfl]
      unfold storeVar
      rw [run_andThen _ _ w w n (sizT_run h2)]
      rw [if_neg (by omega)]
      simpa [pure, Sem.run] using hr
    · simp only [Nat.add_zero] at hst
      have hbw := h.own l b o hb
      have hrow : ∀ r rc u, rowAt st.mem.rows r = some rc → V.r r = some (some u) → RowOk w0.heap.size w rc u → RowOk w0.heap.size w' rc u := by
        intro r rc u hr hu hok
        unfold RowOk at *
        split
        · rename_i ho
          simp only [ho] at hok
          exact World.ownsRow.kept hok (row := some b) ⟨hst.os, hst.tape, hst.output, by rw [hst.size]; exact Nat.le_refl _, fun k _ hk => hst.block k (fun e => hk (by rw [e]))⟩
            (by
              cases hg : u.ownBlock with
              | none => exact .inl rfl
              | some g => exact .inr (fun e => by injection e with e; exact h.apartb r rc u g l b o hr ho hu hg hb e.symm))
        · rename_i ho
          simp only [ho] at hok
          rcases hok with h1 | ⟨b1, o1, cap, h1, h2, h3⟩
          · exact .inl h1
          · refine .inr ⟨b1, o1, cap, h1, h2, fun j x hx => ?_⟩
            have hne : rc.L ≠ [] := by rintro e; rw [e] at hx; simp at hx
            have hlt := h2 hne
            rw [World.cell?_of_block (w := w) (hst.block b1 (by omega))]
            exact h3 j x hx
      refine { h with mem := fun i b' o' hi cs' hcs' j x hx => ?_, own := fun i b' o' hi => ?_, rows := fun r rc hr => ?_, below := ?_, froz := fun p => (hst.frozen p).trans (h.froz p) }
      · by_cases hil : i = l
        · subst hil
          rw [hb] at hi
          injection hi with hi
          injection hi with e1 e2
          subst e1 e2
          simp only at hcs'
          rw [List.getElem?_set_self'] at hcs'
          simp [hc] at hcs'
          subst hcs'
          by_cases hj1 : j < off
          · have hx' : cs[j]? = some x := by
              rw [List.getElem?_append_left (by simp; omega), List.getElem?_take, if_pos hj1] at hx
              exact hx
            obtain ⟨u, c1, c2, c3⟩ := h.mem i b o hb cs hc j x hx'
            exact ⟨u, by rw [hst.far _ rfl (by simp; omega)]; exact c1, c2, by rw [hst.frozen]; exact c3⟩
          · by_cases hj2 : j < off + n
            · have hx' : xs[j - off]? = some x := by
                rw [List.getElem?_append_right (by simp; omega), List.getElem?_append_left (by simp; omega)] at hx
                rw [List.length_take, Nat.min_eq_left (by omega)] at hx
                exact hx
              obtain ⟨u, hu, hud⟩ := hcd _ _ hx'
              have hnear := hst.near (j - off) u (by simpa using hu)
              rw [show o + off + (j - off) = o + j by omega] at hnear
              obtain ⟨u', _, _, c3⟩ := h.mem i b o hb cs hc j (cs[j]'(by omega)) (by simp)
              exact ⟨u, hnear, hud, by rw [hst.frozen]; exact c3⟩
            · have hx' : cs[j]? = some x := by
                rw [List.getElem?_append_right (by simp; omega), List.getElem?_append_right (by simp; omega), List.getElem?_drop] at hx
                rw [List.length_take, Nat.min_eq_left (by omega)] at hx
                rwa [show off + n + (j - off - xs.length) = j by omega] at hx
              obtain ⟨u, c1, c2, c3⟩ := h.mem i b o hb cs hc j x hx'
              have hy : y.cells.toList.length = n := by simp; omega
              exact ⟨u, by rw [hst.far _ rfl (by rw [hy]; simp only; omega)]; exact c1, c2, by rw [hst.frozen]; exact c3⟩
        · simp only at hcs'
          rw [List.getElem?_set_ne (Ne.symm hil)] at hcs'
          obtain ⟨u, c1, c2, c3⟩ := h.mem i b' o' hi cs' hcs' j x hx
          have hne := h.inj i l b' o' b o hi hb hil
          exact ⟨u, by rw [World.cell?_of_block (w := w) (hst.block b' hne)]; exact c1, c2, by rw [hst.frozen]; exact c3⟩
      · rw [hst.size]; exact h.own i b' o' hi
      · obtain ⟨u, h1, h2⟩ := h.rows r rc hr
        exact ⟨u, h1, hrow r rc u hr h1 h2⟩
      · refine h.below.trans ⟨hst.os, hst.tape, hst.output, by rw [hst.size]; exact Nat.le_refl _, fun k hk => hst.block k (by omega)⟩
end
end Go.Sx

namespace Go.Sx
open Go.RowKit

theorem not_nat (n : Int) : (((BitVec.allOnes 64 ^^^ BitVec.ofInt 64 n).toNat : Nat) : Int) = 18446744073709551615 - n % 18446744073709551616 := by
  rw [BitVec.allOnes_xor, BitVec.toNat_not, BitVec.toNat_ofInt]
  omega
theorem xor_i64 (n : Int) : IntKind.i64.wrap (((BitVec.ofInt 64 (-1) ^^^ BitVec.ofInt 64 n).toNat : Nat) : Int) = IntKind.i64.wrap (-1 - n) := by
  rw [show BitVec.ofInt 64 (-1) = BitVec.allOnes 64 from by decide, not_nat, ← wr_eq true, ← wr_eq true]
  simp only [wr]
  have : (18446744073709551615 - n % 18446744073709551616) % 18446744073709551616 = (-1 - n) % 18446744073709551616 := by omega
  rw [this]
theorem xor_u64 (n : Int) : IntKind.u64.wrap (((BitVec.ofInt 64 IntKind.u64.max ^^^ BitVec.ofInt 64 n).toNat : Nat) : Int) = IntKind.u64.wrap (-1 - n) := by
  rw [show BitVec.ofInt 64 IntKind.u64.max = BitVec.allOnes 64 from by decide, not_nat, ← wr_eq true, ← wr_eq true]
  simp only [wr]
  omega

section
variable {P : Program} {al : Al} {w0 : World} {st : St} {V : Vl} {a : Act} {w : World} {Γ : Orc} {Q : Exit → Act → World → Prop}

theorem field_run (h : Rel w0 st V a w) {s : TypeId} {p : Operand} {f l off n : Nat} {fs : Array Field} {fd : Field} (hp : st.eval p = some (.ptr l off)) (h1 : P.underlying s = some (.struct fs)) (hf : fs[f]? = some fd) (h2 : sizT P fd.type = some (n + 1)) :
    ∃ y, (Instr.fieldAt s (a.eval p) f).run P w = .ok y w ∧ Den V (.ptr l (off + fd.offset)) y := by
  obtain ⟨b, o, hb, he⟩ := h.eval hp
  refine ⟨.pointer (some ⟨b, o + (off + fd.offset), none⟩), ?_, b, o, hb, rfl⟩
  rw [he]
  unfold Instr.fieldAt
  rw [run_andThen _ _ w w _ (run_underlying h1 w)]
  simp only [hf]
  rw [run_andThen _ _ w w ⟨b, o + off, none⟩ rfl]
  have hpl : (fieldPlace ⟨b, o + off, none⟩ fd).run P w = .ok ⟨b, o + (off + fd.offset), none⟩ w := by
    unfold fieldPlace
    rw [run_andThen _ _ w w _ (sizT_run h2)]
    simp only [Nat.add_eq_zero_iff, Nat.succ_ne_self, and_false, if_false, add_place, Nat.add_assoc]
    rfl
  rw [run_andThen _ _ w w _ hpl]
  rfl

theorem den_int {k : IntKind} {n : Int} {x : Operand} (h : Rel w0 st V a w) (hx : st.eval x = some (.v (.int k n))) : a.eval x = .int k n := h.eval hx

theorem call_run {o : Oper} {f : FuncId} {args : Array Operand} {at_ : Array TypeId} (ho : o.op = .call { callee := .value (.func f), args, argTypes := at_ }) {r : Next} {w' : World}
    (hr : (callFunc f (args.toList.map a.eval).toArray).run P w = .ok r w') : (execOp a.eval o).run P w = .ok r w' := by
  have hm : args.map a.eval = (args.toList.map a.eval).toArray := by
    apply Array.ext'
    simp
  unfold execOp
  rw [ho]
  simp only [resolve, hm, Act.eval, Deferred.ofValue]
  rw [run_andThen _ _ w w ⟨.fn (.func f) #[], #[] ++ (args.toList.map a.eval).toArray⟩ rfl]
  simp only [invoke, Array.append_empty, Array.empty_append]
  exact hr

theorem lenCall_run {o : Oper} {x : Operand} {t : TypeId} {args : Array Operand} {at_ : Array TypeId} (ho : o.op = .call { callee := .builtin .len, args, argTypes := at_ }) (ha : args.toList = [x]) (ht : at_.toList = [t]) {y : Value}
    (hr : ∀ ty, (Builtin.len_ #[t] ty #[a.eval x]).run P w = .ok y w) : (execOp a.eval o).run P w = .ok (.value y) w := by
  have h1 : args = #[x] := by cases args; simp_all
  have h2 : at_ = #[t] := by cases at_; simp_all
  subst h1 h2
  unfold execOp
  rw [ho]
  simp only [resolve]
  rw [run_andThen _ _ w w _ rfl]
  simp only [invoke, builtin]
  refine run_v ?_
  simpa using hr o.type

theorem op_sound (hΓ : Γ.Ok P) {o : Oper} {x : SV} {m : Mem} (hV : opV Γ P al o st.eval st.mem.blk st.mem.rows = some x) (hM : opM Γ al P o st.eval st.mem = some m)
    (h : Rel w0 st V a w) (hp : Pend P al st V) : o.wp P a w (fun a' w' => RelP P al w0 (({ st with mem := m } : St).put o.dst x) a' w') Q := by
  have same : (o.wp P a w (fun a' w' => RelP P al w0 (st.put o.dst x) a' w') Q) → opM Γ al P o st.eval st.mem = some st.mem → o.wp P a w (fun a' w' => RelP P al w0 (({ st with mem := m } : St).put o.dst x) a' w') Q := by
    intro hw he
    rw [he] at hM
    injection hM with hM
    subst hM
    exact hw
  have pure_ : pureV P o st.eval = some x → opM Γ al P o st.eval st.mem = some st.mem → o.wp P a w (fun a' w' => RelP P al w0 (({ st with mem := m } : St).put o.dst x) a' w') Q :=
    fun hv he => same (wp_pure hv h hp) he
  have val_ : ∀ y, (execOp a.eval o).run P w = .ok (.value y) w → Den V x y → opM Γ al P o st.eval st.mem = some st.mem → o.wp P a w (fun a' w' => RelP P al w0 (({ st with mem := m } : St).put o.dst x) a' w') Q :=
    fun y hr hd he => same (wp_val hr h hp hd) he
  cases hop : o.op
  case move y =>
    simp only [opV, hop] at hV
    exact val_ (a.eval y) (by simp [execOp, hop, pure]) (h.eval hV) (by simp [opM, opB, opL, opW, hop])
  case assign y =>
    simp only [opV, hop] at hV
    exact val_ (a.eval y) (by simp [execOp, hop, pure]) (h.eval hV) (by simp [opM, opB, opL, opW, hop])
  case pick c y z =>
    simp only [opV, hop] at hV
    split at hV
    · rename_i t hc
      have hct : a.eval c = .bool t := h.eval hc
      cases t
      · exact val_ (a.eval z) (by simp [execOp, hop, hct, asBool, pure, Sem.run]) (h.eval (by simpa using hV)) (by simp [opM, opB, opL, opW, hop])
      · exact val_ (a.eval y) (by simp [execOp, hop, hct, asBool, pure, Sem.run]) (h.eval (by simpa using hV)) (by simp [opM, opB, opL, opW, hop])
    · cases hV
  case alloc e =>
    simp only [opV, hop] at hV
    simp only [opM, opB, opL, opW, hop] at hM
    split at hV
    · rename_i l e' hl
      simp only [hl] at hM
      split at hV
      · rename_i hee
        subst hee
        injection hV with hV
        subst hV
        cases hlive : st.mem.live[l]? with
        | none => simp [hlive] at hM
        | some bl =>
          cases bl with
          | true => simp [hlive] at hM
          | false =>
            simp [hlive] at hM
            subst hM
            have hn : V.b l = none := by
              cases hb : V.b l with
              | none => rfl
              | some q => have := h.dom l (by simp [hb]); rw [hlive] at this; simp at this
            obtain ⟨d', hmem⟩ := lookAl_mem al.a hl
            obtain ⟨z, hz, hblk⟩ := hp d' l e' hmem hn
            obtain ⟨hR, _⟩ := h.newBlock hlive hblk e'
            have hrun : (execOp a.eval o).run P w = .ok (.value (.pointer (some ⟨w.heap.size, 0, none⟩))) (w.alloc (.cells z.cells e')) := by
              unfold execOp
              rw [hop]
              refine run_v ?_
              unfold Instr.alloc
              rw [run_andThen _ _ w w z (zeroT_run hz)]
              simp [newVar, newRow, newObj, pure, Sem.run, bind, Sem.bind]
            unfold Oper.wp
            rw [hrun, Oper.upon_value]
            have hsz : (z.cells.toList).toArray = z.cells := by simp
            rw [hsz] at hR
            refine ⟨_, hR.put o.dst ⟨w.heap.size, 0, by simp, by simp⟩, ?_⟩
            refine Pend.put (fun d l' e'' hm' hn' => ?_) _ _
            refine hp d l' e'' hm' ?_
            by_cases hll : l' = l
            · subst hll; exact hn
            · simpa [hll] using hn'
      · cases hV
    · cases hV
  case load t p =>
    simp only [opV, hop] at hV
    split at hV
    · rename_i l off ag n h1 h2 h3
      split at hV
      · rename_i cs hcs
        split at hV
        · rename_i hn
          obtain ⟨y, hy, hd⟩ := load_run h h1 h2 h3 hcs hn hV
          exact val_ y (by unfold execOp; rw [hop]; exact run_v hy) hd (by simp [opM, opB, opL, opW, hop])
        · cases hV
      · cases hV
    · rename_i r i n h1 h2 h3
      split at hV
      · rename_i rc hrc
        injection hV with hV
        subst hV
        exact val_ _ (by unfold execOp; rw [hop]; exact run_v (rp_load_run h h1 h2 hrc)) rfl (by simp [opM, opB, opL, opW, hop])
      · cases hV
    · cases hV
  case indexAddr t y z =>
    simp only [opV, hop] at hV
    split at hV
    · rename_i r k i e h1 h2 h3
      split at hV
      · rename_i rc hrc hsz
        cases hb : decide (0 ≤ i) && decide (i < (rc.L.length : Int))
        · simp [hb] at hV
        · rw [hb] at hV
          injection hV with hV
          subst hV
          simp only [Bool.and_eq_true, decide_eq_true_eq] at hb
          obtain ⟨u, hu, hd⟩ := indexAddr_run h h1 h2 h3 hsz hrc hb.1 hb.2
          exact val_ u (by unfold execOp; rw [hop]; exact run_v hu) hd (by simp [opM, opB, opL, opW, hop])
      · cases hV
    · cases hV
  case index t y z =>
    have he : opM Γ al P o st.eval st.mem = some st.mem := by simp [opM, opB, opL, opW, hop]
    simp only [opV, hop] at hV
    split at hV
    · rename_i s k i h1 h2 h3
      cases hb : decide (0 ≤ i) && decide (i < (s.size : Int))
      · simp [hb] at hV
      · rw [hb] at hV
        injection hV with hV
        subst hV
        simp only [Bool.and_eq_true, decide_eq_true_eq] at hb
        refine val_ _ ?_ rfl he
        unfold execOp
        rw [hop]
        refine run_v ?_
        rw [show a.eval y = .string s from h.eval h1, show a.eval z = .int k i from h.eval h2]
        have hlt : i.toNat < s.size := by omega
        unfold Instr.index
        rw [run_andThen _ _ w w (k, i) rfl]
        simp only
        rw [run_andThen _ _ w w _ (run_underlying h3 w)]
        simp only [hb.1, if_true, strAt]
        have hg : s[i.toNat]? = some s[i.toNat] := by rw [getElem?_pos s i.toNat hlt]
        rw [hg]
        rfl
    · exact pure_ hV he
  case store t p v =>
    simp only [opV, hop] at hV
    injection hV with hV
    subst hV
    have hM' : opB P o st.eval st.mem.blk = some m.blk ∧ st.mem.live = m.live ∧ st.mem.rows = m.rows := by
      simp only [opM, opL, opW, hop] at hM
      split at hM
      · rename_i b l r h1 h2 h3
        injection hM with hM
        injection h2 with h2
        injection h3 with h3
        subst hM
        exact ⟨h1, h2, h3⟩
      · cases hM
    obtain ⟨hM1, hM2, hM3⟩ := hM'
    simp only [opB, hop] at hM1
    split at hM1
    · rename_i l off n h1 h2
      split at hM1
      · rename_i xs cs h3 h4
        split at hM1
        · rename_i hc
          injection hM1 with hM1
          obtain ⟨mb, ml, mr⟩ := m
          simp only at hM1 hM2 hM3
          subst hM1 hM2 hM3
          obtain ⟨w', hr, hR⟩ := store_run h h1 h2 h3 h4 hc.1 hc.2.1 hc.2.2
          have hrun : (execOp a.eval o).run P w = .ok .skip w' := by
            unfold execOp
            rw [hop]
            simp only
            rw [run_andThen _ _ w w' () hr]
            rfl
          unfold Oper.wp
          rw [hrun, Oper.upon_skip]
          refine ⟨V, hR.put o.dst rfl, Pend.put (fun d l' e hm' hn' => ?_) _ _⟩
          obtain ⟨z, hz, hb⟩ := hp d l' e hm' hn'
          refine ⟨z, hz, ?_⟩
          have hne : l ≠ l' := by
            rintro rfl
            obtain ⟨b, o', hb', _⟩ := h.eval h1
            rw [hn'] at hb'
            cases hb'
          simp only
          rw [List.getElem?_set_ne hne]
          exact hb
        · cases hM1
      · cases hM1
    · cases hM1
  case fieldAddr s p f =>
    simp only [opV, hop] at hV
    split at hV
    · rename_i l off fs h1 h2
      split at hV
      · rename_i fd hfd
        split at hV
        · rename_i n hn
          injection hV with hV
          subst hV
          obtain ⟨y, hy, hd⟩ := field_run h h1 h2 hfd hn
          exact val_ y (by unfold execOp; rw [hop]; exact run_v hy) hd (by simp [opM, opB, opL, opW, hop])
        · cases hV
      · cases hV
    · cases hV
  case binOp bop t y z t' =>
    have he : opM Γ al P o st.eval st.mem = some st.mem := by simp [opM, opB, opL, opW, hop]
    have hbin : ∀ (u v : Value) (r : Value), a.eval y = u → a.eval z = v → (eqGuard bop t y z u v).run P w = .ok () w → (binOp bop t u v).run P w = .ok r w → (execOp a.eval o).run P w = .ok (.value r) w := by
      intro u v r hu hv hg hb
      unfold execOp
      rw [hop]
      refine run_v ?_
      rw [hu, hv, run_andThen _ _ w w () hg]
      exact hb
    have guard_int : ∀ k n k' n', (eqGuard bop t y z (.int k n) (.int k' n')).run P w = .ok () w := by
      intro k n k' n'
      unfold eqGuard
      split <;> rfl
    cases bop
    case quo =>
      simp only [opV, hop] at hV
      split at hV
      · rename_i k n k' b h1 h2
        split at hV
        · rename_i hk
          subst hk
          by_cases hb : b = 0
          · simp [hb] at hV
          · have hb' : (b == 0) = false := by simpa using hb
            simp [hb'] at hV
            subst hV
            exact val_ _ (hbin _ _ _ (h.eval h1) (h.eval h2) (guard_int _ _ _ _) (by simp [binOp, Op.intDiv, hb, pure])) rfl he
        · cases hV
      · cases hV
    case rem =>
      simp only [opV, hop] at hV
      split at hV
      · rename_i k n k' b h1 h2
        split at hV
        · rename_i hk
          subst hk
          by_cases hb : b = 0
          · simp [hb] at hV
          · have hb' : (b == 0) = false := by simpa using hb
            simp [hb'] at hV
            subst hV
            exact val_ _ (hbin _ _ _ (h.eval h1) (h.eval h2) (guard_int _ _ _ _) (by simp [binOp, Op.intDiv, hb, pure])) rfl he
        · cases hV
      · cases hV
    case shl =>
      simp only [opV, hop] at hV
      split at hV
      · rename_i k n k' b h1 h2
        by_cases hb : b < 0
        · simp [hb] at hV
        · simp [hb] at hV
          subst hV
          exact val_ _ (hbin _ _ _ (h.eval h1) (h.eval h2) (guard_int _ _ _ _) (by simp [binOp, Op.shift, hb, pure])) rfl he
      · cases hV
    case shr =>
      simp only [opV, hop] at hV
      split at hV
      · rename_i k n k' b h1 h2
        by_cases hb : b < 0
        · simp [hb] at hV
        · simp [hb] at hV
          subst hV
          exact val_ _ (hbin _ _ _ (h.eval h1) (h.eval h2) (guard_int _ _ _ _) (by simp [binOp, Op.shift, hb, pure])) rfl he
      · cases hV
    all_goals
      simp only [opV, hop] at hV
      split at hV
      · rename_i k n k' b h1 h2
        split at hV
        · rename_i hk
          subst hk
          split at hV
          · rename_i r hr
            injection hV with hV
            subst hV
            exact val_ _ (hbin _ _ _ (h.eval h1) (h.eval h2) (guard_int _ _ _ _) (intBin_run hr)) rfl he
          · cases hV
        · cases hV
      · rename_i xs ys h1 h2
        unfold aggBin at hV
        first
          | cases hV
          | (simp only at hV
             split at hV
             · rename_i r hr
               injection hV with hV
               subst hV
               first
                 | (obtain ⟨g1, g2⟩ := hΓ.eqv t _ _ r hr w .eql y z (.inl rfl)
                    refine val_ _ (hbin _ _ _ (h.eval h1) (h.eval h2) (by simpa using g1) ?_) rfl he
                    simp only [binOp]
                    rw [run_andThen _ _ w w r (by simpa using g2)]
                    rfl)
                 | (obtain ⟨g1, g2⟩ := hΓ.eqv t _ _ r hr w .neq y z (.inr rfl)
                    refine val_ _ (hbin _ _ _ (h.eval h1) (h.eval h2) (by simpa using g1) ?_) rfl he
                    simp only [binOp]
                    rw [run_andThen _ _ w w r (by simpa using g2)]
                    rfl)
             · cases hV)
      · exact pure_ hV he
  case unOp uop t y =>
    have he : opM Γ al P o st.eval st.mem = some st.mem := by simp [opM, opB, opL, opW, hop]
    cases uop
    case xor =>
      simp only [opV, hop] at hV
      split at hV
      · rename_i n h1
        injection hV with hV
        subst hV
        refine val_ _ ?_ rfl he
        unfold execOp
        rw [hop]
        refine run_v ?_
        rw [show a.eval y = .int .i64 n from h.eval h1, wr_eq, ← xor_i64]
        rfl
      · rename_i n h1
        injection hV with hV
        subst hV
        refine val_ _ ?_ rfl he
        unfold execOp
        rw [hop]
        refine run_v ?_
        rw [show a.eval y = .int .u64 n from h.eval h1, wr_eq, ← xor_u64]
        rfl
      · exact pure_ hV he
    all_goals
      (simp only [opV, hop] at hV
       exact pure_ hV he)
  case convert s d y =>
    have he : opM Γ al P o st.eval st.mem = some st.mem := by simp [opM, opB, opL, opW, hop]
    simp only [opV, hop] at hV
    split at hV
    · rename_i i n ds k h1 h2 h3
      injection hV with hV
      subst hV
      refine val_ _ ?_ rfl he
      unfold execOp
      rw [hop]
      refine run_v ?_
      rw [show a.eval y = .int i n from h.eval h1]
      unfold convert
      rw [run_andThen _ _ w w _ (run_underlying h2 w), run_andThen _ _ w w _ (run_underlying h3 w)]
      simp [Conv.intToInt, wr_eq, pure]
    · exact pure_ hV he
  case call c =>
    obtain ⟨callee, args, at_⟩ := c
    by_cases hcal : ∃ f, callee = .value (.func f)
    · obtain ⟨f, rfl⟩ := hcal
      simp only [opV, hop] at hV
      split at hV
      · rename_i vs hvs
        have hargs := allOps_eval h args.toList vs (allOps_mono rowsFor_mono _ _ hvs)
        split at hV
        · rename_i g r hr
          have he : opM Γ al P o st.eval st.mem = some st.mem := by simp [opM, opB, opL, opW, hop, hvs, hr]
          cases g with
          | false => cases hV
          | true =>
          injection hV with hV
          subst hV
          rcases hΓ.call f vs _ hr w _ hargs with ⟨y, h1, h2⟩ | ⟨h1, h2⟩
          · injection h2 with h2
            subst h2
            exact val_ _ (call_run hop h1) rfl he
          · refine same ?_ he
            unfold Oper.wp
            rw [call_run hop h1, Oper.upon_enter]
            refine h2.mono ?_
            rintro e w' ⟨y, rfl, hy, hb⟩
            have hy' : y = r := hy
            subst hy'
            exact ⟨V, (h.below' hb).put o.dst rfl, hp.put _ _⟩
        · rename_i g e k L hr
          split at hV
          · rename_i l hl
            cases g with
            | false => cases hV
            | true =>
            injection hV with hV
            subst hV
            have hpend : st.mem.rows[l]? = some .pend ∧ m = { st.mem with rows := st.mem.rows.set l (.live ⟨e, k, L, true⟩) } := by
              simp only [opM, opB, opL, opW, hop, hvs, hr, hl] at hM
              split at hM
              · rename_i b1 l1 w1 q1 q2 q3
                injection hM with hM
                split at q3
                · rename_i hp3
                  injection q1 with q1
                  injection q2 with q2
                  injection q3 with q3
                  subst q1 q2 q3 hM
                  exact ⟨hp3, rfl⟩
                · cases q3
              · cases hM
            obtain ⟨hpd, rfl⟩ := hpend
            rcases hΓ.call f vs _ hr w _ hargs with ⟨y, h1, h2⟩ | ⟨h1, h2⟩
            · cases h2
            · unfold Oper.wp
              rw [call_run hop h1, Oper.upon_enter]
              refine h2.mono ?_
              rintro e' w' ⟨y, rfl, hy, hb⟩
              obtain ⟨hR, hn⟩ := h.newRow hpd hb hy
              refine ⟨_, hR.put o.dst ⟨by simp, fun u hu => by simp at hu; exact hu⟩, Pend.put (fun d l' e'' hm' hn' => ?_) _ _⟩
              exact hp d l' e'' hm' hn'
          · cases hV
        · cases hV
      · cases hV
    · have he : opM Γ al P o st.eval st.mem = some st.mem := by
        simp only [opM, opB, opL, opW, hop]
        cases callee with
        | value f =>
          cases f with
          | func f => exact absurd ⟨f, rfl⟩ hcal
          | _ => rfl
        | _ => rfl
      by_cases hlen : callee = .builtin .len
      · subst hlen
        simp only [opV, hop] at hV
        split at hV
        · rename_i y t hy ht
          split at hV
          · rename_i r e h1 h2
            split at hV
            · rename_i rc hrc
              injection hV with hV
              subst hV
              exact val_ _ (lenCall_run hop hy ht (fun ty => len_run h h1 h2 hrc)) rfl he
            · cases hV
          · exact pure_ hV he
        · cases hV
      · refine pure_ ?_ he
        rw [← hV]
        unfold opV
        rw [hop]
        cases callee with
        | value f =>
          cases f with
          | func f => exact absurd ⟨f, rfl⟩ hcal
          | _ => rfl
        | invoke r m => rfl
        | builtin b => cases b <;> first | rfl | exact absurd rfl hlen
  all_goals (simp only [opV, hop] at hV; exact pure_ hV (by simp [opM, opB, opL, opW, hop]))
end
end Go.Sx

namespace Go.Sx
open Go.RowKit

theorem frozen?_setRow (w : World) (g : Nat) (cs : Array Value) (p : Addr) : (w.setRow g cs).frozen? p = w.frozen? p := by
  simp only [World.setRow, World.frozen?, Array.getElem?_modify]
  by_cases hb : g = p.block
  · simp only [hb, if_true]
    cases hh : w.heap[p.block]? with
    | none => simp
    | some x => cases x <;> simp
  · simp [hb]

theorem append_row {P : Program} {w : World} {B : Nat} {t ty e : TypeId} {i : TypeInfo} {z : Value} (ht : P.underlying t = some (.slice e)) (hi : P.info? e = some i) (hz : i.zero = some z) (h1 : i.size = 1) (hzs : z.cells.size = 1)
    {u : Value} {n : Nat} {xs : List Value} (hown : w.ownsRow B e 1 u n xs) (hB : B ≤ w.heap.size) {ad : Addr} {m c : Nat} {news : List Value} (hl : news.length = m) (hnews : ∀ (j : Nat) v, news[j]? = some v → w.cell? (ad.add j) = some v)
    (hone : ∀ v ∈ news, v.oneCell' = true) (h63 : n + m ≤ maxLen) (hbytes : (n + m) * i.bytes ≤ 140737488355328) :
    ∃ y w', (Builtin.append_ #[t, t] ty #[u, .slice (some ad) m c]).run P w = .ok y w' ∧ w'.ownsRow B e 1 y (n + m) (xs ++ news) ∧ w.grownBy w' u.ownBlock ∧ (∀ p, w'.frozen? p = w.frozen? p) ∧
      (y.ownBlock = u.ownBlock ∨ y.ownBlock = some w.heap.size) := by
  obtain ⟨y, w', hr, ho, hg, _⟩ := run_append_own (P := P) w B t ty e i z 1 i.bytes ht hi hz h1 rfl hzs (by decide) u n xs hown ad m c news (by omega) hnews hone h63 hbytes hB
  have hsmall : n + m ≤ 9223372036854775807 := by simp only [maxLen] at h63; omega
  refine ⟨y, w', hr, ho, hg, ?_⟩
  rcases hown.2 with ⟨rfl, rfl⟩ | ⟨g, cap, cur, rfl, hbg, hgg, hnc, hcm, hcs, htake⟩
  · by_cases hm : m = 0
    · subst hm
      have hn : news = [] := List.eq_nil_of_length_eq_zero hl
      subst hn
      have hr2 : (Builtin.append_ #[t, t] ty #[.slice none 0 0, .slice (some ad) 0 c]).run P w = .ok (.slice none 0 0) w := by
        simp [Builtin.append_, run_underlying ht, sizeOf, typeInfo, hi, Builtin.lenOf, Builtin.firstCells, loadCells, loadCellsFrom]
      rw [hr] at hr2
      injection hr2 with e1 e2
      subst e1 e2
      exact ⟨fun _ => rfl, .inl rfl⟩
    · have hr2 := run_append_nil (P := P) w t ty e i z ht hi hz ad m c news (by rw [h1]; omega) hnews (by omega) (by omega) (by simp only [Nat.zero_add] at hbytes; omega)
      rw [hr] at hr2
      injection hr2 with e1 e2
      subst e1 e2
      exact ⟨fun p => by rw [frozen?_alloc_cells]; rfl, .inr rfl⟩
  · by_cases hroom : n + m ≤ cap
    · have hfit : n * i.size + news.length ≤ cur.size := by rw [h1, hcs]; omega
      have hr2 := run_append_room (P := P) w t ty e i ht hi g n cap cur hgg ad m c news (by rw [h1]; omega) hnews hone hroom hfit
      rw [hr] at hr2
      injection hr2 with e1 e2
      subst e1 e2
      exact ⟨fun p => frozen?_setRow _ _ _ _, .inl rfl⟩
    · have holds : ∀ (j : Nat) v, xs[j]? = some v → w.cell? ((⟨g, 0, none⟩ : Addr).add j) = some v := hown.cells (g := g) rfl
      have hx1 := hown.1
      have hr2 := run_append_grow (P := P) w t ty e i z ht hi hz ⟨g, 0, none⟩ n cap xs (by rw [h1]; omega) holds ad m c news (by rw [h1]; omega) hnews (by omega) (by omega) (growslice_fits (by omega) hbytes)
      rw [hr] at hr2
      injection hr2 with e1 e2
      subst e1 e2
      exact ⟨fun p => by rw [frozen?_alloc_cells]; rfl, .inr rfl⟩

section
variable {P : Program} {w0 : World} {st : St} {V : Vl} {a : Act} {w : World}

theorem rowAt_append (rows : List RowS) (s : RowS) (r : Nat) : rowAt (rows ++ [s]) r = if r = rows.length then (match s with | .live c => some c | _ => none) else rowAt rows r := by
  unfold rowAt
  by_cases h : r = rows.length
  · subst h; simp; cases s <;> rfl
  · simp only [if_neg h]
    rcases Nat.lt_or_ge r rows.length with h' | h'
    · rw [List.getElem?_append_left h']
    · rw [List.getElem?_eq_none (by simp; omega), List.getElem?_eq_none h']

/-- More rows to come. -/
theorem Rel.pendRow (h : Rel w0 st V a w) : Rel w0 { st with mem := { st.mem with rows := st.mem.rows ++ [.pend] } } V a w := by
  have hat : ∀ r, rowAt (st.mem.rows ++ [.pend]) r = rowAt st.mem.rows r := by
    intro r
    rw [rowAt_append]
    by_cases hr : r = st.mem.rows.length
    · subst hr; simp [rowAt]
    · simp [hr]
  refine { h with rows := fun r rc hr => ?_, rowsN := fun r hr => ?_, apart := fun r r' rc rc' u u' g hr ho hr' ho' => ?_, apartb := fun r rc u g i b o hr => ?_ }
  · rw [hat] at hr; exact h.rows r rc hr
  · by_cases hl : r < st.mem.rows.length
    · rw [List.getElem?_append_left hl] at hr; exact h.rowsN r hr
    · exact h.rowsN r (.inl (List.getElem?_eq_none (by omega)))
  · rw [hat] at hr hr'; exact h.apart r r' rc rc' u u' g hr ho hr' ho'
  · rw [hat] at hr; exact h.apartb r rc u g i b o hr

/-- A new row, made as it comes. -/
theorem Rel.addRow (h : Rel w0 st V a w) {w' : World} (hk : Kp w w') {e : TypeId} {k : IntKind} {L : List Int} {y : Value} (hy : w'.ownsRow w.heap.size e 1 y L.length (L.map (.int k))) :
    ∃ V', Rel w0 { st with mem := { st.mem with rows := st.mem.rows ++ [.live ⟨e, k, L, true⟩] } } V' a w' ∧ V'.r st.mem.rows.length = some (some y) ∧ V'.b = V.b := by
  obtain ⟨hR, _⟩ := h.pendRow.newRow (l := st.mem.rows.length) (by simp) hk hy
  refine ⟨⟨V.b, fun r => if r = st.mem.rows.length then some (some y) else V.r r⟩, ?_, by simp, rfl⟩
  have e1 : (st.mem.rows ++ [RowS.pend]).set st.mem.rows.length (.live ⟨e, k, L, true⟩) = st.mem.rows ++ [.live ⟨e, k, L, true⟩] := by simp
  simpa [e1] using hR

/-- A row that is appended to: another one stands in its place. -/
theorem Rel.moveRow (h : Rel w0 st V a w) {r : Nat} {rc : RowC} {u : Value} (hr : rowAt st.mem.rows r = some rc) (ho : rc.own = true) (hu : V.r r = some (some u)) {w' : World} (hg : w.grownBy w' u.ownBlock) (hf : ∀ p, w'.frozen? p = w.frozen? p)
    {L : List Int} {y : Value} (hy : w'.ownsRow w0.heap.size rc.e 1 y L.length (L.map (.int rc.k))) (hyb : y.ownBlock = u.ownBlock ∨ y.ownBlock = some w.heap.size) :
    ∃ V', Rel w0 { st with mem := { st.mem with rows := st.mem.rows.set r .dead ++ [.live ⟨rc.e, rc.k, L, true⟩] } } V' a w' ∧ V'.r st.mem.rows.length = some (some y) ∧ V'.b = V.b := by
  obtain ⟨u0, hu0, hok⟩ := h.rows r rc hr
  have : u0 = u := by rw [hu0] at hu; injection hu with hu; injection hu
  subst this
  have hrl : r < st.mem.rows.length := by
    unfold rowAt at hr
    rcases Nat.lt_or_ge r st.mem.rows.length with h1 | h1
    · exact h1
    · simp [List.getElem?_eq_none h1] at hr
  let V' : Vl := ⟨V.b, fun i => if i = r then some none else if i = st.mem.rows.length then some (some y) else V.r i⟩
  have hlast : V.r st.mem.rows.length = none := h.rowsN _ (.inl (List.getElem?_eq_none (Nat.le_refl _)))
  have hmono : ∀ x y', Den V x y' → Den V' x y' := Vl.mono (fun _ _ h => h) (fun i hi => by
    by_cases h1 : i = r
    · simp [V', h1]
    · have h2 : i ≠ st.mem.rows.length := by rintro rfl; exact hi hlast
      simp [V', h1, h2, hi])
  have hat : ∀ i, rowAt (st.mem.rows.set r .dead ++ [.live ⟨rc.e, rc.k, L, true⟩]) i = if i = st.mem.rows.length then some ⟨rc.e, rc.k, L, true⟩ else if i = r then none else rowAt st.mem.rows i := by
    intro i
    rw [rowAt_append]
    by_cases h1 : i = st.mem.rows.length
    · simp [h1]
    · simp only [List.length_set, h1, if_false]
      by_cases h2 : i = r
      · subst h2; simp [rowAt, hrl]
      · simp only [h2, if_false]
        unfold rowAt
        rw [List.getElem?_set_ne (Ne.symm h2)]
  have hsz := hg.size
  have hub : ∀ g, u0.ownBlock = some g → w0.heap.size ≤ g ∧ g < w.heap.size := fun g hg => hok.lt ho hg
  have hyl := World.ownsRow.lt hy
  have hcell : ∀ p : Addr, p.block < w.heap.size → u0.ownBlock ≠ some p.block → w'.cell? p = w.cell? p := fun p hp hne => World.cell?_of_block (hg.block p.block hp (fun e => hne e.symm))
  have hother : ∀ i rc' u', rowAt st.mem.rows i = some rc' → i ≠ r → V.r i = some (some u') → RowOk w0.heap.size w rc' u' → RowOk w0.heap.size w' rc' u' := by
    intro i rc' u' hi hne hui hok'
    unfold RowOk at *
    split
    · rename_i ho'
      simp only [ho'] at hok'
      refine World.ownsRow.kept hok' hg ?_
      cases hb : u'.ownBlock with
      | none => exact .inl rfl
      | some g => exact .inr (fun e => h.apart i r rc' rc u' u0 g hi ho' hr ho hui hu0 hne hb e.symm)
    · rename_i ho'
      simp only [ho'] at hok'
      rcases hok' with h1 | ⟨b1, o1, cap, h1, h2, h3⟩
      · exact .inl h1
      · refine .inr ⟨b1, o1, cap, h1, h2, fun j x hx => ?_⟩
        have hne' : rc'.L ≠ [] := by rintro e; rw [e] at hx; simp at hx
        have hlt := h2 hne'
        have hB := h.below.size
        rw [hcell ⟨b1, o1 + j, none⟩ (by simp only; omega) (fun e => by have h9 : w0.heap.size ≤ b1 := (hub _ e).1; omega)]
        exact h3 j x hx
  refine ⟨V', { len := h.len, tmps := fun t x hx y' hy' => hmono x y' (h.tmps t x hx y' hy'), defers := h.defers, mem := fun i b o hi cs hcs j x hx => ?_, inj := h.inj, own := fun i b o hi => ?_, dom := h.dom
                rows := fun i rc' hi => ?_, rowsN := fun i hi => ?_, apart := fun i j rci rcj ui uj g hi hio hj hjo hui huj hne hgi => ?_, apartb := fun i rci ui g l b o hi hio hui hgi hl => ?_, below := ?_, froz := fun p => (hf p).trans (h.froz p) }, ?_, rfl⟩
  · obtain ⟨v, h1, h2, h3⟩ := h.mem i b o hi cs hcs j x hx
    have hne : u0.ownBlock ≠ some b := fun e => h.apartb r rc u0 b i b o hr ho hu0 e hi rfl
    exact ⟨v, by rw [hcell ⟨b, o + j, none⟩ (h.own i b o hi).2 hne]; exact h1, hmono x v h2, by rw [hf]; exact h3⟩
  · have := h.own i b o hi
    exact ⟨this.1, Nat.lt_of_lt_of_le this.2 hsz⟩
  · rw [hat] at hi
    by_cases h1 : i = st.mem.rows.length
    · simp only [h1, if_true] at hi
      injection hi with hi
      subst hi
      refine ⟨y, ?_, by unfold RowOk; exact hy⟩
      have : st.mem.rows.length ≠ r := by omega
      simp [V', h1, this]
    · by_cases h2 : i = r
      · simp [h2] at hi
        omega
      · simp only [h1, h2, if_false] at hi
        obtain ⟨v, q1, q2⟩ := h.rows i rc' hi
        exact ⟨v, by simp [V', h1, h2, q1], hother i rc' v hi h2 q1 q2⟩
  · by_cases h1 : i = st.mem.rows.length
    · subst h1; simp at hi
    · by_cases h2 : i = r
      · subst h2
        rw [List.getElem?_append_left (by simpa using hrl)] at hi
        simp [hrl] at hi
      · simp only [V', h1, h2, if_false]
        apply h.rowsN
        by_cases h3 : i < st.mem.rows.length
        · rw [List.getElem?_append_left (by simpa using h3), List.getElem?_set_ne (Ne.symm h2)] at hi
          exact hi
        · exact .inl (List.getElem?_eq_none (by omega))
  · rw [hat] at hi hj
    by_cases h1 : i = st.mem.rows.length
    · have h2 : j ≠ st.mem.rows.length := fun e => hne (h1.trans e.symm)
      have h3 : i ≠ r := by omega
      have h3' : st.mem.rows.length ≠ r := by omega
      simp only [V', h1, h3', if_true, if_false] at hui
      injection hui with hui
      injection hui with hui
      subst hui
      by_cases h4 : j = r
      · simp [h4] at hj; omega
      · simp only [h2, h4, if_false] at hj
        simp only [V', h2, h4, if_false] at huj
        intro he
        rcases hyb with q | q
        · rw [q] at hgi
          exact h.apart r j rc rcj u0 uj g hr ho hj hjo hu0 huj (Ne.symm h4) hgi he
        · rw [q] at hgi
          injection hgi with hgi
          obtain ⟨v, q1, q2⟩ := h.rows j rcj hj
          have : v = uj := by rw [q1] at huj; injection huj with huj; injection huj
          subst this
          have := (q2.lt hjo he).2
          omega
    · by_cases h2 : i = r
      · simp [h2] at hi; omega
      · simp only [h1, h2, if_false] at hi
        simp only [V', h1, h2, if_false] at hui
        by_cases h3 : j = st.mem.rows.length
        · have h3' : st.mem.rows.length ≠ r := by omega
          simp only [V', h3, h3', if_true, if_false] at huj
          injection huj with huj
          injection huj with huj
          subst huj
          intro he
          rcases hyb with q | q
          · rw [q] at he
            exact h.apart i r rci rc ui u0 g hi hio hr ho hui hu0 h2 hgi he
          · rw [q] at he
            injection he with he
            obtain ⟨v, q1, q2⟩ := h.rows i rci hi
            have : v = ui := by rw [q1] at hui; injection hui with hui; injection hui
            subst this
            have := (q2.lt hio hgi).2
            omega
        · by_cases h4 : j = r
          · simp [h4] at hj; omega
          · simp only [h3, h4, if_false] at hj
            simp only [V', h3, h4, if_false] at huj
            exact h.apart i j rci rcj ui uj g hi hio hj hjo hui huj hne hgi
  · rw [hat] at hi
    by_cases h1 : i = st.mem.rows.length
    · have h3' : st.mem.rows.length ≠ r := by omega
      simp only [V', h1, h3', if_true, if_false] at hui
      injection hui with hui
      injection hui with hui
      subst hui
      rcases hyb with q | q
      · rw [q] at hgi
        exact h.apartb r rc u0 g l b o hr ho hu0 hgi hl
      · rw [q] at hgi
        injection hgi with hgi
        have := (h.own l b o hl).2
        omega
    · by_cases h2 : i = r
      · simp [h2] at hi; omega
      · simp only [h1, h2, if_false] at hi
        simp only [V', h1, h2, if_false] at hui
        exact h.apartb i rci ui g l b o hi hio hui hgi hl
  · refine h.below.trans ⟨hg.os, hg.tape, hg.output, hg.size, fun k hk => hg.block k (by have := h.below.size; omega) (fun e => by have := (hub _ e.symm).1; omega)⟩
  · have : st.mem.rows.length ≠ r := by omega
    simp [V', this]

theorem row_made {w : World} {e : TypeId} {k : IntKind} {cs : Array Value} {L : List Int} {n : Nat} (hc : cs.toList = L.map (.int k)) (hn : L.length = n) (hm : n ≤ maxLen) :
    (w.alloc (.cells cs e)).ownsRow w.heap.size e 1 (.slice (some ⟨w.heap.size, 0, none⟩) n n) L.length (L.map (.int k)) := by
  have hsz : cs.size = n := by have := congrArg List.length hc; simpa [hn] using this
  subst hn
  refine ⟨by simp, .inr ⟨w.heap.size, _, cs, rfl, Nat.le_refl _, heap_alloc_new w _, Nat.le_refl _, hm, by omega, ?_⟩⟩
  rw [hc, List.take_of_length_le (by simp)]

theorem madeCells_one (v : Value) (n : Nat) : (madeCells #[v] n).toList = List.replicate n v := by
  apply List.ext_getElem
  · simp [madeCells]
  · intro i h1 h2
    simp [madeCells, Nat.mod_one]

/-- A store to an element of a row of the call's own. -/
theorem Rel.setRow (h : Rel w0 st V a w) {r : Nat} {rc : RowC} {u : Value} (hr : rowAt st.mem.rows r = some rc) (ho : rc.own = true) (hu : V.r r = some (some u)) {g o n c : Nat} (hs : u = .slice (some ⟨g, o, none⟩) n c) {i : Int} (h0 : 0 ≤ i) (hi : i < (n : Int)) (x : Int) :
    (∃ v, w.cell? ⟨g, o + i.toNat, none⟩ = some v) ∧ w.frozen? ⟨g, o + i.toNat, none⟩ = false ∧
    Rel w0 { st with mem := { st.mem with rows := st.mem.rows.set r (.live { rc with L := rc.L.set i.toNat x }) } } V a (w.setCell ⟨g, o + i.toNat, none⟩ (.int rc.k x)) := by
  obtain ⟨u0, hu0, hok⟩ := h.rows r rc hr
  have : u0 = u := by rw [hu0] at hu; injection hu with hu; injection hu
  subst this
  have hub := hok.lt ho (g := g) (by rw [hs]; rfl)
  have hok' := hok
  unfold RowOk at hok'
  simp only [ho] at hok'
  have hrl : r < st.mem.rows.length := by
    unfold rowAt at hr
    rcases Nat.lt_or_ge r st.mem.rows.length with h1 | h1
    · exact h1
    · simp [List.getElem?_eq_none h1] at hr
  rcases hok'.2 with ⟨q, _⟩ | ⟨g', cap, cur, q, q1, q2, q3, q4, q5, q6⟩
  · rw [hs] at q; cases q
  rw [hs] at q
  injection q with e1 e2 e3
  injection e1 with e1
  injection e1 with e4 e5
  subst e4 e5 e2 e3
  have hil : i.toNat < rc.L.length := by omega
  have hcur : i.toNat < cur.size := by omega
  have hcell : w.cell? ⟨g, 0 + i.toNat, none⟩ = some cur[i.toNat] := by
    rw [World.cell?, q2]; simp [hcur]
  have hfz : w.frozen? ⟨g, 0 + i.toNat, none⟩ = false := by
    rw [World.frozen?, q2]; simp
  refine ⟨⟨_, hcell⟩, hfz, ?_⟩
  have hheap : (w.setCell ⟨g, 0 + i.toNat, none⟩ (.int rc.k x)).heap[g]? = some (.cells (cur.setIfInBounds i.toNat (.int rc.k x)) rc.e (0, 0)) := by
    simp [World.setCell, Array.getElem?_modify, q2]
  have hblk : ∀ k, k ≠ g → (w.setCell ⟨g, 0 + i.toNat, none⟩ (.int rc.k x)).heap[k]? = w.heap[k]? := fun k hk => Below.heap_setCell _ _ _ _ hk
  have hgr : w.grownBy (w.setCell ⟨g, 0 + i.toNat, none⟩ (.int rc.k x)) (some g) := ⟨rfl, rfl, rfl, by simp, fun k _ hk => hblk k (fun e => hk (by rw [e]))⟩
  have hat : ∀ j, rowAt (st.mem.rows.set r (.live { rc with L := rc.L.set i.toNat x })) j = if j = r then some { rc with L := rc.L.set i.toNat x } else rowAt st.mem.rows j := by
    intro j
    unfold rowAt
    by_cases hj : j = r
    · subst hj; simp [hrl]
    · rw [List.getElem?_set_ne (Ne.symm hj)]; simp [hj]
  have hnew : RowOk w0.heap.size (w.setCell ⟨g, 0 + i.toNat, none⟩ (.int rc.k x)) { rc with L := rc.L.set i.toNat x } u0 := by
    unfold RowOk
    simp only [ho]
    refine ⟨by simp, .inr ⟨g, c, _, by rw [hs]; simp, q1, hheap, by simpa using q3, q4, by simpa using q5, ?_⟩⟩
    rw [Array.toList_setIfInBounds, List.length_set, List.take_set, q6, List.map_set]
  have hothers : ∀ j rc' u', rowAt st.mem.rows j = some rc' → j ≠ r → V.r j = some (some u') → RowOk w0.heap.size w rc' u' → RowOk w0.heap.size (w.setCell ⟨g, 0 + i.toNat, none⟩ (.int rc.k x)) rc' u' := by
    intro j rc' u' hj hne huj hokj
    unfold RowOk at *
    split
    · rename_i ho'
      simp only [ho'] at hokj
      refine World.ownsRow.kept hokj hgr ?_
      cases hb : u'.ownBlock with
      | none => exact .inl rfl
      | some g2 => exact .inr (fun e => by injection e with e; subst e; exact h.apart j r rc' rc u' u0 g2 hj ho' hr ho huj hu0 hne hb (by rw [hs]; rfl))
    · rename_i ho'
      simp only [ho'] at hokj
      rcases hokj with h1 | ⟨b1, o1, cap1, h1, h2, h3⟩
      · exact .inl h1
      · refine .inr ⟨b1, o1, cap1, h1, h2, fun j x hx => ?_⟩
        have hne' : rc'.L ≠ [] := by rintro e; rw [e] at hx; simp at hx
        have hlt := h2 hne'
        rw [World.cell?_of_block (w := w) (hblk b1 (by omega))]
        exact h3 j x hx
  refine { h with mem := fun l b o hl cs hcs j y hy => ?_, own := fun l b o hl => ?_, rows := fun j rc' hj => ?_, rowsN := fun j hj => ?_, apart := fun j j' rcj rcj' uj uj' g1 hj hjo hj' hjo' => ?_, apartb := fun j rcj uj g1 l b o hj hjo => ?_, below := ?_, froz := fun p => by rw [World.frozen?_setCell]; exact h.froz p }
  · obtain ⟨v, h1, h2, h3⟩ := h.mem l b o hl cs hcs j y hy
    have hne : b ≠ g := h.apartb r rc u0 g l b o hr ho hu0 (by rw [hs]; rfl) hl
    exact ⟨v, by rw [World.cell?_of_block (w := w) (hblk b hne)]; exact h1, h2, by rw [World.frozen?_setCell]; exact h3⟩
  · have := h.own l b o hl
    exact ⟨this.1, by simpa using this.2⟩
  · rw [hat] at hj
    by_cases h1 : j = r
    · subst h1
      simp only [if_true] at hj
      injection hj with hj
      subst hj
      exact ⟨u0, hu0, hnew⟩
    · simp only [h1, if_false] at hj
      obtain ⟨v, p1, p2⟩ := h.rows j rc' hj
      exact ⟨v, p1, hothers j rc' v hj h1 p1 p2⟩
  · by_cases h1 : j = r
    · subst h1; simp [hrl] at hj
    · rw [List.getElem?_set_ne (Ne.symm h1)] at hj; exact h.rowsN j hj
  · rw [hat] at hj hj'
    have f1 : ∃ rc1, rowAt st.mem.rows j = some rc1 ∧ rc1.own = true := by
      by_cases h1 : j = r
      · subst h1; exact ⟨rc, hr, ho⟩
      · simp only [h1, if_false] at hj; exact ⟨rcj, hj, hjo⟩
    have f2 : ∃ rc1, rowAt st.mem.rows j' = some rc1 ∧ rc1.own = true := by
      by_cases h1 : j' = r
      · subst h1; exact ⟨rc, hr, ho⟩
      · simp only [h1, if_false] at hj'; exact ⟨rcj', hj', hjo'⟩
    obtain ⟨r1, m1, m2⟩ := f1
    obtain ⟨r2, m3, m4⟩ := f2
    exact h.apart j j' r1 r2 uj uj' g1 m1 m2 m3 m4
  · rw [hat] at hj
    have f1 : ∃ rc1, rowAt st.mem.rows j = some rc1 ∧ rc1.own = true := by
      by_cases h1 : j = r
      · subst h1; exact ⟨rc, hr, ho⟩
      · simp only [h1, if_false] at hj; exact ⟨rcj, hj, hjo⟩
    obtain ⟨r1, m1, m2⟩ := f1
    exact h.apartb j r1 uj g1 l b o m1 m2
  · exact h.below.setCell hub.1 _
end
end Go.Sx

namespace Go.Sx
open Go.RowKit

def bytesT (P : Program) (t : TypeId) : Option Nat :=
  match P.info? t with
  | some i => some i.bytes
  | none => none

def intsOf (k : IntKind) : List Value → Option (List Int)
  | [] => some []
  | .int k' n :: r => match intsOf k r with
    | some l => if k' = k then some (n :: l) else none
    | none => none
  | _ :: _ => none

def partsV (ev : Operand → Option SV) : List (Nat × Operand) → Option (List (Nat × Value))
  | [] => some []
  | (i, x) :: r => match asV (ev x), partsV ev r with
    | some y, some l => some ((i, y) :: l)
    | _, _ => none

/-- The type, kind and zero of a slice's elements, where they are numbers. -/
def elemT (P : Program) (t : TypeId) : Option (TypeId × IntKind × Int × Nat) :=
  match P.underlying t with
  | some (.slice e) => match P.info? e with
    | some i => match i.size, i.zero with
      | 1, some (.int k z) => some (e, k, z, i.bytes)
      | _, _ => none
    | none => none
  | _ => none

def withRow (m : Mem) (s : RowS) : Mem := { m with rows := m.rows ++ [s] }

section
variable {P : Program} {al : Option Al} {w0 : World} {st : St} {V : Vl} {a : Act} {w : World} {Γ : Orc} {Q : Exit → Act → World → Prop}

theorem elemT_some {t e : TypeId} {k : IntKind} {z : Int} {b : Nat} (h : elemT P t = some (e, k, z, b)) : P.underlying t = some (.slice e) ∧ ∃ i, P.info? e = some i ∧ i.size = 1 ∧ i.zero = some (.int k z) ∧ i.bytes = b := by
  unfold elemT at h
  split at h
  · rename_i e' hu
    split at h
    · rename_i i hi
      split at h
      · rename_i k' z' h1 h2
        injection h with h
        injection h with e1 h
        injection h with e2 h
        injection h with e3 e4
        subst e1 e2 e3 e4
        exact ⟨hu, i, hi, h1, h2, rfl⟩
      · cases h
    · cases h
  · cases h

theorem intsOf_eq {k : IntKind} : ∀ (l : List Value) (L : List Int), intsOf k l = some L → l = L.map (.int k)
  | [], L, h => by simp [intsOf] at h; subst h; rfl
  | v :: r, L, h => by
    cases v with
    | int k' n =>
      unfold intsOf at h
      split at h
      · rename_i l hl
        split at h
        · rename_i hk
          injection h with h
          subst h hk
          simp [intsOf_eq r l hl]
        · cases h
      · cases h
    | _ => simp [intsOf] at h

theorem partsV_eval (h : Rel w0 st V a w) : ∀ (l : List (Nat × Operand)) (ps : List (Nat × Value)), partsV st.eval l = some ps → l.map (fun p => (p.1, a.eval p.2)) = ps
  | [], ps, hp => by simp [partsV] at hp; subst hp; rfl
  | (i, x) :: r, ps, hp => by
    unfold partsV at hp
    cases hx : asV (st.eval x) with
    | none => simp [hx] at hp
    | some y =>
      cases hr : partsV st.eval r with
      | none => simp [hx, hr] at hp
      | some l =>
        simp [hx, hr] at hp
        subst hp
        have h2 : a.eval x = y := by
          cases hs : st.eval x with
          | none => simp [hs, asV] at hx
          | some s => cases s <;> simp [hs, asV] at hx; subst hx; exact h.eval hs
        simp [partsV_eval h r l hr, h2]

theorem buildSlice_run {o : Oper} {t e : TypeId} {n : Nat} {parts : Array (Nat × Operand)} {i : TypeInfo} {k : IntKind} {z : Int} {ps : List (Nat × Value)} {cells : Array Value} (hop : o.op = .buildSlice t n parts) (hu : P.underlying t = some (.slice e)) (hi : P.info? e = some i)
    (h1 : i.size = 1) (hz : i.zero = some (.int k z)) (hps : parts.toList.map (fun p => (p.1, a.eval p.2)) = ps) (hn : n ≤ 65536) (hf : Instr.fill (fun i => some (i * 1, 1)) ((Array.range (n * 1)).map ((#[Value.int k z] : Array Value)[· % 1]!)) ps = some cells) :
    (execOp a.eval o).run P w = .ok (.value (.slice (some ⟨w.heap.size, 0, none⟩) n n)) (w.alloc (.cells cells e)) := by
  unfold execOp
  rw [hop]
  refine run_v ?_
  have hp : (parts.map fun (i, x) => (i, a.eval x)).toList = ps := by rw [← hps]; simp
  unfold Instr.buildSlice
  rw [run_andThen _ _ w w _ (run_underlying hu w)]
  simp only
  rw [run_andThen _ _ w w 1 (sizT_run (by simp [sizT, hi, h1]))]
  rw [if_neg (by omega)]
  have hzv : (zeroValue e).run P w = .ok (.int k z) w := zeroT_run (by simp [zeroT, hi, hz])
  by_cases h0 : n * 1 = 0
  · have hn0 : n = 0 := by omega
    subst hn0
    simp only [Nat.zero_mul, if_true, pure_bind, hp]
    have hf' : Instr.fill (fun i => some (i * 1, 1)) ((Array.range 0).map ((#[] : Array Value)[· % (#[] : Array Value).size]!)) ps = some cells := by
      have e1 : ∀ f : Nat → Value, Array.map f (Array.range 0) = #[] := fun f => by simp
      rw [show 0 * 1 = 0 from rfl, e1] at hf
      rw [e1]
      exact hf
    rw [hf']
    simp [newRow, newObj, pure, Sem.run, bind, Sem.bind]
  · simp only [if_neg h0, pure_bind]
    rw [run_andThen _ _ w w _ hzv]
    rw [hp]
    have : ((Value.int k z).cells.size) = 1 := rfl
    simp only [this]
    have hc : (Value.int k z).cells = #[Value.int k z] := rfl
    rw [hc, hf]
    simp [newRow, newObj, pure, Sem.run, bind, Sem.bind]

theorem appendCall_run {o : Oper} {s x : Operand} {t : TypeId} {args : Array Operand} {at_ : Array TypeId} (ho : o.op = .call { callee := .builtin .append, args, argTypes := at_ }) (ha : args.toList = [s, x]) (ht : at_.toList = [t, t]) {y : Value} {w' : World}
    (hr : (Builtin.append_ #[t, t] o.type #[a.eval s, a.eval x]).run P w = .ok y w') : (execOp a.eval o).run P w = .ok (.value y) w' := by
  have h1 : args = #[s, x] := by cases args; simp_all
  have h2 : at_ = #[t, t] := by cases at_; simp_all
  subst h1 h2
  unfold execOp
  rw [ho]
  simp only [resolve]
  rw [run_andThen _ _ w w _ rfl]
  simp only [invoke, builtin]
  refine run_v ?_
  simpa using hr

theorem storeVar_one {t : TypeId} (h2 : sizT P t = some 1) {b o : Nat} {k : IntKind} {x : Int} {v : Value} (hc : w.cell? ⟨b, o, none⟩ = some v) (hf : w.frozen? ⟨b, o, none⟩ = false) :
    (storeVar t ⟨b, o, none⟩ (.int k x)).run P w = .ok () (w.setCell ⟨b, o, none⟩ (.int k x)) := by
  unfold storeVar
  rw [run_andThen _ _ w w 1 (sizT_run h2)]
  simp [Value.cells, storeCells, store, Sem.run, hc, hf, Addr.add, pure, bind, Sem.bind]
end
end Go.Sx

namespace Go.Sx
open Go.RowKit

/-- One operation, in a region that draws no order (al = none: blocks and rows are made as they come), or in one that does (al: what its operations will make): its value, and what it makes of memory. -/
def opR (Γ : Orc) (P : Program) (al : Option Al) (o : Oper) (st : St) : Option (SV × Mem) :=
  match al with
  | some al => match opV Γ P al o st.eval st.mem.blk st.mem.rows, opM Γ al P o st.eval st.mem with
    | some x, some m => some (x, m)
    | _, _ => none
  | none => match o.op with
    | .alloc e => match zeroT P e, st.mem.blk.length == st.mem.live.length with
      | some z, true => some (.ptr st.mem.blk.length 0, ⟨st.mem.blk ++ [z.cells.toList.map .v], st.mem.live ++ [true], st.mem.rows⟩)
      | _, _ => none
    | .box _ x => match st.eval x, st.mem.blk.length == st.mem.live.length with
      | some (.v y), true => some (.ptr st.mem.blk.length 0, ⟨st.mem.blk ++ [y.cells.toList.map .v], st.mem.live ++ [true], st.mem.rows⟩)
      | _, _ => none
    | .buildSlice t n parts => match elemT P t, partsV st.eval parts.toList with
      | some (e, k, z, _), some ps => match Instr.fill (fun i => some (i * 1, 1)) ((Array.range (n * 1)).map ((#[Value.int k z] : Array Value)[· % 1]!)) ps with
        | some cells => match intsOf k cells.toList with
          | some L => if L.length = n ∧ n ≤ 65536 then some (.row st.mem.rows.length, withRow st.mem (.live ⟨e, k, L, true⟩)) else none
          | none => none
        | none => none
      | _, _ => none
    | .makeSlice t l c => match elemT P t, st.eval l, st.eval c with
      | some (e, k, z, bytes), some (.v (.int _ x)), some (.v (.int _ y)) =>
        bif decide (0 ≤ x ∧ x = y ∧ (bytes : Int) * x ≤ 281474976710656 ∧ x ≤ 9223372036854775807) then some (.row st.mem.rows.length, withRow st.mem (.live ⟨e, k, List.replicate x.toNat z, true⟩)) else none
      | _, _, _ => none
    | .store t p x => match st.eval p, st.eval x, sizT P t with
      | some (.rp r i), some (.v (.int k n)), some 1 => match rowAt st.mem.rows r with
        | some rc => if rc.own = true ∧ rc.k = k then some (.v undef, { st.mem with rows := st.mem.rows.set r (.live { rc with L := rc.L.set i.toNat n }) }) else none
        | none => none
      | some (.ptr _ _), _, _ => match opV Γ P ⟨[], []⟩ o st.eval st.mem.blk st.mem.rows, opM Γ ⟨[], []⟩ P o st.eval st.mem with
        | some x, some m => some (x, m)
        | _, _ => none
      | _, _, _ => none
    | .call { callee := .value (.func f), args, .. } => match allOps st.eval st.mem.rows args.toList with
      | some vs => match Γ.call f vs with
        | some (g, .v r) => bif g then some (.v r, st.mem) else none
        | some (g, .ints e k L) => bif g then some (.row st.mem.rows.length, withRow st.mem (.live ⟨e, k, L, true⟩)) else none
        | none => none
      | none => none
    | .call { callee := .builtin .append, args, argTypes } => match args.toList, argTypes.toList with
      | [s, x], [t, t'] => match elemT P t, st.eval s, st.eval x with
        | some (e, k, _, bytes), some (.row r), some (.row r') => match rowAt st.mem.rows r, rowAt st.mem.rows r' with
          | some rc, some rc' => if t' = t ∧ rc.own = true ∧ rc.e = e ∧ rc.k = k ∧ rc'.k = k then
              bif decide ((rc.L.length + rc'.L.length) * bytes ≤ 140737488355328 ∧ rc.L.length + rc'.L.length ≤ 9223372036854775807) then
                some (.row st.mem.rows.length, { st.mem with rows := st.mem.rows.set r .dead ++ [.live ⟨e, k, rc.L ++ rc'.L, true⟩] }) else none
            else none
          | _, _ => none
        | some (e, k, _, bytes), some (.v (.slice none 0 0)), some (.row r') => match rowAt st.mem.rows r' with
          | some rc' => if t' = t ∧ rc'.k = k then
              bif decide (0 < rc'.L.length ∧ rc'.L.length * bytes ≤ 140737488355328 ∧ rc'.L.length ≤ 9223372036854775807) then
                some (.row st.mem.rows.length, withRow st.mem (.live ⟨e, k, rc'.L, true⟩)) else none
            else none
          | none => none
        | _, _, _ => none
      | _, _ => none
    | _ => match opV Γ P ⟨[], []⟩ o st.eval st.mem.blk st.mem.rows, opM Γ ⟨[], []⟩ P o st.eval st.mem with
      | some x, some m => some (x, m)
      | _, _ => none

def opS (Γ : Orc) (P : Program) (al : Option Al) (o : Oper) (st : St) : Option St :=
  match opR Γ P al o st with
  | some (x, m) => some (({ st with mem := m } : St).put o.dst x)
  | none => none

def alOf (al : Option Al) : Al := al.getD ⟨[], []⟩

def yieldS (ops : Array Oper) (st : St) (j : Nat) : Option SV := ((ops[j]?).bind (·.dst)).bind (st.tmps.get ·)

def stepS (Γ : Orc) (P : Program) (al : Option Al) (ops : Array Oper) (o : Oper) (st : St) : Option St :=
  match o.guard with
  | none => opS Γ P al o st
  | some (j, want) => match yieldS ops st j with
    | some (.v (.bool t)) => bif t == want then opS Γ P al o st else some (st.put o.dst (.v undef))
    | some (.v _) => some (st.put o.dst (.v undef))
    | _ => none

def stepsS (Γ : Orc) (P : Program) (al : Option Al) (ops : Array Oper) : List Oper → St → Option St
  | [], st => some st
  | o :: r, st => match stepS Γ P al ops o st with
    | some st' => stepsS Γ P al ops r st'
    | none => none

section
variable {P : Program} {al : Option Al} {w0 : World} {st : St} {V : Vl} {a : Act} {w : World} {Γ : Orc} {Q : Exit → Act → World → Prop}

theorem Rel.extend (h : Rel w0 st V a w) (cs : List SV) (b : Bool) : Rel w0 { st with mem := ⟨st.mem.blk ++ [cs], st.mem.live ++ [b], st.mem.rows⟩ } V a w ∨ st.mem.blk.length ≠ st.mem.live.length := by
  by_cases hl : st.mem.blk.length = st.mem.live.length
  · left
    have hlt : ∀ l, V.b l ≠ none → l < st.mem.live.length := by
      intro l hb
      have hd := h.dom l hb
      rcases Nat.lt_or_ge l st.mem.live.length with h' | h'
      · exact h'
      · simp [List.getElem?_eq_none h'] at hd
    refine { h with mem := fun l b' o hb cs' hc j x hx => ?_, dom := fun l hb => ?_ }
    · have := hlt l (by simp [hb])
      simp only at hc
      rw [List.getElem?_append_left (by omega)] at hc
      exact h.mem l b' o hb cs' hc j x hx
    · simp only
      rw [List.getElem?_append_left (hlt l hb)]
      exact h.dom l hb
  · exact .inr hl

/-- A block made as it comes. -/
theorem Rel.append (h : Rel w0 st V a w) (hl : st.mem.blk.length = st.mem.live.length) (y : Value) (t : TypeId) :
    ∃ V', Rel w0 { st with mem := ⟨st.mem.blk ++ [y.cells.toList.map .v], st.mem.live ++ [true], st.mem.rows⟩ } V' a (w.alloc (.cells y.cells t)) ∧ V'.b st.mem.blk.length = some (w.heap.size, 0) := by
  have h1 := (h.extend (y.cells.toList.map .v) false).resolve_right (fun e => e hl)
  obtain ⟨hR, _⟩ := h1.newBlock (l := st.mem.blk.length) (cs := y.cells.toList) (by simp [hl]) (by simp) t
  refine ⟨⟨fun i => if i = st.mem.blk.length then some (w.heap.size, 0) else V.b i, V.r⟩, ?_, by simp⟩
  have e1 : (st.mem.live ++ [false]).set st.mem.blk.length true = st.mem.live ++ [true] := by
    rw [hl]; simp
  simpa [e1] using hR

theorem alloc_run {o : Oper} {e : TypeId} {z : Value} (hop : o.op = .alloc e) (hz : zeroT P e = some z) :
    (execOp a.eval o).run P w = .ok (.value (.pointer (some ⟨w.heap.size, 0, none⟩))) (w.alloc (.cells z.cells e)) := by
  unfold execOp
  rw [hop]
  refine run_v ?_
  unfold Instr.alloc
  rw [run_andThen _ _ w w z (zeroT_run hz)]
  simp [newVar, newRow, newObj, pure, Sem.run, bind, Sem.bind]

theorem box_run {o : Oper} {e : TypeId} {x : Operand} {y : Value} (hop : o.op = .box e x) (hx : a.eval x = y) :
    (execOp a.eval o).run P w = .ok (.value (.pointer (some ⟨w.heap.size, 0, none⟩))) (w.alloc (.cells y.cells e)) := by
  unfold execOp
  rw [hop]
  refine run_v ?_
  rw [hx]
  simp [Instr.box, newVar, newRow, newObj, pure, Sem.run, bind, Sem.bind]

theorem opR_none_sound (hΓ : Γ.Ok P) {o : Oper} {x : SV} {m : Mem} (hq : opR Γ P none o st = some (x, m)) (hR : Rel w0 st V a w) :
    o.wp P a w (fun a' w' => RelP P ⟨[], []⟩ w0 (({ st with mem := m } : St).put o.dst x) a' w') Q := by
  have nopend : ∀ st V, Pend P ⟨[], []⟩ st V := fun _ _ d l e hm => by cases hm
  have gen : (match opV Γ P ⟨[], []⟩ o st.eval st.mem.blk st.mem.rows, opM Γ ⟨[], []⟩ P o st.eval st.mem with
      | some x, some m => some (x, m)
      | _, _ => none) = some (x, m) → o.wp P a w (fun a' w' => RelP P ⟨[], []⟩ w0 (({ st with mem := m } : St).put o.dst x) a' w') Q := by
    intro hS
    split at hS
    · rename_i x' m' h1 h2
      injection hS with hS
      injection hS with e1 e2
      subst e1 e2
      exact op_sound hΓ h1 h2 hR (nopend _ _)
    · cases hS
  unfold opR at hq
  simp only at hq
  split at hq
  · rename_i e hop
    split at hq
    · rename_i z hz hl
      injection hq with hq
      injection hq with e1 e2
      subst e1 e2
      obtain ⟨V', hR', hb'⟩ := hR.append (by simpa using hl) z e
      unfold Oper.wp
      rw [alloc_run hop hz, Oper.upon_value]
      exact ⟨V', hR'.put o.dst ⟨_, _, hb', by simp⟩, nopend _ _⟩
    · cases hq
  · rename_i e x' hop
    split at hq
    · rename_i y hy hl
      injection hq with hq
      injection hq with e1 e2
      subst e1 e2
      obtain ⟨V', hR', hb'⟩ := hR.append (by simpa using hl) y e
      unfold Oper.wp
      rw [box_run hop (hR.eval hy), Oper.upon_value]
      exact ⟨V', hR'.put o.dst ⟨_, _, hb', by simp⟩, nopend _ _⟩
    · cases hq
  · rename_i t n parts hop
    split at hq
    · rename_i e k z b ps he hps
      split at hq
      · rename_i cells hfill
        split at hq
        · rename_i L hL
          split at hq
          · rename_i hc
            injection hq with hq
            injection hq with e1 e2
            subst e1 e2
            obtain ⟨hu, i, hi, h1, hz, hb⟩ := elemT_some he
            have hrun := buildSlice_run (a := a) (w := w) hop hu hi h1 hz (partsV_eval hR _ _ hps) hc.2 hfill
            have hm : n ≤ maxLen := by have := hc.2; unfold maxLen; omega
            obtain ⟨V', hR', hr', _⟩ := hR.addRow (kp_alloc w cells e) (row_made (w := w) (e := e) (intsOf_eq _ _ hL) hc.1 hm)
            unfold Oper.wp
            rw [hrun, Oper.upon_value]
            exact ⟨V', hR'.put o.dst ⟨by rw [hr']; simp, fun u hu' => by rw [hr'] at hu'; injection hu' with hu'; injection hu'⟩, nopend _ _⟩
          · cases hq
        · cases hq
      · cases hq
    · cases hq
  · rename_i t l c hop
    split at hq
    · rename_i e k z b kx xx ky yy he hl hcc
      cases hg : decide (0 ≤ xx ∧ xx = yy ∧ (b : Int) * xx ≤ 281474976710656 ∧ xx ≤ 9223372036854775807)
      · rw [hg] at hq; cases hq
      · rw [hg] at hq
        injection hq with hq
        injection hq with e1 e2
        subst e1 e2
        simp only [decide_eq_true_eq] at hg
        obtain ⟨g1, rfl, g2, g3⟩ := hg
        obtain ⟨hu, i, hi, h1, hz, hb⟩ := elemT_some he
        have hrun := run_make (P := P) w t e i (.int k z) hu hi hz kx ky xx xx g1 (Int.le_refl _) (by rw [hb]; exact g2) g3
        have hcells : (madeCells (Value.int k z).cells (xx.toNat * i.size)).toList = (List.replicate xx.toNat z).map (.int k) := by
          rw [h1, Nat.mul_one]
          show (madeCells #[Value.int k z] xx.toNat).toList = _
          rw [madeCells_one, List.map_replicate]
        obtain ⟨V', hR', hr', _⟩ := hR.addRow (kp_alloc w _ e) (row_made (w := w) (e := e) (n := xx.toNat) hcells (by simp) (by unfold maxLen; omega))
        have hrun' : (execOp a.eval o).run P w = .ok (.value (.slice (some ⟨w.heap.size, 0, none⟩) xx.toNat xx.toNat)) (w.alloc (.cells (madeCells (Value.int k z).cells (xx.toNat * i.size)) e)) := by
          unfold execOp
          rw [hop]
          refine run_v ?_
          rw [show a.eval l = .int kx xx from hR.eval hl, show a.eval c = .int ky xx from hR.eval hcc]
          exact hrun
        unfold Oper.wp
        rw [hrun', Oper.upon_value]
        exact ⟨V', hR'.put o.dst ⟨by rw [hr']; simp, fun u hu' => by rw [hr'] at hu'; injection hu' with hu'; injection hu'⟩, nopend _ _⟩
    · cases hq
  · rename_i t p y hop
    split at hq
    · rename_i r i k n hp hy hs
      split at hq
      · rename_i rc hrc
        split at hq
        · rename_i hc
          injection hq with hq
          injection hq with e1 e2
          subst e1 e2
          obtain ⟨ho, rfl⟩ := hc
          obtain ⟨u, hu, hok⟩ := hR.rows r rc hrc
          obtain ⟨g, o', nn, c, hsl, h0, hi, he⟩ := (hR.eval hp).2 u hu
          obtain ⟨⟨v, hv⟩, hfz, hR'⟩ := hR.setRow hrc ho hu hsl h0 hi n
          have hrun : (execOp a.eval o).run P w = .ok .skip (w.setCell ⟨g, o' + i.toNat, none⟩ (.int rc.k n)) := by
            unfold execOp
            rw [hop]
            simp only
            rw [he, show a.eval y = .int rc.k n from hR.eval hy]
            rw [run_andThen _ _ w _ () (show (Instr.storeAt t (.pointer (some ⟨g, o' + i.toNat, none⟩)) (.int rc.k n)).run P w = .ok () _ from by
              simpa [Instr.storeAt, Instr.sureAddr] using storeVar_one (P := P) hs hv hfz)]
            rfl
          unfold Oper.wp
          rw [hrun, Oper.upon_skip]
          exact ⟨V, hR'.put o.dst rfl, nopend _ _⟩
        · cases hq
      · cases hq
    · exact gen hq
    · cases hq
  · rename_i f args at_ hop
    split at hq
    · rename_i vs hvs
      have hargs := allOps_eval hR args.toList vs hvs
      split at hq
      · rename_i g r hr
        cases g with
        | false => cases hq
        | true =>
        injection hq with hq
        injection hq with e1 e2
        subst e1 e2
        rcases hΓ.call f vs _ hr w _ hargs with ⟨y, h1, h2⟩ | ⟨h1, h2⟩
        · injection h2 with h2
          subst h2
          unfold Oper.wp
          rw [call_run hop h1, Oper.upon_value]
          exact ⟨V, hR.put o.dst rfl, nopend _ _⟩
        · unfold Oper.wp
          rw [call_run hop h1, Oper.upon_enter]
          refine h2.mono ?_
          rintro e w' ⟨y, rfl, hy, hb⟩
          have hy' : y = r := hy
          subst hy'
          exact ⟨V, (hR.below' hb).put o.dst rfl, nopend _ _⟩
      · rename_i g e k L hr
        cases g with
        | false => cases hq
        | true =>
        injection hq with hq
        injection hq with e1 e2
        subst e1 e2
        rcases hΓ.call f vs _ hr w _ hargs with ⟨y, h1, h2⟩ | ⟨h1, h2⟩
        · cases h2
        · unfold Oper.wp
          rw [call_run hop h1, Oper.upon_enter]
          refine h2.mono ?_
          rintro e' w' ⟨y, rfl, hy, hb⟩
          obtain ⟨V', hR', hr', _⟩ := hR.addRow hb hy
          exact ⟨V', hR'.put o.dst ⟨by rw [hr']; simp, fun u hu' => by rw [hr'] at hu'; injection hu' with hu'; injection hu'⟩, nopend _ _⟩
      · cases hq
    · cases hq
  · rename_i args at_ hop
    split at hq
    · rename_i s y t t' hargs hat
      have news : ∀ (r' : Nat) (rc' : RowC), st.eval y = some (.row r') → rowAt st.mem.rows r' = some rc' → 0 < rc'.L.length → ∃ b o' cap, a.eval y = .slice (some ⟨b, o', none⟩) rc'.L.length cap ∧
          ∀ (j : Nat) v, (rc'.L.map (Value.int rc'.k))[j]? = some v → w.cell? (Addr.add ⟨b, o', none⟩ j) = some v := by
        intro r' rc' hy hrc' hpos
        obtain ⟨u', hu', hok'⟩ := hR.rows r' rc' hrc'
        have he : a.eval y = u' := (hR.eval hy).2 u' hu'
        rcases rowOk_reads hok' hR.below.size with ⟨_, h0⟩ | ⟨b, o', cap, h1, _, h3⟩
        · rw [h0] at hpos; simp at hpos
        · refine ⟨b, o', cap, by rw [he, h1], fun j v hv => ?_⟩
          rw [add_place]
          rw [List.getElem?_map] at hv
          cases hj : rc'.L[j]? with
          | none => simp [hj] at hv
          | some n => simp [hj] at hv; subst hv; exact h3 j n hj
      have one : ∀ (k : IntKind) (L : List Int), ∀ v ∈ L.map (Value.int k), v.oneCell' = true := by
        intro k L v hv
        obtain ⟨n, _, rfl⟩ := List.mem_map.1 hv
        rfl
      split at hq
      · rename_i e k z b r r' he hs hy
        split at hq
        · rename_i rc rc' hrc hrc'
          split at hq
          · rename_i hc
            obtain ⟨rfl, ho, rfl, rfl, hk'⟩ := hc
            cases hg : decide ((rc.L.length + rc'.L.length) * b ≤ 140737488355328 ∧ rc.L.length + rc'.L.length ≤ 9223372036854775807)
            · rw [hg] at hq; cases hq
            · rw [hg] at hq
              injection hq with hq
              injection hq with e1 e2
              subst e1 e2
              simp only [decide_eq_true_eq] at hg
              obtain ⟨g2, g3⟩ := hg
              obtain ⟨hu, i, hi, h1, hz, hb⟩ := elemT_some he
              obtain ⟨u, huu, hok⟩ := hR.rows r rc hrc
              have hse : a.eval s = u := (hR.eval hs).2 u huu
              have hown : w.ownsRow w0.heap.size rc.e 1 u rc.L.length (rc.L.map (.int rc.k)) := by
                have := hok; unfold RowOk at this; simpa only [ho] using this
              have happ : ∃ v' w', (Builtin.append_ #[t', t'] o.type #[a.eval s, a.eval y]).run P w = .ok v' w' ∧ w'.ownsRow w0.heap.size rc.e 1 v' (rc.L.length + rc'.L.length) (rc.L.map (.int rc.k) ++ rc'.L.map (.int rc'.k)) ∧
                  w.grownBy w' u.ownBlock ∧ (∀ p, w'.frozen? p = w.frozen? p) ∧ (v'.ownBlock = u.ownBlock ∨ v'.ownBlock = some w.heap.size) := by
                obtain ⟨u', hu', hok'⟩ := hR.rows r' rc' hrc'
                have hye : a.eval y = u' := (hR.eval hy).2 u' hu'
                rw [hse, hye]
                rcases rowOk_reads hok' hR.below.size with ⟨h5, h6⟩ | ⟨bb, o', cap, h5, _, h7⟩
                · rw [h5, h6]
                  exact ⟨u, w, run_append_owned_none (P := P) w w0.heap.size t' o.type rc.e i 1 hu hi u rc.L.length _ hown, by simpa using hown, ⟨rfl, rfl, rfl, Nat.le_refl _, fun _ _ _ => rfl⟩, fun _ => rfl, .inl rfl⟩
                · rw [h5]
                  refine append_row (P := P) (ty := o.type) hu hi hz h1 rfl hown hR.below.size (ad := ⟨bb, o', none⟩) (m := rc'.L.length) (c := cap) (news := rc'.L.map (.int rc'.k)) (by simp) (fun j v hv => ?_) (one _ _) (by unfold maxLen; omega) (by rw [hb]; exact g2)
                  rw [add_place]
                  rw [List.getElem?_map] at hv
                  cases hj : rc'.L[j]? with
                  | none => simp [hj] at hv
                  | some n => simp [hj] at hv; subst hv; exact h7 j n hj
              rw [hk'] at happ
              obtain ⟨v', w', hrun, ho', hgr, hfz, hyb⟩ := happ
              obtain ⟨V', hR', hr', _⟩ := hR.moveRow hrc ho huu hgr hfz (L := rc.L ++ rc'.L) (y := v') (by simpa using ho') hyb
              unfold Oper.wp
              rw [appendCall_run hop hargs hat hrun, Oper.upon_value]
              exact ⟨V', hR'.put o.dst ⟨by rw [hr']; simp, fun u hu' => by rw [hr'] at hu'; injection hu' with hu'; injection hu'⟩, nopend _ _⟩
          · cases hq
        · cases hq
      · rename_i e k z b r' he hs hy
        split at hq
        · rename_i rc' hrc'
          split at hq
          · rename_i hc
            obtain ⟨rfl, rfl⟩ := hc
            cases hg : decide (0 < rc'.L.length ∧ rc'.L.length * b ≤ 140737488355328 ∧ rc'.L.length ≤ 9223372036854775807)
            · rw [hg] at hq; cases hq
            · rw [hg] at hq
              injection hq with hq
              injection hq with e1 e2
              subst e1 e2
              simp only [decide_eq_true_eq] at hg
              obtain ⟨g1, g2, g3⟩ := hg
              obtain ⟨hu, i, hi, h1, hz, hb⟩ := elemT_some he
              have hse : a.eval s = .slice none 0 0 := hR.eval hs
              obtain ⟨bb, o', cap, hye, hcells⟩ := news r' rc' hy hrc' g1
              obtain ⟨v', w', hrun, ho', hgr, hfz, hyb⟩ := append_row (P := P) (ty := o.type) hu hi hz h1 rfl (World.ownsRow_nil w w.heap.size e 1) (Nat.le_refl _) (ad := ⟨bb, o', none⟩) (m := rc'.L.length) (c := cap) (by simp) hcells (one _ _) (by unfold maxLen; omega) (by rw [hb]; simpa using g2)
              rw [← hse, ← hye] at hrun
              have hkp : Kp w w' := ⟨⟨hgr.os, hgr.tape, hgr.output, hgr.size, fun k hk => hgr.block k hk (by simp [Value.ownBlock])⟩, hfz⟩
              obtain ⟨V', hR', hr', _⟩ := hR.addRow hkp (k := rc'.k) (L := rc'.L) (y := v') (by simpa using ho')
              unfold Oper.wp
              rw [appendCall_run hop hargs hat hrun, Oper.upon_value]
              exact ⟨V', hR'.put o.dst ⟨by rw [hr']; simp, fun u hu' => by rw [hr'] at hu'; injection hu' with hu'; injection hu'⟩, nopend _ _⟩
          · cases hq
        · cases hq
      · cases hq
    · cases hq
  · exact gen hq

theorem opS_sound (hΓ : Γ.Ok P) {o : Oper} {st' : St} (hS : opS Γ P al o st = some st') (h : RelP P (alOf al) w0 st a w) :
    o.wp P a w (fun a' w' => RelP P (alOf al) w0 st' a' w') Q := by
  obtain ⟨V, hR, hp⟩ := h
  unfold opS at hS
  cases hq : opR Γ P al o st with
  | none => simp [hq] at hS
  | some q =>
    obtain ⟨x, m⟩ := q
    simp [hq] at hS
    subst hS
    cases al with
    | none => exact opR_none_sound hΓ hq hR
    | some l =>
      unfold opR at hq
      simp only at hq
      split at hq
      · rename_i x' m' h1 h2
        injection hq with hq
        injection hq with e1 e2
        subst e1 e2
        exact op_sound hΓ h1 h2 hR hp
      · cases hq

theorem yieldS_ok (hR : Rel w0 st V a w) {ops : Array Oper} {j : Nat} {s : SV} (h : yieldS ops st j = some s) :
    ∃ y, ((ops[j]?).bind (·.dst)).bind (a.tmps[·]?) = some y ∧ Den V s y := by
  unfold yieldS at h
  cases hd : (ops[j]?).bind (·.dst) with
  | none => simp [hd] at h
  | some d =>
    simp only [hd, Option.bind_some] at h ⊢
    have hlt : d < a.tmps.size := hR.len d s h
    refine ⟨a.tmps[d], by simp [hlt], hR.tmps d s h _ (by simp [hlt])⟩

theorem stepS_sound (hΓ : Γ.Ok P) {ops : Array Oper} {o : Oper} {st' : St} (hS : stepS Γ P al ops o st = some st') (h : RelP P (alOf al) w0 st a w) :
    if Region.wanted o (yielded ops a.tmps) then o.wp P a w (fun a' w' => RelP P (alOf al) w0 st' a' w') Q else RelP P (alOf al) w0 st' (a.put o.dst undef) w := by
  obtain ⟨V, hR, hp⟩ := h
  have skip : RelP P (alOf al) w0 (st.put o.dst (.v undef)) (a.put o.dst undef) w := ⟨V, hR.put o.dst rfl, hp.put _ _⟩
  unfold stepS at hS
  split at hS
  · rename_i hg
    have : Region.wanted o (yielded ops a.tmps) = true := by simp [Region.wanted, hg]
    rw [if_pos this]
    exact opS_sound hΓ hS ⟨V, hR, hp⟩
  · rename_i j want hg
    split at hS
    · rename_i t ht
      obtain ⟨y, hy, hd⟩ := yieldS_ok hR ht
      have hy' : y = .bool t := hd
      subst hy'
      have hw : Region.wanted o (yielded ops a.tmps) = (t == want) := by
        simp only [Region.wanted, hg, yielded, hy]
        cases t <;> cases want <;> rfl
      rw [hw]
      cases htw : t == want
      · simp [htw] at hS
        subst hS
        simpa using skip
      · simp [htw] at hS
        simpa using opS_sound (Q := Q) hΓ hS ⟨V, hR, hp⟩
    · rename_i y' hne ht
      obtain ⟨y, hy, hd⟩ := yieldS_ok hR ht
      have hy' : y = y' := hd
      subst hy'
      injection hS with hS
      subst hS
      have hw : Region.wanted o (yielded ops a.tmps) = false := by
        simp only [Region.wanted, hg, yielded, hy]
        cases y <;> first | rfl | (exact absurd rfl (fun e => by first | exact hne _ ht | exact hne _ e))
      rw [hw]
      simpa using skip
    · cases hS

theorem wpOp_of_stepS (hΓ : Γ.Ok P) {ops : Array Oper} {i : Nat} {o : Oper} {st' : St} (ho : ops[i]? = some o) (hS : stepS Γ P al ops o st = some st') (h : RelP P (alOf al) w0 st a w)
    {K : Act → World → Prop} (hK : ∀ a w, RelP P (alOf al) w0 st' a w → K a w) : wpOp P ops Q i K a w := by
  unfold wpOp
  simp only [ho]
  have := stepS_sound (Q := Q) hΓ hS h
  split
  · rename_i hw
    rw [if_pos hw] at this
    exact .inl (Oper.wp_mono hK this)
  · rename_i hw
    rw [if_neg hw] at this
    exact hK _ _ this

/-- A region that draws no order. -/
theorem region_sound (hΓ : Γ.Ok P) {ops : Array Oper} {st' : St} : ∀ (l : List Oper) (k : Nat) (st : St) (a : Act) (w : World), (∀ j, l[j]? = ops[k + j]?) → 
    stepsS Γ P al ops l st = some st' → RelP P (alOf al) w0 st a w → (∀ a w, RelP P (alOf al) w0 st' a w → Q .normal a w) → wpOps P ops Q (List.range' k l.length) a w
  | [], k, st, a, w, _, hS, h, hQ => by
    simp only [stepsS] at hS
    injection hS with hS
    subst hS
    exact hQ a w h
  | o :: r, k, st, a, w, hl, hS, h, hQ => by
    simp only [stepsS] at hS
    split at hS
    · rename_i st1 h1
      have h0 : ops[k]? = some o := by simpa using (hl 0).symm
      rw [List.length_cons, List.range'_succ, wpOps_cons]
      exact wpOp_of_stepS hΓ h0 h1 h (fun a w h' => region_sound hΓ r (k + 1) st1 a w (fun j => by have := hl (j + 1); simpa [Nat.add_assoc, Nat.add_comm 1 j] using this) hS h' hQ)
    · cases hS
end
end Go.Sx

namespace Go.Sx
open Go.RowKit

def isLoad : Op → Bool
  | .load _ _ => true
  | _ => false
def isStore : Op → Bool
  | .store _ _ _ => true
  | _ => false
/-- Does it make a row, in a region that draws? -/
def mkRow (al : Al) (o : Oper) : Bool := (lookR al.r o.dst).isSome
/-- Does it read rows? -/
def rowReader (P : Program) : Op → Bool
  | .load _ _ => true
  | .indexAddr _ _ _ => true
  | .call { callee := .builtin .len, .. } => true
  | .call { callee := .value (.func _), argTypes, .. } => argTypes.toList.any (isSliceT P)
  | _ => false
/-- 'a' is carried out ahead of 'b', and 'b' could tell. -/
def clash (P : Program) (al : Al) (a b : Oper) : Bool := (isLoad a.op && isStore b.op) || (isStore a.op && isLoad b.op) || (isStore a.op && isStore b.op) || (mkRow al a && rowReader P b.op)

section
variable {P : Program} {al : Al} {Γ : Orc} {ops : Array Oper}

theorem opM_some {o : Oper} {ev : Operand → Option SV} {m m' : Mem} : opM Γ al P o ev m = some m' ↔ (opB P o ev m.blk = some m'.blk ∧ opL al o m.live = some m'.live ∧ opW Γ P al o ev m.rows = some m'.rows) := by
  obtain ⟨b, l, r⟩ := m
  obtain ⟨b', l', r'⟩ := m'
  unfold opM
  simp only
  cases opB P o ev b <;> cases opL al o l <;> cases opW Γ P al o ev r <;> simp

theorem pureV_congr {o : Oper} {ev ev' : Operand → Option SV} (h : ∀ x ∈ o.op.operands, ev x = ev' x) : pureV P o ev = pureV P o ev' := by
  unfold pureV
  have h1 : (o.op.operands.toList.all fun x => isV (ev x)) = (o.op.operands.toList.all fun x => isV (ev' x)) := by
    rw [Bool.eq_iff_iff, List.all_eq_true, List.all_eq_true]
    constructor <;> intro hh x hx
    · rw [← h x (by simpa using hx)]; exact hh x hx
    · rw [h x (by simpa using hx)]; exact hh x hx
  rw [h1]
  cases hs : isSel o.op
  · rw [execOp_congr o (fun cs b he => by rw [he] at hs; simp [isSel] at hs) (fun x hx => by rw [h x hx])]
  · simp

theorem allOps_congr {ev ev' : Operand → Option SV} {rows : List RowS} : ∀ l : List Operand, (∀ x ∈ l, ev x = ev' x) → allOps ev rows l = allOps ev' rows l
  | [], _ => rfl
  | x :: r, h => by
    unfold allOps
    rw [h x (by simp), allOps_congr r (fun y hy => h y (by simp [hy]))]

theorem callArgs_mem {o : Oper} {f : FuncId} {args : Array Operand} {at_ : Array TypeId} (hop : o.op = .call { callee := .value (.func f), args, argTypes := at_ }) : ∀ x ∈ args.toList, x ∈ o.op.operands :=
  fun x hx => by rw [hop]; simp only [Op.operands, Call.operands]; exact Array.mem_append.2 (.inr (by simpa using hx))

theorem opV_congr {o : Oper} {ev ev' : Operand → Option SV} {blk blk' : List (List SV)} {rows : List RowS} (h : ∀ x ∈ o.op.operands, ev x = ev' x) (hb : isLoad o.op = true → blk = blk') :
    opV Γ P al o ev blk rows = opV Γ P al o ev' blk' rows := by
  have hp := pureV_congr (P := P) h
  unfold opV
  cases hop : o.op
  case move x => simp only; exact h x (by simp [hop, Op.operands])
  case assign x => simp only; exact h x (by simp [hop, Op.operands])
  case pick c x y =>
    have h1 := h c (by simp [hop, Op.operands])
    have h2 := h x (by simp [hop, Op.operands])
    have h3 := h y (by simp [hop, Op.operands])
    simp only [h1, h2, h3]
  case alloc e => rfl
  case load t p =>
    have h1 := h p (by simp [hop, Op.operands])
    have h2 := hb (by simp [hop, isLoad])
    simp only [h1, h2]
  case indexAddr t x y =>
    have h1 := h x (by simp [hop, Op.operands])
    have h2 := h y (by simp [hop, Op.operands])
    simp only [h1, h2]
  case index t x y =>
    have h1 := h x (by simp [hop, Op.operands])
    have h2 := h y (by simp [hop, Op.operands])
    simp only [h1, h2, hp]
  case store => rfl
  case fieldAddr s p f =>
    have h1 := h p (by simp [hop, Op.operands])
    simp only [h1]
  case binOp bop t x y t' =>
    have h1 := h x (by simp [hop, Op.operands])
    have h2 := h y (by simp [hop, Op.operands])
    cases bop <;> simp only [h1, h2, hp]
  case unOp uop t x =>
    have h1 := h x (by simp [hop, Op.operands])
    cases uop <;> simp only [h1, hp]
  case convert s d x =>
    have h1 := h x (by simp [hop, Op.operands])
    simp only [h1, hp]
  case call c =>
    obtain ⟨callee, args, at_⟩ := c
    cases callee with
    | value f =>
      cases f with
      | func f =>
        have h1 : ∀ x ∈ args.toList, ev x = ev' x := fun x hx => h x (callArgs_mem hop x hx)
        simp only [allOps_congr _ h1]
      | _ => simpa using hp
    | invoke r m => simpa using hp
    | builtin b =>
      cases b
      case len =>
        have h1 : ∀ x ∈ args.toList, ev x = ev' x := fun x hx => h x (by simp [hop, Op.operands, Call.operands]; simpa using hx)
        simp only
        split
        · rename_i x t ha ht
          rw [h1 x (by rw [ha]; simp), hp]
        · rfl
      all_goals simpa using hp
  all_goals simpa using hp

theorem opB_congr {o : Oper} {ev ev' : Operand → Option SV} {blk : List (List SV)} (h : ∀ x ∈ o.op.operands, ev x = ev' x) : opB P o ev blk = opB P o ev' blk := by
  unfold opB
  cases hop : o.op
  case store t p x =>
    have h1 := h p (by simp [hop, Op.operands])
    have h2 := h x (by simp [hop, Op.operands])
    simp only [h1, h2]
  all_goals rfl

theorem opW_congr {o : Oper} {ev ev' : Operand → Option SV} {rows : List RowS} (h : ∀ x ∈ o.op.operands, ev x = ev' x) : opW Γ P al o ev rows = opW Γ P al o ev' rows := by
  unfold opW
  cases hop : o.op
  case call c =>
    obtain ⟨callee, args, at_⟩ := c
    cases callee with
    | value f =>
      cases f with
      | func f =>
        have h1 : ∀ x ∈ args.toList, ev x = ev' x := fun x hx => h x (callArgs_mem hop x hx)
        simp only [allOps_congr _ h1]
      | _ => rfl
    | _ => rfl
  all_goals rfl

theorem opB_other {o : Oper} {ev : Operand → Option SV} {blk : List (List SV)} (h : isStore o.op = false) : opB P o ev blk = some blk := by
  unfold opB
  cases hop : o.op
  case store => simp [hop, isStore] at h
  all_goals rfl

/-- All rows that are there are there in the other one, too; or nobody looks. -/
def RowsTo (P : Program) (o : Oper) (rows rows' : List RowS) : Prop := (∀ r rc, rowAt rows r = some rc → rowAt rows' r = some rc) ∨ rowReader P o.op = false

theorem rowsFor_to {at_ : Array TypeId} {rows rows' : List RowS} (h : (∀ r rc, rowAt rows r = some rc → rowAt rows' r = some rc) ∨ at_.toList.any (isSliceT P) = false) : ∀ r rc, rowAt (rowsFor P at_ rows) r = some rc → rowAt (rowsFor P at_ rows') r = some rc := by
  intro r rc hr
  unfold rowsFor at *
  cases ha : at_.toList.any (isSliceT P)
  · simp [ha, rowAt] at hr
  · simp only [ha] at hr ⊢
    rcases h with h | h
    · exact h r rc hr
    · rw [ha] at h; cases h

theorem opV_to {o : Oper} {ev : Operand → Option SV} {blk : List (List SV)} {rows rows' : List RowS} (ht : RowsTo P o rows rows') {x : SV} (hv : opV Γ P al o ev blk rows = some x) : opV Γ P al o ev blk rows' = some x := by
  unfold RowsTo at ht
  cases hop : o.op
  case load t p =>
    simp only [hop, rowReader] at ht
    simp only [opV, hop] at hv ⊢
    have ht := ht.resolve_right (by simp)
    split at hv
    · exact hv
    · split at hv
      · rename_i rc hr; rw [ht _ _ hr]; exact hv
      · cases hv
    · cases hv
  case indexAddr t y z =>
    simp only [hop, rowReader] at ht
    simp only [opV, hop] at hv ⊢
    have ht := ht.resolve_right (by simp)
    split at hv
    · split at hv
      · rename_i rc hr hs; rw [ht _ _ hr]; simp only [hs]; exact hv
      · cases hv
    · cases hv
  case binOp bop t y z t' => cases bop <;> (simp only [opV, hop] at hv ⊢; exact hv)
  case unOp uop t y => cases uop <;> (simp only [opV, hop] at hv ⊢; exact hv)
  case call c =>
    obtain ⟨callee, args, at_⟩ := c
    cases callee with
    | value f =>
      cases f with
      | func f =>
        simp only [hop, rowReader] at ht
        simp only [opV, hop] at hv ⊢
        split at hv
        · rename_i vs hvs
          rw [allOps_mono (rowsFor_to ht) _ _ hvs]
          exact hv
        · cases hv
      | _ => (simp only [opV, hop] at hv ⊢; exact hv)
    | invoke r m => (simp only [opV, hop] at hv ⊢; exact hv)
    | builtin b =>
      cases b
      case len =>
        simp only [hop, rowReader] at ht
        simp only [opV, hop] at hv ⊢
        have ht := ht.resolve_right (by simp)
        split at hv
        · rename_i y t ha hat
          split at hv
          · split at hv
            · rename_i rc hr; rw [ht _ _ hr]; exact hv
            · cases hv
          · exact hv
        · cases hv
      all_goals (simp only [opV, hop] at hv ⊢; exact hv)
  all_goals (simp only [opV, hop] at hv ⊢; exact hv)

/-- What becomes of the rows: nothing, or one is made. -/
theorem opW_cases {o : Oper} {ev : Operand → Option SV} {blk : List (List SV)} {rows w' : List RowS} {x : SV} (hv : opV Γ P al o ev blk rows = some x) (hw : opW Γ P al o ev rows = some w') :
    (w' = rows ∧ ∀ rows2, RowsTo P o rows rows2 → opW Γ P al o ev rows2 = some rows2) ∨
    (mkRow al o = true ∧ ∃ l rc, rows[l]? = some .pend ∧ w' = rows.set l (.live rc) ∧ ∀ rows2, RowsTo P o rows rows2 → rows2[l]? = some .pend → opW Γ P al o ev rows2 = some (rows2.set l (.live rc))) := by
  unfold opW at hw
  by_cases hc : ∃ f args at_, o.op = .call { callee := .value (.func f), args, argTypes := at_ }
  · obtain ⟨f, args, at_, hop⟩ := hc
    simp only [hop] at hw
    unfold opV at hv
    simp only [hop] at hv
    have to : ∀ rows2, RowsTo P o rows rows2 → (∀ r rc, rowAt (rowsFor P at_ rows) r = some rc → rowAt (rowsFor P at_ rows2) r = some rc) := by
      intro rows2 ht
      unfold RowsTo at ht
      simp only [hop, rowReader] at ht
      exact rowsFor_to ht
    split at hv
    · rename_i vs hvs
      simp only [hvs] at hw
      split at hv
      · rename_i g r hr
        simp only [hr] at hw
        injection hw with hw
        refine .inl ⟨hw.symm, fun rows2 ht => ?_⟩
        unfold opW
        simp only [hop, allOps_mono (to rows2 ht) _ _ hvs, hr]
      · rename_i g e k L hr
        simp only [hr] at hw
        split at hv
        · rename_i l hl
          simp only [hl] at hw
          split at hw
          · rename_i hp
            injection hw with hw
            refine .inr ⟨by simp [mkRow, hl], l, _, hp, hw.symm, fun rows2 ht hp2 => ?_⟩
            unfold opW
            simp only [hop, allOps_mono (to rows2 ht) _ _ hvs, hr, hl, hp2]
          · cases hw
        · cases hv
      · cases hv
    · cases hv
  · have other : ∀ rows2, opW Γ P al o ev rows2 = some rows2 := by
      intro rows2
      unfold opW
      split
      · rename_i f args at_ hop; exact absurd ⟨f, args, at_, hop⟩ hc
      · rfl
    have := other rows
    unfold opW at this
    rw [this] at hw
    injection hw with hw
    exact .inl ⟨hw.symm, fun rows2 _ => other rows2⟩

def core (Γ : Orc) (P : Program) (al : Al) (o : Oper) (st : St) : Option (SV × Mem) :=
  match opV Γ P al o st.eval st.mem.blk st.mem.rows, opM Γ al P o st.eval st.mem with
  | some x, some m => some (x, m)
  | _, _ => none

/-- One step, in a region that draws its order: its value, and what it makes of memory. -/
def stepR (Γ : Orc) (P : Program) (al : Al) (ops : Array Oper) (o : Oper) (st : St) : Option (SV × Mem) :=
  match o.guard with
  | none => core Γ P al o st
  | some (j, want) => match yieldS ops st j with
    | some (.v (.bool t)) => bif t == want then core Γ P al o st else some (.v undef, st.mem)
    | some (.v _) => some (.v undef, st.mem)
    | _ => none

theorem opS_some {o : Oper} {st : St} : opS Γ P (some al) o st = (core Γ P al o st).map fun q => ({ st with mem := q.2 } : St).put o.dst q.1 := by
  unfold core
  simp only [opS, opR]
  cases opV Γ P al o st.eval st.mem.blk st.mem.rows <;> cases opM Γ al P o st.eval st.mem <;> rfl

theorem stepS_eq {o : Oper} {st : St} : stepS Γ P (some al) ops o st = (stepR Γ P al ops o st).map fun q => ({ st with mem := q.2 } : St).put o.dst q.1 := by
  have h := opS_some (Γ := Γ) (P := P) (al := al) (o := o) (st := st)
  unfold stepS stepR
  generalize opS Γ P (some al) o st = u at *
  generalize core Γ P al o st = v at *
  cases hg : o.guard with
  | none => exact h
  | some jw =>
    obtain ⟨j, want⟩ := jw
    simp only
    cases hy : yieldS ops st j with
    | none => rfl
    | some s =>
      cases s with
      | v y =>
        cases y with
        | bool t =>
          simp only
          cases t == want
          · rfl
          · exact h
        | _ => rfl
      | _ => rfl

/-- What a step comes to, at what it looks at. -/
inductive StepAt (Γ : Orc) (P : Program) (al : Al) (ops : Array Oper) (o : Oper) (st : St) : SV → Mem → Prop where
  | runs (x : SV) (b : List (List SV)) (l : List Bool) (w : List RowS) (hg : o.guard = none ∨ ∃ j t, o.guard = some (j, t) ∧ yieldS ops st j = some (.v (.bool t)))
      (hv : opV Γ P al o st.eval st.mem.blk st.mem.rows = some x) (hb : opB P o st.eval st.mem.blk = some b) (hl : opL al o st.mem.live = some l) (hw : opW Γ P al o st.eval st.mem.rows = some w) : StepAt Γ P al ops o st x ⟨b, l, w⟩
  | skips (j : Nat) (t : Bool) (y : Value) (hg : o.guard = some (j, t)) (hy : yieldS ops st j = some (.v y)) (hne : y ≠ .bool t) : StepAt Γ P al ops o st (.v undef) st.mem

theorem stepR_iff {o : Oper} {st : St} {x : SV} {m : Mem} : stepR Γ P al ops o st = some (x, m) ↔ StepAt Γ P al ops o st x m := by
  constructor
  · intro h
    have main : core Γ P al o st = some (x, m) → (o.guard = none ∨ ∃ j t, o.guard = some (j, t) ∧ yieldS ops st j = some (.v (.bool t))) → StepAt Γ P al ops o st x m := by
      intro h hg
      unfold core at h
      split at h
      · rename_i x' m' h1 h2
        injection h with h
        injection h with e1 e2
        subst e1 e2
        have := opM_some.1 h2
        exact .runs x' m'.blk m'.live m'.rows hg h1 this.1 this.2.1 this.2.2
      · cases h
    unfold stepR at h
    split at h
    · rename_i hg
      exact main h (.inl hg)
    · rename_i j want hg
      split at h
      · rename_i t ht
        cases htw : t == want
        · simp [htw] at h
          obtain ⟨rfl, rfl⟩ := h
          exact .skips j want (.bool t) hg ht (by intro e; injection e with e; subst e; simp at htw)
        · simp [htw] at h
          have : t = want := by simpa using htw
          subst this
          exact main h (.inr ⟨j, t, hg, ht⟩)
      · rename_i y hne hy
        injection h with h
        injection h with e1 e2
        subst e1 e2
        refine .skips j want y hg hy (fun e => ?_)
        subst e
        first | exact hne _ hy | exact hne _ rfl
      · cases h
  · intro h
    cases h with
    | runs x b l w hg hv hb hl hw =>
      have hm : opM Γ al P o st.eval st.mem = some ⟨b, l, w⟩ := opM_some.2 ⟨hb, hl, hw⟩
      rcases hg with hg | ⟨j, t, hg, hy⟩
      · simp [stepR, core, hg, hv, hm]
      · simp [stepR, core, hg, hv, hm, hy]
    | skips j t y hg hy hne =>
      unfold stepR
      simp only [hg, hy]
      cases y with
      | bool b =>
        have : (b == t) = false := by cases b <;> cases t <;> simp at hne ⊢
        simp [this]
      | _ => rfl
end
end Go.Sx

namespace Go.Sx
open Go.RowKit

section
variable {P : Program} {al : Al} {Γ : Orc} {ops : Array Oper} {w0 : World} {Q : Exit → Act → World → Prop}

theorem eval_put {st : St} {d : Option Tmp} {x : SV} {m : Mem} {y : Operand} (h : ∀ t, d = some t → y ≠ .tmp t) : (({ st with mem := m } : St).put d x).eval y = st.eval y := by
  cases d with
  | none => cases y <;> rfl
  | some t =>
    cases y with
    | tmp u =>
      have : t ≠ u := fun e => h t rfl (e ▸ rfl)
      simp [St.eval, St.put, Tr.get_set_ne _ _ _ _ this]
    | _ => rfl

theorem yieldS_put {st : St} {d : Option Tmp} {x : SV} {m : Mem} {j : Nat} (h : ∀ t, d = some t → (ops[j]?).bind (·.dst) ≠ some t) : yieldS ops (({ st with mem := m } : St).put d x) j = yieldS ops st j := by
  cases d with
  | none => rfl
  | some t =>
    unfold yieldS
    cases hd : (ops[j]?).bind (·.dst) with
    | none => rfl
    | some u =>
      have : t ≠ u := fun e => h t rfl (by rw [hd, e])
      simp [St.put, Tr.get_set_ne _ _ _ _ this]

theorem looks_eval {o : Oper} {st : St} {d : Option Tmp} {z : SV} {m1 : Mem} (hd : ∀ t, d = some t → t ∉ o.looksAt ops) :
    (∀ y ∈ o.op.operands, (({ st with mem := m1 } : St).put d z).eval y = st.eval y) ∧ (∀ j t, o.guard = some (j, t) → yieldS ops (({ st with mem := m1 } : St).put d z) j = yieldS ops st j) :=
  ⟨fun y hy => eval_put fun t ht hyt => hd t ht (by
    subst hyt
    exact List.mem_append_left _ (List.mem_filterMap.2 ⟨.tmp t, by simpa using hy, rfl⟩)),
  fun j t hg => yieldS_put fun u hu hju => hd u hu (by
    refine List.mem_append_right _ ?_
    simp [hg, hju])⟩

theorem put_mem {st : St} {m : Mem} {d : Option Tmp} {x : SV} : (({ st with mem := m } : St).put d x).mem = m := by cases d <;> rfl

theorem put_put_comm {st : St} {m : Mem} {d e : Option Tmp} (x y : SV) (h : ∀ t, d = some t → e ≠ some t) : ((({ st with mem := m } : St).put d x)).put e y = (({ st with mem := m } : St).put e y).put d x := by
  cases d with
  | none => cases e <;> rfl
  | some t =>
    cases e with
    | none => rfl
    | some u =>
      have : t ≠ u := fun he => h t rfl (he ▸ rfl)
      simp [St.put, Tr.set_comm _ _ _ _ _ this]

theorem with_mem_put {st : St} {m m' : Mem} {d : Option Tmp} {x : SV} : ({ (({ st with mem := m } : St).put d x) with mem := m' } : St) = ({ st with mem := m' } : St).put d x := by
  cases d <;> rfl

theorem opL_comm {oi oj : Oper} {l l1 l2 : List Bool} (h1 : opL al oi l = some l1) (h2 : opL al oj l1 = some l2) : ∃ l', opL al oj l = some l' ∧ opL al oi l' = some l2 := by
  have other : ∀ (o : Oper) (l : List Bool), (∀ e, o.op ≠ .alloc e) → opL al o l = some l := by
    intro o l hne
    unfold opL
    cases hop : o.op
    case alloc e => exact absurd hop (hne e)
    all_goals rfl
  by_cases hi : ∃ e, oi.op = .alloc e
  · by_cases hj : ∃ e, oj.op = .alloc e
    · obtain ⟨e, hi⟩ := hi
      obtain ⟨e', hj⟩ := hj
      unfold opL at *
      simp only [hi] at h1 ⊢
      simp only [hj] at h2 ⊢
      cases hli : lookAl al.a oi.dst with
      | none => simp [hli] at h1
      | some qi =>
        obtain ⟨ii, ei⟩ := qi
        cases hlj : lookAl al.a oj.dst with
        | none => simp [hlj] at h2
        | some qj =>
          obtain ⟨jj, ej⟩ := qj
          simp only [hli] at h1 ⊢
          simp only [hlj] at h2 ⊢
          cases hb : l[ii]? with
          | none => simp [hb] at h1
          | some b =>
            cases b with
            | true => simp [hb] at h1
            | false =>
              simp [hb] at h1
              subst h1
              have hne : ii ≠ jj := by
                rintro rfl
                rw [List.getElem?_set_self'] at h2
                simp [hb] at h2
              rw [List.getElem?_set_ne hne] at h2
              cases hb2 : l[jj]? with
              | none => simp [hb2] at h2
              | some b2 =>
                cases b2 with
                | true => simp [hb2] at h2
                | false =>
                  simp [hb2] at h2
                  subst h2
                  refine ⟨l.set jj true, rfl, ?_⟩
                  rw [List.getElem?_set_ne (Ne.symm hne), hb]
                  simp [List.set_comm _ _ hne]
    · rw [other oj _ (fun e he => hj ⟨e, he⟩)] at h2
      injection h2 with h2
      subst h2
      exact ⟨l, other oj _ (fun e he => hj ⟨e, he⟩), h1⟩
  · rw [other oi _ (fun e he => hi ⟨e, he⟩)] at h1
    injection h1 with h1
    subst h1
    exact ⟨l2, h2, other oi _ (fun e he => hi ⟨e, he⟩)⟩

theorem clash_spec {a b : Oper} (h : clash P al a b = false) : (isStore a.op = true → isLoad b.op = false ∧ isStore b.op = false) ∧ (isStore b.op = true → isLoad a.op = false ∧ isStore a.op = false) ∧ (mkRow al a = true → rowReader P b.op = false) := by
  unfold clash at h
  cases h1 : isLoad a.op <;> cases h2 : isLoad b.op <;> cases h3 : isStore a.op <;> cases h4 : isStore b.op <;> simp_all

theorem rowAt_set {rows : List RowS} {l : Nat} {rc : RowC} (hp : rows[l]? = some .pend) : ∀ r c, rowAt rows r = some c → rowAt (rows.set l (.live rc)) r = some c := by
  intro r c h
  have hne : l ≠ r := by
    rintro rfl
    simp [rowAt, hp] at h
  unfold rowAt at *
  rw [List.getElem?_set_ne hne]
  exact h

theorem opW_comm {oi oj : Oper} (hcl : mkRow al oi = true → rowReader P oj.op = false) {evi evj : Operand → Option SV} {bi bj : List (List SV)} {r0 w1 w2 : List RowS} {x y : SV}
    (hvi : opV Γ P al oi evi bi r0 = some x) (hwi : opW Γ P al oi evi r0 = some w1) (hvj : opV Γ P al oj evj bj w1 = some y) (hwj : opW Γ P al oj evj w1 = some w2) :
    ∃ w', opV Γ P al oj evj bj r0 = some y ∧ opW Γ P al oj evj r0 = some w' ∧ opV Γ P al oi evi bi w' = some x ∧ opW Γ P al oi evi w' = some w2 := by
  rcases opW_cases hvi hwi with ⟨rfl, gi⟩ | ⟨hci, l, rc, hp, rfl, gi⟩
  · rcases opW_cases hvj hwj with ⟨rfl, gj⟩ | ⟨hcj, l, rc, hp, rfl, gj⟩
    · exact ⟨w2, hvj, hwj, hvi, hwi⟩
    · have ht : RowsTo P oi w1 (w1.set l (.live rc)) := .inl (rowAt_set hp)
      exact ⟨_, hvj, hwj, opV_to ht hvi, gi _ ht⟩
  · have hrr := hcl hci
    rcases opW_cases hvj hwj with ⟨rfl, gj⟩ | ⟨hcj, l2, rc2, hp2, rfl, gj⟩
    · exact ⟨r0, opV_to (.inr hrr) hvj, gj _ (.inr hrr), hvi, hwi⟩
    · have hne : l ≠ l2 := by
        rintro rfl
        rw [List.getElem?_set_self'] at hp2
        simp [hp] at hp2
      have hp2' : r0[l2]? = some .pend := by rwa [List.getElem?_set_ne hne] at hp2
      have ht : RowsTo P oi r0 (r0.set l2 (.live rc2)) := .inl (rowAt_set hp2')
      refine ⟨_, opV_to (.inr hrr) hvj, gj _ (.inr hrr) hp2', opV_to ht hvi, ?_⟩
      rw [gi _ ht (by rw [List.getElem?_set_ne (Ne.symm hne)]; exact hp), List.set_comm _ _ hne]

theorem stepS_comm {oi oj : Oper} (hap : oi.apart ops oj = true) (hcl : clash P al oi oj = false) {st s1 s2 : St} (h1 : stepS Γ P (some al) ops oi st = some s1) (h2 : stepS Γ P (some al) ops oj s1 = some s2) :
    ∃ s', stepS Γ P (some al) ops oj st = some s' ∧ stepS Γ P (some al) ops oi s' = some s2 := by
  obtain ⟨a1, a2, a3⟩ := Oper.apart_spec hap
  obtain ⟨c1, c2, c3⟩ := clash_spec hcl
  rw [stepS_eq] at h1 h2
  cases hi : stepR Γ P al ops oi st with
  | none => simp [hi] at h1
  | some q1 =>
    obtain ⟨x, m1⟩ := q1
    simp [hi] at h1
    subst h1
    cases hj : stepR Γ P al ops oj (({ st with mem := m1 } : St).put oi.dst x) with
    | none => simp [hj] at h2
    | some q2 =>
      obtain ⟨y, m2⟩ := q2
      simp [hj] at h2
      rw [with_mem_put] at h2
      rw [stepR_iff] at hi hj
      have fin : ∀ m', StepAt Γ P al ops oj st y m' → StepAt Γ P al ops oi (({ st with mem := m' } : St).put oj.dst y) x m2 →
          ∃ s', stepS Γ P (some al) ops oj st = some s' ∧ stepS Γ P (some al) ops oi s' = some s2 := by
        intro m' g1 g2
        refine ⟨({ st with mem := m' } : St).put oj.dst y, ?_, ?_⟩
        · rw [stepS_eq, stepR_iff.2 g1]; rfl
        · rw [stepS_eq, stepR_iff.2 g2, ← h2]
          simp only [Option.map_some, with_mem_put]
          rw [put_put_comm x y a2]
      obtain ⟨ej, yj⟩ := looks_eval (o := oj) (st := st) (z := x) (m1 := m1) a1
      obtain ⟨ei, yi⟩ : (∀ m', ∀ z ∈ oi.op.operands, (({ st with mem := m' } : St).put oj.dst y).eval z = st.eval z) ∧ (∀ m', ∀ j t, oi.guard = some (j, t) → yieldS ops (({ st with mem := m' } : St).put oj.dst y) j = yieldS ops st j) :=
        ⟨fun m' => (looks_eval (o := oi) (st := st) (z := y) (m1 := m') a3).1, fun m' => (looks_eval (o := oi) (st := st) (z := y) (m1 := m') a3).2⟩
      cases hi with
      | runs _ b1 l1 r1 hgi hvi hbi hli hwi =>
        have hgi' : ∀ m', oi.guard = none ∨ ∃ j t, oi.guard = some (j, t) ∧ yieldS ops (({ st with mem := m' } : St).put oj.dst y) j = some (.v (.bool t)) := by
          intro m'
          rcases hgi with hg | ⟨j, t, hg, hy⟩
          · exact .inl hg
          · exact .inr ⟨j, t, hg, by rw [yi m' j t hg]; exact hy⟩
        cases hj with
        | runs _ b2 l2 r2 hgj hvj hbj hlj hwj =>
          rw [put_mem] at hvj hbj hlj hwj
          simp only at hvj hbj hlj hwj
          obtain ⟨l', hl1, hl2⟩ := opL_comm hli hlj
          rw [opV_congr ej (fun _ => rfl)] at hvj
          rw [opW_congr ej] at hwj
          rw [opB_congr ej] at hbj
          obtain ⟨r', hvj', hwj', hvi', hwi'⟩ := opW_comm c3 hvi hwi hvj hwj
          have hgj' : oj.guard = none ∨ ∃ j t, oj.guard = some (j, t) ∧ yieldS ops st j = some (.v (.bool t)) := by
            rcases hgj with hg | ⟨j, t, hg, hy⟩
            · exact .inl hg
            · exact .inr ⟨j, t, hg, by rw [← yj j t hg]; exact hy⟩
          cases hs : isStore oi.op with
          | true =>
            obtain ⟨d1, d2⟩ := c1 hs
            rw [opB_other d2] at hbj
            injection hbj with hbj
            subst hbj
            refine fin ⟨st.mem.blk, l', r'⟩ (.runs y _ _ _ hgj' ?_ (opB_other d2) hl1 hwj') (.runs x _ _ _ (hgi' _) ?_ ?_ (by rw [put_mem]; exact hl2) ?_)
            · exact (opV_congr (fun _ _ => rfl) (fun h => by rw [d1] at h; cases h)).symm.trans hvj'
            · rw [put_mem, opV_congr (ei _) (fun _ => rfl)]; exact hvi'
            · rw [put_mem, opB_congr (ei _)]; exact hbi
            · rw [put_mem, opW_congr (ei _)]; exact hwi'
          | false =>
            rw [opB_other hs] at hbi
            injection hbi with hbi
            subst hbi
            refine fin ⟨b2, l', r'⟩ (.runs y _ _ _ hgj' hvj' hbj hl1 hwj') (.runs x _ _ _ (hgi' _) ?_ (by rw [put_mem]; exact opB_other hs) (by rw [put_mem]; exact hl2) ?_)
            · rw [put_mem, opV_congr (ei _) (blk' := st.mem.blk)]
              · exact hvi'
              · intro hld
                cases hsj : isStore oj.op with
                | true => rw [(c2 hsj).1] at hld; cases hld
                | false =>
                  rw [opB_other hsj] at hbj
                  injection hbj with hbj
                  exact hbj.symm
            · rw [put_mem, opW_congr (ei _)]; exact hwi'
        | skips j t u hg hy hne =>
          rw [put_mem] at *
          refine fin st.mem (.skips j t u hg (by rw [← yj j t hg]; exact hy) hne) (.runs x _ _ _ (hgi' _) ?_ ?_ (by rw [put_mem]; exact hli) ?_)
          · rw [put_mem, opV_congr (ei _) (fun _ => rfl)]; exact hvi
          · rw [put_mem, opB_congr (ei _)]; exact hbi
          · rw [put_mem, opW_congr (ei _)]; exact hwi
      | skips j t u hg hy hne =>
        cases hj with
        | runs _ b2 l2 r2 hgj hvj hbj hlj hwj =>
          rw [put_mem] at hvj hbj hlj hwj
          have hgj' : oj.guard = none ∨ ∃ j t, oj.guard = some (j, t) ∧ yieldS ops st j = some (.v (.bool t)) := by
            rcases hgj with hg | ⟨j, t, hg, hy⟩
            · exact .inl hg
            · exact .inr ⟨j, t, hg, by rw [← yj j t hg]; exact hy⟩
          refine fin ⟨b2, l2, r2⟩ (.runs y _ _ _ hgj' ?_ ?_ hlj ?_) ?_
          · rw [← opV_congr ej (fun _ => rfl)]; exact hvj
          · rw [← opB_congr ej]; exact hbj
          · rw [← opW_congr ej]; exact hwj
          · have := StepAt.skips (Γ := Γ) (P := P) (al := al) (o := oi) (st := (({ st with mem := ⟨b2, l2, r2⟩ } : St).put oj.dst y)) j t u hg (by rw [yi _ j t hg]; exact hy) hne
            rwa [put_mem] at this
        | skips j' t' u' hg' hy' hne' =>
          rw [put_mem] at *
          refine fin st.mem (.skips j' t' u' hg' (by rw [← yj j' t' hg']; exact hy') hne') ?_
          have := StepAt.skips (Γ := Γ) (P := P) (al := al) (o := oi) (st := (({ st with mem := st.mem } : St).put oj.dst (.v undef))) j t u hg (by rw [yi _ j t hg]; exact hy) hne
          rwa [put_mem] at this
end
end Go.Sx

namespace Go.Sx
open Go.RowKit

def waitsB (ops : Array Oper) (j i : Nat) : Bool :=
  match ops[j]? with
  | some oj => oj.after.any fun e => Region.binds .any e && e.on == i
  | none => false

def freeS (P : Program) (al : Al) (ops : Array Oper) (listed : Array Bool) (k : Nat) : Bool :=
  match ops[k]? with
  | some ok => (List.range ops.size).all fun j => listed.getD j true || j == k || waitsB ops j k ||
    (match ops[j]? with
     | some oj => ok.apart ops oj && !clash P al ok oj
     | none => false)
  | none => false

/-- An order of a region's operations in which each one, when it comes, is ready, and may as well come before all that are left. -/
def lexS (P : Program) (al : Al) (ops : Array Oper) : Nat → Array Bool → Option (List Nat)
  | 0, listed => match Region.ready .any ops listed with
    | [] => some []
    | _ :: _ => none
  | f + 1, listed => match Region.ready .any ops listed with
    | [] => some []
    | r => match r.find? (freeS P al ops listed) with
      | some k => match lexS P al ops f (listed.setIfInBounds k true) with
        | some l => some (k :: l)
        | none => none
      | none => none

def stepsO (Γ : Orc) (P : Program) (al : Option Al) (ops : Array Oper) : List Nat → St → Option St
  | [], st => some st
  | k :: r, st => match ops[k]? with
    | some o => match stepS Γ P al ops o st with
      | some st' => stepsO Γ P al ops r st'
      | none => none
    | none => none

section
variable {P : Program} {al : Al} {Γ : Orc} {ops : Array Oper} {w0 : World} {Q : Exit → Act → World → Prop}

/-- Whatever order is picked from here on, the steps go through and come to the same. -/
def sAny (Γ : Orc) (P : Program) (al : Al) (ops : Array Oper) (T : St → Prop) : Nat → Array Bool → St → Prop
  | 0, listed, st => Region.ready .any ops listed = [] ∧ T st
  | f + 1, listed, st => (Region.ready .any ops listed = [] → T st) ∧
    ∀ i ∈ Region.ready .any ops listed, ∃ o st', ops[i]? = some o ∧ stepS Γ P (some al) ops o st = some st' ∧ sAny Γ P al ops T f (listed.setIfInBounds i true) st'

theorem sAny_first {T : St → Prop} {i : Nat} {oi : Oper} (hi : ops[i]? = some oi) : ∀ (f : Nat) (listed : Array Bool) (st st1 : St),
    (∀ j oj, ops[j]? = some oj → j ≠ i → listed.getD j true = false → (∀ e ∈ oj.after, Region.binds .any e = true → e.on ≠ i) → oi.apart ops oj = true ∧ clash P al oi oj = false) →
    i ∈ Region.ready .any ops listed → stepS Γ P (some al) ops oi st = some st1 → sAny Γ P al ops T f (listed.setIfInBounds i true) st1 → sAny Γ P al ops T (f + 1) listed st := by
  intro f
  induction f with
  | zero =>
    intro listed st st1 _ hr hs H
    refine ⟨fun h => (by rw [h] at hr; cases hr), fun j hj => ?_⟩
    by_cases hji : j = i
    · subst hji; exact ⟨oi, st1, hi, hs, H⟩
    · have := ready_mono hj hji
      rw [H.1] at this
      cases this
  | succ f ih =>
    intro listed st st1 hfree hr hs H
    refine ⟨fun h => (by rw [h] at hr; cases hr), fun j hj => ?_⟩
    by_cases hji : j = i
    · subst hji; exact ⟨oi, st1, hi, hs, H⟩
    · obtain ⟨oj, s2, hoj, h2, H2⟩ := H.2 j (ready_mono hj hji)
      obtain ⟨hjun, oj', hoj', hall⟩ := mem_ready.1 hj
      have : oj' = oj := Option.some.inj (hoj'.symm.trans hoj)
      subst this
      have hnot : ∀ e ∈ oj'.after, Region.binds .any e = true → e.on ≠ i := fun e he hb heq => by
        have h1 := hall e he hb
        have h0 := (mem_ready.1 hr).1
        rw [heq] at h1
        rcases Nat.lt_or_ge i listed.size with h' | h'
        · simp [h'] at h0 h1; rw [h0] at h1; cases h1
        · simp [Array.getElem?_eq_none h'] at h1
      obtain ⟨hap, hcl⟩ := hfree j oj' hoj hji hjun hnot
      obtain ⟨s', g1, g2⟩ := stepS_comm hap hcl hs h2
      have hfree' : ∀ k ok, ops[k]? = some ok → k ≠ i → (listed.setIfInBounds j true).getD k true = false →
          (∀ e ∈ ok.after, Region.binds .any e = true → e.on ≠ i) → oi.apart ops ok = true ∧ clash P al oi ok = false := fun k ok hk hki hun hno => by
        refine hfree k ok hk hki ?_ hno
        by_cases hjk : j = k
        · subst hjk; exact hjun
        · rw [getD_set_ne true hjk] at hun; exact hun
      refine ⟨oj', s', hoj, g1, ih (listed.setIfInBounds j true) s' s2 hfree' (ready_mono hr (Ne.symm hji)) g2 ?_⟩
      rw [Array.setIfInBounds_comm _ _ hji]
      exact H2

theorem freeS_spec {listed : Array Bool} {k : Nat} {ok : Oper} (hk : ops[k]? = some ok) (h : freeS P al ops listed k = true) :
    ∀ j oj, ops[j]? = some oj → j ≠ k → listed.getD j true = false → (∀ e ∈ oj.after, Region.binds .any e = true → e.on ≠ k) → ok.apart ops oj = true ∧ clash P al ok oj = false := by
  intro j oj hj hjk hl hno
  unfold freeS at h
  simp only [hk, List.all_eq_true, List.mem_range] at h
  have hlt : j < ops.size := by
    rcases Nat.lt_or_ge j ops.size with h' | h'
    · exact h'
    · simp [Array.getElem?_eq_none h'] at hj
  have := h j hlt
  have hw : waitsB ops j k = false := by
    unfold waitsB
    simp only [hj]
    rw [← Bool.not_eq_true, Array.any_eq_true']
    rintro ⟨e, he, hb⟩
    simp only [Bool.and_eq_true, beq_iff_eq] at hb
    exact hno e he hb.1 hb.2
  simp only [hl, hw, hj, Bool.false_or, Bool.or_false, Bool.or_eq_true, beq_iff_eq, Bool.and_eq_true, Bool.not_eq_true'] at this
  rcases this with h1 | h1
  · exact absurd h1 hjk
  · exact h1

theorem sAny_lex {T : St → Prop} : ∀ (f : Nat) (listed : Array Bool) (ord : List Nat) (st st' : St), lexS P al ops f listed = some ord →
    stepsO Γ P (some al) ops ord st = some st' → T st' → sAny Γ P al ops T f listed st
  | 0, listed, ord, st, st', hB, hS, hT => by
    unfold lexS at hB
    split at hB
    · rename_i hr
      injection hB with hB
      subst hB
      injection hS with hS
      subst hS
      exact ⟨hr, hT⟩
    · cases hB
  | f + 1, listed, ord, st, st', hB, hS, hT => by
    unfold lexS at hB
    split at hB
    · rename_i hr
      injection hB with hB
      subst hB
      injection hS with hS
      subst hS
      exact ⟨fun _ => hT, fun i hi => by rw [hr] at hi; cases hi⟩
    · split at hB
      · rename_i k hk
        split at hB
        · rename_i l hl
          injection hB with hB
          subst hB
          unfold stepsO at hS
          split at hS
          · rename_i o ho
            split at hS
            · rename_i st1 h1
              have hf : freeS P al ops listed k = true := List.find?_some hk
              exact sAny_first ho f listed st st1 (freeS_spec ho hf) (List.mem_of_find?_eq_some hk) h1 (sAny_lex f _ l st1 st' hl hS hT)
            · cases hS
          · cases hS
        · cases hB
      · cases hB

theorem wpAny_of_sAny (hΓ : Γ.Ok P) {st' : St} (hQ : ∀ a w, RelP P al w0 st' a w → Q .normal a w) : ∀ (f : Nat) (listed : Array Bool) (st : St) (a : Act) (w : World),
    sAny Γ P al ops (· = st') f listed st → RelP P al w0 st a w → wpAny P .any ops Q f listed a w
  | 0, listed, st, a, w, h, hR => ⟨h.1, hQ a w (by have := h.2; subst this; exact hR)⟩
  | f + 1, listed, st, a, w, h, hR => ⟨fun h0 => hQ a w (by have := h.1 h0; subst this; exact hR), fun i hi => by
      obtain ⟨o, s1, ho, hs, hn⟩ := h.2 i hi
      exact wpOp_of_stepS (al := some al) hΓ ho hs hR (fun a w hR' => wpAny_of_sAny hΓ hQ f _ s1 a w hn hR')⟩

/-- The blocks and rows that a region's operations will make. -/
def preAl (P : Program) : List Oper → Mem → Option (Al × Mem)
  | [], m => some (⟨[], []⟩, m)
  | o :: r, m => match o.op, o.dst with
    | .alloc e, some d => match zeroT P e, m.blk.length == m.live.length with
      | some z, true => match preAl P r ⟨m.blk ++ [z.cells.toList.map .v], m.live ++ [false], m.rows⟩ with
        | some (al, m') => some (⟨(d, m.blk.length, e) :: al.a, al.r⟩, m')
        | none => none
      | _, _ => none
    | .call { callee := .value (.func _), .. }, some d => match isSliceT P o.type with
      | true => match preAl P r ⟨m.blk, m.live, m.rows ++ [.pend]⟩ with
        | some (al, m') => some (⟨al.a, (d, m.rows.length) :: al.r⟩, m')
        | none => none
      | false => preAl P r m
    | _, _ => preAl P r m

theorem preAl_ok {a : Act} {w : World} {V : Vl} : ∀ (l : List Oper) (st : St) (al : Al) (m' : Mem), preAl P l st.mem = some (al, m') → Rel w0 st V a w →
    Rel w0 { st with mem := m' } V a w ∧ Pend P al { st with mem := m' } V ∧ (∀ (i : Nat) x, st.mem.blk[i]? = some x → m'.blk[i]? = some x)
  | [], st, al, m', h, hR => by
    simp only [preAl] at h
    injection h with h
    injection h with e1 e2
    subst e1 e2
    exact ⟨hR, (fun _ _ _ hm => by cases hm), fun _ _ h => h⟩
  | o :: r, st, al, m', h, hR => by
    unfold preAl at h
    split at h
    · rename_i e d hop hd
      split at h
      · rename_i z hz hlen
        split at h
        · rename_i al' m'' hrec
          injection h with h
          injection h with e1 e2
          subst e1 e2
          have hlen' : st.mem.blk.length = st.mem.live.length := by simpa using hlen
          have hR1 := (hR.extend (z.cells.toList.map .v) false).resolve_right (fun h => h hlen')
          obtain ⟨g1, g2, g3⟩ := preAl_ok r { st with mem := ⟨st.mem.blk ++ [z.cells.toList.map .v], st.mem.live ++ [false], st.mem.rows⟩ } al' m'' hrec hR1
          refine ⟨g1, fun d' l' e' hm hn => ?_, fun i x hx => g3 i x ?_⟩
          · rcases List.mem_cons.1 hm with hm | hm
            · injection hm with e1 e2
              injection e2 with e2 e3
              subst e1 e2 e3
              exact ⟨z, hz, g3 _ _ (by simp)⟩
            · exact g2 d' l' e' hm hn
          · simp only
            have hlt : i < st.mem.blk.length := by
              rcases Nat.lt_or_ge i st.mem.blk.length with h' | h'
              · exact h'
              · simp [List.getElem?_eq_none h'] at hx
            rw [List.getElem?_append_left hlt]
            exact hx
        · cases h
      · cases h
    · split at h
      · split at h
        · rename_i al' m'' hrec
          injection h with h
          injection h with e1 e2
          subst e1 e2
          obtain ⟨g1, g2, g3⟩ := preAl_ok r { st with mem := ⟨st.mem.blk, st.mem.live, st.mem.rows ++ [.pend]⟩ } al' m'' hrec hR.pendRow
          exact ⟨g1, g2, g3⟩
        · cases h
      · exact preAl_ok r st al m' h hR
    · exact preAl_ok r st al m' h hR

theorem Rel.RelP0 {a : Act} {w : World} {st : St} {V : Vl} (h : Rel w0 st V a w) : RelP P ⟨[], []⟩ w0 st a w := ⟨V, h, fun _ _ _ hm => by cases hm⟩

/-- A region that draws its order. -/
theorem region_draw_sound (hΓ : Γ.Ok P) (hm : P.follows .mixedOrders = true) {id : Nat} {st st' : St} {a : Act} {w : World} {m : Mem} {ord : List Nat} (hlex : lexS P al ops ops.size (Array.replicate ops.size false) = some ord) (hpre : preAl P ops.toList st.mem = some (al, m))
    (hS : stepsO Γ P (some al) ops ord { st with mem := m } = some st') (h : RelP P ⟨[], []⟩ w0 st a w) (hQ : ∀ a w, RelP P ⟨[], []⟩ w0 st' a w → Q .normal a w) : (Code.region id ops true).wp P Q a w := by
  obtain ⟨V, hR, _⟩ := h
  obtain ⟨g1, g2, _⟩ := preAl_ok ops.toList st al m hpre hR
  refine wp_region_any hm ?_
  have hs := sAny_lex (Γ := Γ) (P := P) (al := al) (ops := ops) (T := (· = st')) ops.size (Array.replicate ops.size false) ord _ st' hlex hS rfl
  exact wpAny_of_sAny hΓ (fun a w ⟨V', hR', _⟩ => hQ a w hR'.RelP0) _ _ _ a _ hs ⟨V, g1.drew, g2⟩

theorem region_plain_sound (hΓ : Γ.Ok P) {id : Nat} {st st' : St} {a : Act} {w : World} (hS : stepsS Γ P none ops ops.toList st = some st') (h : RelP P ⟨[], []⟩ w0 st a w) (hQ : ∀ a w, RelP P ⟨[], []⟩ w0 st' a w → Q .normal a w) : (Code.region id ops false).wp P Q a w := by
  refine wp_region ?_
  have := region_sound (al := none) (Q := Q) hΓ ops.toList 0 st a w (by simp) hS h hQ
  rwa [Array.length_toList, ← List.range_eq_range'] at this
end
end Go.Sx

namespace Go.Sx
open Go.RowKit

inductive Ex where
  | normal
  | exit (id : Nat)
  | ret

def Ex.out : Ex → Exit
  | .normal => .normal
  | .exit id => .exit id
  | .ret => .ret

/-! Forcing: each hands its argument on, taken apart as far as its constructors go. -/
section
variable {R : Type}

def fL {α : Type} (f : α → (α → R) → R) : List α → (List α → R) → R
  | [], k => k []
  | x :: r, k => f x (fun x => fL f r (fun r => k (x :: r)))

theorem fL_eq {α : Type} {f : α → (α → R) → R} (hf : ∀ x k, f x k = k x) : ∀ (l : List α) (k : List α → R), fL f l k = k l
  | [], k => rfl
  | x :: r, k => by simp only [fL, hf, fL_eq hf r]

def fN (n : Nat) (k : Nat → R) : R :=
  match n with
  | 0 => k 0
  | n + 1 => k (n + 1)
theorem fN_eq (n : Nat) (k : Nat → R) : fN n k = k n := by cases n <;> rfl

def fI (c : Bool) (n : Int) (k : Int → R) : R :=
  match c with
  | false => k n
  | true => match n with
    | .ofNat m => fN m (fun m => k (.ofNat m))
    | .negSucc m => fN m (fun m => k (.negSucc m))
theorem fI_eq (c : Bool) (n : Int) (k : Int → R) : fI c n k = k n := by cases c <;> cases n <;> simp [fI, fN_eq]

def fT (c : Bool) (b : Bool) (k : Bool → R) : R :=
  match c with
  | false => k b
  | true => match b with
    | true => k true
    | false => k false
theorem fT_eq (c : Bool) (b : Bool) (k : Bool → R) : fT c b k = k b := by cases c <;> cases b <;> rfl

def fC (c : Bool) (x : Value) (k : Value → R) : R :=
  match x with
  | .int a n => fI c n (fun n => k (.int a n))
  | .bool b => fT c b (fun b => k (.bool b))
  | y => k y
theorem fC_eq (c : Bool) (x : Value) (k : Value → R) : fC c x k = k x := by cases x <;> simp [fC, fI_eq, fT_eq]

def fA (c : Bool) (x : Value) (k : Value → R) : R :=
  match x with
  | .int a n => fI c n (fun n => k (.int a n))
  | .bool b => fT c b (fun b => k (.bool b))
  | .agg cs => fL (fC c) cs.toList (fun l => k (.agg l.toArray))
  | y => k y
theorem fA_eq (c : Bool) (x : Value) (k : Value → R) : fA c x k = k x := by
  cases x <;> simp [fA, fI_eq, fT_eq, fL_eq (fC_eq c)]

def fV (c : Bool) (x : Value) (k : Value → R) : R :=
  match x with
  | .int a n => fI c n (fun n => k (.int a n))
  | .bool b => fT c b (fun b => k (.bool b))
  | .agg cs => fL (fC c) cs.toList (fun l => k (.agg l.toArray))
  | .tuple cs => fL (fA c) cs.toList (fun l => k (.tuple l.toArray))
  | y => k y
theorem fV_eq (c : Bool) (x : Value) (k : Value → R) : fV c x k = k x := by
  cases x <;> simp [fV, fI_eq, fT_eq, fL_eq (fC_eq c), fL_eq (fA_eq c)]

def fS (c : Bool) (x : SV) (k : SV → R) : R :=
  match x with
  | .v y => fV c y (fun y => k (.v y))
  | .ptr l o => fN l (fun l => fN o (fun o => k (.ptr l o)))
  | .row r => fN r (fun r => k (.row r))
  | .rp r i => fN r (fun r => fI c i (fun i => k (.rp r i)))
  | .poison => k .poison
theorem fS_eq (c : Bool) (x : SV) (k : SV → R) : fS c x k = k x := by cases x <;> simp [fS, fV_eq, fN_eq, fI_eq]

def fRow (c : Bool) (x : RowS) (k : RowS → R) : R :=
  match c with
  | false => k x
  | true => match x with
    | .live rc => fL (fI true) rc.L (fun L => k (.live { rc with L := L }))
    | y => k y
theorem fRow_eq (c : Bool) (x : RowS) (k : RowS → R) : fRow c x k = k x := by
  cases c
  · rfl
  · cases x <;> simp [fRow, fL_eq (fI_eq true)]

def fTr (c : Bool) : Tr → (Tr → R) → R
  | .lf, k => k .lf
  | .nd l x r, k => fTr c l fun l => fS c x fun x => fTr c r fun r => k (.nd l x r)
theorem fTr_eq (c : Bool) : ∀ (t : Tr) (k : Tr → R), fTr c t k = k t
  | .lf, k => rfl
  | .nd l x r, k => by simp only [fTr, fTr_eq c l, fS_eq, fTr_eq c r]

def fSt (c : Bool) (st : St) (k : St → R) : R :=
  fTr c st.tmps fun t => fL (fL (fS c)) st.mem.blk fun b => fL (fT true) st.mem.live fun l => fL (fRow c) st.mem.rows fun r => k ⟨t, ⟨b, l, r⟩⟩
theorem fSt_eq (c : Bool) (st : St) (k : St → R) : fSt c st k = k st := by
  unfold fSt
  rw [fTr_eq c, fL_eq (fun x k => fL_eq (fS_eq c) x k), fL_eq (fT_eq true), fL_eq (fRow_eq c)]
end

def setOp (st : St) (c : Operand) (t : Bool) : St :=
  match c with
  | .tmp n => { st with tmps := st.tmps.set n (.v (.bool t)) }
  | _ => st

def setG (ops : Array Oper) (st : St) (j : Nat) (t : Bool) : St :=
  match (ops[j]?).bind (·.dst) with
  | some n => { st with tmps := st.tmps.set n (.v (.bool t)) }
  | none => st

theorem setOp_eq {st : St} {c : Operand} {t : Bool} (h : st.eval c = some (.v (.bool t))) : setOp st c t = st := by
  cases c with
  | tmp n => simp only [setOp]; rw [Tr.set_self _ _ _ h]
  | _ => rfl

theorem setG_eq {ops : Array Oper} {st : St} {j : Nat} {t : Bool} (h : yieldS ops st j = some (.v (.bool t))) : setG ops st j t = st := by
  unfold setG
  unfold yieldS at h
  cases hd : (ops[j]?).bind (·.dst) with
  | none => rfl
  | some n => simp only; rw [Tr.set_self _ _ _ (by simpa [hd] using h)]

section
variable {R : Type} (Γ : Orc) (P : Program)

def goR (o : Oper) (st : St) (q : Option (SV × Mem)) (k : St → Option R) : Option R :=
  match q with
  | some (x, m) => fS Γ.conc x (fun x => k (({ st with mem := m } : St).put o.dst x))
  | none => none

def goV (o : Oper) (st : St) (x : SV) (k : St → Option R) : Option R := fS Γ.conc x (fun x => k (st.put o.dst x))

def goM (o : Oper) (st : St) (x : SV) (m : Mem) (k : St → Option R) : Option R := fS Γ.conc x (fun x => k (({ st with mem := m } : St).put o.dst x))

/-- An operation that goes through under a test. -/
def opG (al : Option Al) (o : Oper) (st : St) : Option (Bool × SV × Mem) :=
  match o.op with
  | .indexAddr t x ix => match st.eval x, st.eval ix, P.underlying t with
    | some (.row r), some (.v (.int _ i)), some (.slice e) => match rowAt st.mem.rows r, sizT P e with
      | some rc, some 1 => some (decide (0 ≤ i) && decide (i < rc.L.length), .rp r i, st.mem)
      | _, _ => none
    | _, _, _ => none
  | .index t x ix => match st.eval x, st.eval ix, P.underlying t with
    | some (.v (.string s)), some (.v (.int _ i)), some .string => some (decide (0 ≤ i) && decide (i < (s.size : Int)), .v (.int .u8 (strAt s i)), st.mem)
    | _, _, _ => none
  | .makeSlice t l c => match al with
    | some _ => none
    | none => match elemT P t, st.eval l, st.eval c with
      | some (e, k, z, bytes), some (.v (.int _ x)), some (.v (.int _ y)) =>
        some (decide (0 ≤ x ∧ x = y ∧ (bytes : Int) * x ≤ 281474976710656 ∧ x ≤ 9223372036854775807), .row st.mem.rows.length, withRow st.mem (.live ⟨e, k, List.replicate x.toNat z, true⟩))
      | _, _, _ => none
  | .call { callee := .value (.func f), args, argTypes } => match al with
    | none => match allOps st.eval st.mem.rows args.toList with
      | some vs => match Γ.call f vs with
        | some (g, .v r) => some (g, .v r, st.mem)
        | some (g, .ints e k L) => some (g, .row st.mem.rows.length, withRow st.mem (.live ⟨e, k, L, true⟩))
        | none => none
      | none => none
    | some al => match allOps st.eval (rowsFor P argTypes st.mem.rows) args.toList with
      | some vs => match Γ.call f vs with
        | some (g, .v r) => some (g, .v r, st.mem)
        | some (g, .ints e k L) => match lookR al.r o.dst with
          | some l => match st.mem.rows[l]? with
            | some .pend => some (g, .row l, { st.mem with rows := st.mem.rows.set l (.live ⟨e, k, L, true⟩) })
            | _ => none
          | none => none
        | none => none
      | none => none
  | .call { callee := .builtin .append, args, argTypes } => match al with
    | some _ => none
    | none => match args.toList, argTypes.toList with
      | [s, x], [t, t'] => match elemT P t, st.eval s, st.eval x with
        | some (e, k, _, bytes), some (.row r), some (.row r') => match rowAt st.mem.rows r, rowAt st.mem.rows r' with
          | some rc, some rc' => if t' = t ∧ rc.own = true ∧ rc.e = e ∧ rc.k = k ∧ rc'.k = k then
              some (decide ((rc.L.length + rc'.L.length) * bytes ≤ 140737488355328 ∧ rc.L.length + rc'.L.length ≤ 9223372036854775807),
                .row st.mem.rows.length, { st.mem with rows := st.mem.rows.set r .dead ++ [.live ⟨e, k, rc.L ++ rc'.L, true⟩] })
            else none
          | _, _ => none
        | some (e, k, _, bytes), some (.v (.slice none 0 0)), some (.row r') => match rowAt st.mem.rows r' with
          | some rc' => if t' = t ∧ rc'.k = k then
              some (decide (0 < rc'.L.length ∧ rc'.L.length * bytes ≤ 140737488355328 ∧ rc'.L.length ≤ 9223372036854775807),
                .row st.mem.rows.length, withRow st.mem (.live ⟨e, k, rc'.L, true⟩))
            else none
          | none => none
        | _, _, _ => none
      | _, _ => none
  | _ => none

def goG (al : Option Al) (o : Oper) (st : St) (k : St → Option R) : Option R :=
  match opG Γ P al o st with
  | some (g, x, m) => bif g then goM Γ o st x m k else none
  | none => none

def opK (al : Option Al) (o : Oper) (st : St) (k : St → Option R) : Option R :=
  match o.op with
  | .pick c _ _ => match st.eval c with
    | some (.v (.bool t)) => bif t then goR Γ o (setOp st c true) (opR Γ P al o (setOp st c true)) k else goR Γ o (setOp st c false) (opR Γ P al o (setOp st c false)) k
    | _ => none
  | .binOp .quo _ x y _ => match st.eval x, st.eval y with
    | some (.v (.int i a)), some (.v (.int j b)) => if i = j then (bif b == 0 then none else goV Γ o st (.v (.int i (i.wrap (a.tdiv b)))) k) else none
    | _, _ => none
  | .binOp .rem _ x y _ => match st.eval x, st.eval y with
    | some (.v (.int i a)), some (.v (.int j b)) => if i = j then (bif b == 0 then none else goV Γ o st (.v (.int i (a.tmod b))) k) else none
    | _, _ => none
  | .binOp .shl _ x y _ => match st.eval x, st.eval y with
    | some (.v (.int i a)), some (.v (.int _ b)) => bif decide (b < 0) then none else goV Γ o st (.v (.int i (i.wrap (a * 2 ^ (min b.toNat i.bits))))) k
    | _, _ => none
  | .binOp .shr _ x y _ => match st.eval x, st.eval y with
    | some (.v (.int i a)), some (.v (.int _ b)) => bif decide (b < 0) then none else goV Γ o st (.v (.int i (a.fdiv (2 ^ (min b.toNat i.bits))))) k
    | _, _ => none
  | .indexAddr _ _ _ => goG Γ P al o st k
  | .index _ x _ => match st.eval x with
    | some (.v (.string _)) => goG Γ P al o st k
    | _ => goR Γ o st (opR Γ P al o st) k
  | .makeSlice _ _ _ => goG Γ P al o st k
  | .call { callee := .value (.func _), .. } => goG Γ P al o st k
  | .call { callee := .builtin .append, .. } => goG Γ P al o st k
  | _ => goR Γ o st (opR Γ P al o st) k

def stepK (al : Option Al) (ops : Array Oper) (o : Oper) (st : St) (k : St → Option R) : Option R :=
  match o.guard with
  | none => opK Γ P al o st k
  | some (j, want) => match yieldS ops st j with
    | some (.v (.bool t)) =>
      bif t then (match want with
        | true => opK Γ P al o (setG ops st j true) k
        | false => k ((setG ops st j true).put o.dst (.v undef)))
      else (match want with
        | true => k ((setG ops st j false).put o.dst (.v undef))
        | false => opK Γ P al o (setG ops st j false) k)
    | some (.v _) => k (st.put o.dst (.v undef))
    | _ => none

def evOps (al : Option Al) (ops : Array Oper) : List Oper → St → (St → Option R) → Option R
  | [], st, k => k st
  | o :: r, st, k => stepK Γ P al ops o st (fun st' => evOps al ops r st' k)

def evO (al : Option Al) (ops : Array Oper) : List Nat → St → (St → Option R) → Option R
  | [], st, k => k st
  | i :: r, st, k => match ops[i]? with
    | some o => stepK Γ P al ops o st (fun st' => evO al ops r st' k)
    | none => none

end

section
variable {R : Type} {Γ : Orc} {P : Program} {al : Option Al}

theorem goR_some {o : Oper} {st : St} {k : St → Option R} {r : R} (h : goR Γ o st (opR Γ P al o st) k = some r) : ∃ st', opS Γ P al o st = some st' ∧ k st' = some r := by
  unfold goR at h
  unfold opS
  cases hq : opR Γ P al o st with
  | none => rw [hq] at h; cases h
  | some q =>
    obtain ⟨x, m⟩ := q
    rw [hq] at h
    simp only at h
    rw [fS_eq] at h
    exact ⟨_, rfl, h⟩

theorem opG_some {o : Oper} {st : St} {x : SV} {m : Mem} (h : opG Γ P al o st = some (true, x, m)) : opR Γ P al o st = some (x, m) := by
  unfold opG at h
  split at h
  · rename_i t y ix hop
    split at h
    · rename_i r kk i e h1 h2 h3
      split at h
      · rename_i rc hr hs
        injection h with h
        injection h with e1 e2
        injection e2 with e2 e3
        subst e2 e3
        have hv : ∀ al, opV Γ P al o st.eval st.mem.blk st.mem.rows = some (.rp r i) := fun al => by
          simp only [opV, hop, h1, h2, h3, hr, hs, e1, cond_true]
        have hm : ∀ al, opM Γ al P o st.eval st.mem = some st.mem := fun al => by simp [opM, opB, opL, opW, hop]
        cases al with
        | some al => simp only [opR, hv, hm]
        | none => simp only [opR, hop, hv, hm]
      · cases h
    · cases h
  · rename_i t y ix hop
    split at h
    · rename_i s kk i h1 h2 h3
      injection h with h
      injection h with e1 e2
      injection e2 with e2 e3
      subst e2 e3
      have hv : ∀ al, opV Γ P al o st.eval st.mem.blk st.mem.rows = some (.v (.int .u8 (strAt s i))) := fun al => by
        simp only [opV, hop, h1, h2, h3, e1, cond_true]
      have hm : ∀ al, opM Γ al P o st.eval st.mem = some st.mem := fun al => by simp [opM, opB, opL, opW, hop]
      cases al with
      | some al => simp only [opR, hv, hm]
      | none => simp only [opR, hop, hv, hm]
    · cases h
  · rename_i t l c hop
    cases al with
    | some al => cases h
    | none =>
      simp only at h
      split at h
      · rename_i e k z bytes _ a _ b h1 h2 h3
        injection h with h
        injection h with e1 e2
        injection e2 with e2 e3
        subst e2 e3
        simp only [opR, hop, h1, h2, h3, e1, cond_true]
      · cases h
  · rename_i f args at_ hop
    cases al with
    | none =>
      simp only at h
      split at h
      · rename_i vs hvs
        split at h
        · rename_i g r hr
          injection h with h
          injection h with e1 e2
          injection e2 with e2 e3
          subst e1 e2 e3
          simp only [opR, hop, hvs, hr, cond_true]
        · rename_i g e k L hr
          injection h with h
          injection h with e1 e2
          injection e2 with e2 e3
          subst e1 e2 e3
          simp only [opR, hop, hvs, hr, cond_true]
        · cases h
      · cases h
    | some al =>
      simp only at h
      split at h
      · rename_i vs hvs
        split at h
        · rename_i g r hr
          injection h with h
          injection h with e1 e2
          injection e2 with e2 e3
          subst e1 e2 e3
          simp only [opR, opV, opM, opB, opL, opW, hop, hvs, hr, cond_true]
        · rename_i g e k L hr
          split at h
          · rename_i l hl
            split at h
            · rename_i hp
              injection h with h
              injection h with e1 e2
              injection e2 with e2 e3
              subst e1 e2 e3
              simp only [opR, opV, opM, opB, opL, opW, hop, hvs, hr, hl, hp, cond_true]
            · cases h
          · cases h
        · cases h
      · cases h
  · rename_i args at_ hop
    cases al with
    | some al => cases h
    | none =>
      simp only at h
      split at h
      · rename_i s y t t' ha hat
        split at h
        · rename_i e k z bytes r r' h1 h2 h3
          split at h
          · rename_i rc rc' hr hr'
            split at h
            · rename_i hc
              injection h with h
              injection h with e1 e2
              injection e2 with e2 e3
              subst e2 e3
              simp only [opR, hop, ha, hat, h1, h2, h3, hr, hr', hc, e1, cond_true, and_self, if_true]
            · cases h
          · cases h
        · rename_i e k z bytes r' h1 h2 h3
          split at h
          · rename_i rc' hr'
            split at h
            · rename_i hc
              injection h with h
              injection h with e1 e2
              injection e2 with e2 e3
              subst e2 e3
              simp only [opR, hop, ha, hat, h1, h2, h3, hr', hc, e1, cond_true, and_self, if_true]
            · cases h
          · cases h
        · cases h
      · cases h
  · cases h

theorem goG_some {o : Oper} {st : St} {k : St → Option R} {r : R} (h : goG Γ P al o st k = some r) : ∃ st', opS Γ P al o st = some st' ∧ k st' = some r := by
  unfold goG at h
  split at h
  · rename_i g x m hg
    cases g
    · cases h
    · have := opG_some hg
      simp only [cond_true] at h
      unfold goM at h
      rw [fS_eq] at h
      exact ⟨_, by unfold opS; simp only [this], h⟩
  · cases h

theorem opS_binOp {o : Oper} {st : St} {b : BinOp} {t t' : TypeId} {x y : Operand} {v : SV} (hop : o.op = .binOp b t x y t') (h : ∀ al, opV Γ P al o st.eval st.mem.blk st.mem.rows = some v) : opS Γ P al o st = some (st.put o.dst v) := by
  have hm : ∀ al, opM Γ al P o st.eval st.mem = some st.mem := fun al => by simp [opM, opB, opL, opW, hop]
  cases al with
  | some al => simp [opS, opR, h, hm]
  | none => simp [opS, opR, hop, h, hm]

theorem opK_some {o : Oper} {st : St} {k : St → Option R} {r : R} (h : opK Γ P al o st k = some r) : ∃ st', opS Γ P al o st = some st' ∧ k st' = some r := by
  unfold opK at h
  split at h
  · rename_i c x y hop
    split at h
    · rename_i t ht
      have e := setOp_eq ht
      cases t
      · simp only [cond_false, e] at h
        exact goR_some h
      · simp only [cond_true, e] at h
        exact goR_some h
    · cases h
  · rename_i t x y t' hop
    split at h
    · rename_i i a j b hx hy
      split at h
      · rename_i hij
        cases hb : b == 0
        · rw [hb] at h
          simp only [cond_false] at h
          unfold goV at h; rw [fS_eq] at h
          exact ⟨_, opS_binOp hop (fun al => by simp [opV, hop, hx, hy, hij, hb]), h⟩
        · simp [hb] at h
      · cases h
    · cases h
  · rename_i t x y t' hop
    split at h
    · rename_i i a j b hx hy
      split at h
      · rename_i hij
        cases hb : b == 0
        · rw [hb] at h
          simp only [cond_false] at h
          unfold goV at h; rw [fS_eq] at h
          exact ⟨_, opS_binOp hop (fun al => by simp [opV, hop, hx, hy, hij, hb]), h⟩
        · simp [hb] at h
      · cases h
    · cases h
  · rename_i t x y t' hop
    split at h
    · rename_i i a j b hx hy
      cases hb : decide (b < 0)
      · rw [hb] at h
        simp only [cond_false] at h
        unfold goV at h; rw [fS_eq] at h
        exact ⟨_, opS_binOp hop (fun al => by simp only [opV, hop, hx, hy, hb]; rfl), h⟩
      · simp [hb] at h
    · cases h
  · rename_i t x y t' hop
    split at h
    · rename_i i a j b hx hy
      cases hb : decide (b < 0)
      · rw [hb] at h
        simp only [cond_false] at h
        unfold goV at h; rw [fS_eq] at h
        exact ⟨_, opS_binOp hop (fun al => by simp only [opV, hop, hx, hy, hb]; rfl), h⟩
      · simp [hb] at h
    · cases h
  · exact goG_some h
  · split at h
    · exact goG_some h
    · exact goR_some h
  · exact goG_some h
  · exact goG_some h
  · exact goG_some h
  · exact goR_some h

theorem stepK_some {ops : Array Oper} {o : Oper} {st : St} {k : St → Option R} {r : R} (h : stepK Γ P al ops o st k = some r) : ∃ st', stepS Γ P al ops o st = some st' ∧ k st' = some r := by
  unfold stepK at h
  split at h
  · rename_i hg
    obtain ⟨st', h1, h2⟩ := opK_some h
    exact ⟨st', by simp [stepS, hg, h1], h2⟩
  · rename_i j want hg
    split at h
    · rename_i t ht
      have e := setG_eq ht
      cases t <;> cases want <;> simp only [cond_true, cond_false, e] at h
      · obtain ⟨st', h1, h2⟩ := opK_some h
        exact ⟨st', by simp [stepS, hg, ht, h1], h2⟩
      · exact ⟨_, by simp [stepS, hg, ht], h⟩
      · exact ⟨_, by simp [stepS, hg, ht], h⟩
      · obtain ⟨st', h1, h2⟩ := opK_some h
        exact ⟨st', by simp [stepS, hg, ht, h1], h2⟩
    · rename_i y hne hy
      refine ⟨_, ?_, h⟩
      unfold stepS
      simp only [hg, hy]
    · cases h

theorem evOps_some {ops : Array Oper} {k : St → Option R} {r : R} : ∀ (l : List Oper) (st : St), evOps Γ P al ops l st k = some r → ∃ st', stepsS Γ P al ops l st = some st' ∧ k st' = some r
  | [], st, h => ⟨st, rfl, h⟩
  | o :: l, st, h => by
    simp only [evOps] at h
    obtain ⟨st1, h1, h2⟩ := stepK_some h
    obtain ⟨st2, h3, h4⟩ := evOps_some l st1 h2
    exact ⟨st2, by simp [stepsS, h1, h3], h4⟩

theorem evO_some {ops : Array Oper} {k : St → Option R} {r : R} : ∀ (l : List Nat) (st : St), evO Γ P al ops l st k = some r → ∃ st', stepsO Γ P al ops l st = some st' ∧ k st' = some r
  | [], st, h => ⟨st, rfl, h⟩
  | i :: l, st, h => by
    simp only [evO] at h
    split at h
    · rename_i o ho
      obtain ⟨st1, h1, h2⟩ := stepK_some h
      obtain ⟨st2, h3, h4⟩ := evO_some l st1 h2
      exact ⟨st2, by simp [stepsO, ho, h1, h3], h4⟩
    · cases h
end
end Go.Sx

namespace Go.Sx
open Go.RowKit

/-- What is known of loops: where a loop with this body comes to, from this state, under a test. -/
abbrev LoopOrc := Code → St → Option (Bool × Ex × St)

section
variable {R : Type} (Γ : Orc) (Λ : LoopOrc) (P : Program)

def ev : Code → St → (Ex → St → Option R) → Option R
  | .skip, st, k => k .normal st
  | .label _, st, k => k .normal st
  | .region _ ops draw, st, k => match draw with
    | false => evOps Γ P none ops ops.toList st (k .normal)
    | true => match preAl P ops.toList st.mem with
      | some (al, m) => match lexS P al ops ops.size (Array.replicate ops.size false) with
        | some ord => evO Γ P (some al) ops ord { st with mem := m } (k .normal)
        | none => none
      | none => none
  | .seq a b, st, k => ev a st (fun e st' => match e with
    | .normal => ev b st' k
    | .exit id => k (.exit id) st'
    | .ret => k .ret st')
  | .cond c x y, st, k => match st.eval c with
    | some (.v (.bool t)) => bif t then ev x (setOp st c true) k else ev y (setOp st c false) k
    | _ => none
  | .block id body, st, k => ev body st (fun e st' => match e with
    | .exit id' => if id' = id then k .normal st' else k (.exit id') st'
    | .normal => k .normal st'
    | .ret => k .ret st')
  | .scope body, st, k => ev body st k
  | .exit id, st, k => k (.exit id) st
  | .ret, st, k => k .ret st
  | .loop body, st, k => match Λ body st with
    | some (g, e, st') => bif g then k e st' else none
    | none => none
  | _, _, _ => none

/-- The loops of a code that lie in no other loop. -/
def loopsOf : Code → List Code
  | .seq a b => loopsOf a ++ loopsOf b
  | .cond _ a b => loopsOf a ++ loopsOf b
  | .block _ a => loopsOf a
  | .scope a => loopsOf a
  | .loop a => [a]
  | _ => []

def LoopOk (w0 : World) (body : Code) : Prop :=
  ∀ st e st', Λ body st = some (true, e, st') → ∀ a w, RelP P ⟨[], []⟩ w0 st a w → (Code.loop body).wp P (fun e' a' w' => e' = e.out ∧ RelP P ⟨[], []⟩ w0 st' a' w') a w

end

section
variable {R : Type} {Γ : Orc} {Λ : LoopOrc} {P : Program} {w0 : World}

theorem ev_sound (hΓ : Γ.Ok P) (hm : P.follows .mixedOrders = true) : ∀ (c : Code) (_ : ∀ b ∈ loopsOf c, LoopOk Λ P w0 b) (st : St) (k : Ex → St → Option R) (r : R) (Q : Exit → Act → World → Prop) (a : Act) (w : World),
    ev Γ Λ P c st k = some r → RelP P ⟨[], []⟩ w0 st a w → (∀ e st', k e st' = some r → ∀ a w, RelP P ⟨[], []⟩ w0 st' a w → Q e.out a w) → c.wp P Q a w
  | .skip, hL, st, k, r, Q, a, w, h, hR, hQ => wp_skip (hQ .normal st h a w hR)
  | .label _, hL, st, k, r, Q, a, w, h, hR, hQ => wp_label (hQ .normal st h a w hR)
  | .exit id, hL, st, k, r, Q, a, w, h, hR, hQ => wp_exit (hQ (.exit id) st h a w hR)
  | .ret, hL, st, k, r, Q, a, w, h, hR, hQ => wp_ret (hQ .ret st h a w hR)
  | .region id ops false, hL, st, k, r, Q, a, w, h, hR, hQ => by
    obtain ⟨st', h1, h2⟩ := evOps_some ops.toList st (by simpa [ev] using h)
    exact region_plain_sound hΓ h1 hR (fun a w hR' => hQ .normal st' h2 a w hR')
  | .region id ops true, hL, st, k, r, Q, a, w, h, hR, hQ => by
    simp only [ev] at h
    split at h
    · rename_i al m hpre
      split at h
      · rename_i ord hlex
        obtain ⟨st', h1, h2⟩ := evO_some ord _ h
        exact region_draw_sound hΓ hm hlex hpre h1 hR (fun a w hR' => hQ .normal st' h2 a w hR')
      · cases h
    · cases h
  | .seq x y, hL, st, k, r, Q, a, w, h, hR, hQ => by
    refine wp_seq (ev_sound hΓ hm x (fun b hb => hL b (by simp [loopsOf, hb])) st _ r _ a w h hR ?_)
    intro e st' hk a' w' hR'
    cases e with
    | normal => exact ev_sound hΓ hm y (fun b hb => hL b (by simp [loopsOf, hb])) st' k r Q a' w' hk hR' hQ
    | exit id => exact hQ (.exit id) st' hk a' w' hR'
    | ret => exact hQ .ret st' hk a' w' hR'
  | .cond c x y, hL, st, k, r, Q, a, w, h, hR, hQ => by
    simp only [ev] at h
    split at h
    · rename_i t ht
      have e := setOp_eq ht
      obtain ⟨V, hR0, hp⟩ := hR
      have hc : a.eval c = .bool t := hR0.eval ht
      refine wp_cond hc ?_
      cases t with
      | false =>
        simp only [cond_false, e] at h
        exact ev_sound hΓ hm y (fun b hb => hL b (by simp [loopsOf, hb])) st k r Q a w h ⟨V, hR0, hp⟩ hQ
      | true =>
        simp only [cond_true, e] at h
        exact ev_sound hΓ hm x (fun b hb => hL b (by simp [loopsOf, hb])) st k r Q a w h ⟨V, hR0, hp⟩ hQ
    · cases h
  | .block id body, hL, st, k, r, Q, a, w, h, hR, hQ => by
    refine wp_block (ev_sound hΓ hm body (fun b hb => hL b (by simpa [loopsOf] using hb)) st _ r _ a w h hR ?_)
    intro e st' hk a' w' hR'
    cases e with
    | normal => exact hQ .normal st' hk a' w' hR'
    | exit id' =>
      simp only at hk
      simp only [Ex.out, Exit.inBlock]
      split at hk
      · rename_i he
        rw [if_pos he]
        exact hQ .normal st' hk a' w' hR'
      · rename_i he
        rw [if_neg he]
        exact hQ (.exit id') st' hk a' w' hR'
    | ret => exact hQ .ret st' hk a' w' hR'
  | .scope body, hL, st, k, r, Q, a, w, h, hR, hQ => by
    refine wp_scope_straight (ev_sound hΓ hm body (fun b hb => hL b (by simpa [loopsOf] using hb)) st k r _ a w h hR ?_)
    intro e st' hk a' w' hR'
    cases e with
    | normal => exact hQ .normal st' hk a' w' hR'
    | exit id' => exact hQ (.exit id') st' hk a' w' hR'
    | ret => exact hQ .ret st' hk a' w' hR'
  | .loop body, hL, st, k, r, Q, a, w, h, hR, hQ => by
    simp only [ev] at h
    split at h
    · rename_i g e st' hl
      cases g with
      | false => cases h
      | true =>
      refine wp_mono (hL body (by simp [loopsOf]) st e st' hl a w hR) ?_
      rintro e' a' w' ⟨rfl, hR'⟩
      exact hQ e st' h a' w' hR'
    · cases h
  | .rangeFunc .., hL, st, k, r, Q, a, w, h, hR, hQ => by simp [ev] at h
  | .goto _, hL, st, k, r, Q, a, w, h, hR, hQ => by simp [ev] at h
  | .refuse _, hL, st, k, r, Q, a, w, h, hR, hQ => by simp [ev] at h

/-! ### A function -/

def resV (P : Program) (st : St) : List ResultVar → Option (List Value)
  | [] => some []
  | .tmp t :: r => match st.tmps.get t, resV P st r with
    | some (.v y), some l => some (y :: l)
    | _, _ => none
  | .cell t ty :: r => match st.tmps.get t, aggT P ty, sizT P ty with
    | some (.ptr l off), some ag, some n => match st.mem.blk[l]? with
      | some cs => if off + n ≤ cs.length then (match fromCells ag ((cs.drop off).take n), resV P st r with
        | some (.v y), some l => some (y :: l)
        | _, _ => none) else none
      | none => none
    | _, _, _ => none

def tupV (l : List Value) : Value :=
  match l with
  | [y] => y
  | l => .tuple l.toArray

/-- A slice that is handed back. -/
def rowRes (st : St) : List ResultVar → Option RowC
  | [.tmp t] => match st.tmps.get t with
    | some (.row r) => rowAt st.mem.rows r
    | _ => none
  | _ => none

def fin (Γ : Orc) (P : Program) (fn : Func) (e : Ex) (st : St) : Option Res :=
  match e with
  | .exit _ => none
  | _ => match rowRes st fn.results.toList with
    | some rc => match rc.own with
      | true => fRow Γ.conc (.live rc) (fun x => match x with
        | .live rc => some (.ints rc.e rc.k rc.L)
        | _ => none)
      | false => none
    | none => match resV P st fn.results.toList with
      | some l => fV Γ.conc (tupV l) (fun y => some (.v y))
      | none => none

def initRows : List Arg → List RowS
  | [] => []
  | .v _ :: r => initRows r
  | .ints k L :: r => .live ⟨0, k, L, false⟩ :: initRows r

def initArgs : List Arg → Nat → List SV
  | [], _ => []
  | .v x :: r, n => .v x :: initArgs r n
  | .ints _ _ :: r, n => .row n :: initArgs r (n + 1)

def slicesOf : List Arg → List Value → List Value
  | .v _ :: r, _ :: s => slicesOf r s
  | .ints _ _ :: r, y :: s => y :: slicesOf r s
  | _, _ => []

def initSt (fn : Func) (args : List Arg) : St := ⟨Tr.ofList (initArgs args 0 ++ List.replicate (fn.ntmps - args.length) (SV.v undef)), ⟨[], [], initRows args⟩⟩

def runA (Γ : Orc) (Λ : LoopOrc) (P : Program) (fn : Func) (args : List Arg) : Option Res :=
  match fn.body with
  | some c => ev Γ Λ P c (initSt fn args) (fin Γ P fn)
  | none => none

/-- Values alone, in and out. -/
def finV (Γ : Orc) (P : Program) (fn : Func) (e : Ex) (st : St) : Option Value :=
  match e with
  | .exit _ => none
  | _ => match resV P st fn.results.toList with
    | some l => fV Γ.conc (tupV l) some
    | none => none

def run (Γ : Orc) (Λ : LoopOrc) (P : Program) (fn : Func) (args : List Value) : Option Value :=
  match fn.body with
  | some c => ev Γ Λ P c (initSt fn (args.map .v)) (finV Γ P fn)
  | none => none

theorem ArgsOk.length {w : World} : ∀ {args : List Arg} {vs : List Value}, ArgsOk w args vs → vs.length = args.length
  | [], [], _ => rfl
  | _ :: r, _ :: s, h => by simp [ArgsOk.length h.2]
  | [], _ :: _, h => h.elim
  | _ :: _, [], h => h.elim

theorem initArgs_length : ∀ (args : List Arg) (n : Nat), (initArgs args n).length = args.length
  | [], _ => rfl
  | .v _ :: r, n => by simp [initArgs, initArgs_length r n]
  | .ints _ _ :: r, n => by simp [initArgs, initArgs_length r (n + 1)]

theorem initRows_ok {w : World} : ∀ {args : List Arg} {vs : List Value}, ArgsOk w args vs → ∀ i : Nat, (∀ s, (initRows args)[i]? = some s → ∃ k L u, s = .live ⟨0, k, L, false⟩ ∧ (slicesOf args vs)[i]? = some u ∧ Reads w.heap.size w k L u) ∧ ((initRows args)[i]? = none → (slicesOf args vs)[i]? = none)
  | [], [], _, i => by simp [initRows, slicesOf]
  | .v x :: r, y :: s, h, i => initRows_ok h.2 i
  | .ints k L :: r, y :: s, h, 0 => ⟨fun t ht => ⟨k, L, y, by simpa [initRows] using ht.symm, by simp [slicesOf], h.1⟩, fun hn => by simp [initRows] at hn⟩
  | .ints k L :: r, y :: s, h, i + 1 => by
    have := initRows_ok h.2 i
    simpa [initRows, slicesOf] using this
  | [], _ :: _, h, _ => h.elim
  | _ :: _, [], h, _ => h.elim

theorem initArgs_ok {w : World} : ∀ {args : List Arg} {vs : List Value}, ArgsOk w args vs → ∀ (n t : Nat) (s : SV) (y : Value), (initArgs args n)[t]? = some s → vs[t]? = some y → s = .v y ∨ ∃ i, s = .row (n + i) ∧ (slicesOf args vs)[i]? = some y
  | [], [], _, n, t, s, y, hs, hy => by simp at hy
  | .v x :: r, z :: l, h, n, 0, s, y, hs, hy => by
    have e : z = x := h.1
    simp [initArgs] at hs hy
    subst e hs hy
    exact .inl rfl
  | .v x :: r, z :: l, h, n, t + 1, s, y, hs, hy => initArgs_ok h.2 n t s y (by simpa [initArgs] using hs) (by simpa using hy)
  | .ints k L :: r, z :: l, h, n, 0, s, y, hs, hy => by
    simp [initArgs] at hs hy
    subst hs hy
    exact .inr ⟨0, rfl, by simp [slicesOf]⟩
  | .ints k L :: r, z :: l, h, n, t + 1, s, y, hs, hy => by
    rcases initArgs_ok h.2 (n + 1) t s y (by simpa [initArgs] using hs) (by simpa using hy) with h1 | ⟨i, h1, h2⟩
    · exact .inl h1
    · exact .inr ⟨i + 1, by rw [h1]; congr 1; omega, by simpa [slicesOf] using h2⟩
  | [], _ :: _, h, _, _, _, _, _, _ => h.elim
  | _ :: _, [], h, _, _, _, _, _, _ => h.elim

theorem initSt_rel (fn : Func) {args : List Arg} {vs : List Value} {w : World} (hA : ArgsOk w args vs) : Rel w (initSt fn args) ⟨fun _ => none, fun i => ((slicesOf args vs)[i]?).map some⟩ { tmps := vs.toArray ++ Array.replicate (fn.ntmps - vs.toArray.size) undef, defers := [] } w := by
  have hlen := hA.length
  have hg : ∀ (t : Nat) x, (initSt fn args).tmps.get t = some x → (initArgs args 0 ++ List.replicate (fn.ntmps - args.length) (SV.v undef))[t]? = some x := by
    intro t x hx
    simp only [initSt, Tr.get_ofList] at hx
    simpa using hx
  have he : ∀ t : Nat, (vs.toArray ++ Array.replicate (fn.ntmps - vs.toArray.size) undef)[t]? = (vs ++ List.replicate (fn.ntmps - vs.length) undef)[t]? := by
    intro t
    rw [← Array.getElem?_toList]; simp
  have hrow : ∀ r rc, rowAt (initSt fn args).mem.rows r = some rc → rc.own = false ∧ ∃ u, (slicesOf args vs)[r]? = some u ∧ RowOk w.heap.size w rc u := by
    intro r rc hr
    unfold rowAt at hr
    simp only [initSt] at hr
    split at hr
    · rename_i rc' hrc
      injection hr with hr
      subst hr
      obtain ⟨k, L, u, h1, h2, h3⟩ := (initRows_ok hA r).1 _ hrc
      injection h1 with h1
      subst h1
      exact ⟨rfl, u, h2, h3⟩
    · cases hr
  refine { len := fun t x hx => ?_, tmps := fun t x hx y hy => ?_, defers := rfl, mem := (fun l b o h => by cases h), inj := (fun l l' b o b' o' h => by cases h), own := (fun l b o h => by cases h), dom := (fun l h => absurd rfl h), rows := fun r rc hr => ?_, rowsN := fun r hr => ?_, apart := fun r r' rc rc' u u' g h1 h2 => ?_, apartb := fun r rc u g l b o h1 h2 => ?_, below := Below.refl _ _, froz := fun _ => rfl }
  · have hx' := hg t x hx
    rcases Nat.lt_or_ge t (initArgs args 0 ++ List.replicate (fn.ntmps - args.length) (SV.v undef)).length with h' | h'
    · simp [initArgs_length] at h'
      simp [hlen]
      omega
    · rw [List.getElem?_eq_none h'] at hx'
      cases hx'
  · have hx' := hg t x hx
    rw [he] at hy
    rcases Nat.lt_or_ge t args.length with h' | h'
    · rw [List.getElem?_append_left (by rw [initArgs_length]; exact h')] at hx'
      rw [List.getElem?_append_left (by rw [hlen]; exact h')] at hy
      rcases initArgs_ok hA 0 t x y hx' hy with h1 | ⟨i, h1, h2⟩
      · subst h1; rfl
      · subst h1
        refine ⟨by simp [h2], fun u hu => ?_⟩
        simp [h2] at hu
        exact hu
    · rw [List.getElem?_append_right (by rw [initArgs_length]; exact h'), List.getElem?_replicate] at hx'
      rw [List.getElem?_append_right (by rw [hlen]; exact h'), List.getElem?_replicate] at hy
      split at hx'
      · split at hy
        · injection hx' with hx'
          injection hy with hy
          subst hx' hy
          rfl
        · cases hy
      · cases hx'
  · obtain ⟨_, u, h1, h2⟩ := hrow r rc hr
    exact ⟨u, by simp [h1], h2⟩
  · have hn : (initRows args)[r]? = none := by
      rcases hr with hr | hr
      · exact hr
      · obtain ⟨k, L, u, h1, _⟩ := (initRows_ok hA r).1 _ hr
        cases h1
    simp [(initRows_ok hA r).2 hn]
  · rw [(hrow r rc h1).1] at h2; cases h2
  · rw [(hrow r rc h1).1] at h2; cases h2

theorem results_run {st : St} {V : Vl} {a : Act} {w : World} (h : Rel w0 st V a w) : ∀ (l : List ResultVar) (vs : List Value), resV P st l = some vs →
    (l.mapM (m := Sem) fun
      | .tmp t => pure (a.tmps.getD t undef)
      | .cell b t => do loadVar t (← asAddr (a.tmps.getD b undef))).run P w = .ok vs w
  | [], vs, hv => by simp [resV] at hv; subst hv; rfl
  | .tmp t :: r, vs, hv => by
    unfold resV at hv
    split at hv
    · rename_i y l h1 h2
      injection hv with hv
      subst hv
      have hy : a.tmps.getD t undef = y := h.eval (x := .tmp t) h1
      have ih := results_run h r l h2
      rw [List.mapM_cons]
      rw [run_andThen _ _ w w y (by rw [← hy]; rfl)]
      rw [run_andThen _ _ w w l ih]
      rfl
    · cases hv
  | .cell t ty :: r, vs, hv => by
    unfold resV at hv
    split at hv
    · rename_i l off ag n h1 h2 h3
      split at hv
      · rename_i cs hcs
        split at hv
        · rename_i hn
          split at hv
          · rename_i y l' h4 h5
            injection hv with hv
            subst hv
            obtain ⟨y', hy', hd⟩ := load_run (P := P) h (p := .tmp t) h1 h2 h3 hcs hn h4
            have hd' : y' = y := hd
            subst hd'
            obtain ⟨b, o, hb, he⟩ := h.eval (x := .tmp t) h1
            have he' : a.tmps.getD t undef = .pointer (some ⟨b, o + off, none⟩) := he
            have ih := results_run h r l' h5
            rw [List.mapM_cons]
            have hh : (do loadVar ty (← asAddr (a.tmps.getD t undef)) : Sem Value).run P w = .ok y' w := by
              rw [he']
              have : (Instr.loadAt ty (.pointer (some ⟨b, o + off, none⟩))).run P w = .ok y' w := by
                rw [← he]; exact hy'
              simpa [Instr.loadAt, Instr.sureAddr, asAddr] using this
            rw [run_andThen _ _ w w y' hh]
            rw [run_andThen _ _ w w l' ih]
            rfl
          · cases hv
        · cases hv
      · cases hv
    · cases hv

theorem results_of {fn : Func} {a : Act} {w : World} (l : List Value) (hr : (fn.results.toList.mapM (m := Sem) fun
      | .tmp t => pure (a.tmps.getD t undef)
      | .cell b t => do loadVar t (← asAddr (a.tmps.getD b undef))).run P w = .ok l w) : (results fn a.tmps).run P w = .ok (tupV l) w := by
  unfold results
  have hmap : (fn.results.mapM (m := Sem) fun
      | .tmp t => pure (a.tmps.getD t undef)
      | .cell b t => do loadVar t (← asAddr (a.tmps.getD b undef))).run P w = .ok l.toArray w := by
    rw [Array.mapM_eq_mapM_toList]
    rw [map_eq_pure_bind, run_andThen _ _ w w l hr]
    rfl
  refine (run_andThen _ _ w w l.toArray ?_).trans ?_
  · exact hmap
  cases l with
  | nil => rfl
  | cons x l =>
    cases l with
    | nil => rfl
    | cons y l => simp [tupV, pure]

theorem argsV_ok (w : World) : ∀ vs : List Value, ArgsOk w (vs.map .v) vs
  | [] => trivial
  | _ :: r => ⟨rfl, argsV_ok w r⟩

theorem argsV_eq {w : World} : ∀ {vs us : List Value}, ArgsOk w (vs.map .v) us → us = vs
  | [], [], _ => rfl
  | _ :: r, _ :: s, h => by
    have h1 := h.1
    have h2 := argsV_eq (vs := r) (us := s) h.2
    unfold ArgOk at h1
    rw [h1, h2]
  | [], _ :: _, h => h.elim
  | _ :: _, [], h => h.elim

theorem runV_sound (hΓ : Γ.Ok P) (hm : P.follows .mixedOrders = true) {f : FuncId} {fn : Func} {c : Code} (hf : P.funcs[f]? = some fn) (hb : fn.body = some c) {args : List Value} {r : Value}
    (h : run Γ Λ P fn args = some r) (w : World) (hL : ∀ b ∈ loopsOf c, LoopOk Λ P w b) : Calls P f args.toArray w (fun e w' => e = .returned r ∧ Kp w w') := by
  unfold run at h
  rw [hb] at h
  refine calls_of_wp hf hb ?_
  refine ev_sound hΓ hm c hL _ _ r _ _ w h ⟨_, initSt_rel fn (argsV_ok w args), (fun _ _ _ hm => by cases hm)⟩ ?_
  rintro e st' hk a' w' ⟨V, hR, _⟩
  have main : (match resV P st' fn.results.toList with
    | some l => fV Γ.conc (tupV l) some
    | none => none) = some r → a'.defers = [] ∧ ∃ v, (results fn a'.tmps).run P w' = .ok v w' ∧ (v = r ∧ Kp w w') := by
    intro hk
    split at hk
    · rename_i l hl
      rw [fV_eq] at hk
      injection hk with hk
      exact ⟨hR.defers, tupV l, results_of l (results_run hR fn.results.toList l hl), hk, hR.below, hR.froz⟩
    · cases hk
  cases e with
  | normal =>
    obtain ⟨h1, v, h2, rfl, h3⟩ := main hk
    exact ⟨h1, v, h2, rfl, h3⟩
  | exit id => cases hk
  | ret =>
    obtain ⟨h1, v, h2, rfl, h3⟩ := main hk
    exact ⟨h1, v, h2, rfl, h3⟩

theorem run_sound (hΓ : Γ.Ok P) (hm : P.follows .mixedOrders = true) {f : FuncId} {fn : Func} {c : Code} (hf : P.funcs[f]? = some fn) (hb : fn.body = some c) {args : List Arg} {r : Res}
    (h : runA Γ Λ P fn args = some r) (w : World) (hL : ∀ b ∈ loopsOf c, LoopOk Λ P w b) {vs : List Value} (hA : ArgsOk w args vs) : Calls P f vs.toArray w (fun e w' => ∃ y, e = .returned y ∧ ResOk w w' r y ∧ Kp w w') := by
  unfold runA at h
  rw [hb] at h
  refine calls_of_wp hf hb ?_
  refine ev_sound hΓ hm c hL _ _ r _ _ w h ⟨_, initSt_rel fn hA, (fun _ _ _ hm => by cases hm)⟩ ?_
  rintro e st' hk a' w' ⟨V, hR, _⟩
  have hres : ∀ l : List Value, (fn.results.toList.mapM (m := Sem) fun
      | .tmp t => pure (a'.tmps.getD t undef)
      | .cell b t => do loadVar t (← asAddr (a'.tmps.getD b undef))).run P w' = .ok l w' → (results fn a'.tmps).run P w' = .ok (tupV l) w' := by
    intro l hr
    unfold results
    have hmap : (fn.results.mapM (m := Sem) fun
        | .tmp t => pure (a'.tmps.getD t undef)
        | .cell b t => do loadVar t (← asAddr (a'.tmps.getD b undef))).run P w' = .ok l.toArray w' := by
      rw [Array.mapM_eq_mapM_toList]
      rw [map_eq_pure_bind, run_andThen _ _ w' w' l hr]
      rfl
    refine (run_andThen _ _ w' w' l.toArray ?_).trans ?_
    · exact hmap
    cases l with
    | nil => rfl
    | cons x l =>
      cases l with
      | nil => rfl
      | cons y l => simp [tupV, pure]
  have main : (match rowRes st' fn.results.toList with
    | some rc => match rc.own with
      | true => fRow Γ.conc (.live rc) (fun x => match x with
        | .live rc => some (.ints rc.e rc.k rc.L)
        | _ => none)
      | false => none
    | none => match resV P st' fn.results.toList with
      | some l => fV Γ.conc (tupV l) (fun y => some (.v y))
      | none => none) = some r → a'.defers = [] ∧ ∃ v, (results fn a'.tmps).run P w' = .ok v w' ∧ (ResOk w w' r v ∧ Kp w w') := by
    intro hk
    refine ⟨hR.defers, ?_⟩
    split at hk
    · rename_i rc hrc
      split at hk
      · rename_i hown
        rw [fRow_eq] at hk
        injection hk with hk
        unfold rowRes at hrc
        split at hrc
        · rename_i t ht
          split at hrc
          · rename_i i hi
            obtain ⟨u, hu, hok⟩ := hR.rows i rc hrc
            have hy : a'.tmps.getD t undef = u := (hR.eval (x := .tmp t) hi).2 u hu
            refine ⟨u, hres [u] ?_, ?_, hR.below, hR.froz⟩
            · rw [ht, List.mapM_cons]
              rw [run_andThen _ _ w' w' u (by rw [← hy]; rfl)]
              rfl
            · subst hk
              unfold RowOk at hok
              simp only [hown] at hok
              exact hok
          · cases hrc
        · cases hrc
      · cases hk
    · split at hk
      · rename_i l hl
        rw [fV_eq] at hk
        injection hk with hk
        subst hk
        exact ⟨tupV l, hres l (results_run hR fn.results.toList l hl), rfl, hR.below, hR.froz⟩
      · cases hk
  cases e with
  | normal =>
    obtain ⟨h1, v, h2, h3, h4⟩ := main hk
    exact ⟨h1, v, h2, v, rfl, h3, h4⟩
  | exit id => cases hk
  | ret =>
    obtain ⟨h1, v, h2, h3, h4⟩ := main hk
    exact ⟨h1, v, h2, v, rfl, h3, h4⟩
end
end Go.Sx

namespace Go.Sx
open Go.RowKit

/-- Two structs of integers and bools, field by field. -/
def flatEq (P : Program) : List Field → List Value → List Value → Option Bool
  | [], _, _ => some true
  | f :: fs, xs, ys => match P.underlying f.type, xs[f.offset]?, ys[f.offset]?, flatEq P fs xs ys with
    | some (.int _), some (.int k a), some (.int k' b), some r => if k = k' then some ((a == b) && r) else none
    | some .bool, some (.bool a), some (.bool b), some r => some ((a == b) && r)
    | _, _, _, _ => none

def eqTypeOk (P : Program) (t : TypeId) : Bool :=
  !P.stoodInHeld t && !P.eqGuardType P.depth t && (match P.underlying t with
    | some (.struct fs) => fs.toList.all fun f => f.name != "_"
    | _ => false)

def eqvOf (P : Program) (good : List TypeId) (t : TypeId) (xs ys : List Value) : Option Bool :=
  match good.contains t, P.underlying t with
  | true, some (.struct fs) => flatEq P fs.toList xs ys
  | _, _ => none

section
variable {P : Program} {w : World}

theorem run_part {t : TypeId} {cs : Array Value} {off : Nat} {v : Value} {d : TypeDesc} (hu : P.underlying t = some d) (hd : (∀ f, d ≠ .struct f) ∧ (∀ n e, d ≠ .array n e)) (hv : cs[off]? = some v) : (part t cs off).run P w = .ok v w := by
  unfold part
  have : (isAgg t).run P w = .ok false w := by
    unfold isAgg
    rw [run_andThen _ _ w w d (run_underlying hu w)]
    cases d <;> first | rfl | (exact absurd rfl (hd.1 _)) | (exact absurd rfl (hd.2 _ _))
  rw [run_andThen _ _ w w false this]
  simp [hv]

theorem run_equalIn_int {n : Nat} {t : TypeId} {k k' : IntKind} {a b : Int} (hu : P.underlying t = some (.int k')) : (Op.equalIn (n + 1) t (.int k a) (.int k b)).run P w = .ok (a == b) w := by
  unfold Op.equalIn
  rw [run_andThen _ _ w w _ (run_underlying hu w)]
  simp

theorem run_equalIn_bool {n : Nat} {t : TypeId} {a b : Bool} (hu : P.underlying t = some .bool) : (Op.equalIn (n + 1) t (.bool a) (.bool b)).run P w = .ok (a == b) w := by
  unfold Op.equalIn
  rw [run_andThen _ _ w w _ (run_underlying hu w)]
  simp

theorem run_equalIn_struct {n : Nat} {t : TypeId} {fs : Array Field} {xs ys : Array Value} (hu : P.underlying t = some (.struct fs)) (hs : P.stoodInHeld t = false) (hn : ∀ f ∈ fs.toList, f.name ≠ "_") {r : Bool}
    (h : flatEq P fs.toList xs.toList ys.toList = some r) : (Op.equalIn (n + 2) t (.agg xs) (.agg ys)).run P w = .ok r w := by
  unfold Op.equalIn
  rw [run_andThen _ _ w w _ (run_underlying hu w)]
  simp only []
  rw [run_andThen program _ w w P rfl]
  simp only [hs, Bool.false_eq_true, if_false]
  rw [← Array.forIn_toList]
  generalize fs.toList = l at *
  clear hu hs
  induction l generalizing r with
  | nil =>
    simp [flatEq] at h
    subst h
    simp
  | cons f l ih =>
    have hf : f.name ≠ "_" := hn f (by simp)
    unfold flatEq at h
    split at h
    · rename_i kk k a k' b r' h1 h2 h3 h4
      split at h
      · rename_i hk
        subst hk
        injection h with h
        subst h
        have p1 := run_part (P := P) (w := w) (t := f.type) (cs := xs) (off := f.offset) h1 ⟨by simp, by simp⟩ (by simpa using h2)
        have p2 := run_part (P := P) (w := w) (t := f.type) (cs := ys) (off := f.offset) h1 ⟨by simp, by simp⟩ (by simpa using h3)
        have p3 := run_equalIn_int (P := P) (w := w) (n := n) (k := k) (a := a) (b := b) h1
        have ih' := ih (fun f hf => hn f (by simp [hf])) h4
        simp only [List.forIn_cons, hf, ne_eq, not_false_eq_true, if_true]
        cases hab : a == b
        · simp [Sem.run_bind, p1, p2, p3, hab, Result.andThen]
        · simp only [Sem.run_bind, p1, p2, p3, hab, Result.andThen] at *
          simpa using ih'
      · cases h
    · rename_i a b r' h1 h2 h3 h4
      injection h with h
      subst h
      have p1 := run_part (P := P) (w := w) (t := f.type) (cs := xs) (off := f.offset) h1 ⟨by simp, by simp⟩ (by simpa using h2)
      have p2 := run_part (P := P) (w := w) (t := f.type) (cs := ys) (off := f.offset) h1 ⟨by simp, by simp⟩ (by simpa using h3)
      have p3 := run_equalIn_bool (P := P) (w := w) (n := n) (a := a) (b := b) h1
      have ih' := ih (fun f hf => hn f (by simp [hf])) h4
      simp only [List.forIn_cons, hf, ne_eq, not_false_eq_true, if_true]
      cases hab : a == b
      · simp [Sem.run_bind, p1, p2, p3, hab, Result.andThen]
      · simp only [Sem.run_bind, p1, p2, p3, hab, Result.andThen] at *
        simpa using ih'
    · cases h

theorem eqvOf_ok {good : List TypeId} (hg : good.all (eqTypeOk P) = true) (t : TypeId) (xs ys : List Value) (r : Bool) (h : eqvOf P good t xs ys = some r) (w : World) (op : BinOp) (x y : Operand) (hop : op = .eql ∨ op = .neq) :
    (eqGuard op t x y (.agg xs.toArray) (.agg ys.toArray)).run P w = .ok () w ∧ (Op.equal t (.agg xs.toArray) (.agg ys.toArray)).run P w = .ok r w := by
  unfold eqvOf at h
  split at h
  · rename_i fs hc hu
    have ht : eqTypeOk P t = true := List.all_eq_true.1 hg t (by simpa using hc)
    unfold eqTypeOk at ht
    simp only [hu, Bool.and_eq_true, Bool.not_eq_true', List.all_eq_true] at ht
    refine ⟨?_, ?_⟩
    · rcases hop with rfl | rfl <;> simp [eqGuard, program, Sem.run, ht.1.2]
    · unfold Op.equal Op.maxDepth
      exact run_equalIn_struct (n := 9998) hu ht.1.1 (fun f hf => by simpa using ht.2 f hf) (by simpa using h)
  · cases h
end

section
variable {R : Type} (Γ : Orc) (P : Program)
/-- A loop, carried out. -/
def evLoop (Λ : LoopOrc) (cut : St → St) (body : Code) : Nat → St → (Ex → St → Option R) → Option R
  | 0, _, _ => none
  | n + 1, st, k => ev Γ Λ P body st (fun e st' => match e with
    | .normal => fSt Γ.conc (cut st') (fun st' => evLoop Λ cut body n st' k)
    | .exit id => k (.exit id) st'
    | .ret => k .ret st')

/-- Loops within loops, carried out: d deep, n rounds each. -/
def loopX (n : Nat) : Nat → LoopOrc
  | 0 => fun _ _ => none
  | d + 1 => fun body st => match evLoop Γ P (loopX n d) id body n st (fun e st' => some (e, st')) with
    | some (e, st') => some (true, e, st')
    | none => none
end

section
variable {R : Type} {Γ : Orc} {P : Program} {w0 : World}

theorem evLoop_sound (hΓ : Γ.Ok P) (hm : P.follows .mixedOrders = true) {Λ : LoopOrc} {body : Code} (hL : ∀ b ∈ loopsOf body, LoopOk Λ P w0 b) {cut : St → St} (hcut : ∀ st a w, RelP P ⟨[], []⟩ w0 st a w → RelP P ⟨[], []⟩ w0 (cut st) a w)
    {k : Ex → St → Option R} {r : R} {Q : Exit → Act → World → Prop} (hQ : ∀ e st', e ≠ .normal → k e st' = some r → ∀ a w, RelP P ⟨[], []⟩ w0 st' a w → Q e.out a w) : ∀ (n : Nat) (st : St) (a : Act) (w : World),
    evLoop Γ P Λ cut body n st k = some r → RelP P ⟨[], []⟩ w0 st a w → Code.rounds P body Q n a w
  | 0, st, a, w, h, hR => by simp [evLoop] at h
  | n + 1, st, a, w, h, hR => by
    simp only [evLoop] at h
    rw [rounds_succ]
    refine ev_sound hΓ hm body hL st _ r _ a w h hR ?_
    intro e st' hk a' w' hR'
    cases e with
    | normal =>
      rw [fSt_eq] at hk
      exact evLoop_sound hΓ hm hL hcut hQ n (cut st') a' w' hk (hcut _ _ _ hR')
    | exit id => exact hQ (.exit id) st' (by simp) hk a' w' hR'
    | ret => exact hQ .ret st' (by simp) hk a' w' hR'

theorem loopX_ok (hΓ : Γ.Ok P) (hm : P.follows .mixedOrders = true) (n : Nat) : ∀ (d : Nat) (body : Code), LoopOk (loopX Γ P n d) P w0 body
  | 0, body => fun st e st' h => by simp [loopX] at h
  | d + 1, body => fun st e st' h a w hR => by
    simp only [loopX] at h
    split at h
    case h_2 => cases h
    rename_i e2 st2 h0
    injection h with h
    injection h with _ h
    injection h with h1 h2
    subst h1 h2
    have h := h0
    refine wp_loop_rounds n (evLoop_sound hΓ hm (fun b _ => loopX_ok hΓ hm n d b) (fun _ _ _ h => h) (r := (e2, st2)) ?_ n st a w h hR)
    intro e1 st1 _ hk a' w' hR'
    injection hk with hk
    injection hk with h1 h2
    subst h1 h2
    exact ⟨rfl, hR'⟩

theorem callFunc_enter {f : FuncId} {fn : Func} {vs : List Value} (hf : P.funcs[f]? = some fn) (hb : fn.body.isSome = true) (hn : fn.name ≠ "runtime.NumGoroutine") (w : World) : (callFunc f vs.toArray).run P w = .ok (.enter f vs.toArray) w := by
  unfold callFunc
  rw [run_andThen program _ w w P rfl]
  simp only [hf]
  have : (fn.name == "runtime.NumGoroutine") = false := by simpa using hn
  simp only [this, Bool.false_eq_true, if_false]
  cases hb' : fn.body with
  | none => simp [hb'] at hb
  | some c => rfl

def namesOk (P : Program) : Bool := P.funcs.toList.all fun fn => fn.body.isNone || fn.name != "runtime.NumGoroutine"

theorem names_of (h : namesOk P = true) {f : FuncId} {fn : Func} (hf : P.funcs[f]? = some fn) (hb : fn.body.isSome = true) : fn.name ≠ "runtime.NumGoroutine" := by
  have := List.all_eq_true.1 h fn (by
    rw [Array.mem_toList_iff]
    exact Array.mem_of_getElem? hf)
  cases hb' : fn.body with
  | none => simp [hb'] at hb
  | some c => simpa [hb'] using this

theorem callOk_of_run (hΓ : Γ.Ok P) (hm : P.follows .mixedOrders = true) (hN : namesOk P = true) {Λ : LoopOrc} {f : FuncId} {fn : Func} {c : Code} (hf : P.funcs[f]? = some fn) (hb : fn.body = some c) (hL : ∀ w, ∀ b ∈ loopsOf c, LoopOk Λ P w b) {vs : List Arg} {r : Res}
    (h : runA Γ Λ P fn vs = some r) : CallOk P f vs r := fun w _ hA =>
  .inr ⟨callFunc_enter hf (by simp [hb]) (names_of hN hf (by simp [hb])) w, run_sound hΓ hm hf hb h w (hL w) hA⟩

theorem callV (P : Program) {f : FuncId} {vs : List Value} {r : Value} (h : ∀ w, (callFunc f vs.toArray).run P w = .ok (.value r) w ∨ ((callFunc f vs.toArray).run P w = .ok (.enter f vs.toArray) w ∧ Calls P f vs.toArray w (fun e w' => e = .returned r ∧ Kp w w'))) : CallOk P f (vs.map .v) (.v r) := by
  intro w us hA
  obtain rfl := argsV_eq hA
  rcases h w with h | ⟨h1, h2⟩
  · exact .inl ⟨r, h, rfl⟩
  · exact .inr ⟨h1, h2.mono fun e w' ⟨he, hk⟩ => ⟨r, he, rfl, hk⟩⟩

theorem callOk_of_runV (hΓ : Γ.Ok P) (hm : P.follows .mixedOrders = true) (hN : namesOk P = true) {Λ : LoopOrc} {f : FuncId} {fn : Func} {c : Code} (hf : P.funcs[f]? = some fn) (hb : fn.body = some c) (hL : ∀ w, ∀ b ∈ loopsOf c, LoopOk Λ P w b) {vs : List Value} {r : Value}
    (h : run Γ Λ P fn vs = some r) : CallOk P f (vs.map .v) (.v r) :=
  callV P fun w => .inr ⟨callFunc_enter hf (by simp [hb]) (names_of hN hf (by simp [hb])) w, runV_sound hΓ hm hf hb h w (hL w)⟩

def argVals : List Arg → Option (List Value)
  | [] => some []
  | .v x :: r => match argVals r with | some l => some (x :: l) | none => none
  | _ :: _ => none

theorem argVals_eq : ∀ {as : List Arg} {l : List Value}, argVals as = some l → as = l.map .v
  | [], l, h => by injection h with h; subst h; rfl
  | .v x :: r, l, h => by
    unfold argVals at h
    split at h
    · rename_i l' hl
      injection h with h
      subst h
      rw [argVals_eq hl]; rfl
    · cases h
  | .ints _ _ :: _, l, h => by cases h

/-- A table over values alone. -/
def tabV (t : FuncId → List Value → Option (Bool × Value)) : FuncId → List Arg → Option (Bool × Res) := fun f as =>
  match argVals as with
  | some l => match t f l with
    | some (g, r) => some (g, .v r)
    | none => none
  | none => none

theorem tabV_ok {t : FuncId → List Value → Option (Bool × Value)} (h : ∀ f vs r, t f vs = some (true, r) → CallOk P f (vs.map .v) (.v r)) : ∀ f as r, tabV t f as = some (true, r) → CallOk P f as r := by
  intro f as r hr
  unfold tabV at hr
  split at hr
  · rename_i l hl
    split at hr
    · rename_i g y hy
      injection hr with hr
      injection hr with e1 e2
      subst e1 e2
      rw [argVals_eq hl]
      exact h f l y hy
    · cases hr
  · cases hr

/-- Callees carried out, d deep. -/
def exec (P : Program) (ext : FuncId → List Arg → Option (Bool × Res)) (eqv : TypeId → List Value → List Value → Option Bool) (n : Nat) : Nat → Orc
  | 0 => ⟨ext, eqv, true⟩
  | d + 1 => ⟨fun f vs => match ext f vs with
    | some r => some r
    | none => match P.funcs[f]? with
      | some fn => match runA (exec P ext eqv n d) (loopX (exec P ext eqv n d) P n 2) P fn vs with
        | some v => some (true, v)
        | none => none
      | none => none, eqv, true⟩

theorem exec_ok (hm : P.follows .mixedOrders = true) (hN : namesOk P = true) {ext : FuncId → List Arg → Option (Bool × Res)} {eqv : TypeId → List Value → List Value → Option Bool} (h0 : Orc.Ok ⟨ext, eqv, true⟩ P) (n : Nat) : ∀ d, (exec P ext eqv n d).Ok P
  | 0 => h0
  | d + 1 => by
    refine ⟨fun f vs r h => ?_, h0.eqv⟩
    simp only [exec] at h
    split at h
    · rename_i q hq
      injection h with h
      subst h
      exact h0.call f vs r hq
    · split at h
      · rename_i fn hf
        split at h
        · rename_i v hv
          injection h with h
          injection h with _ h
          subst h
          have ih := exec_ok hm hN h0 n d
          cases hb : fn.body with
          | none => simp [runA, hb] at hv
          | some c => exact callOk_of_run ih hm hN hf hb (fun w b _ => loopX_ok ih hm n 2 b) hv
        · cases h
      · cases h
end
end Go.Sx

namespace Go.Sx
open Go.RowKit

def cutL (get : Nat → Option SV) : List Bool → Nat → List SV
  | [], _ => []
  | f :: r, i => match get i with
    | some x => (match f with | true => x | false => .poison) :: cutL get r (i + 1)
    | none => []

/-- At a loop's head: the slots that are kept; the others are unknown. -/
def cutS (keep : List Bool) (st : St) : St := ⟨Tr.ofList (cutL st.tmps.get keep 0), st.mem⟩

theorem cutL_get (get : Nat → Option SV) : ∀ (keep : List Bool) (i j : Nat) (x : SV), (cutL get keep i)[j]? = some x → get (i + j) = some x ∨ (x = .poison ∧ (get (i + j)).isSome = true)
  | [], i, j, x, h => by simp [cutL] at h
  | f :: r, i, j, x, h => by
    unfold cutL at h
    cases hg : get i with
    | none => simp [hg] at h
    | some y =>
      simp only [hg] at h
      cases j with
      | zero =>
        cases f
        · simp at h; exact .inr ⟨h.symm, by simp [hg]⟩
        · simp at h; subst h; exact .inl hg
      | succ j =>
        have := cutL_get get r (i + 1) j x (by simpa using h)
        rwa [show i + 1 + j = i + (j + 1) by omega] at this

section
variable {Γ : Orc} {P : Program} {w0 : World}

theorem cutS_rel {al : Al} {keep : List Bool} {st : St} {a : Act} {w : World} (h : RelP P al w0 st a w) : RelP P al w0 (cutS keep st) a w := by
  obtain ⟨V, hR, hp⟩ := h
  have key : ∀ (t : Nat) x, (cutS keep st).tmps.get t = some x → st.tmps.get t = some x ∨ (x = .poison ∧ (st.tmps.get t).isSome = true) := by
    intro t x hx
    simp only [cutS, Tr.get_ofList] at hx
    have := cutL_get _ _ _ _ _ hx
    simpa using this
  refine ⟨V, { hR with len := fun t x hx => ?_, tmps := fun t x hx y hy => ?_ }, hp⟩
  · rcases key t x hx with h1 | ⟨_, h1⟩
    · exact hR.len t x h1
    · obtain ⟨z, hz⟩ := Option.isSome_iff_exists.1 h1
      exact hR.len t z hz
  · rcases key t x hx with h1 | ⟨rfl, _⟩
    · exact hR.tmps t x h1 y hy
    · trivial

/-- A loop that is known by where it comes to. -/
theorem loop_ok (hΓ : Γ.Ok P) (hm : P.follows .mixedOrders = true) {Λ Λ' : LoopOrc} {body : Code} {keep : List Bool} (hL : ∀ b ∈ loopsOf body, LoopOk Λ P w0 b) {F : St → Option (Bool × Ex × St)} (hF : ∀ st, Λ' body st = F st)
    (h : ∀ st e st', F st = some (true, e, st') → ∃ n, evLoop (R := Ex × St) Γ P Λ (cutS keep) body n (cutS keep st) (fun e st => some (e, st)) = some (e, st')) : LoopOk Λ' P w0 body := by
  intro st e st' hs a w hR
  rw [hF] at hs
  obtain ⟨n, hn⟩ := h st e st' hs
  refine wp_loop_rounds n (evLoop_sound hΓ hm hL (fun _ _ _ h => cutS_rel h) (r := (e, st')) ?_ n _ a w hn (cutS_rel hR))
  intro e1 st1 _ hk a' w' hR'
  injection hk with hk
  injection hk with h1 h2
  subst h1 h2
  exact ⟨rfl, hR'⟩
end

/-- The n-th loop of a code: its body. -/
def loopAt (c : Code) (n : Nat) : Code := ((loopsOf c)[n]?).getD .skip
end Go.Sx

namespace Go.Sx
open Go.RowKit

def addR (m : List Nat) : SV → List Nat
  | .row r => bif m.contains r then m else m ++ [r]
  | .rp r _ => bif m.contains r then m else m ++ [r]
  | _ => m

def ixOf : List Nat → Nat → Nat → Option Nat
  | [], _, _ => none
  | a :: l, r, i => bif a == r then some i else ixOf l r (i + 1)

def reS (m : List Nat) : SV → SV
  | .row r => match ixOf m r 0 with
    | some i => .row i
    | none => .poison
  | .rp r j => match ixOf m r 0 with
    | some i => .rp i j
    | none => .poison
  | x => x

def noRow : SV → SV
  | .row _ => .poison
  | .rp _ _ => .poison
  | x => x

/-- At a loop's head: the slots that are kept, and the rows that they name, numbered anew. -/
def cutG (keep : List Bool) (st : St) : St :=
  ⟨Tr.ofList ((cutL st.tmps.get keep 0).map (reS ((cutL st.tmps.get keep 0).foldl addR []))),
    ⟨st.mem.blk.map (fun cs => cs.map noRow), st.mem.live, ((cutL st.tmps.get keep 0).foldl addR []).map (fun r => (st.mem.rows[r]?).getD .dead)⟩⟩

theorem addR_nodup {m : List Nat} (h : m.Nodup) (s : SV) : (addR m s).Nodup := by
  have key : ∀ r, (bif m.contains r then m else m ++ [r]).Nodup := by
    intro r
    cases hc : m.contains r
    · have : r ∉ m := by simpa using hc
      simp only [cond_false]
      rw [List.nodup_append]
      refine ⟨h, by simp, fun a ha b hb => ?_⟩
      simp at hb
      subst hb
      exact fun e => this (e ▸ ha)
    · exact h
  cases s <;> first | exact key _ | exact h

theorem foldR_nodup : ∀ (l : List SV) (m : List Nat), m.Nodup → (l.foldl addR m).Nodup
  | [], _, h => h
  | s :: l, _, h => foldR_nodup l _ (addR_nodup h s)

theorem ixOf_some : ∀ (l : List Nat) (r i j : Nat), ixOf l r i = some j → ∃ d, j = i + d ∧ l[d]? = some r
  | [], _, _, _, h => by cases h
  | a :: l, r, i, j, h => by
    unfold ixOf at h
    cases hc : a == r
    · rw [hc] at h
      obtain ⟨d, h1, h2⟩ := ixOf_some l r (i + 1) j h
      exact ⟨d + 1, by omega, by simpa using h2⟩
    · rw [hc] at h
      have : a = r := by simpa using hc
      subst this
      injection h with h
      exact ⟨0, by omega, by simp⟩

section
variable {Γ : Orc} {P : Program} {w0 : World}

theorem cutG_rel {al : Al} {keep : List Bool} {st : St} {a : Act} {w : World} (h : RelP P al w0 st a w) : RelP P al w0 (cutG keep st) a w := by
  obtain ⟨V, hR, hp⟩ := h
  have hnd := foldR_nodup (cutL st.tmps.get keep 0) [] (by simp)
  unfold cutG
  generalize hl : cutL st.tmps.get keep 0 = l at *
  generalize l.foldl addR [] = m at *
  have key : ∀ (t : Nat) x, l[t]? = some x → st.tmps.get t = some x ∨ (x = .poison ∧ (st.tmps.get t).isSome = true) := by
    intro t x hx
    subst hl
    have := cutL_get _ _ _ _ _ hx
    simpa using this
  have den : ∀ x y, Den V x y → Den ⟨V.b, fun i => (m[i]?).bind V.r⟩ (reS m x) y := by
    intro x y hd
    cases x with
    | row r =>
      simp only [reS]
      cases hi : ixOf m r 0 with
      | none => trivial
      | some i =>
        obtain ⟨d, h1, h2⟩ := ixOf_some _ _ _ _ hi
        have : i = d := by omega
        subst this
        simpa [Den, h2] using hd
    | rp r j =>
      simp only [reS]
      cases hi : ixOf m r 0 with
      | none => trivial
      | some i =>
        obtain ⟨d, h1, h2⟩ := ixOf_some _ _ _ _ hi
        have : i = d := by omega
        subst this
        simpa [Den, h2] using hd
    | _ => exact hd
  have den2 : ∀ x y, Den V x y → Den ⟨V.b, fun i => (m[i]?).bind V.r⟩ (noRow x) y := by
    intro x y hd
    cases x <;> first | exact hd | trivial
  have row : ∀ r rc, rowAt (m.map (fun r => (st.mem.rows[r]?).getD .dead)) r = some rc → ∃ r', m[r]? = some r' ∧ rowAt st.mem.rows r' = some rc := by
    intro r rc hr
    unfold rowAt at hr
    rw [List.getElem?_map] at hr
    cases hm : m[r]? with
    | none => simp [hm] at hr
    | some r' =>
      refine ⟨r', rfl, ?_⟩
      unfold rowAt
      simp only [hm, Option.map_some] at hr
      cases hs : st.mem.rows[r']? with
      | none => simp [hs] at hr
      | some q => simpa [hs] using hr
  refine ⟨⟨V.b, fun i => (m[i]?).bind V.r⟩, ?_, ?_⟩
  · refine { len := fun t x hx => ?_, tmps := fun t x hx y hy => ?_, defers := hR.defers, mem := fun b b' o hb cs hcs j x hx => ?_, inj := hR.inj, own := hR.own, dom := hR.dom, rows := fun r rc hr => ?_, rowsN := fun r hr => ?_, apart := fun r r' rc rc' u u' g h1 h2 h3 h4 h5 h6 h7 h8 => ?_, apartb := fun r rc u g b b' o h1 h2 h3 h4 h5 => ?_, below := hR.below, froz := hR.froz }
    · simp only [Tr.get_ofList, List.getElem?_map, Option.map_eq_some_iff] at hx
      obtain ⟨x0, hx0, _⟩ := hx
      rcases key t x0 hx0 with h1 | ⟨_, h1⟩
      · exact hR.len t x0 h1
      · obtain ⟨z, hz⟩ := Option.isSome_iff_exists.1 h1
        exact hR.len t z hz
    · simp only [Tr.get_ofList, List.getElem?_map, Option.map_eq_some_iff] at hx
      obtain ⟨x0, hx0, rfl⟩ := hx
      rcases key t x0 hx0 with h1 | ⟨rfl, _⟩
      · exact den _ _ (hR.tmps t x0 h1 y hy)
      · trivial
    · simp only [List.getElem?_map, Option.map_eq_some_iff] at hcs
      obtain ⟨cs0, hcs0, rfl⟩ := hcs
      rw [List.getElem?_map, Option.map_eq_some_iff] at hx
      obtain ⟨x0, hx0, rfl⟩ := hx
      obtain ⟨y, h1, h2, h3⟩ := hR.mem b b' o hb cs0 hcs0 j x0 hx0
      exact ⟨y, h1, den2 _ _ h2, h3⟩
    · obtain ⟨r', h1, h2⟩ := row r rc hr
      obtain ⟨u, h3, h4⟩ := hR.rows r' rc h2
      exact ⟨u, by simp [h1, h3], h4⟩
    · simp only [List.getElem?_map] at hr
      cases hm : m[r]? with
      | none => simp [hm]
      | some r' =>
        simp only [hm, Option.map_some, Option.bind_some] at hr ⊢
        rcases hr with hr | hr
        · cases hr
        · refine hR.rowsN r' (.inr ?_)
          cases hs : st.mem.rows[r']? with
          | none => simp [hs] at hr
          | some q => simpa [hs] using hr
    · obtain ⟨q, e1, e2⟩ := row r rc h1
      obtain ⟨q', e3, e4⟩ := row r' rc' h3
      simp only [e1, e3, Option.bind_some] at h5 h6
      refine hR.apart q q' rc rc' u u' g e2 h2 e4 h4 h5 h6 ?_ h8
      rintro rfl
      have hlt : r < m.length := by
        rcases Nat.lt_or_ge r m.length with h' | h'
        · exact h'
        · simp [List.getElem?_eq_none h'] at e1
      exact h7 ((List.getElem?_inj hlt hnd).1 (e1.trans e3.symm))
    · obtain ⟨q, e1, e2⟩ := row r rc h1
      simp only [e1, Option.bind_some] at h3
      exact hR.apartb q rc u g b b' o e2 h2 h3 h4 h5
  · intro d b e hm hn
    obtain ⟨z, h1, h2⟩ := hp d b e hm hn
    refine ⟨z, h1, ?_⟩
    simp only [List.getElem?_map, h2, Option.map_some]
    congr 1
    simp [noRow]

/-- A loop that is known by where it comes to. -/
theorem loop_okG (hΓ : Γ.Ok P) (hm : P.follows .mixedOrders = true) {Λ Λ' : LoopOrc} {body : Code} {keep : List Bool} (hL : ∀ b ∈ loopsOf body, LoopOk Λ P w0 b) {F : St → Option (Bool × Ex × St)} (hF : ∀ st, Λ' body st = F st)
    (h : ∀ st e st', F st = some (true, e, st') → ∃ n, evLoop (R := Ex × St) Γ P Λ (cutG keep) body n (cutG keep st) (fun e st => some (e, st)) = some (e, st')) : LoopOk Λ' P w0 body := by
  intro st e st' hs a w hR
  rw [hF] at hs
  obtain ⟨n, hn⟩ := h st e st' hs
  refine wp_loop_rounds n (evLoop_sound hΓ hm hL (fun _ _ _ h => cutG_rel h) (r := (e, st')) ?_ n _ a w hn (cutG_rel hR))
  intro e1 st1 _ hk a' w' hR'
  injection hk with hk
  injection hk with h1 h2
  subst h1 h2
  exact ⟨rfl, hR'⟩
end
end Go.Sx

namespace Go.Sx
open Go.RowKit

/-- The slots that are kept, one by one. -/
def pickB : List Bool → List SV → List SV
  | true :: k, x :: l => x :: pickB k l
  | false :: k, _ :: l => pickB k l
  | _, _ => []
def fillB : List Bool → List SV → List SV
  | true :: k, x :: l => x :: fillB k l
  | false :: k, l => .poison :: fillB k l
  | _, _ => []
/-- A state at a loop's head: the slots that are kept; the others are unknown. -/
def mk (keep : List Bool) (vals : List SV) (m : Mem) : St := ⟨Tr.ofList (fillB keep vals), m⟩

theorem fillB_pick (get : Nat → Option SV) : ∀ (keep : List Bool) (i : Nat), (cutL get keep i).length = keep.length → fillB keep (pickB keep (cutL get keep i)) = cutL get keep i
  | [], _, _ => rfl
  | b :: k, i, h => by
    unfold cutL at h ⊢
    cases hg : get i with
    | none => simp [hg] at h
    | some x =>
      simp only [hg, List.length_cons, Nat.add_right_cancel_iff] at h ⊢
      have := fillB_pick get k (i + 1) h
      cases b <;> simp [pickB, fillB, this]

theorem fillB_map {f : SV → SV} (hf : f .poison = .poison) : ∀ (keep : List Bool) (l : List SV), (fillB keep l).map f = fillB keep (l.map f)
  | [], l => by cases l <;> rfl
  | true :: k, [] => rfl
  | true :: k, x :: l => by simp [fillB, fillB_map hf k l]
  | false :: k, l => by
    cases l with
    | nil => simp [fillB, hf]; exact fillB_map hf k []
    | cons x l => simp [fillB, hf]; exact fillB_map hf k (x :: l)

/-- What a loop's head sees of a state. -/
def viewK (keep : List Bool) (st : St) : Option (List SV × Mem) :=
  match Nat.beq (cutL st.tmps.get keep 0).length keep.length with
  | true => some ((pickB keep (cutL st.tmps.get keep 0)).map (reS ((cutL st.tmps.get keep 0).foldl addR [])), (cutG keep st).mem)
  | false => none

theorem viewK_some {keep : List Bool} {st : St} {vals : List SV} {m : Mem} (h : viewK keep st = some (vals, m)) : cutG keep st = mk keep vals m := by
  unfold viewK at h
  split at h
  · rename_i hl
    injection h with h
    injection h with h1 h2
    have hl' : (cutL st.tmps.get keep 0).length = keep.length := Nat.eq_of_beq_eq_true hl
    subst h1 h2
    unfold mk
    rw [← fillB_map rfl, fillB_pick _ _ _ hl']
    rfl
  · cases h

def viaK (keep : List Bool) (G : List SV → Mem → Option (Bool × Ex × St)) (st : St) : Option (Bool × Ex × St) :=
  match viewK keep st with
  | some (vals, m) => G vals m
  | none => none

section
variable {Γ : Orc} {P : Program} {w0 : World}

/-- A loop that is known by where it comes to; behind it, too, only some slots are kept. -/
theorem loop_okK (hΓ : Γ.Ok P) (hm : P.follows .mixedOrders = true) {Λ Λ' : LoopOrc} {body : Code} {keep : List Bool} {kx : Ex → List Bool} (hL : ∀ b ∈ loopsOf body, LoopOk Λ P w0 b) {G : List SV → Mem → Option (Bool × Ex × St)} (hF : ∀ st, Λ' body st = viaK keep G st)
    (h : ∀ vals m e st', G vals m = some (true, e, st') → ∃ n, evLoop (R := Ex × St) Γ P Λ (cutG keep) body n (mk keep vals m) (fun e st => some (e, cutG (kx e) st)) = some (e, st')) : LoopOk Λ' P w0 body := by
  intro st e st' hs a w hR
  rw [hF] at hs
  unfold viaK at hs
  split at hs
  · rename_i vals m hv
    obtain ⟨n, hn⟩ := h vals m e st' hs
    rw [← viewK_some hv] at hn
    refine wp_loop_rounds n (evLoop_sound hΓ hm hL (fun _ _ _ h => cutG_rel h) (r := (e, st')) ?_ n _ a w hn (cutG_rel hR))
    intro e1 st1 _ hk a' w' hR'
    injection hk with hk
    injection hk with h1 h2
    subst h1 h2
    exact ⟨rfl, cutG_rel hR'⟩
  · cases hs
end

/-! Which slots are still asked for. -/
def rdO : Operand → List Nat
  | .tmp t => [t]
  | _ => []
def uni (a b : List Nat) : List Nat := a ++ b.filter fun x => !a.contains x
def liveOp (ops : Array Oper) (o : Oper) (out : List Nat) : List Nat :=
  uni (match o.guard with
    | some (j, _) => match (ops[j]?).bind (·.dst) with
      | some t => [t]
      | none => []
    | none => []) (uni (o.op.operands.toList.flatMap rdO) (match o.dst with
    | some d => out.filter fun x => !(x == d)
    | none => out))
def liveC (ret : List Nat) : Code → List (Nat × List Nat) → List Nat → List Nat
  | .region _ ops _, _, out => ops.toList.foldr (liveOp ops) out
  | .seq a b, env, out => liveC ret a env (liveC ret b env out)
  | .cond c a b, env, out => uni (rdO c) (uni (liveC ret a env out) (liveC ret b env out))
  | .block id a, env, out => liveC ret a ((id, out) :: env) out
  | .scope a, env, out => liveC ret a env out
  | .exit id, env, _ => match env.find? (fun p => p.1 == id) with
    | some p => p.2
    | none => []
  | .loop b, env, _ => liveC ret b env (liveC ret b env (liveC ret b env []))
  | .ret, _, _ => ret
  | _, _, out => out
/-- The slots that are asked for at the head of each loop (and behind each way out of it). -/
def liveL (ret : List Nat) : Code → List (Nat × List Nat) → List Nat → List (List Nat × List (Nat × List Nat))
  | .seq a b, env, out => liveL ret a env (liveC ret b env out) ++ liveL ret b env out
  | .cond _ a b, env, out => liveL ret a env out ++ liveL ret b env out
  | .block id a, env, out => liveL ret a ((id, out) :: env) out
  | .scope a, env, out => liveL ret a env out
  | .loop b, env, _ => [(liveC ret (.loop b) env [], env)]
  | _, _, _ => []
def retOf (fn : Func) : List Nat := fn.results.toList.map fun
  | .tmp t => t
  | .cell t _ => t
def maskOf (n : Nat) (l : List Nat) : List Bool := (List.range n).map fun i => l.contains i
/-- .. of a function's n-th loop: at its head, and behind it. -/
def headK (fn : Func) (n : Nat) : List Bool := maskOf fn.ntmps (((liveL (retOf fn) (fn.body.getD .skip) [] [])[n]?).getD ([], [])).1
def exitK (fn : Func) (n : Nat) (e : Ex) : List Bool := maskOf fn.ntmps (match e with
  | .exit id => match ((((liveL (retOf fn) (fn.body.getD .skip) [] [])[n]?).getD ([], [])).2.find? fun p => p.1 == id) with
    | some p => p.2
    | none => []
  | _ => retOf fn)
end Go.Sx

namespace Go.Sx
open Go.RowKit

section
variable {H : Type} {enc : TypeId × Value → H} {P : Program}

def szOk (P : Program) : Bool := (List.range P.types.size).all fun t => match P.underlying t with
  | some (.slice e) => Nat.blt 0 (P.cellsOf e)
  | _ => true

/-- What reads, and stays as it was, reads as it did. -/
theorem stayAll (hl : laidOutB P = true) (hm : mapsRowed P = true) (hz : szOk P = true) {W W' : World} {sp : Nat → Bool} : ∀ {ts : List TypeId} {vs : List Value} {ds : List (DataW H)} {p : List MemPlace}, (∀ t ∈ ts, t < P.types.size) →
    DataW.TrodAll enc P W 0 (fun _ => true) true ts vs ds p → (∀ q ∈ p, W.sameAt W' q) → (∀ q ∈ p, sp q.block = true) → DataW.TrodAll enc P W' 0 sp true ts vs ds p
  | [], [], [], p, _, h, _, _ => h
  | t :: ts, v :: vs, d :: ds, p, hT, h, hs, hb => by
    obtain ⟨q, r, ⟨n, h1⟩, h2, rfl⟩ := h
    have hz' : ∀ {t e : TypeId}, t < P.types.size → P.underlying t = some (.slice e) → 0 < P.cellsOf e := fun {t e} ht hu => by
      have := List.all_eq_true.1 hz t (List.mem_range.2 ht)
      rw [hu] at this
      exact Nat.lt_of_lt_of_le (by decide : 0 < 1) (Nat.le_of_ble_eq_true this)
    refine ⟨q, r, ⟨n, DataW.trod_stays (T := (· < P.types.size)) (kids_rows hl hm) hz' (fun h => by cases h) (hT t (by simp)) h1 (fun x hx => hs x (List.mem_append_left _ hx)) (fun x hx => hb x (List.mem_append_left _ hx))⟩, ?_, rfl⟩
    exact stayAll hl hm hz (fun t ht => hT t (List.mem_cons_of_mem _ ht)) h2 (fun x hx => hs x (List.mem_append_right _ hx)) (fun x hx => hb x (List.mem_append_right _ hx))
  | [], [], _ :: _, _, _, h, _, _ => h.elim
  | [], _ :: _, _, _, _, h, _, _ => h.elim
  | _ :: _, [], _, _, _, h, _, _ => h.elim
  | _ :: _, _ :: _, [], _, _, h, _, _ => h.elim

/-- A slice of numbers, opened. -/
theorem open_row {w : World} {b0 : Nat} {t e : TypeId} {k : IntKind} {v : Value} {d : DataW H} {ps : List MemPlace} (ht : P.underlying t = some (.slice e)) (he : P.underlying e = some (.int k)) (hc : P.cellsOf e = 1)
    (hv : Value.okWide P w .any b0 t v) (h : DataW.Trod enc P w 0 (fun _ => true) true t v d ps) :
    ∃ L, Reads w.heap.size w k L v ∧ (∀ n ∈ L, (Lit.int k n).wf = true) ∧ (L = [] ∨ ∃ elems spare, d = .slice elems spare ∧ L.length = elems.length) := by
  obtain ⟨fuel, h⟩ := h
  have hcs : v.cells.toList = [v] := by
    unfold Value.okWide at hv
    simp only [ht] at hv
    unfold Cell.okWide at hv
    simp only [ht] at hv
    cases v <;> first | rfl | (unfold Cell.ok at hv; simp only [ht] at hv)
  rw [hcs] at h
  rcases Go.ChangeShapes.open_ints ht he hc h with ⟨h1, h2⟩ | ⟨a, len, cap, zs, h1, _, h3, h4, h5, h6, h7, h8⟩
  · injection h1 with h1
    exact ⟨[], .inl ⟨h1, rfl⟩, by simp, .inl rfl⟩
  · injection h1 with h1
    subst h1
    have hsp : a.spot = none := by
      unfold Value.okWide at hv
      simp only [ht] at hv
      unfold Cell.okWide at hv
      simp only [ht] at hv
      unfold Cell.ok at hv
      simp only [ht] at hv
      exact hv.2.2.2.1
    obtain ⟨b, o, spot⟩ := a
    simp only at hsp
    subst hsp
    simp only [if_true] at h5
    have hlen : (zs.take len).length = len := by simp; omega
    have cell : ∀ (j : Nat) x, (zs.take len)[j]? = some x → w.cell? ⟨b, o + j, none⟩ = some (.int k x) := by
      intro j x hx
      have hj : j < len := by
        rcases Nat.lt_or_ge j len with h' | h'
        · exact h'
        · rw [List.getElem?_eq_none (by simp; omega)] at hx; cases hx
      have hz : zs[j]? = some x := by rwa [List.getElem?_take_of_lt hj] at hx
      have := h7 j (by omega)
      rw [add_place] at this
      rw [this]
      simp [List.getD, hz]
    refine ⟨zs.take len, .inr ⟨b, o, cap, by rw [hlen], fun hne => ?_, cell⟩, fun n hn => h8 n (List.mem_of_mem_take hn), .inr ⟨_, _, by injection h6 with h6 _, ?_⟩⟩
    · cases hz : zs.take len with
      | nil => exact absurd hz hne
      | cons x r => exact World.block_lt_of_cell? w ⟨b, o + 0, none⟩ (cell 0 x (by rw [hz]; rfl))
    · simp [Go.ChangeShapes.lits]
end
end Go.Sx

