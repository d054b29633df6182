/-
  An executor of the model's code over values in part unknown: what it sees of memory,what is lent and what comes back,loads,stores,one operation. No condition.
-/
import Derived.Still
import Derived.Below
import Derived.KernelRfl
import Derived.Laws.BytesArg
import Derived.Laws.MakeOwn
import Derived.Laws.Slices
import Derived.Laws.AppendOwn
import Derived.Laws.Tables
namespace Go.Sx
open Go.RowKit
inductive SA where
 | v (x:Value)
 | ptr (l off:Nat)
 | row (r:Nat)
 | clo (f:FuncId) (l off:Nat)
inductive TC where
 | one (a:SA)
 | ag (cs:List SA)
inductive SV where
 | v (x:Value)
 | ptr (l off:Nat)
 | row (r:Nat)
 | rp (r n:Nat) (i:Int) (j:Nat)
 | clo (f:FuncId) (l off:Nat)
 | el (l off n:Nat) (i:Int)
 | ag (cs:List SA)
 | tup (cs:List TC)
 | lit (cs:List Value) (n:Nat)
 | part (r n:Nat) (lo hi:Int)
 | nul
 | poison
def SA.sv:SA->SV
 | .v x=>.v x
 | .ptr l o=>.ptr l o
 | .row r=>.row r
 | .clo f l o=>.clo f l o
inductive CK0 where
 | num (k:IntKind)
 | str
 | bool
inductive CK where
 | num (k:IntKind)
 | str
 | bool
 | sl (e:TypeId) (ks:List CK0)
def CK0.ck:CK0->CK
 | .num k=>.num k
 | .str=>.str
 | .bool=>.bool
def CK.plain:CK->Bool
 | .sl _ _=>false
 | _=>true
inductive Dat where
 | n (x:Int)
 | s (x:ByteArray)
 | b (x:Bool)
 | l (u:Value) (L:List (List Dat))
def Dat.toU:Dat->Value
 | .l (.slice ad len cap) _=>.slice ad len cap
 | _=>.slice none 0 0
theorem Dat.toU_slice (d:Dat):∃ a n m,d.toU=.slice a n m:=by
 unfold Dat.toU
 split
 ·exact ⟨_,_,_,rfl⟩
 ·exact ⟨_,_,_,rfl⟩
def Dat.toL:Dat->List (List Dat)
 | .l _ L=>L
 | _=>[]
def Dat.toI:Dat->Int
 | .n x=>x
 | _=>0
def Dat.toS:Dat->ByteArray
 | .s x=>x
 | _=>.empty
def Dat.toB:Dat->Bool
 | .b x=>x
 | _=>false
def CK.cell:CK->Dat->Value
 | .num k,d=>.int k d.toI
 | .str,d=>.string d.toS
 | .bool,d=>.bool d.toB
 | .sl _ _,d=>d.toU
def CK.dat:CK->Value->Option Dat
 | .num k,.int k' n=>if k'=k then some (.n n) else none
 | .str,.string s=>some (.s s)
 | .bool,.bool b=>some (.b b)
 | .sl _ _,.slice none 0 0=>some (.l (.slice none 0 0) [])
 | _,_=>none
theorem CK.dat_cell {k:CK} {v:Value} {d:Dat} (h:k.dat v=some d):k.cell d=v:=by
 unfold CK.dat at h
 split at h
 ·split at h
  ·rename_i hk;injection h with h;subst h hk;rfl
  ·cases h
 ·injection h with h;subst h;rfl
 ·injection h with h;subst h;rfl
 ·injection h with h;subst h;rfl
 ·cases h
structure RowC where
 e:TypeId
 ks:List CK
 L:List (List Dat)
 own:Bool
 mark:Bool
inductive Tr where
 | lf
 | nd (l:Tr) (x:SV) (r:Tr)
def Tr.get:Tr->Nat->Option SV
 | .lf,_=>none
 | .nd l x r,n=>match n with
  | 0=>some x
  | n+1=>match Nat.beq (n % 2) 0 with
   | true=>l.get (n / 2)
   | false=>r.get (n / 2)
def Tr.set:Tr->Nat->SV->Tr
 | .lf,_,_=>.lf
 | .nd l x r,n,y=>match n with
  | 0=>.nd l y r
  | n+1=>match Nat.beq (n % 2) 0 with
   | true=>.nd (l.set (n / 2) y) x r
   | false=>.nd l x (r.set (n / 2) y)
def Tr.cons (x:SV):Tr->Tr
 | .lf=>.nd .lf x .lf
 | .nd l y r=>.nd (r.cons y) x l
def Tr.ofList:List SV->Tr
 | []=>.lf
 | x::l=>(Tr.ofList l).cons x
theorem Tr.get_nd_odd (l r:Tr) (x:SV) (k:Nat):(Tr.nd l x r).get (2*k+1)=l.get k:=by
 have h1:Nat.beq (2*k % 2) 0=true:=by rw [show 2*k % 2=0 by omega];rfl
 have h2:2*k / 2=k:=by omega
 simp only [Tr.get,h1,h2]
theorem Tr.get_nd_even (l r:Tr) (x:SV) (k:Nat):(Tr.nd l x r).get (2*k+2)=r.get k:=by
 have h1:Nat.beq ((2*k+1) % 2) 0=false:=by rw [show (2*k+1) % 2=1 by omega];rfl
 have h2:(2*k+1) / 2=k:=by omega
 simp only [Tr.get,h1,h2]
theorem Tr.get_cons_zero (x:SV) (t:Tr):(t.cons x).get 0=some x:=by cases t<;>rfl
theorem Tr.get_cons_succ:∀ (t:Tr) (x:SV) (n:Nat),(t.cons x).get (n+1)=t.get n
 | .lf,x,n=>by
  rcases Nat.mod_two_eq_zero_or_one n with h|h
  ·obtain ⟨k,rfl⟩:∃ k,n=2*k:=⟨n / 2,by omega⟩
   rw [Tr.cons,Tr.get_nd_odd];rfl
  ·obtain ⟨k,rfl⟩:∃ k,n=2*k+1:=⟨n / 2,by omega⟩
   rw [Tr.cons,Tr.get_nd_even];rfl
 | .nd l y r,x,n=>by
  rcases Nat.mod_two_eq_zero_or_one n with h|h
  ·obtain ⟨k,rfl⟩:∃ k,n=2*k:=⟨n / 2,by omega⟩
   rw [Tr.cons,Tr.get_nd_odd]
   cases k with
   | zero=>exact Tr.get_cons_zero _ _
   | succ k=>rw [Tr.get_cons_succ r y k,show 2*(k+1)=2*k+2 by omega,Tr.get_nd_even]
  ·obtain ⟨k,rfl⟩:∃ k,n=2*k+1:=⟨n / 2,by omega⟩
   rw [Tr.cons,Tr.get_nd_even,Tr.get_nd_odd]
theorem Tr.get_ofList:∀ (l:List SV) (n:Nat),(Tr.ofList l).get n=l[n]?
 | [],n=>by simp [Tr.ofList,Tr.get]
 | x::l,0=>by simp [Tr.ofList,Tr.get_cons_zero]
 | x::l,n+1=>by simp [Tr.ofList,Tr.get_cons_succ,Tr.get_ofList l n]
theorem Tr.set_nd_odd (l r:Tr) (x y:SV) (k:Nat):(Tr.nd l x r).set (2*k+1) y=.nd (l.set k y) x r:=by
 have h1:Nat.beq (2*k % 2) 0=true:=by rw [show 2*k % 2=0 by omega];rfl
 have h2:2*k / 2=k:=by omega
 simp only [Tr.set,h1,h2]
theorem Tr.set_nd_even (l r:Tr) (x y:SV) (k:Nat):(Tr.nd l x r).set (2*k+2) y=.nd l x (r.set k y):=by
 have h1:Nat.beq ((2*k+1) % 2) 0=false:=by rw [show (2*k+1) % 2=1 by omega];rfl
 have h2:(2*k+1) / 2=k:=by omega
 simp only [Tr.set,h1,h2]
theorem pN (n:Nat):n=0\/(∃ k,n=2*k+1)\/(∃ k,n=2*k+2):=by
 rcases Nat.mod_two_eq_zero_or_one n with h|h
 ·rcases Nat.eq_zero_or_pos n with h0|h0
  ·exact .inl h0
  ·exact .inr (.inr ⟨n / 2 - 1,by omega⟩)
 ·exact .inr (.inl ⟨n / 2,by omega⟩)
theorem Tr.get_set_ne:∀ (t:Tr) (d e:Nat) (y:SV),d≠e->(t.set d y).get e=t.get e
 | .lf,d,e,y,_=>rfl
 | .nd l x r,d,e,y,h=>by
  rcases pN d with rfl|⟨k,rfl⟩|⟨k,rfl⟩<;>rcases pN e with rfl|⟨j,rfl⟩|⟨j,rfl⟩
  ·exact absurd rfl h
  ·show (Tr.nd l y r).get _=_;rw [Tr.get_nd_odd,Tr.get_nd_odd]
  ·show (Tr.nd l y r).get _=_;rw [Tr.get_nd_even,Tr.get_nd_even]
  ·rw [Tr.set_nd_odd];rfl
  ·rw [Tr.set_nd_odd,Tr.get_nd_odd,Tr.get_nd_odd];exact Tr.get_set_ne l k j y (by omega)
  ·rw [Tr.set_nd_odd,Tr.get_nd_even,Tr.get_nd_even]
  ·rw [Tr.set_nd_even];rfl
  ·rw [Tr.set_nd_even,Tr.get_nd_odd,Tr.get_nd_odd]
  ·rw [Tr.set_nd_even,Tr.get_nd_even,Tr.get_nd_even];exact Tr.get_set_ne r k j y (by omega)
theorem Tr.get_set_self:∀ (t:Tr) (d:Nat) (y:SV),(t.set d y).get d=(t.get d).map fun _=>y
 | .lf,d,y=>rfl
 | .nd l x r,d,y=>by
  rcases pN d with rfl|⟨k,rfl⟩|⟨k,rfl⟩
  ·rfl
  ·rw [Tr.set_nd_odd,Tr.get_nd_odd,Tr.get_nd_odd];exact Tr.get_set_self l k y
  ·rw [Tr.set_nd_even,Tr.get_nd_even,Tr.get_nd_even];exact Tr.get_set_self r k y
theorem Tr.set_self:∀ (t:Tr) (d:Nat) (y:SV),t.get d=some y->t.set d y=t
 | .lf,d,y,_=>rfl
 | .nd l x r,d,y,h=>by
  rcases pN d with rfl|⟨k,rfl⟩|⟨k,rfl⟩
  ·injection h with h;subst h;rfl
  ·rw [Tr.get_nd_odd] at h;rw [Tr.set_nd_odd,Tr.set_self l k y h]
  ·rw [Tr.get_nd_even] at h;rw [Tr.set_nd_even,Tr.set_self r k y h]
theorem Tr.set_comm:∀ (t:Tr) (d e:Nat) (x y:SV),d≠e->(t.set d x).set e y=(t.set e y).set d x
 | .lf,d,e,x,y,_=>rfl
 | .nd l z r,d,e,x,y,h=>by
  rcases pN d with rfl|⟨k,rfl⟩|⟨k,rfl⟩<;>rcases pN e with rfl|⟨j,rfl⟩|⟨j,rfl⟩
  ·exact absurd rfl h
  ·show (Tr.nd l x r).set _ _=_;rw [Tr.set_nd_odd,Tr.set_nd_odd];rfl
  ·show (Tr.nd l x r).set _ _=_;rw [Tr.set_nd_even,Tr.set_nd_even];rfl
  ·rw [Tr.set_nd_odd];show Tr.nd _ _ _=(Tr.nd l y r).set _ _;rw [Tr.set_nd_odd]
  ·rw [Tr.set_nd_odd,Tr.set_nd_odd,Tr.set_nd_odd,Tr.set_nd_odd,Tr.set_comm l k j x y (by omega)]
  ·rw [Tr.set_nd_odd,Tr.set_nd_even,Tr.set_nd_even,Tr.set_nd_odd]
  ·rw [Tr.set_nd_even];show Tr.nd _ _ _=(Tr.nd l y r).set _ _;rw [Tr.set_nd_even]
  ·rw [Tr.set_nd_even,Tr.set_nd_odd,Tr.set_nd_odd,Tr.set_nd_even]
  ·rw [Tr.set_nd_even,Tr.set_nd_even,Tr.set_nd_even,Tr.set_nd_even,Tr.set_comm r k j x y (by omega)]
inductive RowS where
 | dead
 | live (c:RowC)
structure Mem where
 blk:List (List SA)
 live:List Bool
 rows:List RowS
structure St where
 tmps:Tr
 mem:Mem
def St.eval (st:St):Operand->Option SV
 | .tmp t=>st.tmps.get t
 | .const x=>some (.v x)
 | .global g=>some (.v (.pointer (some ⟨g,0,none⟩)))
 | .func f=>some (.v (.func (.func f) #[] #[]))
def St.put (st:St) (d:Option Tmp) (x:SV):St :=
 match d with
 | none=>st
 | some d=>{ st with tmps:=st.tmps.set d x }
def zp:Option SV->Option Value
 | some (.v y)=>some y
 | _=>none
def nV (s:Option SV):Bool :=
 match s with
 | some (.v _)=>true
 | _=>false
def uY (s:Option SV):Value :=
 match s with
 | some (.v y)=>y
 | _=>undef
def eK {α:Type} (P:Program):Sem α->Option α
 | .pure a=>some a
 | .program k=>eK P (k P)
 | .mark _ k=>eK P k
 | _=>none
theorem ww {α:Type} {P:Program}:∀ (s:Sem α) (a:α),eK P s=some a->∀ w,s.run P w=.ok a w
 | .pure b,a,h,w=>by simp [eK] at h;subst h;rfl
 | .program k,a,h,w=>by simp only [eK] at h;simp only [Sem.run];exact ww (k P) a h w
 | .mark _ k,a,h,w=>by simp only [eK] at h;simp only [Sem.run];exact ww k a h w
 | .load ..,a,h,w=>by simp [eK] at h
 | .store ..,a,h,w=>by simp [eK] at h
 | .new ..,a,h,w=>by simp [eK] at h
 | .shape ..,a,h,w=>by simp [eK] at h
 | .freeze ..,a,h,w=>by simp [eK] at h
 | .frozen ..,a,h,w=>by simp [eK] at h
 | .getObj ..,a,h,w=>by simp [eK] at h
 | .setObj ..,a,h,w=>by simp [eK] at h
 | .choose ..,a,h,w=>by simp [eK] at h
 | .sys ..,a,h,w=>by simp [eK] at h
 | .halt ..,a,h,w=>by simp [eK] at h
def dd (P:Program) (t:TypeId):Option Bool :=
 match P.underlying t with
 | some (.struct _)=>some true
 | some (.array _ _)=>some true
 | some _=>some false
 | none=>none
def a8 (P:Program) (t:TypeId):Option Nat :=
 match P.info? t with
 | some i=>some i.size
 | none=>none
def il (P:Program) (t:TypeId):Option Value :=
 match P.info? t with
 | some i=>i.zero
 | none=>none
def kh:List SA->Option (List Value)
 | []=>some []
 | .v x::r=>match kh r with
  | some l=>some (x::l)
  | none=>none
 | _::_=>none
def wW (cs:List SA):SV :=
 match kh cs with
 | some l=>.v (.agg l.toArray)
 | none=>.ag cs
def lO:SV->Option SA
 | .v (.agg _)=>none
 | .v (.tuple _)=>none
 | .v x=>some (.v x)
 | .ptr l o=>some (.ptr l o)
 | .row r=>some (.row r)
 | .clo f l o=>some (.clo f l o)
 | _=>none
def MD:Value->Bool
 | .agg _=>false
 | .tuple _=>false
 | _=>true
def wB:SA->Bool
 | .v x=>MD x
 | _=>true
def lN:SV->Option (List SA)
 | .v (.agg cs)=>some (cs.toList.map .v)
 | .ag cs=>some cs
 | x=>match lO x with
  | some y=>some [y]
  | none=>none
def iI (ag:Bool) (cs:List SA):Option SV :=
 match ag with
 | true=>some (wW cs)
 | false=>match cs with
  | [x]=>some x.sv
  | _=>none
def TC.sv:TC->SV
 | .one a=>a.sv
 | .ag cs=>wW cs
structure Orc where
 call:FuncId->List SV->Mem->Option (Bool×SV×Mem)
 eqv:TypeId->List Value->List Value->Option Bool
 conc:Bool:=false
 ae:Bool:=false
 rd:FuncId->List SV->Mem->Option (Bool×Value):=fun _ _ _=>none
 wr:FuncId->Bool:=fun _=>false
 sb:Bool:=false
 bs:Bool:=false
 unr:Nat:=0
 av:Bool:=false
 ia:Bool:=false
 alts:FuncId->List SV->Mem->List (Bool×Option (Bool×SV×Mem)):=fun _ _ _=>[]
def qU (d:Option (Bool×SV×Mem)):List (Bool×Option (Bool×SV×Mem))->Option (Bool×SV×Mem)
 | []=>d
 | (b,x)::l=>cond b x (qU d l)
def altR (Γ:Orc) (f:FuncId) (as:List SV) (m:Mem):Option (Bool×SV×Mem):=qU (Γ.call f as m) (Γ.alts f as m)
def rowAt (rows:List RowS) (r:Nat):Option RowC :=
 match rows[r]? with
 | some (.live rc)=>some rc
 | _=>none
def kB (k0:List CK) (rows:List RowS):SV->Option (List CK×List (List Dat))
 | .v (.slice _ 0 0)=>some (k0,[])
 | .v (.slice (some ⟨_,_,none⟩) 0 _)=>some (k0,[])
 | .row r=>match rowAt rows r with
  | some rc=>some (rc.ks,rc.L)
  | none=>none
 | .part r m lo hi=>match rowAt rows r with
  | some rc=>match Nat.beq rc.ks.length m with
   | true=>some (rc.ks,(rc.L.drop lo.toNat).take (hi - lo).toNat)
   | false=>none
  | none=>none
 | _=>none
def NG:Operand->Bool
 | .tmp _=>true
 | _=>false
def jh:Option Int->Bool
 | some n=>decide (n=0)
 | none=>false
def aH:List CK->List Dat->List Value
 | [],_=>[]
 | k::ks,l=>k.cell (l.headD (.n 0))::aH ks l.tail
def gG:List CK->List Value->Option (List Dat)
 | [],[]=>some []
 | k::ks,v::vs=>match k.dat v,gG ks vs with
  | some d,some l=>some (d::l)
  | _,_=>none
 | _,_=>none
def CK0.beq:CK0->CK0->Bool
 | .num k,.num k'=>decide (k=k')
 | .str,.str=>true
 | .bool,.bool=>true
 | _,_=>false
def xh:List CK0->List CK0->Bool
 | [],[]=>true
 | a::r,b::s=>a.beq b&&xh r s
 | _,_=>false
theorem CK0.beq_eq {a b:CK0} (h:a.beq b=true):a=b:=by
 cases a<;>cases b<;>simp_all [CK0.beq]
theorem Nx:∀ {a b:List CK0},xh a b=true->a=b
 | [],[],_=>rfl
 | a::r,b::s,h=>by
  simp only [xh,Bool.and_eq_true] at h
  rw [CK0.beq_eq h.1,Nx h.2]
 | [],_::_,h=>by cases h
 | _::_,[],h=>by cases h
def CK.beq:CK->CK->Bool
 | .num k,.num k'=>decide (k=k')
 | .str,.str=>true
 | .bool,.bool=>true
 | .sl e ks,.sl e' ks'=>Nat.beq e e'&&xh ks ks'
 | _,_=>false
def eL:List CK->List CK->Bool
 | [],[]=>true
 | a::r,b::s=>a.beq b&&eL r s
 | _,_=>false
theorem CK.beq_eq {a b:CK} (h:a.beq b=true):a=b:=by
 cases a<;>cases b<;>simp_all [CK.beq]
 exact Nx h.2
theorem jd:∀ {a b:List CK},eL a b=true->a=b
 | [],[],_=>rfl
 | a::r,b::s,h=>by
  simp only [eL,Bool.and_eq_true] at h
  rw [CK.beq_eq h.1,jd h.2]
 | [],_::_,h=>by cases h
 | _::_,[],h=>by cases h
def qiy:Value->Option CK
 | .int k _=>some (.num k)
 | .string _=>some .str
 | .bool _=>some .bool
 | _=>none
def CA:List Value->Option (List CK)
 | []=>some []
 | v::r=>match qiy v,CA r with
  | some k,some l=>some (k::l)
  | _,_=>none
def qiz:CK->Option CK0
 | .num k=>some (.num k)
 | .str=>some .str
 | .bool=>some .bool
 | .sl _ _=>none
def M2 {α β:Type} (f:α->Option β):List α->Option (List β)
 | []=>some []
 | x::r=>match f x,M2 f r with
  | some y,some l=>some (y::l)
  | _,_=>none
def Cz (P:Program):Nat->TypeId->Option (List CK)
 | 0,_=>none
 | f+1,t=>match P.underlying t with
  | some (.int k)=>some [.num k]
  | some .string=>some [.str]
  | some .bool=>some [.bool]
  | some (.slice e)=>match il P e with
   | some z=>match CA z.cells.toList with
    | some ks=>match M2 qiz ks with
     | some l=>some [.sl e l]
     | none=>none
    | none=>none
   | none=>none
  | some (.struct fs)=>fs.toList.foldr (fun fd r=>match Cz P f fd.type,r with
   | some a,some b=>some (a++b)
   | _,_=>none) (some [])
  | some (.array n e)=>match Cz P f e with
   | some a=>some (List.replicate n a).flatten
   | none=>none
  | _=>none
def pK (ks:List CK) (j n:Nat):Bool:=((ks.drop j).take n).all CK.plain
def eW (ks:List CK):Bool:=ks.all CK.plain
def MT:List CK->Option (List CK)
 | []=>some []
 | k::ks=>match MT ks with
  | some l=>some (k::l)
  | none=>none
def ksZ (P:Program) (t:TypeId) (vs:List Value):Option (List CK) :=
 match CA vs with
 | some ks=>some ks
 | none=>match Cz P 8 t with
  | some ks=>MT ks
  | none=>none
def fh (m:List Nat) (x:Nat):List Nat:=bif m.contains x then m else m++[x]
def mV (q:List Nat×List Nat):SA->List Nat×List Nat
 | .v _=>q
 | .ptr l _=>(fh q.1 l,q.2)
 | .row r=>(q.1,fh q.2 r)
 | .clo _ l _=>(fh q.1 l,q.2)
def uz (q:List Nat×List Nat):SV->List Nat×List Nat
 | .ptr l _=>(fh q.1 l,q.2)
 | .row r=>(q.1,fh q.2 r)
 | .clo _ l _=>(fh q.1 l,q.2)
 | .ag cs=>cs.foldl mV q
 | .part r _ _ _=>(q.1,fh q.2 r)
 | _=>q
def iZ (blk:List (List SA)):Nat->Nat->List Nat×List Nat->Option (List Nat×List Nat)
 | 0,_,_=>none
 | f+1,k,q=>match q.1[k]? with
  | none=>some q
  | some l=>match blk[l]? with
   | some cs=>iZ blk f (k+1) (cs.foldl mV q)
   | none=>none
def dN:List Nat->Nat->Nat->Option Nat
 | [],_,_=>none
 | a::l,r,i=>bif a==r then some i else dN l r (i+1)
def dU (ls rs:List Nat):SA->Option SA
 | .v x=>some (.v x)
 | .ptr l o=>match dN ls l 0 with
  | some i=>some (.ptr i o)
  | none=>none
 | .row r=>match dN rs r 0 with
  | some i=>some (.row i)
  | none=>none
 | .clo f l o=>match dN ls l 0 with
  | some i=>some (.clo f i o)
  | none=>none
def cH {α β:Type} (f:α->Option β):List α->Option (List β)
 | []=>some []
 | x::r=>match f x,cH f r with
  | some y,some l=>some (y::l)
  | _,_=>none
def iY (ls rs:List Nat):SV->Option SV
 | .v x=>some (.v x)
 | .ptr l o=>match dN ls l 0 with
  | some i=>some (.ptr i o)
  | none=>none
 | .row r=>match dN rs r 0 with
  | some i=>some (.row i)
  | none=>none
 | .clo f l o=>match dN ls l 0 with
  | some i=>some (.clo f i o)
  | none=>none
 | .ag cs=>match cH (dU ls rs) cs with
  | some l=>some (.ag l)
  | none=>none
 | .part r n lo hi=>match dN rs r 0 with
  | some i=>some (.part i n lo hi)
  | none=>none
 | _=>none
def pf (blk:List (List SA)) (ls rs:List Nat) (l:Nat):Option (List SA) :=
 match blk[l]? with
 | some cs=>cH (dU ls rs) cs
 | none=>none
def vl (rows:List RowS) (r:Nat):Option RowS :=
 match rows[r]? with
 | some (.live rc)=>some (.live rc)
 | _=>none
structure Lend where
 as:List SV
 m:Mem
 ls:List Nat
 rs:List Nat
def d7 (blk:List (List SA)) (rows:List RowS) (xs:List SV):Option Lend :=
 match iZ blk (blk.length+1) 0 (xs.foldl uz ([],[])) with
 | some (ls,rs)=>match cH (iY ls rs) xs,cH (pf blk ls rs) ls,cH (vl rows) rs with
  | some as,some b,some r=>some ⟨as,⟨b,b.map (fun _=>true),r⟩,ls,rs⟩
  | _,_,_=>none
 | none=>none
def d9 (ev:Operand->Option SV):List Operand->Option (List SV)
 | []=>some []
 | x::r=>match ev x,d9 ev r with
  | some y,some l=>some (y::l)
  | _,_=>none
def dH (ls:List Nat) (N i:Nat):Nat :=
 match ls[i]? with
 | some l=>l
 | none=>N+(i - ls.length)
def fK (ls rs:List Nat) (N M:Nat):SA->SA
 | .v x=>.v x
 | .ptr l o=>.ptr (dH ls N l) o
 | .row r=>.row (dH rs M r)
 | .clo f l o=>.clo f (dH ls N l) o
def Qa (ls rs:List Nat) (N M:Nat):TC->TC
 | .one a=>.one (fK ls rs N M a)
 | .ag cs=>.ag (cs.map (fK ls rs N M))
def HK (ls rs:List Nat) (N M:Nat):SV->SV
 | .v x=>.v x
 | .ptr l o=>.ptr (dH ls N l) o
 | .row r=>.row (dH rs M r)
 | .clo f l o=>.clo f (dH ls N l) o
 | .ag cs=>.ag (cs.map (fK ls rs N M))
 | .tup cs=>.tup (cs.map (Qa ls rs N M))
 | _=>.poison
def d6 {α:Type} (l:List α):List Nat->List α->List α
 | i::is,x::xs=>d6 (l.set i x) is xs
 | _,_=>l
def merge (st:Mem) (ls rs:List Nat) (m:Mem):Mem :=
 ⟨d6 st.blk ls (m.blk.map (fun cs=>cs.map (fK ls rs st.blk.length st.rows.length)))++(m.blk.drop ls.length).map (fun cs=>cs.map (fK ls rs st.blk.length st.rows.length)),
  st.live++m.live.drop ls.length,
  d6 st.rows rs m.rows++m.rows.drop rs.length⟩
structure Al where
 a:List (Tmp×Nat×TypeId)
 wr:FuncId->Bool:=fun _=>false
 sb:Bool:=false
 bs:Bool:=false
 bl:List (Tmp×Nat):=[]
 ld:TypeId->Bool:=fun _=>false
 av:Bool:=false
 lb:List Nat:=[]
def f9:List (Tmp×Nat)->Operand->Option Nat
 | (d,c)::r,.tmp t=>if t=d then some c else f9 r (.tmp t)
 | _,_=>none
def NK:Option Nat->Bool
 | some 0=>true
 | _=>false
def qdI:Value->Bool
 | .slice _ _ _=>true
 | _=>false
def qbG (P:Program) (t:TypeId):Bool :=
 match il P t with
 | some z=>z.cells.toList.any qdI
 | none=>false
def ci (al:Al) (o:Oper):Bool :=
 match o.op with
 | .load t p=>al.ld t&&NK (f9 al.bl p)
 | .call { callee:=.value (.func f),.. }=>al.wr f
 | .store _ _ _=>al.sb
 | .buildSlice _ _ _=>al.bs
 | .box _ _=>al.bs
 | .call { callee:=.builtin .append,.. }=>al.bs
 | _=>false
def qD (c:Option Nat) (s:Option SV):Bool :=
 match c,s with
 | none,_=>true
 | some 0,some (.rp _ _ _ _)=>true
 | some (l+1),some (.ptr l' _)=>Nat.beq l l'
 | _,_=>false
def cj (al:Al) (o:Oper) (ev:Operand->Option SV):Bool :=
 match o.op with
 | .load _ p=>qD (f9 al.bl p) (ev p)
 | .store _ p _=>qD (f9 al.bl p) (ev p)
 | .fieldAddr _ p _=>match al.av with
  | true=>qD (f9 al.bl p) (ev p)
  | false=>true
 | _=>true
def kN (al:List (Tmp×Nat×TypeId)) (d:Option Tmp):Option (Nat×TypeId) :=
 match d,al with
 | some d,(d',l,e)::r=>if d'=d then some (l,e) else kN r (some d)
 | _,_=>none
def ta (P:Program) (t:TypeId):Bool :=
 match P.underlying t with
 | some (.slice _)=>true
 | some (.pointer _)=>true
 | some (.struct _)=>true
 | some (.array _ _)=>true
 | some (.int _)=>false
 | some .bool=>false
 | some .string=>false
 | _=>true
def vX (P:Program) (at_:Array TypeId) (rows:List RowS):List RowS :=
 match at_.toList.any (ta P) with
 | true=>rows
 | false=>[]
def lr (P:Program) (at_:Array TypeId) (blk:List (List SA)):List (List SA) :=
 match at_.toList.any (ta P) with
 | true=>blk
 | false=>[]
def xk:Op->Bool
 | .select _ _=>true
 | _=>false
def dJ (P:Program) (o:Oper) (ev:Operand->Option SV):Option SV :=
 match o.op.operands.toList.all (fun x=>nV (ev x))&&!xk o.op with
 | true=>match eK P (execOp (fun x=>uY (ev x)) o) with
  | some (.value y)=>some (.v y)
  | some .skip=>some (.v undef)
  | _=>none
 | false=>none
def wr (c:Bool) (k:IntKind) (n:Int):Int :=
 match c with
 | false=>k.wrap n
 | true=>match k with
  | .u64=>n % 18446744073709551616
  | .i64=>match decide (n % 18446744073709551616>=9223372036854775808) with
   | true=>n % 18446744073709551616 - 18446744073709551616
   | false=>n % 18446744073709551616
  | .u8=>n % 256
  | .u32=>n % 4294967296
  | .u16=>n % 65536
  | k=>k.wrap n
theorem cF (c:Bool) (k:IntKind) (n:Int):wr c k n=k.wrap n:=by
 have e64:(2:Int) ^ 64=18446744073709551616:=by decide
 have e63:(2:Int) ^ 63=9223372036854775808:=by decide
 cases c with
 | false=>rfl
 | true =>
  cases k<;>simp only [wr,IntKind.wrap,IntKind.signed,IntKind.bits,Bool.true_and,Bool.false_and,Bool.false_eq_true,if_false,e64,e63,Nat.reduceSub,Int.reducePow]
  split<;>simp_all<;>omega
def CP (c:Bool) (op:BinOp) (k:IntKind) (a b:Int):Option Value :=
 match op with
 | .add=>some (.int k (wr c k (a+b)))
 | .sub=>some (.int k (wr c k (a - b)))
 | .mul=>some (.int k (wr c k (a*b)))
 | .and=>some (.int k (wr c k (BitVec.ofInt k.bits a &&& BitVec.ofInt k.bits b).toNat))
 | .or=>some (.int k (wr c k (BitVec.ofInt k.bits a ||| BitVec.ofInt k.bits b).toNat))
 | .xor=>some (.int k (wr c k (BitVec.ofInt k.bits a ^^^ BitVec.ofInt k.bits b).toNat))
 | .andNot=>some (.int k (wr c k (BitVec.ofInt k.bits a &&& ~~~ BitVec.ofInt k.bits b).toNat))
 | .eql=>some (.bool (a==b))
 | .neq=>some (.bool (a != b))
 | .lss=>some (.bool (decide (a<b)))
 | .leq=>some (.bool (decide (a<=b)))
 | .gtr=>some (.bool (decide (a>b)))
 | .geq=>some (.bool (decide (a>=b)))
 | _=>none
theorem qdO {P:Program} {w:World} {c:Bool} {op:BinOp} {k:IntKind} {a b:Int} {r:Value} {t:TypeId} (h:CP c op k a b=some r):(binOp op t (.int k a) (.int k b)).run P w=.ok r w:=by
 cases op<;>simp only [CP,cF] at h<;>first|(injection h with h;subst h;simp [binOp,Op.intArith,Op.intBits,Op.intCmp,pure];done)|cases h
def Ql (Γ:Orc) (op:BinOp) (t:TypeId) (a b:List Value):Option SV :=
 match op with
 | .eql=>match Γ.eqv t a b with|some r=>some (.v (.bool r))|none=>none
 | .neq=>match Γ.eqv t a b with|some r=>some (.v (.bool (!r)))|none=>none
 | _=>none
def aa (s:ByteArray) (i:Int):Int :=
 match s[i.toNat]? with
 | some b=>(b.toNat:Int)
 | none=>0
def tf (k:IntKind):List SA->Option (List Int)
 | []=>some []
 | .v (.int k' n)::r=>match tf k r with
  | some l=>if k'=k then some (n::l) else none
  | none=>none
 | _=>none
def xm:List SA->Option (IntKind×List Int)
 | .v (.int k n)::r=>match tf k r with
  | some l=>some (k,n::l)
  | none=>none
 | _=>none
def qdK:Operand->Bool
 | .const _=>true
 | _=>false
def qa2:Option TypeDesc->Bool
 | some (.int _)=>false
 | _=>true
def tM (c:Bool) (ix:Operand) (l off n s:Nat) (i:Int) (d:Option TypeDesc):Option SV :=
 match ((c||qdK ix)||qa2 d)||Nat.ble n 8 with
 | true=>some (.ptr l (off+i.toNat*s))
 | false=>match s with
  | 1=>some (.el l off n i)
  | _=>none
structure ElT where
 e:TypeId
 ks:List CK
 z:Value
 zs:List Dat
 bytes:Nat
def iM (P:Program) (t:TypeId):Option ElT :=
 match P.underlying t with
 | some (.slice e)=>match P.info? e with
  | some i=>match i.zero with
   | some z=>match ksZ P e z.cells.toList with
    | some ks=>match gG ks z.cells.toList with
     | some zs=>bif Nat.beq ks.length i.size&&Nat.blt 0 ks.length then some ⟨e,ks,z,zs,i.bytes⟩ else none
     | none=>none
    | none=>none
   | none=>none
  | none=>none
 | _=>none
def jU (ev:Operand->Option SV):List (Nat×Operand)->Option (List (Nat×Value))
 | []=>some []
 | (i,x)::r=>match zp (ev x),jU ev r with
  | some y,some l=>some ((i,y)::l)
  | _,_=>none
def bytesOf:List Value->Option (List Int)
 | []=>some []
 | .int .u8 x::r=>match bytesOf r with
  | some l=>some (x::l)
  | none=>none
 | _::_=>none
def bK (s:ByteArray):List Int:=s.data.toList.map fun b=>(b.toNat:Int)
def aq (L:List Int):List (List Dat):=L.map fun n=>[.n n]
def cU (L:List (List Dat)):List Int:=L.map fun l=>(l.headD (.n 0)).toI
def cD (ev:Operand->Option SV) (x:Option Operand) (d:Int):Option Int :=
 match x with
 | none=>some d
 | some y=>match ev y with
  | some (.v (.int _ i))=>some i
  | _=>none
def gT (ev:Operand->Option SV):List (Nat×Operand)->Option (List (Nat×List SA))
 | []=>some []
 | (i,x)::r=>match (ev x).bind lN,gT ev r with
  | some xs,some l=>some ((i,xs)::l)
  | _,_=>none
def pI:List SA->List SA->Option (List SA)
 | cs,[]=>some cs
 | _::cs,x::xs=>match pI cs xs with
  | some r=>some (x::r)
  | none=>none
 | [],_::_=>none
def pA:List SA->Nat->List SA->Option (List SA)
 | cs,0,xs=>pI cs xs
 | c::cs,n+1,xs=>match pA cs n xs with
  | some r=>some (c::r)
  | none=>none
 | [],_+1,_=>none
def qo (place:Nat->Option (Nat×Nat)):List SA->List (Nat×List SA)->Option (List SA)
 | cs,[]=>some cs
 | cs,(i,xs)::r=>match place i with
  | some (off,n)=>match Nat.beq xs.length n with
   | true=>match pA cs off xs with
    | some cs'=>qo place cs' r
    | none=>none
   | false=>none
  | none=>none
def sr (P:Program):List Field->Option (List (Nat×Nat))
 | []=>some []
 | f::r=>match P.info? f.type,sr P r with
  | some i,some l=>some ((f.offset,i.size)::l)
  | _,_=>none
def Hw (P:Program) (t:TypeId) (ps:List (Nat×List SA)):Option (List SA) :=
 match il P t,P.underlying t with
 | some z,some (.struct fs)=>match sr P fs.toList with
  | some pl=>qo (pl[·]?) (z.cells.toList.map .v) ps
  | none=>none
 | some z,some (.array _ e)=>match a8 P e with
  | some n=>qo (fun i=>some (i*n,n)) (z.cells.toList.map .v) ps
  | none=>none
 | _,_=>none
def Hy (P:Program) (ev:Operand->Option SV) (t:TypeId) (parts:List (Nat×Operand)):Option SV :=
 match gT ev parts with
 | some ps=>match Hw P t ps with
  | some cs=>some (.ag cs)
  | none=>none
 | none=>none
def zr (ev:Operand->Option SV) (l:List (Nat×Operand)):Bool:=l.all fun p=>nV (ev p.2)
def jy:Nat:=4294967296
def nq (P:Program) (op:BinOp) (t:TypeId) (rows:List RowS) (r:Nat):Option (Bool×Bool) :=
 match op with
 | .eql=>match P.underlying t with
  | some (.slice _)=>match rowAt rows r with
   | some rc=>some (Nat.blt 0 rc.L.length,false)
   | none=>none
  | _=>none
 | .neq=>match P.underlying t with
  | some (.slice _)=>match rowAt rows r with
   | some rc=>some (Nat.blt 0 rc.L.length,true)
   | none=>none
  | _=>none
 | _=>none
def aL (Γ:Orc) (P:Program) (al:Al) (o:Oper) (ev:Operand->Option SV) (blk:List (List SA)) (rows:List RowS):Option SV :=
 match o.op with
 | .move x=>ev x
 | .assign x=>ev x
 | .pick c x y=>match ev c with
  | some (.v (.bool t))=>bif t then ev x else ev y
  | _=>none
 | .alloc e=>match kN al.a o.dst with
  | some (l,e')=>if e'=e then some (.ptr l 0) else none
  | none=>none
 | .load t p=>match ev p,dd P t,a8 P t with
  | some (.ptr l off),some ag,some n=>match blk[l]? with
   | some cs=>if off+n<=cs.length then iI ag ((cs.drop off).take n) else none
   | none=>none
  | some (.rp r m i j),some false,some _=>match rowAt rows r with
   | some rc=>if rc.ks.length=m/\pK rc.ks j 1=true then (match (aH rc.ks (rc.L.getD i.toNat []))[j]? with
    | some y=>some (.v y)
    | none=>none) else none
   | none=>none
  | some (.rp r m i j),some true,some n=>match rowAt rows r with
   | some rc=>if rc.ks.length=m/\j+n<=m/\pK rc.ks j n=true then some (.v (.agg (((aH rc.ks (rc.L.getD i.toNat [])).drop j).take n).toArray)) else none
   | none=>none
  | some (.el l off n i),some false,some _=>match blk[l]? with
   | some cs=>match xm ((cs.drop off).take n) with
    | some (k,L)=>if L.length=n then some (.v (.int k (L.getD i.toNat 0))) else none
    | none=>none
   | none=>none
  | _,_,_=>none
 | .indexAddr t x ix=>match ev x,ev ix,P.underlying t with
  | some (.row r),some (.v (.int _ i)),some (.slice e)=>match rowAt rows r,a8 P e with
   | some rc,some n=>if rc.ks.length=n then (bif decide (0<=i)&&decide (i<rc.L.length) then some (.rp r n i 0) else none) else none
   | _,_=>none
  | some (.ptr l off),some (.v (.int _ i)),some (.array n e)=>match a8 P e with
   | some s=>match tM Γ.conc ix l off n s i (P.underlying e) with
    | some y=>bif decide (0<=i)&&decide (i<(n:Int)) then some y else none
    | none=>none
   | none=>none
  | some (.part r m lo hi),some (.v (.int _ i)),some (.slice e)=>match rowAt rows r,a8 P e with
   | some rc,some n=>if rc.ks.length=n/\m=n then (bif decide (0<=i)&&decide (i<hi - lo) then some (.rp r n (lo+i) 0) else none) else none
   | _,_=>none
  | _,_,_=>none
 | .buildSlice t n parts=>match iM P t,jU ev parts.toList with
  | some T,some ps=>match Instr.fill (fun i=>some (i*T.ks.length,T.ks.length)) (madeCells T.z.cells (n*T.ks.length)) ps with
   | some cells=>match Nat.ble (n*T.ks.length) 65536 with
    | true=>some (.lit cells.toList n)
    | false=>none
   | none=>none
  | _,_=>none
 | .build t parts=>match zr ev parts.toList with
  | true=>dJ P o ev
  | false=>Hy P ev t parts.toList
 | .makeFunc fn first captured=>match fn,first.toList,captured.toList with
  | .func f,[x],[]=>match ev x with
   | some (.ptr l off)=>match Nat.blt f jy with
    | true=>some (.clo f l off)
    | false=>none
   | _=>dJ P o ev
  | .func f,[],[x]=>match ev x with
   | some (.ptr l off)=>some (.clo (f+jy) l off)
   | _=>dJ P o ev
  | _,_,_=>dJ P o ev
 | .slice t x lo hi mx=>match ev x,P.underlying t,mx with
  | some (.v (.string s)),some .string,none=>match cD ev lo 0,cD ev hi (s.size:Int) with
   | some l,some h=>bif decide (0<=l)&&(decide (l<=h)&&decide (h<=(s.size:Int))) then some (.v (.string (s.extract l.toNat h.toNat))) else none
   | _,_=>none
  | some (.row r),some (.slice e),none=>match rowAt rows r,a8 P e with
   | some rc,some n=>match cD ev lo 0,cD ev hi (rc.L.length:Int) with
    | some l,some h=>if rc.ks.length=n/\0<n then (bif decide (0<=l)&&(decide (l<=h)&&decide (h<=(rc.L.length:Int))) then some (.part r n l h) else none) else none
    | _,_=>none
   | _,_=>none
  | some (.row r),some (.slice e),some mo=>match a8 P e with
   | some _=>match NG mo with
    | true=>match rowAt rows r,lo,hi,cD ev hi 1,cD ev mx 1 with
     | some rc,none,some _,some h,some m=>bif decide (0<=h)&&(decide (h=m)&&decide (h<=(rc.L.length:Int))) then some (.part r 0 0 h) else none
     | _,_,_,_,_=>none
    | false=>match jh (cD ev lo 0)&&(jh (cD ev hi 1)&&jh (cD ev mx 1)) with
     | true=>some .nul
     | false=>none
   | none=>none
  | _,_,_=>dJ P o ev
 | .nilCheck x=>match ev x with
  | some (.ptr l o)=>some (.ptr l o)
  | _=>dJ P o ev
 | .index t x ix=>match ev x,ev ix,P.underlying t with
  | some (.v (.string s)),some (.v (.int _ i)),some .string=>bif decide (0<=i)&&decide (i<(s.size:Int)) then some (.v (.int .u8 (aa s i))) else none
  | some (.ag cs),some (.v (.int _ i)),some (.array n e)=>match dd P e,a8 P e with
   | some ag,some s=>bif decide (0<=i)&&decide (i<(n:Int)) then (if i.toNat*s+s<=cs.length then iI ag ((cs.drop (i.toNat*s)).take s) else none) else none
   | _,_=>none
  | _,_,_=>dJ P o ev
 | .extract x ix=>match ev x with
  | some (.tup cs)=>match cs[ix]? with
   | some c=>some c.sv
   | none=>none
  | _=>dJ P o ev
 | .store ..=>some (.v undef)
 | .fieldAddr s p f=>match ev p,P.underlying s with
  | some (.ptr l off),some (.struct fs)=>match fs[f]? with
   | some fd=>match a8 P fd.type with
    | some (_+1)=>some (.ptr l (off+fd.offset))
    | _=>none
   | none=>none
  | some (.rp r n i j),some (.struct fs)=>match fs[f]? with
   | some fd=>match a8 P fd.type with
    | some (_+1)=>match rowAt rows r with
     | some _=>some (.rp r n i (j+fd.offset))
     | none=>none
    | _=>none
   | none=>none
  | _,_=>none
 | .field t x f=>match ev x,P.underlying t with
  | some (.ag cs),some (.struct fs)=>match fs[f]? with
   | some fd=>match dd P fd.type,a8 P fd.type with
    | some ag,some n=>if fd.offset+n<=cs.length then iI ag ((cs.drop fd.offset).take n) else none
    | _,_=>none
   | none=>none
  | _,_=>dJ P o ev
 | .binOp .quo _ x y _=>match ev x,ev y with
  | some (.v (.int k a)),some (.v (.int k' b))=>if k=k' then (bif b==0 then none else some (.v (.int k (k.wrap (a.tdiv b))))) else none
  | _,_=>none
 | .binOp .rem _ x y _=>match ev x,ev y with
  | some (.v (.int k a)),some (.v (.int k' b))=>if k=k' then (bif b==0 then none else some (.v (.int k (a.tmod b)))) else none
  | _,_=>none
 | .binOp .shl _ x y _=>match ev x,ev y with
  | some (.v (.int k a)),some (.v (.int _ b))=>bif decide (b<0) then none else some (.v (.int k (k.wrap (a*2 ^ (min b.toNat k.bits)))))
  | _,_=>none
 | .binOp .shr _ x y _=>match ev x,ev y with
  | some (.v (.int k a)),some (.v (.int _ b))=>bif decide (b<0) then none else some (.v (.int k (a.fdiv (2 ^ (min b.toNat k.bits)))))
  | _,_=>none
 | .binOp op t x y _=>match ev x,ev y with
  | some (.v (.int k a)),some (.v (.int k' b))=>if k=k' then (match CP Γ.conc op k a b with|some r=>some (.v r)|none=>none) else none
  | some (.v (.agg a)),some (.v (.agg b))=>Ql Γ op t a.toList b.toList
  | some (.v (.string a)),some (.v (.string b))=>match op with
   | .add=>bif Nat.ble (a.size+b.size) 9223372036854775807 then some (.v (.string (a++b))) else none
   | _=>dJ P o ev
  | some (.ptr _ _),some (.v (.pointer none))=>match P.underlying t,op with
   | some (.pointer _),.eql=>some (.v (.bool false))
   | some (.pointer _),.neq=>some (.v (.bool true))
   | _,_=>none
  | some (.row r),some (.v (.slice none 0 0))=>match nq P op t rows r with
   | some (g,b)=>bif g then some (.v (.bool b)) else none
   | none=>none
  | _,_=>dJ P o ev
 | .unOp .xor _ x=>match ev x with
  | some (.v (.int .i64 n))=>some (.v (.int .i64 (wr Γ.conc .i64 (-1 - n))))
  | some (.v (.int .u64 n))=>some (.v (.int .u64 (wr Γ.conc .u64 (-1 - n))))
  | _=>dJ P o ev
 | .convert s d x=>match ev x,P.underlying s,P.underlying d with
  | some (.v (.int _ n)),some _,some (.int k)=>some (.v (.int k (wr Γ.conc k n)))
  | some (.row r),some (.slice e),some .string=>match rowAt rows r,P.underlying e with
   | some rc,some (.int .u8)=>match rc.ks with
    | [.num .u8]=>some (.v (.string (strOfNums (cU rc.L))))
    | _=>none
   | _,_=>none
  | some (.part r m lo hi),some (.slice e),some .string=>match rowAt rows r,P.underlying e with
   | some rc,some (.int .u8)=>match rc.ks with
    | [.num .u8]=>if m=1 then some (.v (.string (strOfNums (cU ((rc.L.drop lo.toNat).take (hi - lo).toNat))))) else none
    | _=>none
   | _,_=>none
  | some (.lit cs n),some (.slice e),some .string=>match P.underlying e,bytesOf cs with
   | some (.int .u8),some L=>match Nat.beq L.length n with
    | true=>some (.v (.string (strOfNums L)))
    | false=>none
   | _,_=>none
  | _,_,_=>dJ P o ev
 | .call { callee:=.value (.func f),args,argTypes }=>match d9 ev args.toList with
  | some xs=>match d7 (lr P argTypes blk) (vX P argTypes rows) xs with
   | some q=>match Γ.rd f q.as q.m with
    | some (g,r)=>bif g then some (.v r) else none
    | none=>match q.ls,q.rs with
     | [],[]=>match Γ.call f q.as q.m with
      | some (g,.v r,⟨[],[],[]⟩)=>bif g then some (.v r) else none
      | _=>none
     | _,_=>none
   | none=>none
  | none=>none
 | .call { callee:=.value (.tmp t),args,.. }=>match ev (.tmp t) with
  | some (.v (.func (.func f) ⟨[]⟩ ⟨[]⟩))=>match d9 ev args.toList with
   | some xs=>match d7 [] [] xs with
    | some q=>match Γ.rd f q.as q.m with
     | some (g,r)=>bif g then some (.v r) else none
     | none=>none
    | none=>none
   | none=>none
  | some (.clo f l off)=>match Nat.ble jy f,d9 ev args.toList with
   | true,some xs=>match d7 blk rows (xs++[.ptr l off]) with
    | some q=>match Γ.rd (f - jy) q.as q.m with
     | some (g,r)=>bif g then some (.v r) else none
     | none=>none
    | none=>none
   | _,_=>none
  | _=>none
 | .call { callee:=.builtin .len,args,argTypes }=>match args.toList,argTypes.toList with
  | [x],[t]=>match ev x,P.underlying t with
   | some (.row r),some (.slice _)=>match rowAt rows r with
    | some rc=>some (.v (.int .i64 (rc.L.length:Int)))
    | none=>none
   | some (.part r _ lo hi),some (.slice _)=>match rowAt rows r with
    | some _=>some (.v (.int .i64 (hi - lo)))
    | none=>none
   | _,_=>dJ P o ev
  | _,_=>none
 | _=>dJ P o ev
theorem L9:∀ (cs xs r:List SA),pI cs xs=some r->xs.length<=cs.length/\r=xs++cs.drop xs.length
 | cs,[],r,h=>by simp [pI] at h;subst h;simp
 | _::cs,x::xs,r,h=>by
  unfold pI at h
  split at h
  ·rename_i q hq
   injection h with h
   subst h
   obtain ⟨h1,h2⟩:=L9 cs xs q hq
   exact ⟨by simpa using h1,by simp [h2]⟩
  ·cases h
 | [],_::_,r,h=>by simp [pI] at h
theorem Bq:∀ (cs:List SA) (n:Nat) (xs r:List SA),pA cs n xs=some r->n+xs.length<=cs.length/\r=cs.take n++xs++cs.drop (n+xs.length)
 | cs,0,xs,r,h=>by
  have:=L9 cs xs r (by cases cs<;>exact h)
  simpa using this
 | c::cs,n+1,xs,r,h=>by
  unfold pA at h
  split at h
  ·rename_i q hq
   injection h with h
   subst h
   obtain ⟨h1,h2⟩:=Bq cs n xs q hq
   refine ⟨by simp;omega,?_⟩
   rw [h2,show n+1+xs.length=(n+xs.length)+1 by omega]
   simp
  ·cases h
 | [],_+1,_,r,h=>by simp [pA] at h
def bj (P:Program) (o:Oper) (ev:Operand->Option SV) (blk:List (List SA)):Option (List (List SA)) :=
 match o.op with
 | .store t p x=>match ev p,a8 P t with
  | some (.ptr l off),some n=>match (ev x).bind lN,blk[l]? with
   | some xs,some cs=>match pA cs off xs with
    | some r=>if xs.length=n/\xs.all wB=true then some (blk.set l r) else none
    | none=>none
   | _,_=>none
  | _,_=>none
 | _=>some blk
def bh (al:Al) (o:Oper) (live:List Bool):Option (List Bool) :=
 match o.op with
 | .alloc _=>match kN al.a o.dst with
  | some (l,_)=>match live[l]? with
   | some false=>some (live.set l true)
   | _=>none
  | none=>none
 | _=>some live
def opM (al:Al) (P:Program) (o:Oper) (ev:Operand->Option SV) (m:Mem):Option Mem :=
 match bj P o ev m.blk,bh al o m.live with
 | some b,some l=>some ⟨b,l,m.rows⟩
 | _,_=>none
def vY (l m:List RowS):Bool:=Nat.ble l.length m.length
def kf (Γ:Orc) (f:FuncId) (st:St) (args:List Operand):Option (Bool×SV×Mem) :=
 match d9 st.eval args with
 | some xs=>match d7 st.mem.blk st.mem.rows xs with
  | some q=>match Γ.rd f q.as q.m with
   | some (g,r)=>some (g,.v r,st.mem)
   | none=>match altR Γ f q.as q.m with
    | some (g,r,m)=>match Nat.ble q.ls.length m.blk.length&&vY q.m.rows m.rows with
     | true=>some (g,HK q.ls q.rs st.mem.blk.length st.mem.rows.length r,merge st.mem q.ls q.rs m)
     | false=>none
    | none=>none
  | none=>none
 | none=>none
def Qc (ls:List Nat) (n l:Nat):Bool:=Nat.blt l n&&!ls.any (Nat.beq l)
def oM (al:Al) (st:St) (args:List Operand):Bool :=
 match al.av with
 | false=>true
 | true=>match d9 st.eval args with
  | some xs=>match d7 st.mem.blk st.mem.rows xs with
   | some q=>al.lb.all (Qc q.ls st.mem.blk.length)
   | none=>false
  | none=>false
end Go.Sx
namespace Go.Sx
open Go.RowKit
structure Vl where
 b:Nat->Option (Nat×Nat)
 r:Nat->Option (Option Value)
 q:Nat->Option (List Value)
def slicy:Value->Prop
 | .slice _ _ _=>True
 | _=>False
def jv (f:FuncId) (p:Value):Value:=if f<jy then .func (.func f) #[p] #[] else .func (.func (f - jy)) #[] #[p]
theorem Hl {f:FuncId} {p:Value}:(∀ c,jv f p≠.agg c)/\(∀ c,jv f p≠.tuple c)/\(jv f p).cells=#[jv f p]:=by
 unfold jv
 split<;>exact ⟨by simp,by simp,rfl⟩
def bq (V:Vl):SA->Value->Prop
 | .v x,y=>y=x
 | .ptr l off,y=>∃ b o,V.b l=some (b,o)/\y=.pointer (some ⟨b,o+off,none⟩)
 | .row r,y=>V.r r≠none/\(∀ u,V.r r=some (some u)->y=u)/\slicy y
 | .clo f l off,y=>∃ b o,V.b l=some (b,o)/\y=jv f (.pointer (some ⟨b,o+off,none⟩))
def aG {α:Type} (D:α->Value->Prop):List α->List Value->Prop
 | [],[]=>True
 | a::r,v::s=>D a v/\aG D r s
 | _,_=>False
def fQ (V:Vl):TC->Value->Prop
 | .one a,y=>bq V a y
 | .ag cs,y=>∃ vs,y=.agg vs.toArray/\aG (bq V) cs vs
def aI (V:Vl):SV->Value->Prop
 | .v x,y=>y=x
 | .ptr l off,y=>∃ b o,V.b l=some (b,o)/\y=.pointer (some ⟨b,o+off,none⟩)
 | .row r,y=>V.r r≠none/\(∀ u,V.r r=some (some u)->y=u)/\slicy y
 | .rp r n i j,y=>V.r r≠none/\∀ u,V.r r=some (some u)->∃ g o m c,u=.slice (some ⟨g,o,none⟩) m c/\0<=i/\i<(m:Int)/\y=.pointer (some ⟨g,o+(i.toNat*n+j),none⟩)
 | .clo f l off,y=>∃ b o,V.b l=some (b,o)/\y=jv f (.pointer (some ⟨b,o+off,none⟩))
 | .el l off n i,y=>∃ b o,V.b l=some (b,o)/\0<=i/\i<(n:Int)/\y=.pointer (some ⟨b,o+(off+i.toNat),none⟩)
 | .ag cs,y=>∃ vs,y=.agg vs.toArray/\aG (bq V) cs vs
 | .tup cs,y=>∃ vs,y=.tuple vs.toArray/\aG (fQ V) cs vs
 | .lit cs n,y=>∃ g,V.q g=some cs/\y=.slice (some ⟨g,0,none⟩) n n
 | .part r n lo hi,y=>V.r r≠none/\∀ u,V.r r=some (some u)->0<=lo/\lo<=hi/\((∃ a,u=.slice a 0 0/\y=.slice a 0 0/\hi=0)\/∃ g o m c o' c',u=.slice (some ⟨g,o,none⟩) m c/\hi<=(m:Int)/\y=.slice (some ⟨g,o',none⟩) (hi - lo).toNat c'/\(lo<hi->o'=o+lo.toNat*n)/\(hi - lo).toNat<=c'/\(n=0->c'=(hi - lo).toNat))
 | .nul,y=>∃ a,y=.slice a 0 0
 | .poison,_=>True
theorem Pg {V:Vl} {a:SA} {y:Value}:aI V a.sv y↔bq V a y:=by cases a<;>exact Iff.rfl
theorem aG.length {α:Type} {D:α->Value->Prop}:∀ {l:List α} {vs:List Value},aG D l vs->l.length=vs.length
 | [],[],_=>rfl
 | _::r,_::s,h=>by simp [aG.length h.2]
 | [],_::_,h=>h.elim
 | _::_,[],h=>h.elim
theorem aG.get {α:Type} {D:α->Value->Prop}:∀ {l:List α} {vs:List Value},aG D l vs->∀ (j:Nat) a,l[j]?=some a->∃ v,vs[j]?=some v/\D a v
 | [],[],_,j,a,h=>by simp at h
 | a0::r,v0::s,h,0,a,ha=>by
  simp at ha
  subst ha
  exact ⟨v0,by simp,h.1⟩
 | _::r,_::s,h,j+1,a,ha=>by
  obtain ⟨v,h1,h2⟩:=aG.get h.2 j a (by simpa using ha)
  exact ⟨v,by simpa using h1,h2⟩
 | [],_::_,h,_,_,_=>h.elim
 | _::_,[],h,_,_,_=>h.elim
theorem aG.of {α:Type} {D:α->Value->Prop}:∀ {l:List α} {vs:List Value},l.length=vs.length->(∀ (j:Nat) a v,l[j]?=some a->vs[j]?=some v->D a v)->aG D l vs
 | [],[],_,_=>trivial
 | a::r,v::s,h,hg=>⟨hg 0 a v (by simp) (by simp),aG.of (by simpa using h) fun j a v h1 h2=>hg (j+1) a v (by simpa using h1) (by simpa using h2)⟩
 | [],_::_,h,_=>by simp at h
 | _::_,[],h,_=>by simp at h
theorem aG.imp {α:Type} {D D':α->Value->Prop} (hd:∀ a v,D a v->D' a v):∀ {l:List α} {vs:List Value},aG D l vs->aG D' l vs
 | [],[],_=>trivial
 | _::_,_::_,h=>⟨hd _ _ h.1,aG.imp hd h.2⟩
 | [],_::_,h=>h.elim
 | _::_,[],h=>h.elim
structure Base where
 w:World
 L:List (Nat×Nat)
 U:List Value
 R:List Nat
 S:Nat->Prop
def Base.B (z:Base):Nat:=z.w.heap.size
def Base.Kept (z:Base) (b:Nat):Prop:=b<z.B/\(∀ o,(b,o) ∉ z.L)/\b ∉ z.R
def Base.Stay (z:Base) (V:Vl) (b:Nat):Prop:=z.S b\/V.q b≠none
def Base.Own (z:Base) (g:Nat):Prop:=z.B<=g\/g∈z.R
structure Base.Still (z:Base) (w:World):Prop where
 os:w.os=z.w.os
 tape:w.tape=z.w.tape
 output:w.output=z.w.output
 size:z.B<=w.heap.size
 block:∀ k,z.Kept k->w.heap[k]?=z.w.heap[k]?
theorem Base.Still.then {z:Base} {w w':World} (h:z.Still w) (k:Below w.heap.size w w'):z.Still w' :=
 ⟨k.os.trans h.os,k.tape.trans h.tape,k.output.trans h.output,Nat.le_trans h.size k.size,fun b hb=>(k.block b (Nat.lt_of_lt_of_le hb.1 h.size)).trans (h.block b hb)⟩
theorem cL:∀ (ks:List CK) (l:List Dat),(aH ks l).length=ks.length
 | [],_=>rfl
 | k::ks,l=>by simp [aH,cL ks]
def aK (ks:List CK) (L:List (List Dat)):List Value:=L.flatMap (aH ks)
theorem eO (ks:List CK):∀ L,(aK ks L).length=L.length*ks.length
 | []=>by simp [aK]
 | l::L=>by
  have:=eO ks L
  unfold aK at *
  rw [List.flatMap_cons,List.length_append,cL,this,List.length_cons,Nat.succ_mul]
  omega
theorem qm {ks:List CK}:∀ {L:List (List Dat)} {i j:Nat} {l:List Dat} {y:Value},L[i]?=some l->(aH ks l)[j]?=some y->(aK ks L)[i*ks.length+j]?=some y
 | [],i,j,l,y,h,_=>by simp at h
 | l0::L,i,j,l,y,h,hy=>by
  have hj:j<ks.length:=by
   have:=(List.getElem?_eq_some_iff.1 hy).1
   rwa [cL] at this
  unfold aK
  rw [List.flatMap_cons]
  cases i with
  | zero =>
   simp at h
   subst h
   rw [List.getElem?_append_left (by rw [cL];omega),Nat.zero_mul,Nat.zero_add]
   exact hy
  | succ i =>
   have ih:=qm (L:=L) (i:=i) (by simpa using h) hy
   rw [List.getElem?_append_right (by rw [cL,Nat.succ_mul];omega),cL,show (i+1)*ks.length+j - ks.length=i*ks.length+j by rw [Nat.succ_mul];omega]
   exact ih
theorem yz (ks:List CK) (A B:List (List Dat)):aK ks (A++B)=aK ks A++aK ks B:=by simp [aK]
def bO (K:Nat->Prop) (w:World) (ks:List CK) (L:List (List Dat)) (u:Value):Prop :=
 ((∃ a,u=.slice a 0 0)/\L=[])\/∃ b o cap,u=.slice (some ⟨b,o,none⟩) L.length cap/\L.length<=cap/\(L≠[]->K b)/\∀ (i j:Nat) l y,L[i]?=some l->(aH ks l)[j]?=some y->w.cell? ⟨b,o+(i*ks.length+j),none⟩=some y
def qbe (w:World) (e:TypeId) (n:Nat) (u:Value) (len:Nat) (xs:List Value):Prop :=
 xs.length=len*n/\∃ g cap cur fz,u=.slice (some ⟨g,0,none⟩) len cap/\w.heap[g]?=some (.cells cur e fz)/\(fz=(0,0)\/cur.size<=fz.1)/\(len*n<=cur.size/\len<=cap)/\cur.toList.take (len*n)=xs
def bE (w:World) (e:TypeId) (mark:Bool) (n:Nat) (u:Value) (len:Nat) (xs:List Value):Prop :=
 match mark with
 | false=>w.ownsRow 0 e n u len xs
 | true=>qbe w e n u len xs
theorem bE.lt {w:World} {e:TypeId} {mark:Bool} {n:Nat} {u:Value} {len:Nat} {xs:List Value} (h:bE w e mark n u len xs):∀ g,u.ownBlock=some g->g<w.heap.size:=by
 cases mark with
 | false=>exact fun g hg=>(World.ownsRow.lt h g hg).2
 | true =>
  obtain ⟨_,g,cap,cur,fz,rfl,hg,_⟩:=h
  intro k hk
  simp [Value.ownBlock] at hk
  subst hk
  exact (Array.getElem?_eq_some_iff.1 hg).1
theorem bE.block {w w':World} {e:TypeId} {mark:Bool} {n:Nat} {u:Value} {len:Nat} {xs:List Value} (h:bE w e mark n u len xs) (hb:∀ g,u.ownBlock=some g->w'.heap[g]?=w.heap[g]?):bE w' e mark n u len xs:=by
 cases mark with
 | false =>
  refine ⟨h.1,?_⟩
  rcases h.2 with h1|⟨g,cap,cur,h1,h2,h3,h4⟩
  ·exact .inl h1
  ·exact .inr ⟨g,cap,cur,h1,h2,by rw [hb g (by rw [h1];rfl)];exact h3,h4⟩
 | true =>
  obtain ⟨h0,g,cap,cur,fz,h1,h3,h4⟩:=h
  exact ⟨h0,g,cap,cur,fz,h1,by rw [hb g (by rw [h1];rfl)];exact h3,h4⟩
theorem bE.kept {w w':World} {e:TypeId} {mark:Bool} {n:Nat} {u:Value} {len:Nat} {xs:List Value} {row:Option Nat} (h:bE w e mark n u len xs) (hg:w.grownBy w' row) (hne:u.ownBlock=none\/u.ownBlock≠row):bE w' e mark n u len xs :=
 h.block fun g hb=>hg.block g (h.lt g hb) (by
  rw [<- hb]
  rcases hne with h1|h1
  ·rw [h1] at hb;cases hb
  ·exact h1)
theorem bE.reads {w:World} {e:TypeId} {mark:Bool} {u:Value} {ks:List CK} {L:List (List Dat)} (h:bE w e mark ks.length u L.length (aK ks L)):bO (·<w.heap.size) w ks L u:=by
 have key:∀ g cap,u=.slice (some ⟨g,0,none⟩) L.length cap->L.length<=cap->g<w.heap.size->(∀ (j:Nat) y,(aK ks L)[j]?=some y->w.cell? ⟨g,j,none⟩=some y)->bO (·<w.heap.size) w ks L u:=by
  intro g cap hu hcap hg hc
  exact .inr ⟨g,0,cap,hu,hcap,fun _=>hg,fun i j l y hl hy=>by rw [Nat.zero_add];exact hc _ y (qm hl hy)⟩
 cases mark with
 | false =>
  rcases h.2 with ⟨rfl,h0⟩|⟨g,cap,cur,rfl,hb,hg,hn,hm,hsz,ht⟩
  ·exact .inl ⟨⟨_,rfl⟩,List.eq_nil_of_length_eq_zero h0⟩
  ·refine key g cap rfl hn (Array.getElem?_eq_some_iff.1 hg).1 fun j y hy=>?_
   have:=World.ownsRow.cells h (g:=g) rfl j y hy
   rwa [show (Addr.add ⟨g,0,none⟩ j)=⟨g,j,none⟩ from by unfold Addr.add;split<;>simp_all] at this
 | true =>
  obtain ⟨_,g,cap,cur,fz,rfl,hg,hf,hn,ht⟩:=h
  refine key g cap rfl hn.2 (Array.getElem?_eq_some_iff.1 hg).1 fun j y hy=>?_
  have hj:j<L.length*ks.length:=by
   have:=(List.getElem?_eq_some_iff.1 hy).1
   rwa [eO] at this
  rw [<- ht,List.getElem?_take_of_lt hj] at hy
  rw [World.cell?,hg]
  simpa using hy
theorem bO.below {K:Nat->Prop} {ks:List CK} {L:List (List Dat)} {u:Value} {w w':World} (h:bO K w ks L u) (hb:∀ b,K b->w'.heap[b]?=w.heap[b]?):bO K w' ks L u:=by
 rcases h with h|⟨b,o,cap,hu,hcap,hB,hc⟩
 ·exact .inl h
 ·refine .inr ⟨b,o,cap,hu,hcap,hB,fun i j l y hl hy=>?_⟩
  have hne:L≠[]:=by rintro rfl;simp at hl
  rw [World.cell?_of_block (w:=w) (hb b (hB hne))]
  exact hc i j l y hl hy
theorem bO.mono {K K':Nat->Prop} {w:World} {ks:List CK} {L:List (List Dat)} {u:Value} (hk:∀ b,K b->K' b) (h:bO K w ks L u):bO K' w ks L u:=by
 rcases h with h|⟨b,o,cap,hu,hcap,hB,hc⟩
 ·exact .inl h
 ·exact .inr ⟨b,o,cap,hu,hcap,fun hn=>hk b (hB hn),hc⟩
def gL (K:Nat->Prop) (w:World):CK->Dat->Dat->Prop
 | .sl _ ks,d,d0=>d0.toL=d.toL/\bO K w (ks.map CK0.ck) d.toL d0.toU
 | k,d,d0=>k.cell d0=k.cell d
def bL (K:Nat->Prop) (w:World):List CK->List Dat->List Dat->Prop
 | [],_,_=>True
 | k::ks,l,l0=>gL K w k (l.headD (.n 0)) (l0.headD (.n 0))/\bL K w ks l.tail l0.tail
def aW (K:Nat->Prop) (w:World) (ks:List CK):List (List Dat)->List (List Dat)->Prop
 | [],[]=>True
 | l::L,l0::L0=>bL K w ks l l0/\aW K w ks L L0
 | _,_=>False
theorem bL.plain {K:Nat->Prop} {w:World}:∀ {ks:List CK} {l l0:List Dat},eW ks=true->bL K w ks l l0->aH ks l0=aH ks l
 | [],_,_,_,_=>rfl
 | k::ks,l,l0,hp,h=>by
  unfold eW at hp
  rw [List.all_cons,Bool.and_eq_true] at hp
  have e:k.cell (l0.headD (.n 0))=k.cell (l.headD (.n 0)):=by
   have h1:=h.1
   cases k with
   | sl e ks=>cases hp.1
   | _=>exact h1
  simp only [aH,e,bL.plain (ks:=ks) hp.2 h.2]
theorem aW.length {K:Nat->Prop} {w:World} {ks:List CK}:∀ {L L0:List (List Dat)},aW K w ks L L0->L0.length=L.length
 | [],[],_=>rfl
 | _::L,_::L0,h=>by simp [aW.length (L:=L) (L0:=L0) h.2]
 | [],_::_,h=>h.elim
 | _::_,[],h=>h.elim
theorem aW.plain {K:Nat->Prop} {w:World} {ks:List CK} (hp:eW ks=true):∀ {L L0:List (List Dat)},aW K w ks L L0->aK ks L0=aK ks L
 | [],[],_=>rfl
 | l::L,l0::L0,h=>by
  have h2:=aW.plain hp (L:=L) (L0:=L0) h.2
  unfold aK at *
  rw [List.flatMap_cons,List.flatMap_cons,h.1.plain hp,h2]
 | [],_::_,h=>h.elim
 | _::_,[],h=>h.elim
theorem bL.keep {K K':Nat->Prop} {w w':World} (hk:∀ b,K b->K' b/\w'.heap[b]?=w.heap[b]?):∀ {ks:List CK} {l l0:List Dat},bL K w ks l l0->bL K' w' ks l l0
 | [],_,_,_=>trivial
 | k::ks,l,l0,h=>by
  refine ⟨?_,bL.keep hk h.2⟩
  have h1:=h.1
  cases k with
  | sl e ks=>exact ⟨h1.1,(h1.2.below fun b hb=>(hk b hb).2).mono fun b hb=>(hk b hb).1⟩
  | _=>exact h1
theorem aW.keep {K K':Nat->Prop} {w w':World} {ks:List CK} (hk:∀ b,K b->K' b/\w'.heap[b]?=w.heap[b]?):∀ {L L0:List (List Dat)},aW K w ks L L0->aW K' w' ks L L0
 | [],[],_=>trivial
 | _::L,_::L0,h=>⟨h.1.keep hk,aW.keep hk (L:=L) (L0:=L0) h.2⟩
 | [],_::_,h=>h.elim
 | _::_,[],h=>h.elim
theorem bL.refl {K:Nat->Prop} {w:World}:∀ {ks:List CK} {l:List Dat},eW ks=true->bL K w ks l l
 | [],_,_=>trivial
 | k::ks,l,hp=>by
  unfold eW at hp
  rw [List.all_cons,Bool.and_eq_true] at hp
  refine ⟨?_,bL.refl (ks:=ks) hp.2⟩
  cases k with
  | sl e ks=>cases hp.1
  | _=>rfl
theorem aW.refl {K:Nat->Prop} {w:World} {ks:List CK} (hp:eW ks=true):∀ {L:List (List Dat)},aW K w ks L L
 | []=>trivial
 | _::L=>⟨bL.refl hp,aW.refl hp (L:=L)⟩
theorem aW.get {K:Nat->Prop} {w:World} {ks:List CK}:∀ {L L0:List (List Dat)},aW K w ks L L0->∀ {i:Nat} {l:List Dat},L[i]?=some l->∃ l0,L0[i]?=some l0/\bL K w ks l l0
 | [],[],_,i,l,hl=>by simp at hl
 | l1::L,l2::L0,h,0,l,hl=>by
  simp at hl
  subst hl
  exact ⟨l2,by simp,h.1⟩
 | _::L,_::L0,h,i+1,l,hl=>by
  obtain ⟨l0,h1,h2⟩:=aW.get (L:=L) (L0:=L0) h.2 (i:=i) (by simpa using hl)
  exact ⟨l0,by simpa using h1,h2⟩
 | [],_::_,h,_,_,_=>h.elim
 | _::_,[],h,_,_,_=>h.elim
theorem aW.reads {K K':Nat->Prop} {w w':World} {ks:List CK} (hp:eW ks=true) {L L0:List (List Dat)} (h:aW K w ks L L0) {u:Value} (hr:bO K' w' ks L0 u):bO K' w' ks L u:=by
 rcases hr with ⟨h1,h2⟩|⟨b,o,cap,h1,h2,h3,h4⟩
 ·have:=h.length
  rw [h2] at this
  exact .inl ⟨h1,List.eq_nil_of_length_eq_zero this.symm⟩
 ·rw [h.length] at h1 h2
  refine .inr ⟨b,o,cap,h1,h2,fun hn=>h3 fun e=>hn ?_,fun i j l y hl hy=>?_⟩
  ·have:=h.length
   rw [e] at this
   exact List.eq_nil_of_length_eq_zero this.symm
  ·obtain ⟨l0,e1,e2⟩:=h.get hl
   exact h4 i j l0 y e1 (by rw [e2.plain hp];exact hy)
theorem me:∀ (ks:List CK) (l:List Dat) (j:Nat),(aH ks l)[j]?=(ks[j]?).map fun k=>k.cell ((l.drop j).headD (.n 0))
 | [],l,j=>by simp [aH]
 | k::ks,l,0=>by simp [aH]
 | k::ks,l,j+1=>by
  simp only [aH,List.getElem?_cons_succ]
  rw [me ks l.tail j]
  cases l<;>simp
theorem bL.get {K:Nat->Prop} {w:World}:∀ {ks:List CK} {l l0:List Dat},bL K w ks l l0->∀ {j:Nat} {k:CK},ks[j]?=some k->gL K w k ((l.drop j).headD (.n 0)) ((l0.drop j).headD (.n 0))
 | [],_,_,_,j,k,hk=>by simp at hk
 | k1::ks,l,l0,h,0,k,hk=>by
  simp at hk
  subst hk
  exact h.1
 | _::ks,l,l0,h,j+1,k,hk=>by
  have:=bL.get (ks:=ks) h.2 (j:=j) (by simpa using hk)
  rwa [List.drop_tail,List.drop_tail] at this
theorem gL.plain {K:Nat->Prop} {w:World} {k:CK} {d d0:Dat} (hp:k.plain=true) (h:gL K w k d d0):k.cell d0=k.cell d:=by
 cases k with
 | sl e ks=>cases hp
 | _=>exact h
theorem bL.part {K:Nat->Prop} {w:World} {ks:List CK} {l l0:List Dat} (h:bL K w ks l l0) {j n:Nat} (hp:pK ks j n=true):((aH ks l0).drop j).take n=((aH ks l).drop j).take n:=by
 apply List.ext_getElem?
 intro q
 rw [List.getElem?_take,List.getElem?_take]
 split
 ·rename_i hq
  rw [List.getElem?_drop,List.getElem?_drop,me,me]
  cases hk:ks[j+q]? with
  | none=>rfl
  | some k =>
   have:k∈(ks.drop j).take n:=List.mem_of_getElem? (i:=q) (by rw [List.getElem?_take_of_lt hq,List.getElem?_drop];exact hk)
   simp only [Option.map_some,gL.plain (List.all_eq_true.1 hp k this) (h.get hk)]
 ·rfl
theorem bL.dats {K:Nat->Prop} {w:World}:∀ {ks:List CK} {vs:List Value} {l:List Dat},gG ks vs=some l->bL K w ks l l
 | [],_,_,_=>trivial
 | k::ks,[],l,h=>by simp [gG] at h
 | k::ks,v::vs,l,h=>by
  unfold gG at h
  split at h
  ·rename_i d l' hd hl
   injection h with h
   subst h
   refine ⟨?_,bL.dats (ks:=ks) hl⟩
   simp only [List.headD_cons]
   cases k with
   | sl e ks0 =>
    unfold CK.dat at hd
    split at hd<;>first|contradiction|skip
    all_goals first|(cases hd;done)|skip
    ·injection hd with hd
     subst hd
     exact ⟨rfl,.inl ⟨⟨_,rfl⟩,rfl⟩⟩
   | _=>exact rfl
  ·cases h
theorem aW.all {K:Nat->Prop} {w:World} {ks:List CK}:∀ {L:List (List Dat)},(∀ l∈L,bL K w ks l l)->aW K w ks L L
 | [],_=>trivial
 | _::L,h=>⟨h _ (by simp),aW.all (L:=L) fun l hl=>h l (by simp [hl])⟩
theorem aW.append {K:Nat->Prop} {w:World} {ks:List CK} {B B0:List (List Dat)} (hb:aW K w ks B B0):∀ {A A0:List (List Dat)},aW K w ks A A0->aW K w ks (A++B) (A0++B0)
 | [],[],_=>hb
 | _::A,_::A0,h=>⟨h.1,aW.append hb (A:=A) (A0:=A0) h.2⟩
 | [],_::_,h=>h.elim
 | _::_,[],h=>h.elim
theorem aW.drop {K:Nat->Prop} {w:World} {ks:List CK}:∀ {A A0:List (List Dat)} (n:Nat),aW K w ks A A0->aW K w ks (A.drop n) (A0.drop n)
 | _,_,0,h=>h
 | [],[],_+1,_=>trivial
 | _::A,_::A0,n+1,h=>aW.drop (A:=A) (A0:=A0) n h.2
 | [],_::_,_+1,h=>h.elim
 | _::_,[],_+1,h=>h.elim
theorem aW.take {K:Nat->Prop} {w:World} {ks:List CK}:∀ {A A0:List (List Dat)} (n:Nat),aW K w ks A A0->aW K w ks (A.take n) (A0.take n)
 | _,_,0,_=>trivial
 | [],[],_+1,_=>trivial
 | _::A,_::A0,n+1,h=>⟨h.1,aW.take (A:=A) (A0:=A0) n h.2⟩
 | [],_::_,_+1,h=>h.elim
 | _::_,[],_+1,h=>h.elim
theorem aW.set {K:Nat->Prop} {w:World} {ks:List CK} {l l0:List Dat} (hl:bL K w ks l l0):∀ {A A0:List (List Dat)} (n:Nat),aW K w ks A A0->aW K w ks (A.set n l) (A0.set n l0)
 | [],[],_,_=>trivial
 | _::_,_::_,0,h=>⟨hl,h.2⟩
 | _::A,_::A0,n+1,h=>⟨h.1,aW.set hl (A:=A) (A0:=A0) n h.2⟩
 | [],_::_,_,h=>h.elim
 | _::_,[],_,h=>h.elim
theorem aW.replicate {K:Nat->Prop} {w:World} {ks:List CK} {l:List Dat} (h:bL K w ks l l) (n:Nat):aW K w ks (List.replicate n l) (List.replicate n l) :=
 aW.all fun _ hl=>by rw [(List.mem_replicate.1 hl).2];exact h
def cN (z:Base) (V:Vl) (w:World) (rc:RowC) (u:Value):Prop :=
 match rc.own with
 | true=>bE w rc.e rc.mark rc.ks.length u rc.L.length (aK rc.ks rc.L)/\0<rc.ks.length/\∀ g,u.ownBlock=some g->z.Own g
 | false=>bO (z.Stay V) w rc.ks rc.L u
def cE (z:Base) (V:Vl) (w:World) (rc:RowC) (u:Value):Prop:=∃ L0,aW (z.Stay V) w rc.ks rc.L L0/\cN z V w { rc with L:=L0 } u
theorem cN.own {z:Base} {V:Vl} {w:World} {rc:RowC} {u:Value} {L0:List (List Dat)} (ho:rc.own=true):cN z V w { rc with L:=L0 } u↔bE w rc.e rc.mark rc.ks.length u L0.length (aK rc.ks L0)/\0<rc.ks.length/\∀ g,u.ownBlock=some g->z.Own g:=by
 obtain ⟨e,ks,L,own,mark⟩:=rc
 simp only at ho
 subst ho
 exact Iff.rfl
theorem cN.lent {z:Base} {V:Vl} {w:World} {rc:RowC} {u:Value} {L0:List (List Dat)} (ho:rc.own=false):cN z V w { rc with L:=L0 } u↔bO (z.Stay V) w rc.ks L0 u:=by
 obtain ⟨e,ks,L,own,mark⟩:=rc
 simp only at ho
 subst ho
 exact Iff.rfl
theorem cE.trans {z z':Base} {V V':Vl} {w w':World} {rc:RowC} {u:Value} (hk:∀ b,z.Stay V b->z'.Stay V' b/\w'.heap[b]?=w.heap[b]?)
  (h0:rc.own=true->∀ L0,bE w rc.e rc.mark rc.ks.length u L0.length (aK rc.ks L0)->(∀ g,u.ownBlock=some g->z.Own g)->bE w' rc.e rc.mark rc.ks.length u L0.length (aK rc.ks L0)/\∀ g,u.ownBlock=some g->z'.Own g) (h:cE z V w rc u):cE z' V' w' rc u:=by
 obtain ⟨L0,h1,h2⟩:=h
 refine ⟨L0,h1.keep hk,?_⟩
 rcases Bool.eq_false_or_eq_true rc.own with ho|ho
 ·obtain ⟨e1,e2,e3⟩:=(cN.own ho).1 h2
  obtain ⟨e4,e5⟩:=h0 ho L0 e1 e3
  exact (cN.own ho).2 ⟨e4,e2,e5⟩
 ·exact (cN.lent ho).2 ((((cN.lent ho).1 h2).below fun b hb=>(hk b hb).2).mono fun b hb=>(hk b hb).1)
theorem cE.of {z:Base} {V:Vl} {w:World} {rc:RowC} {u:Value} (hp:eW rc.ks=true) (h:cN z V w rc u):cE z V w rc u:=⟨rc.L,aW.refl hp,h⟩
def jI (m:Mem) (V:Vl) (w:World):Prop:=∀ g cs,V.q g=some cs->(∃ e fz,w.heap[g]?=some (.cells cs.toArray e fz))/\(∀ l b o,V.b l=some (b,o)->b≠g)/\∀ r rc u,rowAt m.rows r=some rc->rc.own=true->V.r r=some (some u)->u.ownBlock≠some g
theorem jI.world {m:Mem} {V:Vl} {w w':World} (h:jI m V w) (hw:∀ g cs,V.q g=some cs->w'.heap[g]?=w.heap[g]?):jI m V w':=fun g cs hq=>by
 obtain ⟨⟨e,fz,h1⟩,h2,h3⟩:=h g cs hq
 exact ⟨⟨e,fz,by rw [hw g cs hq];exact h1⟩,h2,h3⟩
theorem jI.lt {m:Mem} {V:Vl} {w:World} (h:jI m V w) {g:Nat} {cs:List Value} (hq:V.q g=some cs):g<w.heap.size:=by
 obtain ⟨⟨e,fz,h1⟩,_⟩:=h g cs hq
 exact (Array.getElem?_eq_some_iff.1 h1).1
theorem jI.none {m:Mem} {V:Vl} {w:World} (h:∀ g,V.q g=none):jI m V w:=fun g cs hq=>by rw [h g] at hq;cases hq
structure Rel (w0:Base) (st:St) (V:Vl) (a:Act) (w:World):Prop where
 len:∀ (t:Nat) x,st.tmps.get t=some x->t<a.tmps.size
 tmps:∀ (t:Nat) x,st.tmps.get t=some x->∀ y,a.tmps[t]?=some y->aI V x y
 defers:a.defers=[]
 lens:st.mem.blk.length=st.mem.live.length
 mem:∀ l b o,V.b l=some (b,o)->∀ cs,st.mem.blk[l]?=some cs->∀ (j:Nat) x,cs[j]?=some x ->
  ∃ y,w.cell? ⟨b,o+j,none⟩=some y/\bq V x y/\w.frozen? ⟨b,o+j,none⟩=false
 inj:∀ l l' b o b' o',V.b l=some (b,o)->V.b l'=some (b',o')->l≠l'->b≠b'
 own:∀ l b o,V.b l=some (b,o)->(w0.B<=b\/l<w0.L.length)/\b<w.heap.size
 lent:∀ l q,w0.L[l]?=some q->V.b l=some q
 base0:∀ l b o,V.b l=some (b,o)->w0.L.length<=l->o=0
 dom:∀ l,V.b l≠none->st.mem.live[l]?=some true
 lentr:∀ j u,w0.U[j]?=some u->V.r j=some (some u)\/V.r j=some none
 rows:∀ r rc,rowAt st.mem.rows r=some rc->∃ u,V.r r=some (some u)/\cE w0 V w rc u
 rowsN:∀ r,st.mem.rows[r]?=none->V.r r=none
 apart:∀ r r' rc rc' u u' g,rowAt st.mem.rows r=some rc->rc.own=true->rowAt st.mem.rows r'=some rc'->rc'.own=true->V.r r=some (some u)->V.r r'=some (some u')->r≠r'->u.ownBlock=some g->u'.ownBlock≠some g
 apartb:∀ r rc u g l b o,rowAt st.mem.rows r=some rc->rc.own=true->V.r r=some (some u)->u.ownBlock=some g->V.b l=some (b,o)->b≠g
 below:w0.Still w
 froz:∀ p,p.block<w0.B->w.frozen? p=w0.w.frozen? p
 lits:jI st.mem V w
 sk:∀ b,w0.S b->w0.Kept b
 qs:∀ g cs,V.q g=some cs->w0.Own g
def Kp (w w':World):Prop:=Below w.heap.size w w'/\∀ p,p.block<w.heap.size->w'.frozen? p=w.frozen? p
def bH (P:Program) (al:Al) (st:St) (V:Vl):Prop :=
 ∀ d l e,(d,l,e)∈al.a->V.b l=none->∃ z,il P e=some z/\st.mem.blk[l]?=some (z.cells.toList.map .v)
def a9 (P:Program) (al:Al) (w0:Base) (st:St) (a:Act) (w:World):Prop :=
 ∃ V,Rel w0 st V a w/\bH P al st V
def dz (z:Base) (m:Mem) (V:Vl) (w:World):Prop:=Rel z ⟨.lf,m⟩ V ⟨#[],[]⟩ w
structure Lent (z:Base) (m:Mem) (V:Vl):Prop where
 bl:z.L.length=m.blk.length
 b:∀ i,V.b i=z.L[i]?
 ul:z.U.length=m.rows.length
 u:∀ j u,z.U[j]?=some u->V.r j=some (some u)
 rl:∀ g,g∈z.R↔∃ j rc u,rowAt m.rows j=some rc/\rc.own=true/\z.U[j]?=some u/\u.ownBlock=some g
def oP (z:Base) (r:SV) (m':Mem) (y:Value) (w':World):Prop :=
 ∃ V',aI V' r y/\dz z m' V' w'
def bB (P:Program) (f:FuncId) (as:List SV) (m:Mem) (r:SV) (m':Mem):Prop :=
 ∀ (z:Base) (V:Vl) (vs:List Value),Lent z m V->dz z m V z.w->aG (aI V) as vs ->
  (∃ y w',(callFunc f vs.toArray).run P z.w=.ok (.value y) w'/\oP z r m' y w') \/
  ((callFunc f vs.toArray).run P z.w=.ok (.enter f vs.toArray) z.w/\Calls P f vs.toArray z.w (fun e w'=>∃ y,e=.returned y/\oP z r m' y w'))
def Orc.EqvOk (Γ:Orc) (P:Program):Prop:=∀ t xs ys r,Γ.eqv t xs ys=some r->∀ w op x y,op=.eql\/op=.neq->(eqGuard op t x y (.agg xs.toArray) (.agg ys.toArray)).run P w=.ok () w/\(Op.equal t (.agg xs.toArray) (.agg ys.toArray)).run P w=.ok r w
def Orc.AltOk (Γ:Orc) (P:Program):Prop:=∀ f as m b r m',(b,some (true,r,m'))∈Γ.alts f as m->bB P f as m r m'
structure Orc.Ok (Γ:Orc) (P:Program):Prop where
 call:∀ f as m r m',Γ.call f as m=some (true,r,m')->bB P f as m r m'
 rd:∀ f as m r,Γ.rd f as m=some (true,r)->bB P f as m (.v r) m
 eqv:Γ.EqvOk P/\Γ.AltOk P
theorem Qj {d x:Option (Bool×SV×Mem)}:∀ {l:List (Bool×Option (Bool×SV×Mem))},qU d l=x->d=x\/∃ b,(b,x)∈l
 | [],h=>.inl h
 | (b,y)::l,h=>by
  cases b with
  | true=>exact .inr ⟨true,List.mem_cons.2 (.inl (by rw [<- show y=x from h]))⟩
  | false =>
   rcases Qj (l:=l) h with h|⟨b,h⟩
   ·exact .inl h
   ·exact .inr ⟨b,List.mem_cons_of_mem _ h⟩
theorem Orc.Ok.altR {Γ:Orc} {P:Program} (h:Γ.Ok P) {f:FuncId} {as:List SV} {m:Mem} {r:SV} {m':Mem} (e:Go.Sx.altR Γ f as m=some (true,r,m')):bB P f as m r m':=by
 unfold Go.Sx.altR at e
 rcases Qj e with e|⟨b,e⟩
 ·exact h.call _ _ _ _ _ e
 ·exact h.eqv.2 _ _ _ _ _ _ e
section
variable {P:Program} {al:Al} {w0:Base} {st:St} {V:Vl} {a:Act} {w:World}
theorem Rel.eval (h:Rel w0 st V a w) {x:Operand} {s:SV} (hx:st.eval x=some s):aI V s (a.eval x):=by
 cases x with
 | tmp t =>
  have hl:t<a.tmps.size:=h.len t s hx
  have:=h.tmps t s hx (a.tmps[t]) (by simp [hl])
  simpa [Act.eval,Array.getD,hl] using this
 | const v=>simp [St.eval] at hx;subst hx;rfl
 | global g=>simp [St.eval] at hx;subst hx;rfl
 | func f=>simp [St.eval] at hx;subst hx;rfl
theorem Rel.put (h:Rel w0 st V a w) (d:Option Tmp) {x:SV} {y:Value} (hd:aI V x y):Rel w0 (st.put d x) V (a.put d y) w:=by
 cases d with
 | none=>exact h
 | some d =>
  have key:∀ (t:Nat) z,((st.put (some d) x).tmps).get t=some z->(d=t/\z=x/\d<a.tmps.size)\/(d≠t/\st.tmps.get t=some z):=by
   intro t z hz
   simp only [St.put] at hz
   by_cases hdt:d=t
   ·subst hdt
    rw [Tr.get_set_self] at hz
    cases hh:st.tmps.get d with
    | none=>simp [hh] at hz
    | some q =>
     simp [hh] at hz
     exact .inl ⟨rfl,hz.symm,h.len d q hh⟩
   ·rw [Tr.get_set_ne _ _ _ _ hdt] at hz
    exact .inr ⟨hdt,hz⟩
  refine { h with len:=fun t z hz=>?_,lens:=h.lens,tmps:=fun t z hz y' hy'=>?_ }
  ·simp only [Act.put,Array.size_setIfInBounds]
   rcases key t z hz with ⟨rfl,_,hl⟩|⟨_,hz⟩
   ·exact hl
   ·exact h.len t z hz
  ·simp only [Act.put] at hy'
   rcases key t z hz with ⟨rfl,rfl,hl⟩|⟨hdt,hz⟩
   ·simp [hl] at hy'
    subst hy'
    exact hd
   ·rw [Array.getElem?_setIfInBounds_ne hdt] at hy'
    exact h.tmps t z hz y' hy'
theorem Below.grownBy' {w w':World} (h:Below w.heap.size w w') (row:Option Nat):w.grownBy w' row :=
 ⟨h.os,h.tape,h.output,h.size,fun k hk _=>h.block k hk⟩
theorem Rel.stay_lt (h:Rel w0 st V a w):∀ b,w0.Stay V b->b<w.heap.size:=by
 rintro b (hb|hb)
 ·exact Nat.lt_of_lt_of_le (h.sk b hb).1 h.below.size
 ·obtain ⟨cs,hq⟩:=Option.ne_none_iff_exists'.1 hb
  exact h.lits.lt hq
theorem Rel.stays (h:Rel w0 st V a w) {w':World} (hk:∀ b,w0.Kept b->w'.heap[b]?=w.heap[b]?) (hq:∀ g cs,V.q g=some cs->w'.heap[g]?=w.heap[g]?):∀ b,w0.Stay V b->w'.heap[b]?=w.heap[b]?:=by
 rintro b (hb|hb)
 ·exact hk b (h.sk b hb)
 ·obtain ⟨cs,e⟩:=Option.ne_none_iff_exists'.1 hb
  exact hq b cs e
theorem Base.Stay.mono {z:Base} {V V':Vl} (hq:∀ g cs,V.q g=some cs->V'.q g=some cs) {b:Nat} (h:z.Stay V b):z.Stay V' b:=by
 rcases h with h|h
 ·exact .inl h
 ·obtain ⟨cs,e⟩:=Option.ne_none_iff_exists'.1 h
  exact .inr (by rw [hq b cs e];simp)
theorem cE.mono {z:Base} {V V':Vl} {rc:RowC} {u:Value} {w:World} (hq:∀ g cs,V.q g=some cs->V'.q g=some cs) (h:cE z V w rc u):cE z V' w rc u :=
 h.trans (fun _ hb=>⟨hb.mono hq,rfl⟩) fun _ _ h0 h1=>⟨h0,h1⟩
theorem cE.below {z:Base} {rc:RowC} {u:Value} {w w':World} (hs:∀ b,z.Stay V b->b<w.heap.size) (h:cE z V w rc u) (hb:Below w.heap.size w w'):cE z V w' rc u :=
 h.trans (fun b hk=>⟨hk,hb.block b (hs b hk)⟩) fun _ _ h0 h1=>⟨bE.kept h0 (Below.grownBy' hb none) (by cases u.ownBlock<;>simp),h1⟩
theorem cN.reads {z:Base} {rc:RowC} {u:Value} {w:World} (h:cN z V w rc u) (hs:∀ b,z.Stay V b->b<w.heap.size):bO (·<w.heap.size) w rc.ks rc.L u:=by
 unfold cN at h
 split at h
 ·exact bE.reads h.1
 ·rcases h with h1|⟨b,o,cap,h1,hcap,h2,h3⟩
  ·exact .inl h1
  ·exact .inr ⟨b,o,cap,h1,hcap,fun hne=>hs b (h2 hne),h3⟩
theorem cE.get {z:Base} {rc:RowC} {u:Value} {w:World} (h:cE z V w rc u) (hs:∀ b,z.Stay V b->b<w.heap.size):∃ L0,L0.length=rc.L.length/\aW (z.Stay V) w rc.ks rc.L L0/\bO (·<w.heap.size) w rc.ks L0 u:=by
 obtain ⟨L0,h1,h2⟩:=h
 exact ⟨L0,h1.length,h1,h2.reads hs⟩
theorem cE.reads {z:Base} {rc:RowC} {u:Value} {w:World} (hp:eW rc.ks=true) (h:cE z V w rc u) (hs:∀ b,z.Stay V b->b<w.heap.size):bO (·<w.heap.size) w rc.ks rc.L u:=by
 obtain ⟨L0,_,h1,h2⟩:=h.get hs
 exact h1.reads hp h2
theorem cE.shape {z:Base} {rc:RowC} {u:Value} {w:World} (h:cE z V w rc u) (hs:∀ b,z.Stay V b->b<w.heap.size):((∃ a,u=.slice a 0 0)/\rc.L=[])\/∃ b o cap,u=.slice (some ⟨b,o,none⟩) rc.L.length cap/\rc.L.length<=cap:=by
 obtain ⟨L0,h0,_,h2⟩:=h.get hs
 rcases h2 with ⟨e1,e2⟩|⟨b,o,cap,e1,e2,_⟩
 ·rw [e2] at h0
  exact .inl ⟨e1,List.eq_nil_of_length_eq_zero h0.symm⟩
 ·rw [h0] at e1 e2
  exact .inr ⟨b,o,cap,e1,e2⟩
theorem cE.lt {z:Base} {rc:RowC} {u:Value} (h:cE z V w rc u) (ho:rc.own=true) {g:Nat} (hg:u.ownBlock=some g):z.Own g/\g<w.heap.size:=by
 obtain ⟨L0,_,h⟩:=h
 unfold cN at h
 simp only [ho] at h
 exact ⟨h.2.2 g hg,bE.lt h.1 g hg⟩
theorem Rel.below' (h:Rel w0 st V a w) {w':World} (hk:Kp w w'):Rel w0 st V a w':=by
 obtain ⟨hb,hf⟩:=hk
 refine { h with
   mem:=fun l b o hl cs hcs j x hx=>?_
   own:=fun l b o hl=>?_
   rows:=fun r rc hr=>?_
   below:=h.below.then hb
   froz:=fun p hp=>(hf p (Nat.lt_of_lt_of_le hp h.below.size)).trans (h.froz p hp)
   lits:=h.lits.world fun g cs hq=>hb.block g (h.lits.lt hq) }
 ·obtain ⟨y,h1,h2,h3⟩:=h.mem l b o hl cs hcs j x hx
  have hbb:=(h.own l b o hl).2
  exact ⟨y,by rw [hb.cell (p:=⟨b,o+j,none⟩) hbb];exact h1,h2,by rw [hb.frozen (p:=⟨b,o+j,none⟩) hbb];exact h3⟩
 ·have:=h.own l b o hl
  exact ⟨this.1,Nat.lt_of_lt_of_le this.2 hb.size⟩
 ·obtain ⟨u,h1,h2⟩:=h.rows r rc hr
  exact ⟨u,h1,h2.below h.stay_lt hb⟩
theorem Rel.drew (h:Rel w0 st V a w):Rel w0 st V a { w with drawn:=w.drawn+1 } :=
 h.below' ⟨⟨rfl,rfl,rfl,Nat.le_refl _,fun _ _=>rfl⟩,fun _ _=>rfl⟩
theorem bH.put (h:bH P al st V) (d:Option Tmp) (x:SV):bH P al (st.put d x) V:=by
 cases d<;>exact h
theorem Rel.evalV (h:Rel w0 st V a w) {x:Operand} (hx:nV (st.eval x)=true):a.eval x=uY (st.eval x):=by
 cases hs:st.eval x with
 | none=>simp [hs,nV] at hx
 | some s =>
  cases s with
  | v y=>have:=h.eval hs;simpa [aI,uY] using this
  | _=>simp [hs,nV] at hx
theorem qaV (h:Rel w0 st V a w) {o:Oper} {x:SV} (hV:dJ P o st.eval=some x) :
  ∃ y,x=.v y/\((execOp a.eval o).run P w=.ok (.value y) w\/((execOp a.eval o).run P w=.ok .skip w/\y=undef)):=by
 unfold dJ at hV
 split at hV
 ·rename_i hall
  simp only [Bool.and_eq_true,List.all_eq_true] at hall
  have hc:execOp a.eval o=execOp (fun x=>uY (st.eval x)) o:=by
   refine execOp_congr o (fun cs b hsel=>?_) (fun x hx=>?_)
   ·have:=hall.2;rw [hsel] at this;simp [xk] at this
   ·exact h.evalV (hall.1 x (by simpa using hx))
  split at hV
  ·rename_i y hp
   cases hV
   exact ⟨y,rfl,.inl (by rw [hc];exact ww _ _ hp w)⟩
  ·rename_i hp
   cases hV
   exact ⟨undef,rfl,.inr ⟨by rw [hc];exact ww _ _ hp w,rfl⟩⟩
  ·cases hV
 ·cases hV
structure Vl.Le (V V':Vl):Prop where
 b:∀ l q,V.b l=some q->V'.b l=some q
 r:∀ r,V.r r≠none->V'.r r≠none/\∀ u,V'.r r=some (some u)->V.r r=some (some u)
 q:∀ g cs,V.q g=some cs->V'.q g=some cs
theorem bq.mono {V V':Vl} (h:V.Le V') {x:SA} {y:Value} (hd:bq V x y):bq V' x y:=by
 cases x with
 | v z=>exact hd
 | ptr k off=>obtain ⟨b,o,hb',he⟩:=hd;exact ⟨b,o,h.b _ _ hb',he⟩
 | row r=>exact ⟨(h.r r hd.1).1,fun u hu=>hd.2.1 u ((h.r r hd.1).2 u hu),hd.2.2⟩
 | clo f k off=>obtain ⟨b,o,hb',he⟩:=hd;exact ⟨b,o,h.b _ _ hb',he⟩
theorem fQ.mono {V V':Vl} (h:V.Le V') {x:TC} {y:Value} (hd:fQ V x y):fQ V' x y:=by
 cases x with
 | one a=>exact bq.mono h hd
 | ag cs=>obtain ⟨vs,h1,h2⟩:=hd;exact ⟨vs,h1,h2.imp fun _ _=>bq.mono h⟩
theorem aI.mono {V V':Vl} (h:V.Le V') {x:SV} {y:Value} (hd:aI V x y):aI V' x y:=by
 cases x with
 | v z=>exact hd
 | ptr k off=>obtain ⟨b,o,hb',he⟩:=hd;exact ⟨b,o,h.b _ _ hb',he⟩
 | row r=>exact ⟨(h.r r hd.1).1,fun u hu=>hd.2.1 u ((h.r r hd.1).2 u hu),hd.2.2⟩
 | rp r n i j=>exact ⟨(h.r r hd.1).1,fun u hu=>hd.2 u ((h.r r hd.1).2 u hu)⟩
 | clo f k off=>obtain ⟨b,o,hb',he⟩:=hd;exact ⟨b,o,h.b _ _ hb',he⟩
 | el k off n i=>obtain ⟨b,o,hb',he⟩:=hd;exact ⟨b,o,h.b _ _ hb',he⟩
 | ag cs=>obtain ⟨vs,h1,h2⟩:=hd;exact ⟨vs,h1,h2.imp fun _ _=>bq.mono h⟩
 | tup cs=>obtain ⟨vs,h1,h2⟩:=hd;exact ⟨vs,h1,h2.imp fun _ _=>fQ.mono h⟩
 | lit cs n=>obtain ⟨g,h1,h2⟩:=hd;exact ⟨g,h.q g cs h1,h2⟩
 | part r n lo hi=>exact ⟨(h.r r hd.1).1,fun u hu=>hd.2 u ((h.r r hd.1).2 u hu)⟩
 | nul=>exact hd
 | poison=>trivial
theorem qv (h:Rel w0 st V a w):∀ (l:List Operand) (xs:List SV),d9 st.eval l=some xs->aG (aI V) xs (l.map a.eval)
 | [],xs,hv=>by simp [d9] at hv;subst hv;trivial
 | x::r,xs,hv=>by
  unfold d9 at hv
  cases hx:st.eval x with
  | none=>simp [hx] at hv
  | some y =>
   cases hr:d9 st.eval r with
   | none=>simp [hx,hr] at hv
   | some l =>
    simp [hx,hr] at hv
    subst hv
    exact ⟨h.eval hx,qv h r l hr⟩
theorem Ni {d:Option Tmp} {l:Nat} {e:TypeId}:∀ (al:List (Tmp×Nat×TypeId)),kN al d=some (l,e)->∃ d',(d',l,e)∈al
 | [],h=>by cases d<;>simp [kN] at h
 | (d',l',e')::r,h=>by
  cases d with
  | none=>simp [kN] at h
  | some d =>
   unfold kN at h
   split at h
   ·simp at h;obtain ⟨rfl,rfl⟩:=h;exact ⟨d',by simp⟩
   ·obtain ⟨d'',hm⟩:=Ni r h;exact ⟨d'',by simp [hm]⟩
end
end Go.Sx
namespace Go.Sx
open Go.RowKit
theorem jg:∀ (l:List Nat) (r i j:Nat),dN l r i=some j->∃ d,j=i+d/\l[d]?=some r
 | [],_,_,_,h=>by cases h
 | a::l,r,i,j,h=>by
  unfold dN at h
  cases hc:a==r
  ·rw [hc] at h
   obtain ⟨d,h1,h2⟩:=jg l r (i+1) j h
   exact ⟨d+1,by omega,by simpa using h2⟩
  ·rw [hc] at h
   have:a=r:=by simpa using hc
   subst this
   injection h with h
   exact ⟨0,by omega,by simp⟩
theorem CH:∀ (l:List Nat) (r i:Nat),r ∉ l->dN l r i=none
 | [],_,_,_=>rfl
 | a::l,r,i,h=>by
  unfold dN
  have:(a==r)=false:=by simp at h ⊢;exact fun e=>h.1 e.symm
  rw [this]
  exact CH l r (i+1) (fun hm=>h (List.mem_cons_of_mem _ hm))
theorem j7:∀ (l:List Nat) (r i d:Nat),l.Nodup->l[d]?=some r->dN l r i=some (i+d)
 | [],_,_,_,_,h=>by simp at h
 | a::l,r,i,0,_,h=>by
  simp at h
  subst h
  simp [dN]
 | a::l,r,i,d+1,hn,h=>by
  rw [List.nodup_cons] at hn
  have h':l[d]?=some r:=by simpa using h
  have hne:(a==r)=false:=by
   simp
   rintro rfl
   exact hn.1 (List.mem_of_getElem? h')
  unfold dN
  rw [hne]
  show dN l r (i+1)=_
  rw [j7 l r (i+1) d hn.2 h']
  congr 1
  omega
theorem j6 {α β:Type} {f:α->Option β}:∀ {l:List α} {l':List β},cH f l=some l'->l'.length=l.length/\∀ (i:Nat) x,l[i]?=some x->∃ y,l'[i]?=some y/\f x=some y
 | [],l',h=>by simp [cH] at h;subst h;simp
 | a::l,l',h=>by
  unfold cH at h
  split at h
  ·rename_i y r hy hr
   injection h with h
   subst h
   obtain ⟨h1,h2⟩:=j6 hr
   refine ⟨by simp [h1],fun i x hx=>?_⟩
   cases i with
   | zero=>simp at hx;subst hx;exact ⟨y,by simp,hy⟩
   | succ i=>exact h2 i x (by simpa using hx)
  ·cases h
theorem iq {α:Type}:∀ (is:List Nat) (xs:List α) (l:List α),(d6 l is xs).length=l.length
 | [],_,_=>by simp [d6]
 | _::_,[],_=>by simp [d6]
 | i::is,x::xs,l=>by simp [d6,iq is xs]
theorem pq {α:Type}:∀ (is:List Nat) (xs:List α) (l:List α) (k:Nat),k ∉ is->(d6 l is xs)[k]?=l[k]?
 | [],_,_,_,_=>by simp [d6]
 | _::_,[],_,_,_=>by simp [d6]
 | i::is,x::xs,l,k,h=>by
  simp only [d6]
  rw [pq is xs _ k (fun hm=>h (List.mem_cons_of_mem _ hm)),List.getElem?_set_ne]
  rintro rfl
  exact h (List.mem_cons_self ..)
theorem Bn {α:Type}:∀ (is:List Nat) (xs:List α) (l:List α) (j k:Nat) (x:α),is.Nodup->is[j]?=some k->xs[j]?=some x->k<l.length->(d6 l is xs)[k]?=some x
 | [],_,_,_,_,_,_,h,_,_=>by simp at h
 | _::_,[],_,_,_,_,_,_,h,_=>by simp at h
 | i::is,x0::xs,l,0,k,x,hn,hk,hx,hl=>by
  simp at hk hx
  subst hk hx
  rw [List.nodup_cons] at hn
  simp only [d6]
  rw [pq is xs _ i hn.1]
  simp [hl]
 | i::is,x0::xs,l,j+1,k,x,hn,hk,hx,hl=>by
  rw [List.nodup_cons] at hn
  simp only [d6]
  exact Bn is xs _ j k x hn.2 (by simpa using hk) (by simpa using hx) (by simpa using hl)
def nB (G H:Nat->Prop):SA->Prop
 | .v _=>True
 | .ptr l _=>G l
 | .row r=>H r
 | .clo _ l _=>G l
structure Good (G H:Nat->Prop) (q:List Nat×List Nat):Prop where
 g:∀ l∈q.1,G l
 h:∀ r∈q.2,H r
 n1:q.1.Nodup
 n2:q.2.Nodup
theorem Qr {m:List Nat} (h:m.Nodup) (r:Nat):(fh m r).Nodup:=by
 unfold fh
 cases hc:m.contains r
 ·have:r ∉ m:=by simpa using hc
  simp only [cond_false]
  rw [List.nodup_append]
  refine ⟨h,by simp,fun a ha b hb=>?_⟩
  simp at hb
  subst hb
  exact fun e=>this (e▸ha)
 ·exact h
theorem Qs {m:List Nat} {r x:Nat} (h:x∈fh m r):x∈m\/x=r:=by
 unfold fh at h
 cases hc:m.contains r
 ·rw [hc] at h
  simp at h
  exact h
 ·rw [hc] at h
  exact .inl h
section
variable {G H:Nat->Prop}
theorem lB {q:List Nat×List Nat} (h:Good G H q) {x:SA} (hx:nB G H x):Good G H (mV q x):=by
 have b:∀ l,G l->Good G H (fh q.1 l,q.2):=fun l hl =>
  ⟨fun k hk=>(Qs hk).elim (h.g k) fun e=>e▸hl,h.h,Qr h.n1 l,h.n2⟩
 cases x with
 | v _=>exact h
 | ptr l o=>exact b l hx
 | row r=>exact ⟨h.g,fun k hk=>(Qs hk).elim (h.h k) fun e=>e▸hx,h.n1,Qr h.n2 r⟩
 | clo f l o=>exact b l hx
theorem yt:∀ (cs:List SA) {q:List Nat×List Nat},Good G H q->(∀ x∈cs,nB G H x)->Good G H (cs.foldl mV q)
 | [],_,h,_=>h
 | x::cs,_,h,hx=>yt cs (lB h (hx x (by simp))) fun y hy=>hx y (by simp [hy])
theorem BP {blk:List (List SA)} (hc:∀ l cs,G l->blk[l]?=some cs->∀ x∈cs,nB G H x):∀ (f k:Nat) (q q':List Nat×List Nat),Good G H q->iZ blk f k q=some q'->Good G H q'
 | 0,_,_,_,_,h=>by cases h
 | f+1,k,q,q',hg,h=>by
  unfold iZ at h
  split at h
  ·injection h with h
   subst h
   exact hg
  ·rename_i l hl
   split at h
   ·rename_i cs hcs
    exact BP hc f (k+1) _ q' (yt cs hg (hc l cs (hg.g l (List.mem_of_getElem? hl)) hcs)) h
   ·cases h
end
section
variable {P:Program} {al:Al} {w0:Base} {st:St} {V:Vl} {a:Act} {w:World}
theorem md {x:SA} {y:Value} (h:bq V x y):nB (fun l=>V.b l≠none) (fun r=>V.r r≠none) x:=by
 cases x with
 | v _=>trivial
 | ptr l o=>obtain ⟨b,o',h1,_⟩:=h;simp [nB,h1]
 | row r=>exact h.1
 | clo f l o=>obtain ⟨b,o',h1,_⟩:=h;simp [nB,h1]
theorem Qo {q:List Nat×List Nat} (h:Good (fun l=>V.b l≠none) (fun r=>V.r r≠none) q) {x:SV} {y:Value} (hx:aI V x y):Good (fun l=>V.b l≠none) (fun r=>V.r r≠none) (uz q x):=by
 cases x with
 | ptr l o=>exact lB h (x:=.ptr l o) (md (V:=V) (x:=.ptr l o) hx)
 | row r=>exact lB h (x:=.row r) (md (V:=V) (x:=.row r) hx)
 | clo f l o=>exact lB h (x:=.clo f l o) (md (V:=V) (x:=.clo f l o) hx)
 | ag cs =>
  obtain ⟨vs,_,h2⟩:=hx
  refine yt cs h fun x hx=>?_
  obtain ⟨j,hj⟩:=List.getElem?_of_mem hx
  obtain ⟨v,_,hd⟩:=h2.get j x hj
  exact md hd
 | part r n lo hi=>exact lB h (x:=.row r) hx.1
 | _=>exact h
theorem OI:∀ (xs:List SV) (vs:List Value) {q:List Nat×List Nat},Good (fun l=>V.b l≠none) (fun r=>V.r r≠none) q->aG (aI V) xs vs->Good (fun l=>V.b l≠none) (fun r=>V.r r≠none) (xs.foldl uz q)
 | [],_,_,h,_=>h
 | _::xs,_::vs,_,h,hx=>OI xs vs (Qo h hx.1) hx.2
 | _::_,[],_,_,hx=>hx.elim
def Vl.sub (V:Vl) (ls rs:List Nat):Vl:=⟨fun i=>(ls[i]?).bind V.b,fun j=>(rs[j]?).bind V.r,fun _=>none⟩
theorem nv {ls rs:List Nat} {x x':SA} {y:Value} (h:dU ls rs x=some x') (hd:bq V x y):bq (V.sub ls rs) x' y:=by
 cases x with
 | v z=>simp [dU] at h;subst h;exact hd
 | ptr l o =>
  simp only [dU] at h
  split at h
  ·rename_i i hi
   injection h with h
   subst h
   obtain ⟨d,rfl,h1⟩:=jg _ _ _ _ hi
   obtain ⟨b,o',h2,h3⟩:=hd
   exact ⟨b,o',by simp [Vl.sub,h1,h2],h3⟩
  ·cases h
 | row r =>
  simp only [dU] at h
  split at h
  ·rename_i i hi
   injection h with h
   subst h
   obtain ⟨d,rfl,h1⟩:=jg _ _ _ _ hi
   simpa [bq,Vl.sub,h1] using hd
  ·cases h
 | clo f l o =>
  simp only [dU] at h
  split at h
  ·rename_i i hi
   injection h with h
   subst h
   obtain ⟨d,rfl,h1⟩:=jg _ _ _ _ hi
   obtain ⟨b,o',h2,h3⟩:=hd
   exact ⟨b,o',by simp [Vl.sub,h1,h2],h3⟩
  ·cases h
theorem M4 {ls rs:List Nat} {cs cs':List SA} {vs:List Value} (h:cH (dU ls rs) cs=some cs') (hd:aG (bq V) cs vs):aG (bq (V.sub ls rs)) cs' vs:=by
 obtain ⟨h1,h2⟩:=j6 h
 refine aG.of (h1.trans hd.length) fun j x v hx hv=>?_
 have hj:j<cs.length:=by
  have:=(List.getElem?_eq_some_iff.1 hx).1
  omega
 obtain ⟨y,e1,e2⟩:=h2 j cs[j] (by simp [hj])
 rw [hx] at e1
 injection e1 with e1
 subst e1
 obtain ⟨v',e3,e4⟩:=hd.get j cs[j] (by simp [hj])
 rw [hv] at e3
 injection e3 with e3
 subst e3
 exact nv e2 e4
theorem LR {ls rs:List Nat} {x x':SV} {y:Value} (h:iY ls rs x=some x') (hd:aI V x y):aI (V.sub ls rs) x' y:=by
 cases x with
 | v z=>simp [iY] at h;subst h;exact hd
 | ptr l o =>
  simp only [iY] at h
  split at h
  ·rename_i i hi
   injection h with h
   subst h
   exact nv (V:=V) (x:=.ptr l o) (x':=.ptr i o) (by simp [dU,hi]) hd
  ·cases h
 | row r =>
  simp only [iY] at h
  split at h
  ·rename_i i hi
   injection h with h
   subst h
   exact nv (V:=V) (x:=.row r) (x':=.row i) (by simp [dU,hi]) hd
  ·cases h
 | clo f l o =>
  simp only [iY] at h
  split at h
  ·rename_i i hi
   injection h with h
   subst h
   exact nv (V:=V) (x:=.clo f l o) (x':=.clo f i o) (by simp [dU,hi]) hd
  ·cases h
 | ag cs =>
  simp only [iY] at h
  split at h
  ·rename_i l hl
   injection h with h
   subst h
   obtain ⟨vs,h1,h2⟩:=hd
   exact ⟨vs,h1,M4 hl h2⟩
  ·cases h
 | part r n lo hi =>
  simp only [iY] at h
  split at h
  ·rename_i k hk
   injection h with h
   subst h
   obtain ⟨d,rfl,h1⟩:=jg _ _ _ _ hk
   simpa [aI,Vl.sub,h1] using hd
  ·cases h
 | _=>simp [iY] at h
theorem qbT {ls rs:List Nat} {xs xs':List SV} {vs:List Value} (h:cH (iY ls rs) xs=some xs') (hd:aG (aI V) xs vs):aG (aI (V.sub ls rs)) xs' vs:=by
 obtain ⟨h1,h2⟩:=j6 h
 refine aG.of (h1.trans hd.length) fun j x v hx hv=>?_
 have hj:j<xs.length:=by
  have:=(List.getElem?_eq_some_iff.1 hx).1
  omega
 obtain ⟨y,e1,e2⟩:=h2 j xs[j] (by simp [hj])
 rw [hx] at e1
 injection e1 with e1
 subst e1
 obtain ⟨v',e3,e4⟩:=hd.get j xs[j] (by simp [hj])
 rw [hv] at e3
 injection e3 with e3
 subst e3
 exact LR e2 e4
end
end Go.Sx
namespace Go.Sx
open Go.RowKit
structure Hand (w0:Base) (st:St) (V:Vl) (w:World) (q:Lend) (z:Base):Prop where
 w:z.w=w
 n1:q.ls.Nodup
 n2:q.rs.Nodup
 ll:z.L.length=q.ls.length
 lb:∀ (i:Nat) (l:Nat),q.ls[i]?=some l->∃ p,V.b l=some p/\z.L[i]?=some p
 bl:q.m.blk.length=q.ls.length
 blk:∀ (i:Nat) (l:Nat),q.ls[i]?=some l->∃ cs cs',st.mem.blk[l]?=some cs/\q.m.blk[i]?=some cs'/\cH (dU q.ls q.rs) cs=some cs'
 lv:q.m.live=q.m.blk.map fun _=>true
 ul:z.U.length=q.rs.length
 rl:q.m.rows.length=q.rs.length
 ru:∀ (j:Nat) (r:Nat),q.rs[j]?=some r->∃ rc u,rowAt st.mem.rows r=some rc/\q.m.rows[j]?=some (.live rc)/\V.r r=some (some u)/\z.U[j]?=some u
 own:∀ g,g∈z.R↔∃ r,r∈q.rs/\∃ rc u,rowAt st.mem.rows r=some rc/\rc.own=true/\V.r r=some (some u)/\u.ownBlock=some g
 sst:∀ b,z.S b↔w0.Stay V b
def B8 (st:St) (V:Vl) (r:Nat):Option Nat :=
 match rowAt st.mem.rows r,V.r r with
 | some rc,some (some u)=>if rc.own=true then u.ownBlock else none
 | _,_=>none
section
variable {P:Program} {al:Al} {w0:Base} {st:St} {V:Vl} {a:Act} {w:World}
theorem Ul {rows:List RowS} {r:Nat} {x:RowS} (h:vl rows r=some x):∃ rc,rowAt rows r=some rc/\x=.live rc:=by
 unfold vl at h
 split at h
 ·rename_i rc hr
  injection h with h
  exact ⟨rc,by simp [rowAt,hr],h.symm⟩
 ·cases h
theorem KQ {blk:List (List SA)} {ls rs:List Nat} {l:Nat} {cs':List SA} (h:pf blk ls rs l=some cs'):∃ cs,blk[l]?=some cs/\cH (dU ls rs) cs=some cs':=by
 unfold pf at h
 split at h
 ·rename_i cs hc;exact ⟨cs,hc,h⟩
 ·cases h
theorem tl (h:Rel w0 st V a w) {xs:List SV} {vs:List Value} {q:Lend} (hl:d7 st.mem.blk st.mem.rows xs=some q) (hd:aG (aI V) xs vs) :
  ∃ z,Hand w0 st V w q z/\aG (aI (V.sub q.ls q.rs)) q.as vs:=by
 unfold d7 at hl
 split at hl
 case h_2=>cases hl
 rename_i ls rs hre
 split at hl
 case h_2=>cases hl
 rename_i as b r has hb hr
 injection hl with hl
 subst hl
 have g0:Good (fun l=>V.b l≠none) (fun r=>V.r r≠none) (([],[]):List Nat×List Nat):=⟨by simp,by simp,by simp,by simp⟩
 have g1:=BP (G:=fun l=>V.b l≠none) (H:=fun r=>V.r r≠none) (blk:=st.mem.blk) (fun l cs hg hc x hx=>by
  obtain ⟨j,hj⟩:=List.getElem?_of_mem hx
  obtain ⟨⟨b,o⟩,hb⟩:=Option.ne_none_iff_exists'.1 hg
  obtain ⟨y,_,hy,_⟩:=h.mem l b o hb cs hc j x hj
  exact md hy) _ _ _ _ (OI xs vs g0 hd) hre
 obtain ⟨hb1,hb2⟩:=j6 hb
 obtain ⟨hr1,hr2⟩:=j6 hr
 have hru:∀ (j k:Nat),rs[j]?=some k->∃ rc u,rowAt st.mem.rows k=some rc/\r[j]?=some (.live rc)/\V.r k=some (some u):=by
  intro j k hk
  obtain ⟨y,e1,e2⟩:=hr2 j k hk
  obtain ⟨rc,e3,rfl⟩:=Ul e2
  obtain ⟨u,e4,_⟩:=h.rows k rc e3
  exact ⟨rc,u,e3,e1,e4⟩
 refine ⟨⟨w,ls.map fun l=>(V.b l).getD (0,0),rs.map fun k=>((V.r k).getD none).getD undef,rs.filterMap (B8 st V),w0.Stay V⟩,?_,qbT has hd⟩
 exact {
   w:=rfl,n1:=g1.n1,n2:=g1.n2,sst:=fun _=>Iff.rfl
   ll:=by simp
   lb:=fun i l hi=>by
     obtain ⟨p,hp⟩:=Option.ne_none_iff_exists'.1 (g1.g l (List.mem_of_getElem? hi))
     exact ⟨p,hp,by simp [hi,hp]⟩
   bl:=hb1
   blk:=fun i l hi=>by
     obtain ⟨y,e1,e2⟩:=hb2 i l hi
     obtain ⟨cs,e3,e4⟩:=KQ e2
     exact ⟨cs,y,e3,e1,e4⟩
   lv:=rfl
   ul:=by simp
   rl:=hr1
   ru:=fun j k hj=>by
     obtain ⟨rc,u,e1,e2,e3⟩:=hru j k hj
     exact ⟨rc,u,e1,e2,e3,by simp [hj,e3]⟩
   own:=fun g=>by
     simp only [List.mem_filterMap]
     constructor
     · rintro ⟨k,hk,hg⟩
       unfold B8 at hg
       split at hg
       · rename_i rc u e1 e2
         split at hg
         · rename_i ho;exact ⟨k,hk,rc,u,e1,ho,e2,hg⟩
         · cases hg
       · cases hg
     · rintro ⟨k,hk,rc,u,e1,e2,e3,e4⟩
       exact ⟨k,hk,by simp [B8,e1,e2,e3,e4]⟩ }
variable {q:Lend} {z:Base}
theorem Hand.kept (h:Rel w0 st V a w) (hh:Hand w0 st V w q z) {b:Nat} (hb:w0.Kept b):z.Kept b:=by
 refine ⟨?_,fun o ho=>?_,fun hr=>?_⟩
 ·show b<z.w.heap.size
  rw [hh.w]
  exact Nat.lt_of_lt_of_le hb.1 h.below.size
 ·obtain ⟨i,hi⟩:=List.getElem?_of_mem ho
  have:i<q.ls.length:=by
   have:=(List.getElem?_eq_some_iff.1 hi).1
   rw [hh.ll] at this
   exact this
  obtain ⟨p,h1,h2⟩:=hh.lb i q.ls[i] (by simp [this])
  rw [hi] at h2
  injection h2 with h2
  subst h2
  rcases (h.own _ _ _ h1).1 with h3|h3
  ·exact absurd hb.1 (by omega)
  ·have:=h.lent q.ls[i] (w0.L[q.ls[i]]) (by simp [h3])
   rw [h1] at this
   injection this with this
   exact hb.2.1 o (by rw [this];exact List.getElem_mem h3)
 ·obtain ⟨k,hk,rc,u,e1,e2,e3,e4⟩:=(hh.own b).1 hr
  obtain ⟨u',e5,e6⟩:=h.rows k rc e1
  rw [e3] at e5
  injection e5 with e5
  injection e5 with e5
  subst e5
  rcases (e6.lt e2 e4).1 with h3|h3
  ·exact absurd hb.1 (by omega)
  ·exact hb.2.2 h3
theorem Hand.keptq (h:Rel w0 st V a w) (hh:Hand w0 st V w q z) {g:Nat} {cs:List Value} (hq:V.q g=some cs):z.Kept g:=by
 obtain ⟨_,f2,f3⟩:=h.lits g cs hq
 refine ⟨?_,fun o' ho=>?_,fun hr=>?_⟩
 ·show g<z.w.heap.size
  rw [hh.w]
  exact h.lits.lt hq
 ·obtain ⟨i,hi⟩:=List.getElem?_of_mem ho
  have hi':i<q.ls.length:=by
   have:=(List.getElem?_eq_some_iff.1 hi).1
   rw [hh.ll] at this
   exact this
  obtain ⟨p,h1,h2⟩:=hh.lb i q.ls[i] (by simp [hi'])
  rw [hi] at h2
  injection h2 with h2
  subst h2
  exact f2 q.ls[i] g o' h1 rfl
 ·obtain ⟨k,hk,rc,u,e1,e2,e3,e4⟩:=(hh.own g).1 hr
  exact f3 k rc u e1 e2 e3 e4
theorem Hand.sub_b (hh:Hand w0 st V w q z) (i:Nat):(V.sub q.ls q.rs).b i=z.L[i]?:=by
 simp only [Vl.sub]
 cases hi:q.ls[i]? with
 | none =>
  have:q.ls.length<=i:=by simpa using hi
  simp [hh.ll,this]
 | some l =>
  obtain ⟨p,h1,h2⟩:=hh.lb i l hi
  simp [h1,h2]
theorem Hand.rowAt (hh:Hand w0 st V w q z) {j:Nat} {rc:RowC} (hr:rowAt q.m.rows j=some rc):∃ k u,q.rs[j]?=some k/\Go.Sx.rowAt st.mem.rows k=some rc/\V.r k=some (some u)/\z.U[j]?=some u:=by
 have hj:j<q.rs.length:=by
  rw [<- hh.rl]
  apply Classical.byContradiction
  intro hn
  have:q.m.rows[j]?=none:=by simp;omega
  simp [Go.Sx.rowAt,this] at hr
 obtain ⟨rc',u,e1,e2,e3,e4⟩:=hh.ru j q.rs[j] (by simp [hj])
 rw [Go.Sx.rowAt,e2] at hr
 injection hr with hr
 subst hr
 exact ⟨q.rs[j],u,by simp [hj],e1,e3,e4⟩
theorem Hand.lent (hh:Hand w0 st V w q z):Lent z q.m (V.sub q.ls q.rs) where
 bl:=hh.ll.trans hh.bl.symm
 b:=hh.sub_b
 ul:=hh.ul.trans hh.rl.symm
 u:=fun j u hu=>by
  have hj:j<q.rs.length:=by
   have:=(List.getElem?_eq_some_iff.1 hu).1
   rw [hh.ul] at this
   exact this
  obtain ⟨rc',u',e1,e2,e3,e4⟩:=hh.ru j q.rs[j] (by simp [hj])
  rw [hu] at e4
  injection e4 with e4
  subst e4
  simp [Vl.sub,hj,e3]
 rl:=fun g=>by
  rw [hh.own]
  constructor
  ·rintro ⟨k,hk,rc,u,e1,e2,e3,e4⟩
   obtain ⟨j,hj⟩:=List.getElem?_of_mem hk
   obtain ⟨rc',u',e5,e6,e7,e8⟩:=hh.ru j k hj
   rw [e1] at e5
   injection e5 with e5
   subst e5
   rw [e3] at e7
   injection e7 with e7
   injection e7 with e7
   subst e7
   exact ⟨j,rc,u,by simp [Go.Sx.rowAt,e6],e2,e8,e4⟩
  ·rintro ⟨j,rc,u,e1,e2,e3,e4⟩
   obtain ⟨k,u',e5,e6,e7,e8⟩:=hh.rowAt e1
   rw [e3] at e8
   injection e8 with e8
   subst e8
   exact ⟨k,List.mem_of_getElem? e5,rc,u,e6,e2,e7,e4⟩
theorem Hand.memOk (h:Rel w0 st V a w) (hh:Hand w0 st V w q z):dz z q.m (V.sub q.ls q.rs) z.w:=by
 have hw:=hh.w
 have bb:∀ {i p},(V.sub q.ls q.rs).b i=some p->∃ l,q.ls[i]?=some l/\V.b l=some p/\i<q.ls.length:=by
  intro i p hp
  simp only [Vl.sub,Option.bind_eq_some_iff] at hp
  obtain ⟨l,h1,h2⟩:=hp
  exact ⟨l,h1,h2,(List.getElem?_eq_some_iff.1 h1).1⟩
 have nd:∀ {i i':Nat} {l l':Nat},q.ls[i]?=some l->q.ls[i']?=some l'->i≠i'->l≠l':=by
  intro i i' l l' h1 h2 hne e
  subst e
  have e1:=j7 q.ls l 0 i hh.n1 h1
  have e2:=j7 q.ls l 0 i' hh.n1 h2
  rw [e1] at e2
  injection e2 with e2
  omega
 have nd':∀ {i i':Nat} {l l':Nat},q.rs[i]?=some l->q.rs[i']?=some l'->i≠i'->l≠l':=by
  intro i i' l l' h1 h2 hne e
  subst e
  have e1:=j7 q.rs l 0 i hh.n2 h1
  have e2:=j7 q.rs l 0 i' hh.n2 h2
  rw [e1] at e2
  injection e2 with e2
  omega
 have vr:∀ {j k u},q.rs[j]?=some k->(V.sub q.ls q.rs).r j=some (some u)->V.r k=some (some u):=by
  intro j k u hj hu
  simpa [Vl.sub,hj] using hu
 exact {
   len:=fun t x hx=>by cases hx
   tmps:=fun t x hx=>by cases hx
   defers:=rfl
   lens:=by show q.m.blk.length=q.m.live.length;rw [hh.lv,List.length_map]
   mem:=fun l b o hl cs' hcs' j x' hx'=>by
     obtain ⟨k,h1,h2,h3⟩:=bb hl
     obtain ⟨cs,cs'',e1,e2,e3⟩:=hh.blk l k h1
     have e4:cs''=cs':=by
       have:q.m.blk[l]?=some cs':=hcs'
       rw [e2] at this
       injection this
     subst e4
     obtain ⟨g1,g2⟩:=j6 e3
     have hj:j<cs.length:=by
       have:=(List.getElem?_eq_some_iff.1 hx').1
       omega
     obtain ⟨y',e5,e6⟩:=g2 j cs[j] (by simp [hj])
     rw [hx'] at e5
     injection e5 with e5
     subst e5
     obtain ⟨y,f1,f2,f3⟩:=h.mem k b o h2 cs e1 j cs[j] (by simp [hj])
     rw [hw]
     exact ⟨y,f1,nv e6 f2,f3⟩
   inj:=fun l l' b o b' o' h1 h2 hne=>by
     obtain ⟨k,e1,e2,_⟩:=bb h1
     obtain ⟨k',e3,e4,_⟩:=bb h2
     exact h.inj k k' b o b' o' e2 e4 (nd e1 e3 hne)
   own:=fun l b o hl=>by
     obtain ⟨k,e1,e2,e3⟩:=bb hl
     exact ⟨.inr (by rw [hh.ll];exact e3),by rw [hw];exact (h.own k b o e2).2⟩
   lent:=fun l p hp=>by rw [hh.sub_b];exact hp
   base0:=fun l b o hl hge=>by
     obtain ⟨k,e1,e2,e3⟩:=bb hl
     rw [hh.ll] at hge
     omega
   dom:=fun l hl=>by
     obtain ⟨p,hp⟩:=Option.ne_none_iff_exists'.1 hl
     obtain ⟨k,e1,e2,e3⟩:=bb hp
     show q.m.live[l]?=some true
     rw [hh.lv]
     simp [hh.bl,e3]
   lentr:=fun j u hu=>.inl (hh.lent.u j u hu)
   rows:=fun r rc hr=>by
     obtain ⟨k,u,e1,e2,e3,e4⟩:=hh.rowAt hr
     refine ⟨u,by simp [Vl.sub,e1,e3],?_⟩
     obtain ⟨u',e5,e6⟩:=h.rows k rc e2
     rw [e3] at e5
     injection e5 with e5
     injection e5 with e5
     subst e5
     rw [hw]
     exact cE.trans (fun b hb=>⟨.inl ((hh.sst b).2 hb),rfl⟩) (fun ho L0 f1 f2=>⟨f1,fun g hg=>.inr ((hh.own g).2 ⟨k,List.mem_of_getElem? e1,rc,u,e2,ho,e3,hg⟩)⟩) e6
   rowsN:=fun r hr=>by
     have:q.rs[r]?=none:=by
       have e:q.m.rows[r]?=none:=hr
       simp at e ⊢
       rw [<- hh.rl]
       exact e
     simp [Vl.sub,this]
   apart:=fun r r' rc rc' u u' g h1 h2 h3 h4 h5 h6 hne hg=>by
     obtain ⟨k,_,e1,e2,_,_⟩:=hh.rowAt h1
     obtain ⟨k',_,e3,e4,_,_⟩:=hh.rowAt h3
     exact h.apart k k' rc rc' u u' g e2 h2 e4 h4 (vr e1 h5) (vr e3 h6) (nd' e1 e3 hne) hg
   apartb:=fun r rc u g l b o h1 h2 h3 h4 h5=>by
     obtain ⟨k,_,e1,e2,_,_⟩:=hh.rowAt h1
     obtain ⟨l',e3,e4,_⟩:=bb h5
     exact h.apartb k rc u g l' b o e2 h2 (vr e1 h3) h4 e4
   below:=⟨rfl,rfl,rfl,Nat.le_refl _,fun _ _=>rfl⟩
   froz:=fun _ _=>rfl
   lits:=.none fun _=>rfl
   sk:=fun b hb=>by
     rcases (hh.sst b).1 hb with hb|hb
     · exact hh.kept h (h.sk b hb)
     · obtain ⟨cs,e⟩:=Option.ne_none_iff_exists'.1 hb
       exact hh.keptq h e
   qs:=fun g cs hq=>by cases hq }
end
end Go.Sx
namespace Go.Sx
open Go.RowKit
theorem iQ {ls:List Nat} {N i l:Nat} (h:ls[i]?=some l):dH ls N i=l:=by simp [dH,h]
theorem qQ {ls:List Nat} {N i:Nat} (h:ls.length<=i):dH ls N i=N+(i - ls.length):=by
 have:ls[i]?=none:=by simpa using h
 simp [dH,this]
theorem P0 {a b:Nat} (h:b<=a):Nat.blt a b=false:=by
 cases e:Nat.blt a b with
 | false=>rfl
 | true=>rw [Nat.blt_eq] at e;omega
theorem Qb (ls:List Nat) (N l:Nat):(∃ i,l=dH ls N i/\(i<ls.length\/(ls.length<=i/\N<=l)))\/(l<N/\l ∉ ls):=by
 by_cases hm:l∈ls
 ·obtain ⟨i,hi⟩:=List.getElem?_of_mem hm
  exact .inl ⟨i,(iQ hi).symm,.inl (List.getElem?_eq_some_iff.1 hi).1⟩
 ·by_cases hl:l<N
  ·exact .inr ⟨hl,hm⟩
  ·refine .inl ⟨ls.length+(l - N),?_,.inr ⟨by omega,by omega⟩⟩
   rw [qQ (by omega)]
   omega
section
variable {P:Program} {al:Al} {w0:Base} {st:St} {V:Vl} {a:Act} {w:World} {q:Lend} {z:Base}
def Vl.merge (V V':Vl) (ls rs:List Nat) (N M:Nat):Vl :=
 ⟨fun k=>bif Nat.blt k N then V.b k else V'.b (ls.length+(k - N)),
  fun k=>match dN rs k 0 with|some j=>V'.r j|none=>bif Nat.blt k M then V.r k else V'.r (rs.length+(k - M)),fun g=>match V.q g with|some cs=>some cs|none=>V'.q g⟩
theorem MZ (h:Rel w0 st V a w) (hh:Hand w0 st V w q z) {m:Mem} {V':Vl} {w':World} (hm:dz z m V' w')
  (hn:q.ls.length<=m.blk.length) (_hf:vY q.m.rows m.rows=true) :
  ∃ V2,V.Le V2/\Rel w0 { st with mem:=merge st.mem q.ls q.rs m } V2 a w'/\∀ r y,aI V' r y->aI V2 (HK q.ls q.rs st.mem.blk.length st.mem.rows.length r) y:=by
 have hw:=hh.w
 have hN:=h.lens
 have hzB:z.B=w.heap.size:=by show z.w.heap.size=_;rw [hw]
 generalize eN:st.mem.blk.length=N
 generalize eM:st.mem.rows.length=M
 have lsN:∀ l,V.b l≠none->l<N:=fun l hl=>by
  have:=h.dom l hl
  have:=(List.getElem?_eq_some_iff.1 this).1
  omega
 have rsM:∀ r,V.r r≠none->r<M:=fun r hr=>by
  apply Classical.byContradiction
  intro hge
  exact hr (h.rowsN r (by simp;omega))
 have inls:∀ l,l∈q.ls->∃ i p,q.ls[i]?=some l/\V.b l=some p/\V'.b i=some p/\i<q.ls.length/\l<N:=by
  intro l hl
  obtain ⟨i,hi⟩:=List.getElem?_of_mem hl
  obtain ⟨p,h1,h2⟩:=hh.lb i l hi
  exact ⟨i,p,hi,h1,hm.lent i p h2,(List.getElem?_eq_some_iff.1 hi).1,lsN l (by simp [h1])⟩
 have inrs:∀ j k,q.rs[j]?=some k->∃ rc u,rowAt st.mem.rows k=some rc/\q.m.rows[j]?=some (.live rc)/\V.r k=some (some u)/\(V'.r j=some (some u)\/V'.r j=some none)/\k<M/\dN q.rs k 0=some j:=by
  intro j k hj
  obtain ⟨rc,u,e1,e2,e3,e4⟩:=hh.ru j k hj
  have:=j7 q.rs k 0 j hh.n2 hj
  rw [Nat.zero_add] at this
  exact ⟨rc,u,e1,e2,e3,hm.lentr j u e4,rsM k (by simp [e3]),this⟩
 have vb:∀ i,(V.merge V' q.ls q.rs N M).b (dH q.ls N i)=V'.b i:=by
  intro i
  by_cases hi:i<q.ls.length
  ·obtain ⟨p,h1,h2⟩:=hh.lb i q.ls[i] (by simp [hi])
   have hl:=lsN q.ls[i] (by simp [h1])
   rw [iQ (l:=q.ls[i]) (by simp [hi])]
   simp only [Vl.merge]
   rw [show Nat.blt q.ls[i] N=true by simpa using hl,cond_true,h1,hm.lent i p h2]
  ·rw [qQ (by omega)]
   simp only [Vl.merge]
   rw [P0 (by omega),cond_false]
   congr 1
   omega
 have vb':∀ l,l<N->(V.merge V' q.ls q.rs N M).b l=V.b l:=by
  intro l hl
  simp only [Vl.merge]
  rw [show Nat.blt l N=true by simpa using hl,cond_true]
 have vr:∀ j,(V.merge V' q.ls q.rs N M).r (dH q.rs M j)=V'.r j:=by
  intro j
  by_cases hj:j<q.rs.length
  ·obtain ⟨rc,u,e1,e2,e3,e4,e5,e6⟩:=inrs j q.rs[j] (by simp [hj])
   rw [iQ (l:=q.rs[j]) (by simp [hj])]
   simp only [Vl.merge,e6]
  ·rw [qQ (by omega)]
   have:dN q.rs (M+(j - q.rs.length)) 0=none:=by
    apply CH
    intro hmem
    obtain ⟨j',hj'⟩:=List.getElem?_of_mem hmem
    obtain ⟨rc,u,e1,e2,e3,e4,e5,e6⟩:=inrs j' _ hj'
    omega
   simp only [Vl.merge,this]
   rw [P0 (by omega),cond_false]
   congr 1
   omega
 have vr':∀ k,k<M->k ∉ q.rs->(V.merge V' q.ls q.rs N M).r k=V.r k:=by
  intro k hk hn'
  simp only [Vl.merge,CH q.rs k 0 hn']
  rw [show Nat.blt k M=true by simpa using hk,cond_true]
 have hle:V.Le (V.merge V' q.ls q.rs N M):=by
  refine ⟨fun l p hp=>?_,fun r hr=>?_,fun g cs (e:V.q g=some cs)=>by show (match V.q g with|some cs=>some cs|none=>V'.q g)=some cs;rw [e]⟩
  ·rw [vb' l (lsN l (by simp [hp]))]
   exact hp
  ·by_cases hmem:r∈q.rs
   ·obtain ⟨j,hj⟩:=List.getElem?_of_mem hmem
    obtain ⟨rc,u,e1,e2,e3,e4,e5,e6⟩:=inrs j r hj
    have:=vr j
    rw [iQ hj] at this
    rw [this,e3]
    rcases e4 with e4|e4<;>rw [e4]<;>simp
   ·rw [vr' r (rsM r hr) hmem]
    exact ⟨hr,fun u hu=>hu⟩
 have mb:∀ i,(merge st.mem q.ls q.rs m).blk[dH q.ls N i]?=(m.blk[i]?).map fun cs=>cs.map (fK q.ls q.rs N M):=by
  intro i
  simp only [merge,eN,eM]
  by_cases hi:i<q.ls.length
  ·obtain ⟨p,h1,h2⟩:=hh.lb i q.ls[i] (by simp [hi])
   have hl:=lsN q.ls[i] (by simp [h1])
   rw [iQ (l:=q.ls[i]) (by simp [hi])]
   rw [List.getElem?_append_left (by rw [iq,eN];exact hl)]
   have hi':i<m.blk.length:=by omega
   rw [Bn q.ls _ _ i q.ls[i] (m.blk[i].map (fK q.ls q.rs N M)) hh.n1 (by simp [hi]) (by simp [hi']) (by omega)]
   simp [hi']
  ·rw [qQ (by omega),List.getElem?_append_right (by rw [iq,eN];omega),iq,eN]
   rw [List.getElem?_map,List.getElem?_drop]
   congr 2
   omega
 have mb':∀ l,l<N->l ∉ q.ls->(merge st.mem q.ls q.rs m).blk[l]?=st.mem.blk[l]?:=by
  intro l hl hn'
  simp only [merge]
  rw [List.getElem?_append_left (by rw [iq,eN];exact hl),pq _ _ _ _ hn']
 have mr:∀ j,V'.r j≠none\/q.rs.length<=j->(merge st.mem q.ls q.rs m).rows[dH q.rs M j]?=m.rows[j]?:=by
  intro j hj
  simp only [merge]
  by_cases hj':j<q.rs.length
  ·obtain ⟨rc,u,e1,e2,e3,e4,e5,e6⟩:=inrs j q.rs[j] (by simp [hj'])
   have hjm:j<m.rows.length:=by
    apply Classical.byContradiction
    intro hge
    have:=hm.rowsN j (by simp;omega)
    rcases hj with hj|hj
    ·exact hj this
    ·omega
   rw [iQ (l:=q.rs[j]) (by simp [hj']),List.getElem?_append_left (by rw [iq,eM];exact e5)]
   rw [Bn q.rs _ _ j q.rs[j] m.rows[j] hh.n2 (by simp [hj']) (by simp [hjm]) (by omega)]
   simp [hjm]
  ·rw [qQ (by omega),List.getElem?_append_right (by rw [iq,eM];omega),iq,eM,List.getElem?_drop]
   congr 1
   omega
 have mr':∀ k,k<M->k ∉ q.rs->(merge st.mem q.ls q.rs m).rows[k]?=st.mem.rows[k]?:=by
  intro k hk hn'
  simp only [merge]
  rw [List.getElem?_append_left (by rw [iq,eM];exact hk),pq _ _ _ _ hn']
 have lnr:∀ j,j<q.rs.length->V'.r j≠none:=by
  intro j hj
  obtain ⟨rc,u,e1,e2,e3,e4,e5,e6⟩:=inrs j q.rs[j] (by simp [hj])
  rcases e4 with e4|e4<;>rw [e4]<;>simp
 have mrj:∀ j,(merge st.mem q.ls q.rs m).rows[dH q.rs M j]?=m.rows[j]?:=by
  intro j
  by_cases hj:j<q.rs.length
  ·exact mr j (.inl (lnr j hj))
  ·exact mr j (.inr (by omega))
 have cb:∀ l,(∃ i,l=dH q.ls N i/\(i<q.ls.length\/(q.ls.length<=i/\N<=l)))\/(l<N/\l ∉ q.ls):=Qb q.ls N
 have cr:∀ l,(∃ i,l=dH q.rs M i/\(i<q.rs.length\/(q.rs.length<=i/\M<=l)))\/(l<M/\l ∉ q.rs):=Qb q.rs M
 have da:∀ x y,bq V' x y->bq (V.merge V' q.ls q.rs N M) (fK q.ls q.rs N M x) y:=by
  intro x y hd
  cases x with
  | v _=>exact hd
  | ptr l o=>obtain ⟨b,o',e1,e2⟩:=hd;exact ⟨b,o',by rw [vb];exact e1,e2⟩
  | row r=>simp only [fK,bq];rw [vr];exact hd
  | clo f l o=>obtain ⟨b,o',e1,e2⟩:=hd;exact ⟨b,o',by rw [vb];exact e1,e2⟩
 have dl:∀ cs vs,aG (bq V') cs vs->aG (bq (V.merge V' q.ls q.rs N M)) (cs.map (fK q.ls q.rs N M)) vs:=by
  intro cs
  induction cs with
  | nil=>intro vs hd;cases vs with
   | nil=>trivial
   | cons _ _=>exact hd.elim
  | cons c cs ih=>intro vs hd;cases vs with
   | nil=>exact hd.elim
   | cons v vs=>exact ⟨da _ _ hd.1,ih vs hd.2⟩
 have dt:∀ cs vs,aG (fQ V') cs vs->aG (fQ (V.merge V' q.ls q.rs N M)) (cs.map (Qa q.ls q.rs N M)) vs:=by
  intro cs
  induction cs with
  | nil=>intro vs hd;cases vs with
   | nil=>trivial
   | cons _ _=>exact hd.elim
  | cons c cs ih=>intro vs hd;cases vs with
   | nil=>exact hd.elim
   | cons v vs =>
    refine ⟨?_,ih vs hd.2⟩
    cases c with
    | one x=>exact da _ _ hd.1
    | ag l=>obtain ⟨us,e1,e2⟩:=hd.1;exact ⟨us,e1,dl _ _ e2⟩
 have hq1:∀ g cs,V.q g=some cs->(V.merge V' q.ls q.rs N M).q g=some cs:=fun g cs e=>by
  show (match V.q g with|some cs=>some cs|none=>V'.q g)=some cs
  rw [e]
 have hq2:∀ g cs,V'.q g=some cs->(V.merge V' q.ls q.rs N M).q g≠none:=fun g cs e=>by
  show (match V.q g with|some cs=>some cs|none=>V'.q g)≠none
  cases V.q g with
  | none=>rw [e];simp
  | some c=>simp
 have keepb:∀ l b o,V.b l=some (b,o)->l ∉ q.ls->z.Kept b:=by
  intro l b o hl hn'
  refine ⟨by rw [hzB];exact (h.own l b o hl).2,fun o' ho=>?_,fun hr=>?_⟩
  ·obtain ⟨i,hi⟩:=List.getElem?_of_mem ho
   have hi':i<q.ls.length:=by
    have:=(List.getElem?_eq_some_iff.1 hi).1
    rw [hh.ll] at this
    exact this
   obtain ⟨p,h1,h2⟩:=hh.lb i q.ls[i] (by simp [hi'])
   rw [hi] at h2
   injection h2 with h2
   subst h2
   exact h.inj l q.ls[i] b o b o' hl h1 (fun e=>hn' (e▸List.getElem_mem hi')) rfl
  ·obtain ⟨k,hk,rc,u,e1,e2,e3,e4⟩:=(hh.own b).1 hr
   exact h.apartb k rc u b l b o e1 e2 e3 e4 hl rfl
 have keepr:∀ k rc u g,rowAt st.mem.rows k=some rc->rc.own=true->V.r k=some (some u)->u.ownBlock=some g->k ∉ q.rs->z.Kept g:=by
  intro k rc u g e1 e2 e3 e4 hn'
  obtain ⟨u',e5,e6⟩:=h.rows k rc e1
  rw [e3] at e5
  injection e5 with e5
  injection e5 with e5
  subst e5
  refine ⟨by rw [hzB];exact (e6.lt e2 e4).2,fun o' ho=>?_,fun hr=>?_⟩
  ·obtain ⟨i,hi⟩:=List.getElem?_of_mem ho
   have hi':i<q.ls.length:=by
    have:=(List.getElem?_eq_some_iff.1 hi).1
    rw [hh.ll] at this
    exact this
   obtain ⟨p,h1,h2⟩:=hh.lb i q.ls[i] (by simp [hi'])
   rw [hi] at h2
   injection h2 with h2
   subst h2
   exact h.apartb k rc u g q.ls[i] g o' e1 e2 e3 e4 h1 rfl
  ·obtain ⟨k',hk',rc',u',f1,f2,f3,f4⟩:=(hh.own g).1 hr
   exact h.apart k k' rc rc' u u' g e1 e2 f1 f2 e3 f3 (fun e=>hn' (e▸hk')) e4 f4
 have newb:∀ i b o,V'.b i=some (b,o)->q.ls.length<=i->z.B<=b:=by
  intro i b o hb hi
  rcases (hm.own i b o hb).1 with h1|h1
  ·exact h1
  ·rw [hh.ll] at h1;omega
 have ownr:∀ j rc u g,rowAt m.rows j=some rc->rc.own=true->V'.r j=some (some u)->u.ownBlock=some g->z.Own g:=by
  intro j rc u g e1 e2 e3 e4
  obtain ⟨u',e5,e6⟩:=hm.rows j rc e1
  rw [e3] at e5
  injection e5 with e5
  injection e5 with e5
  subst e5
  exact (e6.lt e2 e4).1
 have own0:∀ g,z.Own g->w0.Own g:=by
  rintro g (hg|hg)
  ·rw [hzB] at hg
   exact .inl (Nat.le_trans h.below.size hg)
  ·obtain ⟨k,hk,rc,u,e1,e2,e3,e4⟩:=(hh.own g).1 hg
   obtain ⟨u',e5,e6⟩:=h.rows k rc e1
   rw [e3] at e5
   injection e5 with e5
   injection e5 with e5
   subst e5
   exact (e6.lt e2 e4).1
 have keptOwn:∀ g,z.Kept g->¬ z.Own g:=by
  rintro g ⟨h1,_,h3⟩ (h4|h4)
  ·omega
  ·exact h3 h4
 have ra:∀ {rows:List RowS} {r:Nat} {rc},rowAt rows r=some rc->rows[r]?=some (.live rc):=by
  intro rows r rc hr
  unfold rowAt at hr
  split at hr
  ·rename_i rc' e;injection hr with hr;subst hr;exact e
  ·cases hr
 have rj:∀ j rc,rowAt (merge st.mem q.ls q.rs m).rows (dH q.rs M j)=some rc->rowAt m.rows j=some rc:=by
  intro j rc hr
  have:=ra hr
  rw [mrj] at this
  simp [rowAt,this]
 have rk:∀ k rc,k<M->k ∉ q.rs->rowAt (merge st.mem q.ls q.rs m).rows k=some rc->rowAt st.mem.rows k=some rc:=by
  intro k rc h1 h2 hr
  have:=ra hr
  rw [mr' k h1 h2] at this
  simp [rowAt,this]
 refine ⟨V.merge V' q.ls q.rs N M,hle,?_,?_⟩
 ·exact {
    len:=h.len
    tmps:=fun t x hx y hy=>(h.tmps t x hx y hy).mono hle
    defers:=h.defers
    lens:=by
      have:=hm.lens
      have e:m.blk.length=m.live.length:=this
      show (merge st.mem q.ls q.rs m).blk.length=(merge st.mem q.ls q.rs m).live.length
      simp only [merge,List.length_append,iq,List.length_map,List.length_drop]
      omega
    mem:=fun l b o hl cs hcs j x hx=>by
      rcases cb l with ⟨i,rfl,_⟩|⟨h1,h2⟩
      · rw [vb] at hl
        have hcs:(merge st.mem q.ls q.rs m).blk[dH q.ls N i]?=some cs:=hcs
        rw [mb] at hcs
        simp only [Option.map_eq_some_iff] at hcs
        obtain ⟨cs0,e1,rfl⟩:=hcs
        rw [List.getElem?_map,Option.map_eq_some_iff] at hx
        obtain ⟨x0,e2,rfl⟩:=hx
        obtain ⟨y,f1,f2,f3⟩:=hm.mem i b o hl cs0 e1 j x0 e2
        exact ⟨y,f1,da _ _ f2,f3⟩
      · rw [vb' l h1] at hl
        have hcs:(merge st.mem q.ls q.rs m).blk[l]?=some cs:=hcs
        rw [mb' l h1 h2] at hcs
        obtain ⟨y,f1,f2,f3⟩:=h.mem l b o hl cs hcs j x hx
        have hk:=keepb l b o hl h2
        refine ⟨y,?_,f2.mono hle,?_⟩
        · rw [World.cell?_of_block (w:=w) (by rw [hm.below.block b hk,hw])]
          exact f1
        · rw [hm.froz _ hk.1,hw]
          exact f3
    inj:=fun l l' b o b' o' h1 h2 hne=>by
      rcases cb l with ⟨i,rfl,hi⟩|⟨g1,g2⟩<;>rcases cb l' with ⟨i',rfl,hi'⟩|⟨g1',g2'⟩
      · rw [vb] at h1 h2
        exact hm.inj i i' b o b' o' h1 h2 (fun e=>hne (by rw [e]))
      · rw [vb' l' g1'] at h2
        rcases hi with hi|hi
        · have hb:q.ls[i]?=some q.ls[i]:=by simp [hi]
          rw [iQ hb] at h1
          obtain ⟨p,e1,_⟩:=hh.lb i _ hb
          rw [vb' _ (lsN _ (by simp [e1]))] at h1
          exact h.inj _ l' b o b' o' h1 h2 (fun e=>g2' (e▸List.getElem_mem hi))
        · rw [vb] at h1
          have:=newb i b o h1 hi.1
          have:=(h.own l' b' o' h2).2
          omega
      · rw [vb' l g1] at h1
        rcases hi' with hi'|hi'
        · have hb:q.ls[i']?=some q.ls[i']:=by simp [hi']
          rw [iQ hb] at h2
          obtain ⟨p,e1,_⟩:=hh.lb i' _ hb
          rw [vb' _ (lsN _ (by simp [e1]))] at h2
          exact h.inj l _ b o b' o' h1 h2 (fun e=>g2 (e▸List.getElem_mem hi'))
        · rw [vb] at h2
          have:=newb i' b' o' h2 hi'.1
          have:=(h.own l b o h1).2
          omega
      · rw [vb' l g1] at h1
        rw [vb' l' g1'] at h2
        exact h.inj l l' b o b' o' h1 h2 hne
    own:=fun l b o hl=>by
      rcases cb l with ⟨i,rfl,hi⟩|⟨g1,g2⟩
      · have hl':=hl
        rw [vb] at hl
        refine ⟨?_,(hm.own i b o hl).2⟩
        rcases hi with hi|hi
        · have hb:q.ls[i]?=some q.ls[i]:=by simp [hi]
          rw [iQ hb] at hl' ⊢
          obtain ⟨p,e1,_⟩:=hh.lb i _ hb
          rw [vb' _ (lsN _ (by simp [e1]))] at hl'
          exact (h.own _ b o hl').1
        · have:=newb i b o hl hi.1
          have:=h.below.size
          exact .inl (by omega)
      · rw [vb' l g1] at hl
        have:=h.own l b o hl
        have hs:=hm.below.size
        exact ⟨this.1,by omega⟩
    lent:=fun l p hp=>hle.b l p (h.lent l p hp)
    base0:=fun l b o hl hge=>by
      rcases cb l with ⟨i,rfl,hi⟩|⟨g1,g2⟩
      · rcases hi with hi|hi
        · have hb:q.ls[i]?=some q.ls[i]:=by simp [hi]
          rw [iQ hb] at hl hge
          obtain ⟨p,e1,_⟩:=hh.lb i _ hb
          rw [vb' _ (lsN _ (by simp [e1]))] at hl
          exact h.base0 _ b o hl hge
        · rw [vb] at hl
          exact hm.base0 i b o hl (by rw [hh.ll];exact hi.1)
      · rw [vb' l g1] at hl
        exact h.base0 l b o hl hge
    dom:=fun l hl=>by
      show (merge st.mem q.ls q.rs m).live[l]?=some true
      simp only [merge]
      rcases cb l with ⟨i,rfl,hi⟩|⟨g1,g2⟩
      · rcases hi with hi|hi
        · have hb:q.ls[i]?=some q.ls[i]:=by simp [hi]
          rw [iQ hb]
          obtain ⟨p,e1,_⟩:=hh.lb i _ hb
          have:=lsN q.ls[i] (by simp [e1])
          rw [List.getElem?_append_left (by omega)]
          exact h.dom _ (by simp [e1])
        · rw [vb] at hl
          have:=hm.dom i hl
          rw [qQ hi.1,List.getElem?_append_right (by omega),List.getElem?_drop,<- hN,eN]
          rw [show q.ls.length+(N+(i - q.ls.length) - N)=i by omega]
          exact this
      · rw [vb' l g1] at hl
        rw [List.getElem?_append_left (by omega)]
        exact h.dom l hl
    lentr:=fun j u hu=>by
      have h1:V.r j≠none:=by rcases h.lentr j u hu with e|e<;>rw [e]<;>simp
      obtain ⟨h2,h3⟩:=hle.r j h1
      obtain ⟨x,hx⟩:=Option.ne_none_iff_exists'.1 h2
      cases x with
      | none=>exact .inr hx
      | some u' =>
        have:=h3 u' hx
        rcases h.lentr j u hu with e|e
        · rw [this] at e
          injection e with e
          exact .inl (by rw [hx,e])
        · rw [this] at e
          injection e with e
          cases e
    rows:=fun r rc hr=>by
      have hr:rowAt (merge st.mem q.ls q.rs m).rows r=some rc:=hr
      rcases cr r with ⟨j,rfl,hj⟩|⟨g1,g2⟩
      · have hr':=rj j rc hr
        obtain ⟨u,e1,e2⟩:=hm.rows j rc hr'
        refine ⟨u,by rw [vr];exact e1,?_⟩
        have hstm:∀ b,z.Stay V' b->w0.Stay (V.merge V' q.ls q.rs N M) b:=by
          intro b hb
          rcases hb with hb|hb
          · exact Base.Stay.mono (fun g cs=>hq1 g cs) ((hh.sst b).1 hb)
          · obtain ⟨cs,e⟩:=Option.ne_none_iff_exists'.1 hb
            exact .inr (hq2 b cs e)
        exact cE.trans (fun b hb=>⟨hstm b hb,rfl⟩) (fun _ L0 f1 f2=>⟨f1,fun g hg=>own0 g (f2 g hg)⟩) e2
      · have hr':=rk r rc g1 g2 hr
        obtain ⟨u,e1,e2⟩:=h.rows r rc hr'
        refine ⟨u,by rw [vr' r g1 g2];exact e1,?_⟩
        have hstk:∀ b,w0.Stay V b->w'.heap[b]?=w.heap[b]?:=by
          intro b hb
          rcases hb with hb|hb
          · rw [hm.below.block b (hh.kept h (h.sk b hb)),hw]
          · obtain ⟨cs,e⟩:=Option.ne_none_iff_exists'.1 hb
            rw [hm.below.block b (hh.keptq h e),hw]
        exact cE.trans (fun b hb=>⟨Base.Stay.mono (fun g cs=>hq1 g cs) hb,hstk b hb⟩) (fun ho L0 f1 f2=>⟨f1.block fun g hg=>by rw [hm.below.block g (keepr r rc u g hr' ho e1 hg g2),hw],f2⟩) e2
    rowsN:=fun r hr=>by
      have hr:(merge st.mem q.ls q.rs m).rows[r]?=none:=hr
      rcases cr r with ⟨j,rfl,hj⟩|⟨g1,g2⟩
      · rw [vr]
        rw [mrj] at hr
        exact hm.rowsN j hr
      · rw [mr' r g1 g2] at hr
        rw [vr' r g1 g2]
        exact h.rowsN r hr
    apart:=fun r r' rc rc' u u' g h1 h2 h3 h4 h5 h6 hne hg=>by
      rcases cr r with ⟨j,rfl,_⟩|⟨g1,g2⟩<;>rcases cr r' with ⟨j',rfl,_⟩|⟨g1',g2'⟩
      · rw [vr] at h5 h6
        exact hm.apart j j' rc rc' u u' g (rj _ _ h1) h2 (rj _ _ h3) h4 h5 h6 (fun e=>hne (by rw [e])) hg
      · rw [vr] at h5
        rw [vr' _ g1' g2'] at h6
        exact fun e=>keptOwn g (keepr r' rc' u' g (rk _ _ g1' g2' h3) h4 h6 e g2') (ownr j rc u g (rj _ _ h1) h2 h5 hg)
      · rw [vr] at h6
        rw [vr' _ g1 g2] at h5
        exact fun e=>keptOwn g (keepr r rc u g (rk _ _ g1 g2 h1) h2 h5 hg g2) (ownr j' rc' u' g (rj _ _ h3) h4 h6 e)
      · rw [vr' _ g1 g2] at h5
        rw [vr' _ g1' g2'] at h6
        exact h.apart r r' rc rc' u u' g (rk _ _ g1 g2 h1) h2 (rk _ _ g1' g2' h3) h4 h5 h6 hne hg
    apartb:=fun r rc u g l b o h1 h2 h3 h4 h5=>by
      rcases cr r with ⟨j,rfl,_⟩|⟨g1,g2⟩<;>rcases cb l with ⟨i,rfl,hi⟩|⟨g1',g2'⟩
      · rw [vr] at h3
        rw [vb] at h5
        exact hm.apartb j rc u g i b o (rj _ _ h1) h2 h3 h4 h5
      · rw [vr] at h3
        rw [vb' l g1'] at h5
        exact fun e=>keptOwn b (keepb l b o h5 g2') (e▸ownr j rc u g (rj _ _ h1) h2 h3 h4)
      · rw [vr' _ g1 g2] at h3
        rcases hi with hi|hi
        · have hb:q.ls[i]?=some q.ls[i]:=by simp [hi]
          rw [iQ hb] at h5
          obtain ⟨p,e1,_⟩:=hh.lb i _ hb
          rw [vb' _ (lsN _ (by simp [e1]))] at h5
          exact h.apartb r rc u g _ b o (rk _ _ g1 g2 h1) h2 h3 h4 h5
        · rw [vb] at h5
          have e1:=newb i b o h5 hi.1
          have e2:=(keepr r rc u g (rk _ _ g1 g2 h1) h2 h3 h4 g2).1
          omega
      · rw [vr' _ g1 g2] at h3
        rw [vb' l g1'] at h5
        exact h.apartb r rc u g l b o (rk _ _ g1 g2 h1) h2 h3 h4 h5
    below:=by
      have hb:=h.below
      have hb':=hm.below
      have e1:z.w.os=w.os:=by rw [hw]
      have e2:z.w.tape=w.tape:=by rw [hw]
      have e3:z.w.output=w.output:=by rw [hw]
      refine ⟨hb'.os.trans (e1.trans hb.os),hb'.tape.trans (e2.trans hb.tape),hb'.output.trans (e3.trans hb.output),Nat.le_trans hb.size (by have:=hb'.size;omega),fun b hk=>?_⟩
      rw [hb'.block b (hh.kept h hk),hw,hb.block b hk]
    froz:=fun p hp=>by
      rw [hm.froz p (by have:=h.below.size;omega),hw,h.froz p hp]
    lits:=fun g cs hq=>by
      have hcase:V.q g=some cs\/(V.q g=none/\V'.q g=some cs):=by
        have hq:(match V.q g with|some cs=>some cs|none=>V'.q g)=some cs:=hq
        cases hv:V.q g with
        | none=>rw [hv] at hq;exact .inr ⟨rfl,hq⟩
        | some c=>rw [hv] at hq;exact .inl hq
      rcases hcase with hq|⟨_,hq⟩
      · obtain ⟨⟨e,fz,f1⟩,f2,f3⟩:=h.lits g cs hq
        have hk:=hh.keptq h hq
        refine ⟨⟨e,fz,by rw [hm.below.block g hk,hw];exact f1⟩,fun l b o hl=>?_,fun r rc u h1 h2 h3=>?_⟩
        · rcases cb l with ⟨i,rfl,hi⟩|⟨g1,g2⟩
          · rw [vb] at hl
            intro e'
            subst e'
            rcases (hm.own i b o hl).1 with h1|h1
            · exact absurd hk.1 (by omega)
            · have h2:=hm.lent i (z.L[i]) (by simp [h1])
              rw [hl] at h2
              injection h2 with h2
              exact hk.2.1 o (by rw [h2];exact List.getElem_mem h1)
          · rw [vb' l g1] at hl
            exact f2 l b o hl
        · rcases cr r with ⟨j,rfl,_⟩|⟨g1,g2⟩
          · rw [vr] at h3
            exact fun e'=>keptOwn g hk (ownr j rc u g (rj _ _ h1) h2 h3 e')
          · rw [vr' _ g1 g2] at h3
            exact f3 r rc u (rk _ _ g1 g2 h1) h2 h3
      · obtain ⟨f1,f2,f3⟩:=hm.lits g cs hq
        have hge:=hm.qs g cs hq
        refine ⟨f1,fun l b o hl=>?_,fun r rc u h1 h2 h3=>?_⟩
        · rcases cb l with ⟨i,rfl,hi⟩|⟨g1,g2⟩
          · rw [vb] at hl
            exact f2 i b o hl
          · rw [vb' l g1] at hl
            intro e'
            exact keptOwn b (keepb l b o hl g2) (e'▸hge)
        · rcases cr r with ⟨j,rfl,_⟩|⟨g1,g2⟩
          · rw [vr] at h3
            exact f3 j rc u (rj _ _ h1) h2 h3
          · rw [vr' _ g1 g2] at h3
            intro e'
            exact keptOwn g (keepr r rc u g (rk _ _ g1 g2 h1) h2 h3 e' g2) hge
    sk:=h.sk
    qs:=fun g cs hq=>by
      have hq:(match V.q g with|some cs=>some cs|none=>V'.q g)=some cs:=hq
      cases hv:V.q g with
      | some c=>exact h.qs g c hv
      | none =>
        rw [hv] at hq
        exact own0 g (hm.qs g cs hq) }
 ·intro r y hd
  cases r with
  | v x=>exact hd
  | ptr l o=>exact da (.ptr l o) y hd
  | row r=>exact da (.row r) y hd
  | clo f l o=>exact da (.clo f l o) y hd
  | ag cs=>obtain ⟨vs,e1,e2⟩:=hd;exact ⟨vs,e1,dl _ _ e2⟩
  | tup cs=>obtain ⟨vs,e1,e2⟩:=hd;exact ⟨vs,e1,dt _ _ e2⟩
  | _=>trivial
end
end Go.Sx
namespace Go.Sx
open Go.RowKit
section
variable {P:Program} {al:Al} {w0:Base} {st:St} {V:Vl} {a:Act} {w:World}
theorem aD {α γ:Type} (s:Sem α) (f:α->Sem γ) (w w':World) (x:α) (h:s.run P w=.ok x w'):(s >>= f).run P w=(f x).run P w':=by
 rw [Sem.run_bind,h];rfl
theorem mU {t:TypeId} {ag:Bool} (h:dd P t=some ag):(isAgg t).run P w=.ok ag w:=by
 unfold dd at h
 cases hu:P.underlying t with
 | none=>simp [hu] at h
 | some d =>
  unfold isAgg
  rw [aD _ _ w w d (run_underlying hu w)]
  cases d<;>simp [hu] at h<;>subst h<;>rfl
theorem dS {t:TypeId} {n:Nat} (h:a8 P t=some n):(sizeOf t).run P w=.ok n w:=by
 unfold a8 at h
 cases hi:P.info? t with
 | none=>simp [hi] at h
 | some i =>
  simp [hi] at h
  subst h
  simp [sizeOf,typeInfo,hi]
theorem Ah {t:TypeId} {z:Value} (h:il P t=some z):(zeroValue t).run P w=.ok z w:=by
 unfold il at h
 cases hi:P.info? t with
 | none=>simp [hi] at h
 | some i =>
  simp [hi] at h
  simp [zeroValue,typeInfo,hi,h]
theorem eP (b o i:Nat):(Addr.add ⟨b,o,none⟩ i)=⟨b,o+i,none⟩:=by
 unfold Addr.add
 split
 ·rename_i h;subst h;rfl
 ·rfl
theorem Lt (b o:Nat):∀ (vs:List Value) (i:Nat) (acc:Array Value),(∀ (j:Nat) y,vs[j]?=some y->w.cell? ⟨b,o+(i+j),none⟩=some y) ->
  (loadCellsFrom ⟨b,o,none⟩ i vs.length acc).run P w=.ok (acc++vs.toArray) w
 | [],i,acc,_=>by simp [loadCellsFrom]
 | v::r,i,acc,h=>by
  have h0:=h 0 v (by simp)
  simp only [List.length_cons,loadCellsFrom]
  have hl:(load (Addr.add ⟨b,o,none⟩ i)).run P w=.ok v w:=by
   rw [eP]
   simp only [load,Sem.run]
   simp only [Nat.add_zero] at h0
   simp [h0]
  rw [aD _ _ w w v hl,Lt b o r (i+1) (acc.push v) (fun j y hj=>by
   have:=h (j+1) y (by simpa using hj)
   rwa [show i+1+j=i+(j+1) by omega])]
  simp
theorem Bv {t:TypeId} (b o:Nat) (vs:List Value) (h1:dd P t=some true) (h2:a8 P t=some vs.length)
  (h:∀ (j:Nat) y,vs[j]?=some y->w.cell? ⟨b,o+j,none⟩=some y):(loadVar t ⟨b,o,none⟩).run P w=.ok (.agg vs.toArray) w:=by
 unfold loadVar
 rw [aD _ _ w w true (mU h1)]
 simp only [if_true]
 rw [aD _ _ w w vs.length (dS h2)]
 unfold loadCells
 rw [aD _ _ w w vs.toArray (by rw [Lt b o vs 0 #[] (by simpa using h)];simp)]
 rfl
theorem vG {t:TypeId} (b o:Nat) (y:Value) (h1:dd P t=some false) (h:w.cell? ⟨b,o,none⟩=some y) :
  (loadVar t ⟨b,o,none⟩).run P w=.ok y w:=by
 unfold loadVar
 rw [aD _ _ w w false (mU h1)]
 simp [load,Sem.run,h]
theorem HP:∀ (cs:List SA) (vs:List Value),kh cs=some vs->cs=vs.map .v
 | [],vs,h=>by simp [kh] at h;subst h;rfl
 | .v x::r,vs,h=>by
  unfold kh at h
  cases hr:kh r with
  | none=>simp [hr] at h
  | some l=>simp [hr] at h;subst h;simp [HP r l hr]
 | .ptr ..::_,vs,h=>by simp [kh] at h
 | .row ..::_,vs,h=>by simp [kh] at h
 | .clo ..::_,vs,h=>by simp [kh] at h
theorem Hb {V:Vl}:∀ {l:List Value} {vs:List Value},aG (bq V) (l.map .v) vs->vs=l
 | [],[],_=>rfl
 | x::l,y::vs,h=>by
  have h1:y=x:=h.1
  rw [h1,Hb h.2]
 | [],_::_,h=>h.elim
 | _::_,[],h=>h.elim
theorem qA {V:Vl}:∀ (l:List Value),aG (bq V) (l.map .v) l
 | []=>trivial
 | _::l=>⟨rfl,qA l⟩
theorem MX {V:Vl} {cs:List SA} {vs:List Value} (h:aG (bq V) cs vs):aI V (wW cs) (.agg vs.toArray):=by
 unfold wW
 split
 ·rename_i l hl
  have:=HP _ _ hl
  subst this
  rw [Hb h]
  rfl
 ·exact ⟨vs,rfl,h⟩
theorem yn {V:Vl} {ag:Bool} {cs:List SA} {vs:List Value} {x:SV} (h:aG (bq V) cs vs) (hx:iI ag cs=some x):(ag=true/\aI V x (.agg vs.toArray))\/(ag=false/\∃ y,vs=[y]/\aI V x y):=by
 cases ag with
 | true =>
  simp only [iI] at hx
  injection hx with hx
  subst hx
  exact .inl ⟨rfl,MX h⟩
 | false =>
  simp only [iI] at hx
  split at hx
  ·rename_i z
   injection hx with hx
   subst hx
   cases vs with
   | nil=>exact h.elim
   | cons y r=>cases r with
    | nil=>exact .inr ⟨rfl,y,rfl,Pg.2 h.1⟩
    | cons _ _=>exact h.2.elim
  ·cases hx
theorem getElem?_part {cs:List SA} {off n:Nat} {j:Nat} {x:SA} (h:((cs.drop off).take n)[j]?=some x):cs[off+j]?=some x/\j<n:=by
 rw [List.getElem?_take] at h
 split at h
 ·rename_i hj
  rw [List.getElem?_drop] at h
  exact ⟨h,hj⟩
 ·cases h
theorem Rel.cells (h:Rel w0 st V a w) {l b o:Nat} (hb:V.b l=some (b,o)) {cs:List SA} (hc:st.mem.blk[l]?=some cs):∀ (n off:Nat),off+n<=cs.length ->
  ∃ vs:List Value,vs.length=n/\aG (bq V) ((cs.drop off).take n) vs/\∀ (j:Nat) y,vs[j]?=some y->w.cell? ⟨b,o+(off+j),none⟩=some y
 | 0,off,_=>⟨[],rfl,by simp [aG],by simp⟩
 | n+1,off,hn=>by
  obtain ⟨vs,h1,h2,h3⟩:=h.cells hb hc n (off+1) (by omega)
  have hx:cs[off]?=some cs[off]:=by simp
  obtain ⟨y,e1,e2,_⟩:=h.mem l b o hb cs hc off cs[off] hx
  refine ⟨y::vs,by simp [h1],?_,fun j z hj=>?_⟩
  ·rw [List.drop_eq_getElem_cons (by omega),List.take_succ_cons]
   exact ⟨e2,h2⟩
  ·cases j with
   | zero=>simp at hj;subst hj;simpa using e1
   | succ j =>
    have:=h3 j z (by simpa using hj)
    rwa [show off+(j+1)=off+1+j by omega]
theorem Nk (h:Rel w0 st V a w) {t:TypeId} {p:Operand} {l off n:Nat} {ag:Bool} {cs:List SA} {x:SV} (hp:st.eval p=some (.ptr l off)) (h1:dd P t=some ag) (h2:a8 P t=some n)
  (hc:st.mem.blk[l]?=some cs) (hn:off+n<=cs.length) (hx:iI ag ((cs.drop off).take n)=some x) :
  ∃ y,(Instr.loadAt t (a.eval p)).run P w=.ok y w/\aI V x y:=by
 obtain ⟨b,o,hb,he⟩:=h.eval hp
 have hrun:∀ y,(loadVar t ⟨b,o+off,none⟩).run P w=.ok y w->(Instr.loadAt t (a.eval p)).run P w=.ok y w:=fun y hy=>by
  rw [he];simpa [Instr.loadAt,Instr.sureAddr] using hy
 obtain ⟨vs,v1,v2,v3⟩:=h.cells hb hc n off hn
 rcases yn v2 hx with ⟨rfl,hd⟩|⟨rfl,y,rfl,hd⟩
 ·refine ⟨_,hrun _ (Bv b (o+off) vs h1 (by rw [v1];exact h2) fun j y hj=>?_),hd⟩
  rw [Nat.add_assoc]
  exact v3 j y hj
 ·exact ⟨y,hrun _ (vG b (o+off) y h1 (by simpa using v3 0 y rfl)),hd⟩
theorem BN {K:Nat->Prop} {ks:List CK} {L:List (List Dat)} {u:Value} {g o n c:Nat} {w:World} (h:bO K w ks L u) (hu:u=.slice (some ⟨g,o,none⟩) n c):n=L.length/\∀ (i j:Nat) l y,L[i]?=some l->(aH ks l)[j]?=some y->w.cell? ⟨g,o+(i*ks.length+j),none⟩=some y:=by
 rcases h with ⟨⟨a0,rfl⟩,h0⟩|⟨b,o',cap,rfl,_,_,hc⟩
 ·injection hu with e1 e2 e3
  subst e2 h0
  exact ⟨rfl,fun i j l y hl=>by simp at hl⟩
 ·injection hu with e1 e2 e3
  injection e1 with e1
  injection e1 with e4 e5
  subst e4 e5 e2
  exact ⟨rfl,hc⟩
theorem qar (h:Rel w0 st V a w) {t:TypeId} {p:Operand} {r m j n:Nat} {i:Int} {rc:RowC} (hp:st.eval p=some (.rp r m i j)) (h1:dd P t=some true) (h2:a8 P t=some n) (hr:rowAt st.mem.rows r=some rc) (hk:rc.ks.length=m) (hn:j+n<=m) (hpl:pK rc.ks j n=true) :
  (Instr.loadAt t (a.eval p)).run P w=.ok (.agg (((aH rc.ks (rc.L.getD i.toNat [])).drop j).take n).toArray) w:=by
 obtain ⟨u,hu,hok⟩:=h.rows r rc hr
 obtain ⟨g,o,m',c,hs,h0,hi,he⟩:=(h.eval hp).2 u hu
 obtain ⟨L0,hl0,hlk,hrd⟩:=hok.get h.stay_lt
 obtain ⟨rfl,hc⟩:=BN hrd hs
 have hlt:i.toNat<rc.L.length:=by omega
 have hL:rc.L[i.toNat]?=some (rc.L.getD i.toNat []):=by simp [List.getD,hlt]
 obtain ⟨l0,hL0,hle⟩:=hlk.get hL
 rw [he,<- hle.part hpl]
 have hlen:(((aH rc.ks l0).drop j).take n).length=n:=by simp [cL];omega
 have:=Bv (P:=P) (w:=w) g (o+(i.toNat*m+j)) (((aH rc.ks l0).drop j).take n) h1 (by rw [hlen];exact h2) (fun j' y hj=>by
  have hj2:(aH rc.ks l0)[j+j']?=some y:=by
   rw [List.getElem?_take] at hj
   split at hj
   ·rwa [List.getElem?_drop] at hj
   ·cases hj
  have:=hc i.toNat (j+j') _ y hL0 hj2
  rwa [hk,show o+(i.toNat*m+(j+j'))=o+(i.toNat*m+j)+j' by omega] at this)
 simpa [Instr.loadAt,Instr.sureAddr] using this
theorem qaq (h:Rel w0 st V a w) {t:TypeId} {p:Operand} {r m j:Nat} {i:Int} {rc:RowC} {y:Value} (hp:st.eval p=some (.rp r m i j)) (h1:dd P t=some false) (hr:rowAt st.mem.rows r=some rc) (hk:rc.ks.length=m) (hpl:pK rc.ks j 1=true) (hy:(aH rc.ks (rc.L.getD i.toNat []))[j]?=some y) :
  (Instr.loadAt t (a.eval p)).run P w=.ok y w:=by
 obtain ⟨u,hu,hok⟩:=h.rows r rc hr
 obtain ⟨g,o,m',c,hs,h0,hi,he⟩:=(h.eval hp).2 u hu
 obtain ⟨L0,hl0,hlk,hrd⟩:=hok.get h.stay_lt
 obtain ⟨rfl,hc⟩:=BN hrd hs
 have hlt:i.toNat<rc.L.length:=by omega
 have hL:rc.L[i.toNat]?=some (rc.L.getD i.toNat []):=by simp [List.getD,hlt]
 obtain ⟨l0,hL0,hle⟩:=hlk.get hL
 have hy0:(aH rc.ks l0)[j]?=some y:=by
  have:=congrArg (·[0]?) (hle.part hpl)
  simp only [List.getElem?_take_of_lt (Nat.zero_lt_one),List.getElem?_drop,Nat.add_zero] at this
  rw [this]
  exact hy
 have:=hc i.toNat j _ y hL0 hy0
 rw [hk] at this
 rw [he]
 simpa [Instr.loadAt,Instr.sureAddr] using vG (P:=P) g (o+(i.toNat*m+j)) _ h1 this
theorem qdR (h:Rel w0 st V a w) {t e:TypeId} {x ix:Operand} {r n:Nat} {k:IntKind} {i:Int} {rc:RowC} (hx:st.eval x=some (.row r)) (hix:st.eval ix=some (.v (.int k i))) (ht:P.underlying t=some (.slice e)) (he:a8 P e=some n)
  (hr:rowAt st.mem.rows r=some rc) (h0:0<=i) (h1:i<(rc.L.length:Int)):∃ y,(Instr.indexAt t (a.eval x) (a.eval ix)).run P w=.ok y w/\aI V (.rp r n i 0) y:=by
 obtain ⟨u,hu,hok⟩:=h.rows r rc hr
 have hxe:a.eval x=u:=(h.eval hx).2.1 u hu
 have hie:a.eval ix=.int k i:=h.eval hix
 rcases hok.shape h.stay_lt with ⟨_,hL⟩|⟨b,o,cap,hs,_⟩
 ·rw [hL] at h1;simp at h1;omega
 ·refine ⟨.pointer (some ⟨b,o+i.toNat*n,none⟩),?_,by rw [hu];simp,fun u' hu'=>?_⟩
  ·rw [hxe,hie,hs]
   unfold Instr.indexAt
   rw [aD _ _ w w (k,i) rfl]
   simp only
   rw [aD _ _ w w _ (run_underlying ht w)]
   simp only
   rw [aD _ _ w w (some ⟨b,o,none⟩,rc.L.length,e) rfl]
   simp only
   rw [aD _ _ w w _ (run_underlying ht w)]
   rw [if_pos ⟨h0,h1⟩]
   rw [aD _ _ w w n (dS he)]
   simp [eP,pure]
  ·have:u'=u:=by rw [hu] at hu';injection hu' with hu';injection hu' with hu';exact hu'.symm
   subst this
   exact ⟨b,o,_,cap,hs,h0,h1,rfl⟩
theorem qdC (h:Rel w0 st V a w) {t ty e:TypeId} {x:Operand} {r:Nat} {rc:RowC} (hx:st.eval x=some (.row r)) (ht:P.underlying t=some (.slice e)) (hr:rowAt st.mem.rows r=some rc) :
  (Builtin.len_ #[t] ty #[a.eval x]).run P w=.ok (.int .i64 (rc.L.length:Int)) w:=by
 obtain ⟨u,hu,hok⟩:=h.rows r rc hr
 have hxe:a.eval x=u:=(h.eval hx).2.1 u hu
 rw [hxe]
 rcases hok.shape h.stay_lt with ⟨⟨a0,hs⟩,hL⟩|⟨b,o,cap,hs,_⟩
 ·rw [hs,hL]
  simp [Builtin.len_,run_underlying ht,goInt]
 ·rw [hs]
  simp [Builtin.len_,run_underlying ht,goInt]
theorem NM {k:IntKind}:∀ (cs:List SA) (L:List Int),tf k cs=some L->cs=L.map fun n=>SA.v (.int k n)
 | [],L,h=>by simp [tf] at h;subst h;rfl
 | x::r,L,h=>by
  unfold tf at h
  split at h
  ·cases ‹x::r=[]›
  ·rename_i k' n r' heq
   injection heq with e1 e2
   subst e1 e2
   split at h
   ·rename_i l hl
    split at h
    ·rename_i hk
     injection h with h
     subst h hk
     simp [NM r l hl]
    ·cases h
   ·cases h
  ·cases h
theorem qdM {cs:List SA} {k:IntKind} {L:List Int} (h:xm cs=some (k,L)):cs=L.map fun n=>SA.v (.int k n):=by
 unfold xm at h
 split at h
 ·split at h
  ·rename_i l hl
   injection h with h
   injection h with e1 e2
   subst e1 e2
   simp [NM _ _ hl]
  ·cases h
 ·cases h
theorem qhZ (h:Rel w0 st V a w) {t:TypeId} {p:Operand} {l off n:Nat} {i:Int} {k:IntKind} {L:List Int} {cs:List SA} (hp:st.eval p=some (.el l off n i)) (h1:dd P t=some false) (hc:st.mem.blk[l]?=some cs) (hi:xm ((cs.drop off).take n)=some (k,L)) (hL:L.length=n) :
  (Instr.loadAt t (a.eval p)).run P w=.ok (.int k (L.getD i.toNat 0)) w:=by
 obtain ⟨b,o,hb,h0,hn,he⟩:=h.eval hp
 have hlt:i.toNat<L.length:=by omega
 have heq:=qdM hi
 have hj:((cs.drop off).take n)[i.toNat]?=some (.v (.int k (L.getD i.toNat 0))):=by
  rw [heq];simp [List.getD,hlt]
 obtain ⟨hj2,_⟩:=getElem?_part hj
 obtain ⟨y',c1,c2,_⟩:=h.mem l b o hb cs hc (off+i.toNat) _ hj2
 have c2':y'=.int k (L.getD i.toNat 0):=c2
 subst c2'
 rw [he]
 simpa [Instr.loadAt,Instr.sureAddr] using vG (P:=P) b (o+(off+i.toNat)) _ h1 c1
theorem qje {t e:TypeId} {y z:Value} {b o n s:Nat} {k:IntKind} {i:Int} (hy:y=.pointer (some ⟨b,o,none⟩)) (hz:z=.int k i) (ht:P.underlying t=some (.array n e)) (he:a8 P e=some s) (h0:0<=i) (h1:i<(n:Int)) :
  (Instr.indexAt t y z).run P w=.ok (.pointer (some ⟨b,o+i.toNat*s,none⟩)) w:=by
 subst hy hz
 unfold Instr.indexAt
 rw [aD _ _ w w (k,i) rfl]
 simp only
 rw [aD _ _ w w _ (run_underlying ht w)]
 simp only
 rw [aD _ _ w w ⟨b,o,none⟩ rfl]
 rw [aD _ _ w w (some ⟨b,o,none⟩,n,e) rfl]
 simp only
 rw [aD _ _ w w _ (run_underlying ht w)]
 rw [if_pos ⟨h0,h1⟩]
 rw [aD _ _ w w s (dS he)]
 simp [eP,pure]
structure Stored (w:World) (b o:Nat) (ys:List Value) (w':World):Prop where
 os:w'.os=w.os
 tape:w'.tape=w.tape
 output:w'.output=w.output
 size:w'.heap.size=w.heap.size
 block:∀ k,k≠b->w'.heap[k]?=w.heap[k]?
 far:∀ p:Addr,p.block=b->(p.off<o\/o+ys.length<=p.off)->w'.cell? p=w.cell? p
 near:∀ (j:Nat) y,ys[j]?=some y->w'.cell? ⟨b,o+j,none⟩=some y
 frozen:∀ p,w'.frozen? p=w.frozen? p
theorem Ls (b o:Nat):∀ (ys:List Value) (i:Nat) (w:World),(∀ y∈ys,(∀ c,y≠.agg c)/\(∀ c,y≠.tuple c)) ->
  (∀ (j:Nat),j<ys.length->(∃ u,w.cell? ⟨b,o+(i+j),none⟩=some u)/\w.frozen? ⟨b,o+(i+j),none⟩=false) ->
  ∃ w',(storeCells ⟨b,o,none⟩ ys i).run P w=.ok () w'/\Stored w b (o+i) ys w'
 | [],i,w,_,_=>⟨w,by simp [storeCells],rfl,rfl,rfl,rfl,fun _ _=>rfl,fun _ _ _=>rfl,fun j y hj=>by simp at hj,fun _=>rfl⟩
 | y::r,i,w,hy,hc=>by
  obtain ⟨⟨u,hu⟩,hf⟩:=hc 0 (by simp)
  simp only [Nat.add_zero] at hu hf
  have hst:(store (Addr.add ⟨b,o,none⟩ i) y).run P w=.ok () (w.setCell ⟨b,o+i,none⟩ y):=by
   rw [eP]
   have h1:=(hy y (by simp)).1
   have h2:=(hy y (by simp)).2
   cases y<;>simp [store,Sem.run,hu,hf]
   ·exact absurd rfl (h1 _)
   ·exact absurd rfl (h2 _)
  obtain ⟨w',hr,hs⟩:=Ls b o r (i+1) (w.setCell ⟨b,o+i,none⟩ y) (fun z hz=>hy z (by simp [hz])) (fun j hj=>by
   obtain ⟨⟨u',hu'⟩,hf'⟩:=hc (j+1) (by simpa using hj)
   rw [show i+(j+1)=i+1+j by omega] at hu' hf'
   refine ⟨⟨u',?_⟩,by simpa using hf'⟩
   rw [World.cell?_setCell_other]
   ·exact hu'
   ·intro e;injection e;omega)
  refine ⟨w',?_,?_⟩
  ·unfold storeCells
   rw [aD _ _ _ _ _ hst]
   exact hr
  ·refine ⟨hs.os,hs.tape,hs.output,by rw [hs.size];simp,fun k hk=>?_,fun p hp ho=>?_,fun j z hj=>?_,fun p=>by rw [hs.frozen];simp⟩
   ·rw [hs.block k hk,Below.heap_setCell _ _ _ _ hk]
   ·rw [hs.far p hp (by simp at ho;omega),World.cell?_setCell_other]
    intro e
    have:p.off=o+i:=by rw [<- e]
    simp at ho
    omega
   ·cases j with
    | zero =>
     simp at hj
     subst hj
     rw [hs.far _ rfl (by simp)]
     exact World.cell?_setCell_same _ _ _ hu
    | succ j =>
     have:=hs.near j z (by simpa using hj)
     rwa [show o+i+(j+1)=o+(i+1)+j by omega]
end
end Go.Sx
namespace Go.Sx
open Go.RowKit
section
variable {P:Program} {al:Al} {w0:Base} {st:St} {V:Vl} {a:Act} {w:World} {Γ:Orc} {Q:Exit->Act->World->Prop}
theorem Kg {o:Oper} {x:SV} {y:Value} (hrun:(execOp a.eval o).run P w=.ok (.value y) w) (h:Rel w0 st V a w) (hp:bH P al st V) (hd:aI V x y) :
  o.wp P a w (fun a' w'=>a9 P al w0 (st.put o.dst x) a' w') Q:=by
 unfold Oper.wp
 rw [hrun,Oper.upon_value]
 exact ⟨V,h.put o.dst hd,hp.put o.dst x⟩
theorem Tn {o:Oper} {x:SV} (hV:dJ P o st.eval=some x) (h:Rel w0 st V a w) (hp:bH P al st V) :
  o.wp P a w (fun a' w'=>a9 P al w0 (st.put o.dst x) a' w') Q:=by
 obtain ⟨y,rfl,hr|⟨hr,rfl⟩⟩:=qaV h hV
 ·exact Kg hr h hp rfl
 ·unfold Oper.wp
  rw [hr,Oper.upon_skip]
  exact ⟨V,h.put o.dst rfl,hp.put o.dst _⟩
theorem cd {s:Sem Value} {y:Value} {w':World} (h:s.run P w=.ok y w'):(do pure (Next.value (<- s)):Sem Next).run P w=.ok (.value y) w':=by
 rw [aD _ _ _ _ _ h];rfl
theorem Rel.notKept (h:Rel w0 st V a w) {l b o:Nat} (hb:V.b l=some (b,o)):¬ w0.Kept b:=by
 rcases (h.own l b o hb).1 with h1|h1
 ·exact fun hk=>absurd hk.1 (by omega)
 ·have h2:=h.lent l (w0.L[l]) (by simp [h1])
  rw [hb] at h2
  injection h2 with h2
  exact fun hk=>hk.2.1 o (by rw [h2];exact List.getElem_mem h1)
theorem Rel.newBlock (h:Rel w0 st V a w) {l:Nat} (hl:st.mem.live[l]?=some false) {cs:List SA} {vs:List Value} (hc:st.mem.blk[l]?=some cs) (hvs:aG (bq V) cs vs) (t:TypeId) :
  Rel w0 { st with mem:={ st.mem with live:=st.mem.live.set l true } } ⟨fun i=>if i=l then some (w.heap.size,0) else V.b i,V.r,V.q⟩ a (w.alloc (.cells vs.toArray t))/\V.b l=none:=by
 have hn:V.b l=none:=by
  cases hb:V.b l with
  | none=>rfl
  | some q=>have:=h.dom l (by simp [hb]);rw [hl] at this;simp at this
 have hle:V.Le ⟨fun i=>if i=l then some (w.heap.size,0) else V.b i,V.r,V.q⟩:=⟨fun k q hq=>by
  have:k≠l:=by rintro rfl;rw [hn] at hq;cases hq
  simp [this,hq],fun _ h=>⟨h,fun _ hu=>hu⟩,fun _ _ h=>h⟩
 have hbel:Below w.heap.size w (w.alloc (.cells vs.toArray t)):=(Below.refl _ _).alloc (Nat.le_refl _) _
 refine ⟨{ len := h.len, tmps := fun t x hx y hy => (h.tmps t x hx y hy).mono hle, defers := h.defers, mem := fun i b o hi cs' hcs' j x hx => ?_, inj := fun i i' b o b' o' hi hi' hne => ?_, own := fun i b o hi => ?_, lent := fun i q hq => ?_, base0 := fun i b o hi hl' => ?_, dom := fun i hi => ?_
           lentr:=h.lentr,lens:=by simp [h.lens],rows:=fun r rc hr=>?_,rowsN:=h.rowsN,apart:=h.apart,apartb:=fun r rc u g i b o hr ho hu hg hi=>?_,below:=?_,froz:=fun p hp=>?_
           lits:=fun g cs1 hq=>by
             obtain ⟨⟨e,fz,f1⟩,f2,f3⟩:=h.lits g cs1 hq
             have hlt:=h.lits.lt hq
             refine ⟨⟨e,fz,by rw [hbel.block g hlt];exact f1⟩,fun i b o hi=>?_,f3⟩
             by_cases hil:i=l
             · simp only [hil,if_true] at hi
               injection hi with hi
               injection hi with h1 _
               omega
             · simp only [if_neg hil] at hi
               exact f2 i b o hi
           sk:=h.sk
           qs:=h.qs },hn⟩
 ·by_cases hil:i=l
  ·subst hil
   simp only [if_true] at hi
   injection hi with hi
   injection hi with h1 h2
   subst h1 h2
   simp only [hc] at hcs'
   injection hcs' with hcs'
   subst hcs'
   obtain ⟨y,e1,e2⟩:=hvs.get j x hx
   exact ⟨y,by simp [e1],e2.mono hle,by simp⟩
  ·simp only [if_neg hil] at hi
   obtain ⟨y,h1,h2,h3⟩:=h.mem i b o hi cs' hcs' j x hx
   have hbb:=(h.own i b o hi).2
   exact ⟨y,by rw [World.cell?_alloc_lt _ _ _ hbb];exact h1,h2.mono hle,by rw [World.frozen?_alloc_old _ _ _ (by simp;omega)];exact h3⟩
 ·by_cases hil:i=l
  ·have hil':i'≠l:=fun e=>hne (hil.trans e.symm)
   simp only [hil,if_true] at hi
   simp only [if_neg hil'] at hi'
   injection hi with hi
   injection hi with h1 h2
   have:=(h.own i' b' o' hi').2
   omega
  ·simp only [if_neg hil] at hi
   by_cases hil':i'=l
   ·simp only [hil',if_true] at hi'
    injection hi' with hi'
    injection hi' with h1 h2
    have:=(h.own i b o hi).2
    omega
   ·simp only [if_neg hil'] at hi'
    exact h.inj i i' b o b' o' hi hi' hne
 ·by_cases hil:i=l
  ·simp only [hil,if_true] at hi
   injection hi with hi
   injection hi with h1 h2
   have:=h.below.size
   simp
   omega
  ·simp only [if_neg hil] at hi
   have:=h.own i b o hi
   refine ⟨this.1,?_⟩
   simp
   omega
 ·have h1:=h.lent i q hq
  have:i≠l:=by rintro rfl;rw [hn] at h1;cases h1
  simp only [if_neg this]
  exact h1
 ·by_cases hil:i=l
  ·simp only [hil,if_true] at hi
   injection hi with hi
   injection hi with _ hi
   exact hi.symm
  ·simp only [if_neg hil] at hi
   exact h.base0 i b o hi hl'
 ·by_cases hil:i=l
  ·subst hil
   rw [List.getElem?_set_self' ]
   simp [hl]
  ·simp only [if_neg hil] at hi
   rw [List.getElem?_set_ne (Ne.symm hil)]
   exact h.dom i hi
 ·obtain ⟨u,h1,h2⟩:=h.rows r rc hr
  exact ⟨u,h1,cE.mono (V:=V) (fun _ _ e=>e) (h2.below h.stay_lt hbel)⟩
 ·by_cases hil:i=l
  ·simp only [hil,if_true] at hi
   injection hi with hi
   injection hi with h1 h2
   obtain ⟨u',h3,h4⟩:=h.rows r rc hr
   have:u'=u:=by rw [h3] at hu;injection hu with hu;injection hu
   subst this
   have:=(h4.lt ho hg).2
   omega
  ·simp only [if_neg hil] at hi
   exact h.apartb r rc u g i b o hr ho hu hg hi
 ·exact h.below.then hbel
 ·rw [frozen?_alloc_cells,h.froz p hp]
theorem Lj {y:Value} (h:slicy y):y.cells=#[y]/\(∀ c,y≠.agg c)/\∀ c,y≠.tuple c:=by
 cases y<;>first|exact h.elim|exact ⟨rfl,by simp,by simp⟩
theorem T2 {x:SV} {y:Value} {z:SA} (hd:aI V x y) (hx:lO x=some z):bq V z y/\y.cells=#[y]:=by
 cases x with
 | v q =>
  have:y=q:=hd
  subst this
  cases y<;>simp [lO] at hx<;>subst hx<;>exact ⟨rfl,rfl⟩
 | ptr l off =>
  simp [lO] at hx
  subst hx
  obtain ⟨b,o,hb,rfl⟩:=hd
  exact ⟨⟨b,o,hb,rfl⟩,rfl⟩
 | row r =>
  simp [lO] at hx
  subst hx
  exact ⟨hd,(Lj hd.2.2).1⟩
 | clo f l off =>
  simp [lO] at hx
  subst hx
  obtain ⟨b,o,hb,rfl⟩:=hd
  exact ⟨⟨b,o,hb,rfl⟩,by rw [Hl.2.2]⟩
 | _=>simp [lO] at hx
theorem nf {x:SV} {y:Value} {xs:List SA} (hd:aI V x y) (hx:lN x=some xs):aG (bq V) xs y.cells.toList:=by
 have one:(match lO x with|some z=>some [z]|none=>none)=some xs->aG (bq V) xs y.cells.toList:=by
  intro h
  split at h
  ·rename_i z hz
   injection h with h
   subst h
   obtain ⟨h1,h2⟩:=T2 hd hz
   rw [h2]
   exact ⟨h1,trivial⟩
  ·cases h
 unfold lN at hx
 split at hx
 ·rename_i cs
  injection hx with hx
  subst hx
  have:y=.agg cs:=hd
  subst this
  exact qA _
 ·rename_i cs
  injection hx with hx
  subst hx
  obtain ⟨vs,rfl,h2⟩:=hd
  simpa [Value.cells] using h2
 ·exact one hx
theorem qbp {z:SA} {u:Value} (hd:bq V z u) (h:wB z=true):(∀ c,u≠.agg c)/\(∀ c,u≠.tuple c):=by
 cases z with
 | v q =>
  have:u=q:=hd
  subst this
  cases u<;>simp [wB,MD] at h<;>simp
 | ptr l off=>obtain ⟨b,o,hb,he⟩:=hd;subst he;simp
 | row r=>exact (Lj hd.2.2).2
 | clo f l off=>obtain ⟨b,o,hb,he⟩:=hd;subst he;exact ⟨Hl.1,Hl.2.1⟩
theorem xi (w:World) (c:Array Value) (t:TypeId):Kp w (w.alloc (.cells c t)) :=
 ⟨(Below.refl _ _).alloc (Nat.le_refl _) _,fun p _=>frozen?_alloc_cells w c t p⟩
theorem Uq (h:Rel w0 st V a w) {t:TypeId} {p v:Operand} {l off n:Nat} {xs cs:List SA} (hp:st.eval p=some (.ptr l off)) (h2:a8 P t=some n)
  (hv:(st.eval v).bind lN=some xs) (hc:st.mem.blk[l]?=some cs) (hlen:xs.length=n) (hn:off+n<=cs.length) (hone:xs.all wB=true) :
  ∃ w',(Instr.storeAt t (a.eval p) (a.eval v)).run P w=.ok () w' /\
   Rel w0 { st with mem:={ st.mem with blk:=st.mem.blk.set l (cs.take off++xs++cs.drop (off+n)) } } V a w':=by
 obtain ⟨b,o,hb,he⟩:=h.eval hp
 cases hs:st.eval v with
 | none=>simp [hs] at hv
 | some s =>
  simp [hs] at hv
  have hd:=h.eval hs
  have hdl:=nf hd hv
  generalize a.eval v=y at *
  have hcl:xs.length=y.cells.size:=by simpa using hdl.length
  have hcd:∀ (j:Nat) z,xs[j]?=some z->∃ u,y.cells[j]?=some u/\bq V z u:=fun j z hz=>by
   obtain ⟨u,h1,h2⟩:=hdl.get j z hz
   exact ⟨u,by simpa using h1,h2⟩
  have hcell:∀ (j:Nat) u,y.cells.toList[j]?=some u->∃ z,xs[j]?=some z/\bq V z u:=by
   intro j u hu
   have hj:j<xs.length:=by
    rw [hcl]
    rcases Nat.lt_or_ge j y.cells.size with h'|h'
    ·exact h'
    ·simp [Array.getElem?_eq_none h'] at hu
   obtain ⟨u',hu',hd'⟩:=hcd j xs[j] (by simp [hj])
   have:u'=u:=by simpa [hu'] using hu
   subst this
   exact ⟨xs[j],by simp [hj],hd'⟩
  obtain ⟨w',hr,hst⟩:=Ls (P:=P) b (o+off) y.cells.toList 0 w (fun u hu=>by
   obtain ⟨j,hj,hju⟩:=List.mem_iff_getElem.1 hu
   obtain ⟨z,hz,hzd⟩:=hcell j u (by simp [<- hju])
   exact qbp hzd (List.all_eq_true.1 hone z (List.mem_of_getElem? hz))) (fun j hj=>by
   have hj':off+j<cs.length:=by simp at hj;omega
   obtain ⟨u,c1,_,c3⟩:=h.mem l b o hb cs hc (off+j) cs[off+j] (by simp [hj'])
   simp only [Nat.zero_add]
   rw [Nat.add_assoc]
   exact ⟨⟨u,c1⟩,c3⟩)
  refine ⟨w',?_,?_⟩
  ·rw [he]
   simp only [Instr.storeAt,Instr.sureAddr]
   rw [aD _ _ w w ⟨b,o+off,none⟩ rfl]
   unfold storeVar
   rw [aD _ _ w w n (dS h2)]
   rw [if_neg (by omega)]
   simpa [pure,Sem.run] using hr
  ·simp only [Nat.add_zero] at hst
   have hbw:=h.own l b o hb
   have hrow:∀ r rc u,rowAt st.mem.rows r=some rc->V.r r=some (some u)->cE w0 V w rc u->cE w0 V w' rc u:=by
    intro r rc u hr hu hok
    have hsty:∀ b,w0.Stay V b->w'.heap[b]?=w.heap[b]?:=h.stays (fun b1 hk=>hst.block b1 (fun e=>h.notKept hb (e▸hk))) fun g cs1 hq=>hst.block g (fun e=>((h.lits g cs1 hq).2.1 l b o hb) e.symm)
    exact cE.trans (fun b hb=>⟨hb,hsty b hb⟩) (fun ho L0 f1 f2=>⟨bE.kept f1 (row:=some b) ⟨hst.os,hst.tape,hst.output,by rw [hst.size];exact Nat.le_refl _,fun k _ hk=>hst.block k (fun e=>hk (by rw [e]))⟩
      (by
       cases hg:u.ownBlock with
       | none=>exact .inl rfl
       | some g=>exact .inr (fun e=>by injection e with e;exact h.apartb r rc u g l b o hr ho hu hg hb e.symm)),f2⟩) hok
   refine { h with mem:=fun i b' o' hi cs' hcs' j x hx=>?_,own:=fun i b' o' hi=>?_,rows:=fun r rc hr=>?_,lens:=by simp [h.lens],below:=?_,froz:=fun p hp=>(hst.frozen p).trans (h.froz p hp),lits:=h.lits.world fun g cs1 hq=>hst.block g (fun e=>((h.lits g cs1 hq).2.1 l b o hb) e.symm) }
   ·by_cases hil:i=l
    ·subst hil
     rw [hb] at hi
     injection hi with hi
     injection hi with e1 e2
     subst e1 e2
     simp only at hcs'
     rw [List.getElem?_set_self'] at hcs'
     simp [hc] at hcs'
     subst hcs'
     by_cases hj1:j<off
     ·have hx':cs[j]?=some x:=by
       rw [List.getElem?_append_left (by simp;omega),List.getElem?_take,if_pos hj1] at hx
       exact hx
      obtain ⟨u,c1,c2,c3⟩:=h.mem i b o hb cs hc j x hx'
      exact ⟨u,by rw [hst.far _ rfl (by simp;omega)];exact c1,c2,by rw [hst.frozen];exact c3⟩
     ·by_cases hj2:j<off+n
      ·have hx':xs[j - off]?=some x:=by
        rw [List.getElem?_append_right (by simp;omega),List.getElem?_append_left (by simp;omega)] at hx
        rw [List.length_take,Nat.min_eq_left (by omega)] at hx
        exact hx
       obtain ⟨u,hu,hud⟩:=hcd _ _ hx'
       have hnear:=hst.near (j - off) u (by simpa using hu)
       rw [show o+off+(j - off)=o+j by omega] at hnear
       obtain ⟨u',_,_,c3⟩:=h.mem i b o hb cs hc j (cs[j]'(by omega)) (by simp)
       exact ⟨u,hnear,hud,by rw [hst.frozen];exact c3⟩
      ·have hx':cs[j]?=some x:=by
        rw [List.getElem?_append_right (by simp;omega),List.getElem?_append_right (by simp;omega),List.getElem?_drop] at hx
        rw [List.length_take,Nat.min_eq_left (by omega)] at hx
        rwa [show off+n+(j - off - xs.length)=j by omega] at hx
       obtain ⟨u,c1,c2,c3⟩:=h.mem i b o hb cs hc j x hx'
       have hy:y.cells.toList.length=n:=by simp;omega
       exact ⟨u,by rw [hst.far _ rfl (by rw [hy];simp only;omega)];exact c1,c2,by rw [hst.frozen];exact c3⟩
    ·simp only at hcs'
     rw [List.getElem?_set_ne (Ne.symm hil)] at hcs'
     obtain ⟨u,c1,c2,c3⟩:=h.mem i b' o' hi cs' hcs' j x hx
     have hne:=h.inj i l b' o' b o hi hb hil
     exact ⟨u,by rw [World.cell?_of_block (w:=w) (hst.block b' hne)];exact c1,c2,by rw [hst.frozen];exact c3⟩
   ·rw [hst.size];exact h.own i b' o' hi
   ·obtain ⟨u,h1,h2⟩:=h.rows r rc hr
    exact ⟨u,h1,hrow r rc u hr h1 h2⟩
   ·exact ⟨hst.os.trans h.below.os,hst.tape.trans h.below.tape,hst.output.trans h.below.output,by rw [hst.size];exact h.below.size,fun k hk=>(hst.block k (fun e=>h.notKept hb (e▸hk))).trans (h.below.block k hk)⟩
end
end Go.Sx
namespace Go.Sx
open Go.RowKit
section
variable {P:Program} {al:Al} {w0:Base} {st:St} {V:Vl} {a:Act} {w:World} {Γ:Orc} {Q:Exit->Act->World->Prop}
theorem PI {o:Oper} {c:Operand} {f:FuncId} {args:Array Operand} {at_:Array TypeId} (ho:o.op=.call { callee:=.value c,args,argTypes:=at_ }) (hcf:a.eval c=.func (.func f) #[] #[]) {r:Next} {w':World}
  (hr:(callFunc f (args.toList.map a.eval).toArray).run P w=.ok r w'):(execOp a.eval o).run P w=.ok r w':=by
 have hm:args.map a.eval=(args.toList.map a.eval).toArray:=by
  apply Array.ext'
  simp
 unfold execOp
 rw [ho]
 simp only [resolve,hm,hcf,Deferred.ofValue]
 rw [aD _ _ w w ⟨.fn (.func f) #[],#[]++(args.toList.map a.eval).toArray⟩ rfl]
 simp only [invoke,Array.append_empty,Array.empty_append]
 exact hr
theorem Nr {xs:List SV} {q:Lend} (h:d7 [] [] xs=some q) (blk:List (List SA)) (rows:List RowS):d7 blk rows xs=some q:=by
 unfold d7 at h
 split at h
 case h_2=>cases h
 rename_i ls rs hre
 split at h
 case h_2=>cases h
 rename_i as b r has hb hr
 injection h with h
 subst h
 have e1:xs.foldl uz ([],[])=(ls,rs)/\ls=[]:=by
  simp only [List.length_nil,iZ] at hre
  split at hre
  ·rename_i hn
   injection hre with hre
   refine ⟨hre,?_⟩
   rw [hre] at hn
   simpa using hn
  ·simp at hre
 obtain ⟨e1,rfl⟩:=e1
 have e2:rs=[]:=by
  cases rs with
  | nil=>rfl
  | cons k rs=>simp [cH,vl] at hr
 subst e2
 simp [cH] at hb hr
 subst hb hr
 unfold d7
 rw [e1]
 simp only [iZ,List.getElem?_nil,cH,has]
theorem qdB {at_:Array TypeId} {blk:List (List SA)} {rows:List RowS} {xs:List SV} {q:Lend} (h:d7 (lr P at_ blk) (vX P at_ rows) xs=some q):d7 blk rows xs=some q:=by
 unfold lr vX at h
 cases hb:at_.toList.any (ta P)
 ·rw [hb] at h;exact Nr h blk rows
 ·rw [hb] at h;exact h
theorem qjc {ls rs:List Nat} {N M:Nat} {x x':SA} (h:dU ls rs x=some x'):fK ls rs N M x'=x:=by
 cases x with
 | v _=>simp [dU] at h;subst h;rfl
 | ptr l o =>
  simp only [dU] at h
  split at h
  ·rename_i i hi
   injection h with h
   subst h
   obtain ⟨d,rfl,h1⟩:=jg _ _ _ _ hi
   simp [fK,dH,h1]
  ·cases h
 | row l =>
  simp only [dU] at h
  split at h
  ·rename_i i hi
   injection h with h
   subst h
   obtain ⟨d,rfl,h1⟩:=jg _ _ _ _ hi
   simp [fK,dH,h1]
  ·cases h
 | clo f l o =>
  simp only [dU] at h
  split at h
  ·rename_i i hi
   injection h with h
   subst h
   obtain ⟨d,rfl,h1⟩:=jg _ _ _ _ hi
   simp [fK,dH,h1]
  ·cases h
theorem M1 {ls rs:List Nat} {N M:Nat}:∀ {cs cs':List SA},cH (dU ls rs) cs=some cs'->cs'.map (fK ls rs N M)=cs
 | [],_,h=>by simp [cH] at h;subst h;rfl
 | x::cs,cs',h=>by
  unfold cH at h
  split at h
  ·rename_i y l hy hl
   injection h with h
   subst h
   simp [qjc hy,M1 hl]
  ·cases h
theorem Bm {α:Type}:∀ (is:List Nat) (xs:List α) (l:List α),(∀ (j:Nat) k x,is[j]?=some k->xs[j]?=some x->l[k]?=some x)->d6 l is xs=l
 | [],_,_,_=>by simp [d6]
 | _::_,[],_,_=>by simp [d6]
 | i::is,x::xs,l,h=>by
  have h0:=h 0 i x (by simp) (by simp)
  have hi:i<l.length:=(List.getElem?_eq_some_iff.1 h0).1
  simp only [d6]
  have:l.set i x=l:=by
   have h1:l[i]=x:=by
    have:=h0
    rw [List.getElem?_eq_getElem hi] at this
    injection this
   rw [<- h1]
   simp
  rw [this]
  exact Bm is xs l fun j k y h1 h2=>h (j+1) k y (by simpa using h1) (by simpa using h2)
theorem MY {q:Lend} {z:Base} (hh:Hand w0 st V w q z):merge st.mem q.ls q.rs q.m=st.mem:=by
 have e1:d6 st.mem.blk q.ls (q.m.blk.map (fun cs=>cs.map (fK q.ls q.rs st.mem.blk.length st.mem.rows.length)))=st.mem.blk:=by
  refine Bm _ _ _ fun j k x h1 h2=>?_
  obtain ⟨cs,cs',f1,f2,f3⟩:=hh.blk j k h1
  simp only [List.getElem?_map,f2,Option.map_some] at h2
  injection h2 with h2
  subst h2
  rw [M1 f3]
  exact f1
 have e2:d6 st.mem.rows q.rs q.m.rows=st.mem.rows:=by
  refine Bm _ _ _ fun j k x h1 h2=>?_
  obtain ⟨rc,u,f1,f2,f3,f4⟩:=hh.ru j k h1
  rw [f2] at h2
  injection h2 with h2
  subst h2
  unfold rowAt at f1
  split at f1
  ·rename_i rc' e;injection f1 with f1;subst f1;exact e
  ·cases f1
 have e3:q.m.blk.drop q.ls.length=[]:=by rw [<- hh.bl];simp
 have e4:q.m.live.drop q.ls.length=[]:=by rw [hh.lv,<- hh.bl];simp
 have e5:q.m.rows.drop q.rs.length=[]:=by rw [<- hh.rl];simp
 unfold merge
 rw [e1,e2,e3,e4,e5]
 simp
theorem Hand.fit {q:Lend} {z:Base} (_hh:Hand w0 st V w q z):vY q.m.rows q.m.rows=true:=Nat.ble_self_eq_true _
theorem PH {o:Oper} {c:Operand} {f:FuncId} {args:Array Operand} {at_:Array TypeId} {xs:List SV} {q:Lend} {r:SV} {m:Mem} (hop:o.op=.call { callee:=.value c,args,argTypes:=at_ }) (hcf:a.eval c=.func (.func f) #[] #[])
  (hx:d9 st.eval args.toList=some xs) (hl:d7 st.mem.blk st.mem.rows xs=some q) (hc:bB P f q.as q.m r m) (hn:q.ls.length<=m.blk.length) (hf:vY q.m.rows m.rows=true) (hR:Rel w0 st V a w)
  {K:Act->World->Prop} (hK:∀ V2 y w',V.Le V2->Rel w0 { st with mem:=merge st.mem q.ls q.rs m } V2 a w'->aI V2 (HK q.ls q.rs st.mem.blk.length st.mem.rows.length r) y->K (a.put o.dst y) w') :
  o.wp P a w K Q:=by
 obtain ⟨z,hh,hden⟩:=tl hR hl (qv hR _ _ hx)
 have main:∀ y w',oP z r m y w'->K (a.put o.dst y) w':=by
  rintro y w' ⟨V',h1,h2⟩
  obtain ⟨V2,g1,g2,g3⟩:=MZ hR hh h2 hn hf
  exact hK V2 y w' g1 g2 (g3 r y h1)
 have:=hc z _ _ hh.lent (hh.memOk hR) hden
 rw [hh.w] at this
 unfold Oper.wp
 rcases this with ⟨y,w',h1,h2⟩|⟨h1,h2⟩
 ·rw [PI hop hcf h1,Oper.upon_value]
  exact main y w' h2
 ·rw [PI hop hcf h1,Oper.upon_enter]
  refine h2.mono ?_
  rintro e w' ⟨y,rfl,hy⟩
  exact main y w' hy
theorem Pi {V:Vl}:∀ {xs:List SV} {vs:List Value} {x:SV} {v:Value},aG (aI V) xs vs->aI V x v->aG (aI V) (xs++[x]) (vs++[v])
 | [],[],_,_,_,h=>⟨h,trivial⟩
 | _::_,_::_,_,_,h,h'=>⟨h.1,Pi h.2 h'⟩
 | [],_::_,_,_,h,_=>h.elim
 | _::_,[],_,_,h,_=>h.elim
theorem PG {o:Oper} {c:Operand} {f:FuncId} {p:Value} {args:Array Operand} {at_:Array TypeId} (ho:o.op=.call { callee:=.value c,args,argTypes:=at_ }) (hcf:a.eval c=.func (.func f) #[] #[p]) {r:Next} {w':World}
  (hr:(callFunc f (args.toList.map a.eval++[p]).toArray).run P w=.ok r w'):(execOp a.eval o).run P w=.ok r w':=by
 have hm:args.map a.eval=(args.toList.map a.eval).toArray:=by
  apply Array.ext'
  simp
 have hm':(args.toList.map a.eval).toArray++#[p]=(args.toList.map a.eval++[p]).toArray:=by
  apply Array.ext'
  simp
 unfold execOp
 rw [ho]
 simp only [resolve,hm,hcf,Deferred.ofValue]
 rw [aD _ _ w w ⟨.fn (.func f) #[p],#[]++(args.toList.map a.eval).toArray⟩ rfl]
 simp only [invoke,Array.empty_append,hm']
 exact hr
theorem qiC {o:Oper} {c:Operand} {f:FuncId} {args:Array Operand} {at_:Array TypeId} {xs:List SV} {q:Lend} {r:Value} {l off:Nat} (hop:o.op=.call { callee:=.value c,args,argTypes:=at_ }) (hcf:aI V (.clo (f+jy) l off) (a.eval c))
  (hx:d9 st.eval args.toList=some xs) (hl:d7 st.mem.blk st.mem.rows (xs++[.ptr l off])=some q) (hc:bB P f q.as q.m (.v r) q.m) (hR:Rel w0 st V a w) (hp:bH P al st V) :
  o.wp P a w (fun a' w'=>a9 P al w0 (st.put o.dst (.v r)) a' w') Q:=by
 obtain ⟨b0,o0,hb0,he0⟩:=hcf
 have hcf':a.eval c=.func (.func f) #[] #[.pointer (some ⟨b0,o0+off,none⟩)]:=by
  rw [he0]
  unfold jv
  rw [if_neg (Nat.not_lt.2 (Nat.le_add_left _ _)),Nat.add_sub_cancel]
 obtain ⟨z,hh,hden⟩:=tl hR hl (Pi (qv hR _ _ hx) ⟨b0,o0,hb0,rfl⟩)
 have main:∀ y w',oP z (.v r) q.m y w'->a9 P al w0 (st.put o.dst (.v r)) (a.put o.dst y) w':=by
  rintro y w' ⟨V',h1,h2⟩
  obtain ⟨V2,g1,g2,g3⟩:=MZ hR hh h2 (by rw [hh.bl];exact Nat.le_refl _) hh.fit
  rw [MY hh] at g2
  refine ⟨V2,g2.put o.dst (g3 (.v r) y h1),bH.put (fun d l e hm hn=>?_) _ _⟩
  refine hp d l e hm ?_
  cases hb:V.b l with
  | none=>rfl
  | some p=>rw [g1.b l p hb] at hn;cases hn
 have:=hc z _ _ hh.lent (hh.memOk hR) hden
 rw [hh.w] at this
 unfold Oper.wp
 rcases this with ⟨y,w',h1,h2⟩|⟨h1,h2⟩
 ·rw [PG hop hcf' h1,Oper.upon_value]
  exact main y w' h2
 ·rw [PG hop hcf' h1,Oper.upon_enter]
  refine h2.mono ?_
  rintro e w' ⟨y,rfl,hy⟩
  exact main y w' hy
theorem v9 {o:Oper} {c:Operand} {f:FuncId} {args:Array Operand} {at_:Array TypeId} {xs:List SV} {q:Lend} {r:Value} (hop:o.op=.call { callee:=.value c,args,argTypes:=at_ }) (hcf:a.eval c=.func (.func f) #[] #[])
  (hx:d9 st.eval args.toList=some xs) (hl:d7 st.mem.blk st.mem.rows xs=some q) (hc:bB P f q.as q.m (.v r) q.m) (hR:Rel w0 st V a w) (hp:bH P al st V) :
  o.wp P a w (fun a' w'=>a9 P al w0 (st.put o.dst (.v r)) a' w') Q:=by
 obtain ⟨z,hh,_⟩:=tl hR hl (qv hR _ _ hx)
 refine PH hop hcf hx hl hc (by rw [hh.bl];exact Nat.le_refl _) hh.fit hR fun V2 y w' h1 h2 h3=>?_
 rw [MY hh] at h2
 refine ⟨V2,h2.put o.dst h3,bH.put (fun d l e hm hn=>?_) _ _⟩
 refine hp d l e hm ?_
 cases hb:V.b l with
 | none=>rfl
 | some p=>rw [h1.b l p hb] at hn;cases hn
end
end Go.Sx
namespace Go.Sx
open Go.RowKit
theorem yU:∀ {ks:List CK} {vs:List Value} {l:List Dat},gG ks vs=some l->aH ks l=vs
 | [],[],l,h=>by simp [gG] at h;subst h;rfl
 | k::ks,v::vs,l,h=>by
  unfold gG at h
  split at h
  ·rename_i d l' hd hl
   injection h with h
   subst h
   simp [aH,CK.dat_cell hd,yU hl]
  ·cases h
 | [],_::_,_,h=>by simp [gG] at h
 | _::_,[],_,h=>by simp [gG] at h
structure ElOk (P:Program) (t:TypeId) (T:ElT) (i:TypeInfo):Prop where
 u:P.underlying t=some (.slice T.e)
 inf:P.info? T.e=some i
 z:i.zero=some T.z
 size:i.size=T.ks.length
 pos:0<T.ks.length
 zs:aH T.ks T.zs=T.z.cells.toList
 dats:gG T.ks T.z.cells.toList=some T.zs
 bytes:i.bytes=T.bytes
section
variable {P:Program} {al:Option Al} {w0:Base} {st:St} {V:Vl} {a:Act} {w:World} {Γ:Orc} {Q:Exit->Act->World->Prop}
theorem lj {t:TypeId} {T:ElT} (h:iM P t=some T):∃ i,ElOk P t T i:=by
 unfold iM at h
 split at h
 case h_2=>cases h
 rename_i e hu
 split at h
 case h_2=>cases h
 rename_i i hi
 split at h
 case h_2=>cases h
 rename_i z hz
 split at h
 case h_2=>cases h
 rename_i ks hks
 split at h
 case h_2=>cases h
 rename_i zs hzs
 cases hb:Nat.beq ks.length i.size&&Nat.blt 0 ks.length
 ·rw [hb] at h;cases h
 ·rw [hb] at h
  injection h with h
  subst h
  simp only [Bool.and_eq_true,Nat.blt_eq] at hb
  exact ⟨i,hu,hi,hz,(Nat.eq_of_beq_eq_true hb.1).symm,hb.2,yU hzs,hzs,rfl⟩
theorem ElOk.zsize {t:TypeId} {T:ElT} {i:TypeInfo} (h:ElOk P t T i):T.z.cells.size=T.ks.length:=by
 have:=congrArg List.length h.zs
 rw [cL] at this
 simpa using this.symm
theorem BY (h:Rel w0 st V a w):∀ (l:List (Nat×Operand)) (ps:List (Nat×Value)),jU st.eval l=some ps->l.map (fun p=>(p.1,a.eval p.2))=ps
 | [],ps,hp=>by simp [jU] at hp;subst hp;rfl
 | (i,x)::r,ps,hp=>by
  unfold jU at hp
  cases hx:zp (st.eval x) with
  | none=>simp [hx] at hp
  | some y =>
   cases hr:jU st.eval r with
   | none=>simp [hx,hr] at hp
   | some l =>
    simp [hx,hr] at hp
    subst hp
    have h2:a.eval x=y:=by
     cases hs:st.eval x with
     | none=>simp [hs,zp] at hx
     | some s=>cases s<;>simp [hs,zp] at hx;subst hx;exact h.eval hs
    simp [BY h r l hr,h2]
theorem Hx {o:Oper} {t:TypeId} {n:Nat} {parts:Array (Nat×Operand)} {i:TypeInfo} {T:ElT} {ps:List (Nat×Value)} {cells:Array Value} (hop:o.op=.buildSlice t n parts) (hT:ElOk P t T i)
  (hps:parts.toList.map (fun p=>(p.1,a.eval p.2))=ps) (hn:n*T.ks.length<=65536) (hf:Instr.fill (fun i=>some (i*T.ks.length,T.ks.length)) (madeCells T.z.cells (n*T.ks.length)) ps=some cells) :
  (execOp a.eval o).run P w=.ok (.value (.slice (some ⟨w.heap.size,0,none⟩) n n)) (w.alloc (.cells cells T.e)):=by
 unfold execOp
 rw [hop]
 refine cd ?_
 have hp:(parts.map fun (i,x)=>(i,a.eval x)).toList=ps:=by rw [<- hps];simp
 unfold Instr.buildSlice
 rw [aD _ _ w w _ (run_underlying hT.u w)]
 simp only
 rw [aD _ _ w w T.ks.length (dS (by simp [a8,hT.inf,hT.size]))]
 rw [if_neg (by omega)]
 have hzv:(zeroValue T.e).run P w=.ok T.z w:=Ah (by simp [il,hT.inf,hT.z])
 by_cases h0:n*T.ks.length=0
 ·simp only [h0,if_true,pure_bind,hp]
  have hf':Instr.fill (fun i=>some (i*T.ks.length,T.ks.length)) ((Array.range 0).map ((#[]:Array Value)[· % (#[]:Array Value).size]!)) ps=some cells:=by
   have e1:∀ f:Nat->Value,Array.map f (Array.range 0)=#[]:=fun f=>by simp
   rw [h0] at hf
   unfold madeCells at hf
   rw [e1] at hf
   rw [e1]
   exact hf
  rw [hf']
  simp [newRow,newObj,pure,Sem.run,bind,Sem.bind]
 ·simp only [if_neg h0,pure_bind]
  rw [aD _ _ w w _ hzv]
  rw [hp]
  have hf':Instr.fill (fun i=>some (i*T.ks.length,T.ks.length)) ((Array.range (n*T.ks.length)).map (T.z.cells[· % T.z.cells.size]!)) ps=some cells:=hf
  rw [hf']
  simp [newRow,newObj,pure,Sem.run,bind,Sem.bind]
theorem PO:∀ {cs:List Value} {L:List Int},bytesOf cs=some L->cs=L.map (.int .u8)
 | [],L,h=>by simp [bytesOf] at h;subst h;rfl
 | v::r,L,h=>by
  unfold bytesOf at h
  split at h
  ·rename_i e;cases e
  ·rename_i x r' e
   injection e with e1 e2
   subst e1 e2
   split at h
   ·rename_i l hl
    injection h with h
    subst h
    rw [PO hl]
    rfl
   ·cases h
  ·cases h
theorem Rel.addLit (h:Rel w0 st V a w) (cells:Array Value) (t:TypeId) :
  ∃ V',V.Le V'/\Rel w0 st V' a (w.alloc (.cells cells t))/\V'.q w.heap.size=some cells.toList/\V'.b=V.b:=by
 have hk:Kp w (w.alloc (.cells cells t)):=xi w cells t
 have h':=h.below' hk
 have hnew:V.q w.heap.size=none:=by
  cases hq:V.q w.heap.size with
  | none=>rfl
  | some cs=>exact absurd (h.lits.lt hq) (Nat.lt_irrefl _)
 have hle:V.Le ⟨V.b,V.r,fun g=>if g=w.heap.size then some cells.toList else V.q g⟩:=by
  refine ⟨fun _ _ h=>h,fun _ h=>⟨h,fun _ hu=>hu⟩,fun g cs hq=>?_⟩
  have:g≠w.heap.size:=by rintro rfl;rw [hnew] at hq;cases hq
  simp [this,hq]
 refine ⟨_,hle,{ h' with tmps:=fun t x hx y hy=>(h'.tmps t x hx y hy).mono hle,mem:=fun l b o hl cs hcs j x hx=>?_,lits:=fun g cs hq=>?_,rows:=fun r rc hr=>?_,qs:=fun g cs hq=>?_ },by simp,rfl⟩
 ·obtain ⟨y,h1,h2,h3⟩:=h'.mem l b o hl cs hcs j x hx
  exact ⟨y,h1,h2.mono hle,h3⟩
 ·obtain ⟨u,e1,e2⟩:=h'.rows r rc hr
  exact ⟨u,e1,e2.mono hle.q⟩
 ·by_cases hg:g=w.heap.size
  ·subst hg
   simp at hq
   subst hq
   refine ⟨⟨t,_,by simpa using heap_alloc_new w (.cells cells t)⟩,fun l b o hl=>?_,fun r rc u hr ho hu hgu=>?_⟩
   ·have:=(h.own l b o hl).2
    omega
   ·obtain ⟨u',e1,e2⟩:=h.rows r rc hr
    have:u'=u:=by
     have hu':V.r r=some (some u):=hu
     rw [e1] at hu'
     injection hu' with hu'
     injection hu'
    subst this
    have:=(e2.lt ho hgu).2
    omega
  ·simp only [if_neg hg] at hq
   exact h'.lits g cs hq
 ·by_cases hg:g=w.heap.size
  ·rw [hg];exact .inl h.below.size
  ·simp only [if_neg hg] at hq
   exact h.qs g cs hq
end
end Go.Sx
namespace Go.Sx
open Go.RowKit
theorem MQ (n:Int):(((BitVec.allOnes 64 ^^^ BitVec.ofInt 64 n).toNat:Nat):Int)=18446744073709551615 - n % 18446744073709551616:=by
 rw [BitVec.allOnes_xor,BitVec.toNat_not,BitVec.toNat_ofInt]
 omega
theorem Tc (n:Int):IntKind.i64.wrap (((BitVec.ofInt 64 (-1) ^^^ BitVec.ofInt 64 n).toNat:Nat):Int)=IntKind.i64.wrap (-1 - n):=by
 rw [show BitVec.ofInt 64 (-1)=BitVec.allOnes 64 from by decide,MQ,<- cF true,<- cF true]
 simp only [wr]
 have:(18446744073709551615 - n % 18446744073709551616) % 18446744073709551616=(-1 - n) % 18446744073709551616:=by omega
 rw [this]
theorem Tb (n:Int):IntKind.u64.wrap (((BitVec.ofInt 64 IntKind.u64.max ^^^ BitVec.ofInt 64 n).toNat:Nat):Int)=IntKind.u64.wrap (-1 - n):=by
 rw [show BitVec.ofInt 64 IntKind.u64.max=BitVec.allOnes 64 from by decide,MQ,<- cF true,<- cF true]
 simp only [wr]
 omega
section
variable {P:Program} {al:Al} {w0:Base} {st:St} {V:Vl} {a:Act} {w:World} {Γ:Orc} {Q:Exit->Act->World->Prop}
theorem qhF (h:Rel w0 st V a w) {s:TypeId} {p:Operand} {f l off n:Nat} {fs:Array Field} {fd:Field} (hp:st.eval p=some (.ptr l off)) (h1:P.underlying s=some (.struct fs)) (hf:fs[f]?=some fd) (h2:a8 P fd.type=some (n+1)) :
  ∃ y,(Instr.fieldAt s (a.eval p) f).run P w=.ok y w/\aI V (.ptr l (off+fd.offset)) y:=by
 obtain ⟨b,o,hb,he⟩:=h.eval hp
 refine ⟨.pointer (some ⟨b,o+(off+fd.offset),none⟩),?_,b,o,hb,rfl⟩
 rw [he]
 unfold Instr.fieldAt
 rw [aD _ _ w w _ (run_underlying h1 w)]
 simp only [hf]
 rw [aD _ _ w w ⟨b,o+off,none⟩ rfl]
 have hpl:(fieldPlace ⟨b,o+off,none⟩ fd).run P w=.ok ⟨b,o+(off+fd.offset),none⟩ w:=by
  unfold fieldPlace
  rw [aD _ _ w w _ (dS h2)]
  simp only [Nat.add_eq_zero_iff,Nat.succ_ne_self,and_false,if_false,eP,Nat.add_assoc]
  rfl
 rw [aD _ _ w w _ hpl]
 rfl
theorem Mb {t el:TypeId} {p:Addr} (hu:P.underlying t=some (.pointer el)):(Op.equal t (.pointer (some p)) (.pointer none)).run P w=.ok false w:=by
 unfold Op.equal Op.maxDepth Op.equalIn
 rw [aD _ _ w w _ (run_underlying hu w)]
 rfl
theorem Mc {t el:TypeId} {p:Addr} (hu:P.underlying t=some (.pointer el)):(binOp .eql t (.pointer (some p)) (.pointer none)).run P w=.ok (.bool false) w:=by
 simp only [binOp]
 rw [aD _ _ w w false (Mb hu)]
 rfl
theorem Ma {t el:TypeId} {p:Addr} (hu:P.underlying t=some (.pointer el)):(binOp .neq t (.pointer (some p)) (.pointer none)).run P w=.ok (.bool true) w:=by
 simp only [binOp]
 rw [aD _ _ w w false (Mb hu)]
 rfl
theorem Lk {t el:TypeId} {p:Addr} {n c:Nat} (hu:P.underlying t=some (.slice el)):(Op.equal t (.slice (some p) n c) (.slice none 0 0)).run P w=.ok false w:=by
 unfold Op.equal Op.maxDepth Op.equalIn
 rw [aD _ _ w w _ (run_underlying hu w)]
 rfl
theorem qau (h:Rel w0 st V a w) {op:BinOp} {t:TypeId} {r:Nat} {b:Bool} {y z:Operand} (hq:nq P op t st.mem.rows r=some (true,b)) (hy:st.eval y=some (.row r)) :
  ∃ u,a.eval y=u/\slicy u/\(eqGuard op t y z u (.slice none 0 0)).run P w=.ok () w/\(binOp op t u (.slice none 0 0)).run P w=.ok (.bool b) w:=by
 have key:∀ rc,rowAt st.mem.rows r=some rc->Nat.blt 0 rc.L.length=true->∃ p n c,a.eval y=.slice (some p) n c:=by
  intro rc hr hg
  obtain ⟨u,hu,hok⟩:=h.rows r rc hr
  have he:a.eval y=u:=(h.eval hy).2.1 u hu
  rcases hok.shape h.stay_lt with ⟨_,e2⟩|⟨g,o,cap,e1,_⟩
  ·rw [e2] at hg;cases hg
  ·exact ⟨_,_,_,he.trans e1⟩
 cases op<;>simp only [nq] at hq<;>try cases hq
 all_goals
  split at hq
  case h_2=>cases hq
  rename_i el hu
  split at hq
  case h_2=>cases hq
  rename_i rc hr
  injection hq with hq
  injection hq with e1 e2
  subst e2
  obtain ⟨p,n,c,e⟩:=key rc hr e1
  refine ⟨_,e,trivial,?_,?_⟩
 ·simp [eqGuard]
 ·simp only [binOp]
  rw [aD _ _ w w false (Lk hu)]
  rfl
 ·simp [eqGuard]
 ·simp only [binOp]
  rw [aD _ _ w w false (Lk hu)]
  rfl
theorem Ns {o:Oper} {x:Operand} {t:TypeId} {args:Array Operand} {at_:Array TypeId} (ho:o.op=.call { callee:=.builtin .len,args,argTypes:=at_ }) (ha:args.toList=[x]) (ht:at_.toList=[t]) {y:Value}
  (hr:∀ ty,(Builtin.len_ #[t] ty #[a.eval x]).run P w=.ok y w):(execOp a.eval o).run P w=.ok (.value y) w:=by
 have h1:args=#[x]:=by cases args;simp_all
 have h2:at_=#[t]:=by cases at_;simp_all
 subst h1 h2
 unfold execOp
 rw [ho]
 simp only [resolve]
 rw [aD _ _ w w _ rfl]
 simp only [invoke,builtin]
 refine cd ?_
 simpa using hr o.type
theorem qbb (h:Rel w0 st V a w) {t ty e:TypeId} {x:Operand} {r n:Nat} {lo hi:Int} {rc:RowC} (hx:st.eval x=some (.part r n lo hi)) (ht:P.underlying t=some (.slice e)) (hr:rowAt st.mem.rows r=some rc) :
  (Builtin.len_ #[t] ty #[a.eval x]).run P w=.ok (.int .i64 (hi - lo)) w:=by
 obtain ⟨u,hu,_⟩:=h.rows r rc hr
 obtain ⟨p0,p1,hp⟩:=(h.eval hx).2 u hu
 rcases hp with ⟨_,_,e2,e3⟩|⟨g,o,m,c,o',c',e1,e2,e3,e4⟩
 ·rw [e2]
  have:hi - lo=0:=by omega
  rw [this]
  simp [Builtin.len_,run_underlying ht,goInt]
 ·rw [e3]
  have:((hi - lo).toNat:Int)=hi - lo:=by omega
  rw [<- this]
  simp [Builtin.len_,run_underlying ht,goInt]
theorem Up {t:TypeId} {sa sb:ByteArray} (hb:((sa.size+sb.size:Nat):Int)<=9223372036854775807):(binOp .add t (.string sa) (.string sb)).run P w=.ok (.string (sa++sb)) w:=by
 have:¬ (((sa.size+sb.size:Nat):Int)>IntKind.i64.max):=by
  rw [show IntKind.i64.max=9223372036854775807 from by decide];omega
 simp only [binOp,Op.stringOp,if_neg this]
 rfl
theorem lq (h:Rel w0 st V a w) {x:Option Operand} {d i:Int} (hx:cD st.eval x d=some i):(x=none/\i=d)\/∃ y k,x=some y/\a.eval y=.int k i:=by
 unfold cD at hx
 split at hx
 ·injection hx with hx;exact .inl ⟨rfl,hx.symm⟩
 ·rename_i y
  split at hx
  ·rename_i k j hj
   injection hx with hx
   subst hx
   exact .inr ⟨y,k,rfl,h.eval hj⟩
  ·cases hx
theorem Bl {k:IntKind} {i:Int} {n:Nat} {c:BoundsCode} (h0:0<=i) (h1:i<=(n:Int)):(Instr.sliceBound (.int k i) n c).run P w=.ok i.toNat w:=by
 unfold Instr.sliceBound
 rw [aD _ _ w w (k,i) rfl]
 simp only
 rw [if_pos ⟨h0,h1⟩]
 rfl
theorem Um {t:TypeId} {s:ByteArray} {lo hi:Option Operand} {l u:Int} (ht:P.underlying t=some .string) (hl:(lo=none/\l=0)\/∃ y k,lo=some y/\a.eval y=.int k l) (hu:(hi=none/\u=(s.size:Int))\/∃ y k,hi=some y/\a.eval y=.int k u) (h0:0<=l) (h1:l<=u) (h2:u<=(s.size:Int)) :
  (Instr.sliceAt t (.string s) (lo.map a.eval) (hi.map a.eval) ((none:Option Operand).map a.eval)).run P w=.ok (.string (s.extract l.toNat u.toNat)) w:=by
 have hlu:l<=((u.toNat:Nat):Int):=by omega
 unfold Instr.sliceAt
 rw [aD _ _ w w _ (run_underlying ht w)]
 simp only [Option.map_none]
 unfold Instr.slice
 rw [aD _ _ w w _ (run_underlying ht w)]
 simp only [Option.isSome_none,Bool.false_eq_true,if_false]
 have hb:(Instr.sliceBounds false s.size s.size (lo.map a.eval) (hi.map a.eval) none).run P w=.ok (l.toNat,u.toNat,s.size) w:=by
  unfold Instr.sliceBounds
  simp only [pure_bind]
  rcases hu with ⟨rfl,rfl⟩|⟨y,k,rfl,hy⟩
  ·simp only [Option.map_none]
   rcases hl with ⟨rfl,rfl⟩|⟨z,k',rfl,hz⟩
   ·simp [pure]
   ·simp only [Option.map_some,hz,Option.isSome_none,Bool.false_eq_true,if_false]
    rw [aD _ _ w w l.toNat (Bl h0 h1)]
    simp [pure]
  ·simp only [Option.map_some,hy]
   rw [aD _ _ w w u.toNat (Bl (by omega) h2)]
   rcases hl with ⟨rfl,rfl⟩|⟨z,k',rfl,hz⟩
   ·simp [pure]
   ·simp only [Option.map_some,hz,Option.isSome_none,Bool.false_eq_true,if_false]
    rw [aD _ _ w w l.toNat (Bl h0 hlu)]
    simp [pure]
 rw [aD _ _ w w _ hb]
 rfl
theorem BK {K:Nat->Prop} {s d e:TypeId} {L:List (List Dat)} {u:Value} (hs:P.underlying s=some (.slice e)) (he:P.underlying e=some (.int .u8)) (hd:P.underlying d=some .string) (hr:bO K w [.num .u8] L u) :
  (convert s d u).run P w=.ok (.string (strOfNums (cU L))) w:=by
 rcases hr with ⟨⟨a0,rfl⟩,rfl⟩|⟨b,o,cap,rfl,_,_,hc⟩
 ·cases a0 with
  | none =>
   rw [run_convert_bytes_nil w s e hs he 0 0 d hd]
   rfl
  | some a0 =>
   rw [run_convert_bytes_string w s d e _ 0 0 hs he hd]
   simp [Conv.bytesToString,loadCells,loadCellsFrom]
   rfl
 ·have hl:(cU L).length=L.length:=by simp [cU]
  have:=run_convert_bytes_arg w s e hs he b o (cU L).length cap (cU L) rfl (fun i hi=>by
   have hi':i<L.length:=by omega
   have:=hc i 0 L[i] _ (by simp [hi']) rfl
   simp only [List.length_singleton,Nat.mul_one,Nat.add_zero] at this
   rw [this]
   simp [CK.cell,cU,List.getD,hi']) d hd
  rwa [hl] at this
theorem LG {t e:TypeId} {n:Nat} {ad:Option Addr} {len cap:Nat} {lo hi:Option Operand} {l u:Int} (ht:P.underlying t=some (.slice e)) (hn:a8 P e=some n) (hl:(lo=none/\l=0)\/∃ y k,lo=some y/\a.eval y=.int k l) (hu:(hi=none/\u=(len:Int))\/∃ y k,hi=some y/\a.eval y=.int k u) (h0:0<=l) (h1:l<=u) (h2:u<=(len:Int)) (hc:len<=cap) :
  (Instr.sliceAt t (.slice ad len cap) (lo.map a.eval) (hi.map a.eval) ((none:Option Operand).map a.eval)).run P w=.ok (sliced ad l.toNat u.toNat cap n) w:=by
 have he:P.elem t=e:=by simp [Program.elem,ht]
 have ht':P.underlying t=some (.slice (P.elem t)):=by rw [he];exact ht
 have hs:(sizeOf (P.elem t)).run P w=.ok n w:=by rw [he];exact dS hn
 rw [run_sliceAt_slice w t _ _ _ _ ht']
 rcases hl with ⟨rfl,rfl⟩|⟨y,k,rfl,hy⟩<;>rcases hu with ⟨rfl,rfl⟩|⟨z,k',rfl,hz⟩
 ·simp only [Option.map_none]
  rw [run_slice_all w t ad len cap ht',hs]
  rfl
 ·simp only [Option.map_none,Option.map_some,hz]
  rw [run_slice_h w t ad len cap ht' k' u (by omega) (by omega),hs]
  rfl
 ·simp only [Option.map_none,Option.map_some,hy]
  rw [run_slice_l w t ad len cap ht' k l h0 (by omega),hs]
  rfl
 ·simp only [Option.map_none,Option.map_some,hy,hz]
  rw [run_slice_lh w t ad len cap ht' k k' l u h0 h1 (by omega),hs]
  rfl
theorem qba (h:Rel w0 st V a w) {r n:Nat} (hn0:0<n) {rc:RowC} {u:Value} {l hh:Int} (hr:rowAt st.mem.rows r=some rc) (hu:V.r r=some (some u)) (h0:0<=l) (h1:l<=hh) (h2:hh<=(rc.L.length:Int)) {t e:TypeId} {lo hi:Option Operand}
  (ht:P.underlying t=some (.slice e)) (hs:a8 P e=some n) (hl:(lo=none/\l=0)\/∃ y k,lo=some y/\a.eval y=.int k l) (hq:(hi=none/\hh=(rc.L.length:Int))\/∃ y k,hi=some y/\a.eval y=.int k hh) :
  ∃ y,(Instr.sliceAt t u (lo.map a.eval) (hi.map a.eval) ((none:Option Operand).map a.eval)).run P w=.ok y w/\aI V (.part r n l hh) y:=by
 obtain ⟨u0,hu0,hok⟩:=h.rows r rc hr
 have huu:u0=u:=by rw [hu0] at hu;injection hu with hu;injection hu
 subst huu
 have den:∀ y,(0<=l/\l<=hh/\((∃ a,u0=.slice a 0 0/\y=.slice a 0 0/\hh=0)\/∃ g o m c o' c',u0=.slice (some ⟨g,o,none⟩) m c/\hh<=(m:Int)/\y=.slice (some ⟨g,o',none⟩) (hh - l).toNat c'/\(l<hh->o'=o+l.toNat*n)/\(hh - l).toNat<=c'/\(n=0->c'=(hh - l).toNat)))->aI V (.part r n l hh) y:=fun y hy=>⟨by rw [hu];simp,fun u' hu'=>by
  rw [hu] at hu'
  injection hu' with hu'
  injection hu' with hu'
  subst hu'
  exact hy⟩
 have key:∀ g o cap,u0=.slice (some ⟨g,o,none⟩) rc.L.length cap->rc.L.length<=cap->∃ y,(Instr.sliceAt t u0 (lo.map a.eval) (hi.map a.eval) ((none:Option Operand).map a.eval)).run P w=.ok y w/\aI V (.part r n l hh) y:=by
  intro g o cap he hc
  rw [he]
  refine ⟨_,LG (w:=w) (ad:=some ⟨g,o,none⟩) ht hs hl hq h0 h1 h2 hc,den _ ⟨h0,h1,.inr ⟨g,o,rc.L.length,cap,if cap=l.toNat then o else o+l.toNat*n,cap - l.toNat,he,h2,?_,fun hlt=>if_neg (by omega),by omega,fun h0=>absurd h0 (by omega)⟩⟩⟩
  unfold sliced
  have e1:hh.toNat - l.toNat=(hh - l).toNat:=by omega
  rw [e1]
  by_cases hcl:cap=l.toNat
  ·rw [if_pos hcl,if_pos hcl]
  ·rw [if_neg hcl,if_neg hcl]
   simp [eP]
 rcases hok.shape h.stay_lt with ⟨⟨a0,e1⟩,e2⟩|⟨g,o,cap,e1,e3⟩
 ·have e2:rc.L.length=0:=by rw [e2];rfl
  have e3:hh=0:=by omega
  have e4:l=0:=by omega
  refine ⟨.slice a0 0 0,?_,den _ ⟨h0,h1,.inl ⟨a0,e1,rfl,e3⟩⟩⟩
  rw [e1]
  have:=LG (w:=w) (ad:=a0) (len:=0) (cap:=0) ht hs hl (by rw [e2] at hq;exact hq) h0 h1 (by rw [e2] at h2;exact h2) (Nat.le_refl _)
  rw [this,e3,e4]
  cases a0<;>simp [sliced]
 ·exact key g o cap e1 e3
theorem CM {x:Option Int} (h:jh x=true):x=some 0:=by
 cases x with
 | none=>cases h
 | some n=>simp [jh] at h;rw [h]
theorem qbD {t e:TypeId} {n:Nat} {u:Value} {lo hi:Option Operand} {mx:Operand} (ht:P.underlying t=some (.slice e)) (hn:a8 P e=some n) (hu:slicy u) (h:Rel w0 st V a w) (hl:jh (cD st.eval lo 0)=true) (hh:jh (cD st.eval hi 1)=true) (hm:jh (cD st.eval (some mx) 1)=true) :
  ∃ ad,(Instr.sliceAt t u (lo.map a.eval) (hi.map a.eval) ((some mx:Option Operand).map a.eval)).run P w=.ok (.slice ad 0 0) w:=by
 cases u with
 | slice ad len cap =>
  have he:P.elem t=e:=by simp [Program.elem,ht]
  have ht':P.underlying t=some (.slice (P.elem t)):=by rw [he];exact ht
  have hs:(sizeOf (P.elem t)).run P w=.ok n w:=by rw [he];exact dS hn
  have e0:sliced ad (0:Int).toNat (0:Int).toNat (0:Int).toNat n=.slice ad 0 0:=rfl
  refine ⟨ad,?_⟩
  rw [run_sliceAt_slice w t _ _ _ _ ht']
  rcases lq h (CM hh) with ⟨_,q⟩|⟨y,k,rfl,hy⟩
  ·cases q
  rcases lq h (CM hm) with ⟨_,q⟩|⟨y2,k2,q,hy2⟩
  ·cases q
  injection q with q
  subst q
  rcases lq h (CM hl) with ⟨rfl,_⟩|⟨z,k3,rfl,hz⟩
  ·simp only [Option.map_none,Option.map_some,hy,hy2]
   rw [run_slice_hm w t ad len cap ht' k k2 0 0 (by omega) (by omega) (by omega),hs]
   rfl
  ·simp only [Option.map_some,hy,hy2,hz]
   rw [run_slice_lhm w t ad len cap ht' k3 k k2 0 0 0 (by omega) (by omega) (by omega) (by omega),hs]
   rfl
 | _=>exact hu.elim
theorem qa7 (h:Rel w0 st V a w) {r n:Nat} {rc:RowC} {u:Value} {hh:Int} (hr:rowAt st.mem.rows r=some rc) (hu:V.r r=some (some u)) (h0:0<=hh) (h2:hh<=(rc.L.length:Int)) {t e:TypeId} {hi mx:Operand} {k k':IntKind}
  (ht:P.underlying t=some (.slice e)) (hs:a8 P e=some n) (hq:a.eval hi=.int k hh) (hm:a.eval mx=.int k' hh) :
  ∃ y,(Instr.sliceAt t u ((none:Option Operand).map a.eval) ((some hi:Option Operand).map a.eval) ((some mx:Option Operand).map a.eval)).run P w=.ok y w/\aI V (.part r 0 0 hh) y:=by
 obtain ⟨u0,hu0,hok⟩:=h.rows r rc hr
 have huu:u0=u:=by rw [hu0] at hu;injection hu with hu;injection hu
 subst huu
 have he:P.elem t=e:=by simp [Program.elem,ht]
 have ht':P.underlying t=some (.slice (P.elem t)):=by rw [he];exact ht
 have hs:(sizeOf (P.elem t)).run P w=.ok n w:=by rw [he];exact dS hs
 have den:∀ y,((∃ a,u0=.slice a 0 0/\y=.slice a 0 0/\hh=0)\/∃ g o m c o' c',u0=.slice (some ⟨g,o,none⟩) m c/\hh<=(m:Int)/\y=.slice (some ⟨g,o',none⟩) (hh - 0).toNat c'/\((0:Int)<hh->o'=o+(0:Int).toNat*0)/\(hh - 0).toNat<=c'/\((0:Nat)=0->c'=(hh - 0).toNat))->aI V (.part r 0 0 hh) y:=fun y hy=>⟨by rw [hu];simp,fun u' hu'=>by
  rw [hu] at hu'
  injection hu' with hu'
  injection hu' with hu'
  subst hu'
  exact ⟨Int.le_refl _,h0,hy⟩⟩
 rcases hok.shape h.stay_lt with ⟨⟨a0,e1⟩,e2⟩|⟨g,o,cap,e1,e3⟩
 ·have e2:rc.L.length=0:=by rw [e2];rfl
  have e3:hh=0:=by omega
  subst e3
  refine ⟨.slice a0 0 0,?_,den _ (.inl ⟨a0,e1,rfl,rfl⟩)⟩
  rw [e1,run_sliceAt_slice w t _ _ _ _ ht']
  simp only [Option.map_none,Option.map_some,hq,hm]
  rw [run_slice_hm w t a0 0 0 ht' k k' 0 0 (by omega) (by omega) (by omega),hs]
  cases a0<;>rfl
 ·refine ⟨sliced (some ⟨g,o,none⟩) 0 hh.toNat hh.toNat n,?_,den _ (.inr ⟨g,o,rc.L.length,cap,o,hh.toNat,e1,h2,?_,fun _=>by simp,by omega,fun _=>by omega⟩)⟩
  ·rw [e1,run_sliceAt_slice w t _ _ _ _ ht']
   simp only [Option.map_none,Option.map_some,hq,hm]
   rw [run_slice_hm w t (some ⟨g,o,none⟩) rc.L.length cap ht' k k' hh hh (by omega) (by omega) (by omega),hs]
   rfl
  ·unfold sliced
   by_cases hz:hh.toNat=0
   ·simp [hz]
   ·simp [eP]
theorem bO.any {K:Nat->Prop} {ks:List CK} {L:List (List Dat)} {u:Value} (h:bO K w ks L u):bO (fun _=>True) w ks L u:=by
 rcases h with h|⟨b,o,cap,h1,h2,_,h3⟩
 ·exact .inl h
 ·exact .inr ⟨b,o,cap,h1,h2,fun _=>trivial,h3⟩
theorem Mk (h:Rel w0 st V a w) {r n:Nat} {lo hi:Int} {rc:RowC} {y:Value} (hd:aI V (.part r n lo hi) y) (hr:rowAt st.mem.rows r=some rc) (hk:rc.ks.length=n):∃ L0,aW (w0.Stay V) w rc.ks ((rc.L.drop lo.toNat).take (hi - lo).toNat) L0/\bO (fun _=>True) w rc.ks L0 y:=by
 obtain ⟨u,hu,hok⟩:=h.rows r rc hr
 obtain ⟨p0,p1,hp⟩:=hd.2 u hu
 obtain ⟨L0,hl0,hlk,hrd⟩:=hok.get h.stay_lt
 refine ⟨(L0.drop lo.toNat).take (hi - lo).toNat,(hlk.drop _).take _,?_⟩
 rcases hp with ⟨a0,e1,e2,e3⟩|⟨g,o,m,c,o',c',e1,e2,e3,e4,e5⟩
 ·have e5:(hi - lo).toNat=0:=by omega
  rw [e2,e5,List.take_zero]
  exact .inl ⟨⟨_,rfl⟩,rfl⟩
 ·rcases hrd with ⟨⟨a0,q1⟩,q2⟩|⟨b,ob,cap,q1,_,_,q3⟩
  ·rw [e1] at q1
   injection q1 with q4 q5 q6
   have q7:(hi - lo).toNat=0:=by omega
   rw [e3,q7,List.take_zero]
   exact .inr ⟨g,o',c',rfl,Nat.zero_le _,fun _=>trivial,fun i j l y hl=>by simp at hl⟩
  rw [e1] at q1
  injection q1 with q4 q5 q6
  injection q4 with q4
  injection q4 with q7 q8
  subst q7 q8 q5
  have hlen:((L0.drop lo.toNat).take (hi - lo).toNat).length=(hi - lo).toNat:=by simp;omega
  rw [e3]
  refine .inr ⟨g,o',c',by rw [hlen],by rw [hlen];exact e5.1,fun _=>trivial,fun i j l y hl hy=>?_⟩
  have hi':i<(hi - lo).toNat:=by
   have:=(List.getElem?_eq_some_iff.1 hl).1
   omega
  rw [List.getElem?_take_of_lt hi',List.getElem?_drop] at hl
  have:=q3 (lo.toNat+i) j l y hl hy
  rw [e4 (by omega),<- hk]
  rw [Nat.add_mul] at this
  rwa [show o+lo.toNat*rc.ks.length+(i*rc.ks.length+j)=o+(lo.toNat*rc.ks.length+i*rc.ks.length+j) by omega]
theorem vA (h:Rel w0 st V a w) {y:Operand} {x:SV} {k0 ks:List CK} {L:List (List Dat)} (hy:st.eval y=some x) (hs:kB k0 st.mem.rows x=some (ks,L)):∃ L0,aW (w0.Stay V) w ks L L0/\bO (fun _=>True) w ks L0 (a.eval y):=by
 unfold kB at hs
 split at hs
 ·injection hs with hs
  injection hs with e1 e2
  subst e1 e2
  exact ⟨[],trivial,.inl ⟨⟨_,h.eval hy⟩,rfl⟩⟩
 ·injection hs with hs
  injection hs with e1 e2
  subst e1 e2
  exact ⟨[],trivial,.inr ⟨_,_,_,h.eval hy,Nat.zero_le _,fun hn=>absurd rfl hn,fun i j l y hl=>by simp at hl⟩⟩
 ·split at hs
  ·rename_i r _ rc hr
   injection hs with hs
   injection hs with e1 e2
   subst e1 e2
   obtain ⟨u,hu,hok⟩:=h.rows r rc hr
   rw [show a.eval y=u from (h.eval hy).2.1 u hu]
   obtain ⟨L0,_,hlk,hrd⟩:=hok.get h.stay_lt
   exact ⟨L0,hlk,hrd.any⟩
  ·cases hs
 ·split at hs
  ·rename_i rc hr
   split at hs
   ·rename_i hk
    injection hs with hs
    injection hs with e1 e2
    subst e1 e2
    exact Mk h (h.eval hy) hr (Nat.eq_of_beq_eq_true hk)
   ·cases hs
  ·cases hs
 ·cases hs
theorem qa8 (h:Rel w0 st V a w) {s d e:TypeId} {r:Nat} {lo hi:Int} {rc:RowC} {x:Operand} (hx:st.eval x=some (.part r 1 lo hi)) (hr:rowAt st.mem.rows r=some rc) (hk:rc.ks=[.num .u8]) (hs:P.underlying s=some (.slice e)) (he:P.underlying e=some (.int .u8)) (hd:P.underlying d=some .string) :
  (convert s d (a.eval x)).run P w=.ok (.string (strOfNums (cU ((rc.L.drop lo.toNat).take (hi - lo).toNat)))) w:=by
 obtain ⟨L0,hlk,hrd⟩:=Mk h (h.eval hx) hr (by rw [hk];rfl)
 have:=hlk.reads (by rw [hk];rfl) hrd
 rw [hk] at this
 exact BK hs he hd this
theorem qbc (h:Rel w0 st V a w) {t e:TypeId} {x ix:Operand} {r n:Nat} {lo hi:Int} {k:IntKind} {i:Int} {rc:RowC} (hx:st.eval x=some (.part r n lo hi)) (hix:st.eval ix=some (.v (.int k i))) (ht:P.underlying t=some (.slice e)) (he:a8 P e=some n)
  (hr:rowAt st.mem.rows r=some rc) (h0:0<=i) (h1:i<hi - lo):∃ y,(Instr.indexAt t (a.eval x) (a.eval ix)).run P w=.ok y w/\aI V (.rp r n (lo+i) 0) y:=by
 obtain ⟨u,hu,hok⟩:=h.rows r rc hr
 obtain ⟨p0,p1,hp⟩:=(h.eval hx).2 u hu
 have hie:a.eval ix=.int k i:=h.eval hix
 rcases hp with ⟨_,_,_,e3⟩|⟨g,o,m,c,o',c',e1,e2,e3,e4⟩
 ·omega
 ·refine ⟨.pointer (some ⟨g,o'+i.toNat*n,none⟩),?_,by rw [hu];simp,fun u' hu'=>?_⟩
  ·rw [e3,hie]
   unfold Instr.indexAt
   rw [aD _ _ w w (k,i) rfl]
   simp only
   rw [aD _ _ w w _ (run_underlying ht w)]
   simp only
   rw [aD _ _ w w (some ⟨g,o',none⟩,(hi - lo).toNat,e) rfl]
   simp only
   rw [aD _ _ w w _ (run_underlying ht w)]
   rw [if_pos ⟨h0,by omega⟩]
   rw [aD _ _ w w n (dS he)]
   simp [eP,pure]
  ·have:u'=u:=by rw [hu] at hu';injection hu' with hu';injection hu' with hu';exact hu'.symm
   subst this
   refine ⟨g,o,m,c,e1,by omega,by omega,?_⟩
   rw [e4.1 (by omega),show (lo+i).toNat=lo.toNat+i.toNat by omega,Nat.add_mul,Nat.add_zero,Nat.add_assoc]
theorem qas (h:Rel w0 st V a w) {s:TypeId} {p:Operand} {f r m j n:Nat} {i:Int} {fs:Array Field} {fd:Field} (hp:st.eval p=some (.rp r m i j)) (hr:∃ rc,rowAt st.mem.rows r=some rc) (h1:P.underlying s=some (.struct fs)) (hf:fs[f]?=some fd) (h2:a8 P fd.type=some (n+1)) :
  ∃ y,(Instr.fieldAt s (a.eval p) f).run P w=.ok y w/\aI V (.rp r m i (j+fd.offset)) y:=by
 obtain ⟨rc,hr⟩:=hr
 obtain ⟨u,hu,_⟩:=h.rows r rc hr
 obtain ⟨g,o,k,c,hs,h0,hi,he⟩:=(h.eval hp).2 u hu
 refine ⟨.pointer (some ⟨g,o+(i.toNat*m+(j+fd.offset)),none⟩),?_,by simp [hu],fun u' hu'=>?_⟩
 ·rw [he]
  unfold Instr.fieldAt
  rw [aD _ _ w w _ (run_underlying h1 w)]
  simp only [hf]
  rw [aD _ _ w w ⟨g,o+(i.toNat*m+j),none⟩ rfl]
  have hpl:(fieldPlace ⟨g,o+(i.toNat*m+j),none⟩ fd).run P w=.ok ⟨g,o+(i.toNat*m+(j+fd.offset)),none⟩ w:=by
   unfold fieldPlace
   rw [aD _ _ w w _ (dS h2)]
   simp only [Nat.add_eq_zero_iff,Nat.succ_ne_self,and_false,if_false,eP,Nat.add_assoc]
   rfl
  rw [aD _ _ w w _ hpl]
  rfl
 ·rw [hu] at hu'
  injection hu' with hu'
  injection hu' with hu'
  subst hu'
  exact ⟨g,o,k,c,hs,h0,hi,rfl⟩
theorem Pj {D:SA->Value->Prop} {cs:List SA} {vs:List Value} (h:aG D cs vs) (off n:Nat):aG D ((cs.drop off).take n) ((vs.drop off).take n):=by
 refine aG.of (by have:=h.length;simp [this]) fun j x v hx hv=>?_
 rw [List.getElem?_take] at hx hv
 split at hx
 ·rename_i hj
  rw [if_pos hj] at hv
  rw [List.getElem?_drop] at hx hv
  obtain ⟨v',e1,e2⟩:=h.get _ _ hx
  rw [hv] at e1
  injection e1 with e1
  subst e1
  exact e2
 ·cases hx
theorem qjq {t:TypeId} {off n:Nat} {ag:Bool} {cs:List SA} {vs:List Value} {x:SV} (hd:aG (bq V) cs vs) (ha:dd P t=some ag) (h2:a8 P t=some n) (hx:iI ag ((cs.drop off).take n)=some x) :
  ∃ u,(part t vs.toArray off).run P w=.ok u w/\aI V x u:=by
 rcases yn (Pj hd off n) hx with ⟨rfl,hD⟩|⟨rfl,z,hz,hD⟩
 ·refine ⟨_,?_,hD⟩
  unfold part
  rw [aD _ _ w w true (mU ha)]
  simp only [if_true]
  rw [aD _ _ w w n (dS h2)]
  have:vs.toArray.extract off (off+n)=(((vs.drop off).take n)).toArray:=by
   apply Array.ext'
   simp [List.take_drop]
  rw [this]
  rfl
 ·refine ⟨z,?_,hD⟩
  unfold part
  rw [aD _ _ w w false (mU ha)]
  have hz0:(((vs.drop off).take n))[0]?=some z:=by rw [hz];rfl
  rw [List.getElem?_take] at hz0
  split at hz0
  ·rw [List.getElem?_drop,Nat.add_zero] at hz0
   simp [hz0,pure]
  ·cases hz0
theorem qjr {t e:TypeId} {y:Value} {k:IntKind} {i:Int} {n s:Nat} {ag:Bool} {cs:List SA} {x:SV} (hy:aI V (.ag cs) y) (h1:P.underlying t=some (.array n e)) (ha:dd P e=some ag) (h2:a8 P e=some s) (h0:0<=i) (hn:i<(n:Int)) (hx:iI ag ((cs.drop (i.toNat*s)).take s)=some x) :
  ∃ u,(Instr.index t y (.int k i)).run P w=.ok u w/\aI V x u:=by
 obtain ⟨vs,rfl,hd⟩:=hy
 obtain ⟨u,hu,hD⟩:=qjq (P:=P) (w:=w) hd ha h2 hx
 refine ⟨u,?_,hD⟩
 unfold Instr.index
 rw [aD _ _ w w (k,i) rfl]
 simp only
 rw [aD _ _ w w _ (run_underlying h1 w)]
 simp only [h0,hn,and_self,if_true]
 rw [aD _ _ w w s (dS h2)]
 exact hu
theorem qjs {s:TypeId} {y:Value} {f n:Nat} {ag:Bool} {fs:Array Field} {fd:Field} {cs:List SA} {x:SV} (hy:aI V (.ag cs) y) (h1:P.underlying s=some (.struct fs)) (hf:fs[f]?=some fd) (ha:dd P fd.type=some ag) (h2:a8 P fd.type=some n) (_:fd.offset+n<=cs.length) (hx:iI ag ((cs.drop fd.offset).take n)=some x) :
  ∃ u,(Instr.field s y f).run P w=.ok u w/\aI V x u:=by
 obtain ⟨vs,rfl,hd⟩:=hy
 have hlen:=hd.length
 have key:∀ u,(part fd.type vs.toArray fd.offset).run P w=.ok u w->(Instr.field s (.agg vs.toArray) f).run P w=.ok u w:=by
  intro u hu
  unfold Instr.field
  rw [aD _ _ w w _ (run_underlying h1 w)]
  simp only [hf]
  rw [aD _ _ w w vs.toArray rfl]
  exact hu
 rcases yn (Pj hd fd.offset n) hx with ⟨rfl,hD⟩|⟨rfl,z,hz,hD⟩
 ·refine ⟨_,key _ ?_,hD⟩
  unfold part
  rw [aD _ _ w w true (mU ha)]
  simp only [if_true]
  rw [aD _ _ w w n (dS h2)]
  have:vs.toArray.extract fd.offset (fd.offset+n)=(((vs.drop fd.offset).take n)).toArray:=by
   apply Array.ext'
   simp [List.take_drop,Nat.add_comm]
  rw [this]
  rfl
 ·refine ⟨z,key _ ?_,hD⟩
  unfold part
  rw [aD _ _ w w false (mU ha)]
  have hz0:(((vs.drop fd.offset).take n))[0]?=some z:=by rw [hz];rfl
  rw [List.getElem?_take] at hz0
  split at hz0
  ·rw [List.getElem?_drop,Nat.add_zero] at hz0
   simp [hz0,pure]
  ·cases hz0
theorem KB {c:TC} {y:Value} (h:fQ V c y):aI V c.sv y:=by
 cases c with
 | one x=>exact Pg.2 h
 | ag cs=>obtain ⟨vs,rfl,h2⟩:=h;exact MX h2
theorem aG.append {D:SA->Value->Prop}:∀ {l l':List SA} {vs vs':List Value},aG D l vs->aG D l' vs'->aG D (l++l') (vs++vs')
 | [],_,[],_,_,h=>h
 | _::_,_,_::_,_,h1,h=>⟨h1.1,aG.append h1.2 h⟩
 | [],_,_::_,_,h1,_=>h1.elim
 | _::_,_,[],_,h1,_=>h1.elim
theorem aG.take {D:SA->Value->Prop}:∀ (n:Nat) {l:List SA} {vs:List Value},aG D l vs->aG D (l.take n) (vs.take n)
 | 0,_,_,_=>by simp [aG]
 | n+1,[],[],_=>by simp [aG]
 | n+1,_::_,_::_,h=>⟨h.1,aG.take n h.2⟩
 | _+1,[],_::_,h=>h.elim
 | _+1,_::_,[],h=>h.elim
theorem aG.drop {D:SA->Value->Prop}:∀ (n:Nat) {l:List SA} {vs:List Value},aG D l vs->aG D (l.drop n) (vs.drop n)
 | 0,_,_,h=>by simpa using h
 | n+1,[],[],_=>by simp [aG]
 | n+1,_::_,_::_,h=>by simpa using aG.drop n h.2
 | _+1,[],_::_,h=>h.elim
 | _+1,_::_,[],h=>h.elim
theorem put_all (off:Nat):∀ (l:List Value) (k:Nat) (C:Array Value),off+k+l.length<=C.size ->
  ((l.zipIdx k).foldl (fun cs (p:Value×Nat)=>cs.setIfInBounds (off+p.2) p.1) C).toList=C.toList.take (off+k)++l++C.toList.drop (off+k+l.length)
 | [],k,C,h=>by simp
 | x::l,k,C,h=>by
  simp only [List.length_cons] at h
  rw [List.zipIdx_cons,List.foldl_cons,put_all off l (k+1) _ (by simp;omega)]
  simp only [Array.toList_setIfInBounds]
  have hk:off+k<C.toList.length:=by simp;omega
  rw [show off+(k+1)=off+k+1 by omega,List.take_add_one,List.take_set_of_le (by omega),List.getElem?_set_self hk,List.drop_set_of_lt (by omega)]
  simp only [Option.toList_some,List.append_assoc,List.length_cons,List.cons_append,List.nil_append]
  rw [show off+k+1+l.length=off+k+(l.length+1) by omega]
theorem GU {V:Vl} {place:Nat->Option (Nat×Nat)}:∀ (ps:List (Nat×List SA)) (qs:List (Nat×Value)) (cs cs':List SA) (C:Array Value),qo place cs ps=some cs'->aG (bq V) cs C.toList ->
  ps.length=qs.length->(∀ (j:Nat) p q,ps[j]?=some p->qs[j]?=some q->p.1=q.1/\aG (bq V) p.2 q.2.cells.toList)->∃ C',Instr.fill place C qs=some C'/\aG (bq V) cs' C'.toList
 | [],[],cs,cs',C,h,hd,_,_=>by
  simp [qo] at h
  subst h
  exact ⟨C,rfl,hd⟩
 | (i,xs)::ps,(i',y)::qs,cs,cs',C,h,hd,hl,hp=>by
  obtain ⟨e,hxy⟩:=hp 0 _ _ rfl rfl
  simp only at e hxy
  subst e
  unfold qo at h
  split at h
  case h_2=>cases h
  rename_i off n hpl
  split at h
  case h_2=>cases h
  rename_i hn
  have hn:=Nat.eq_of_beq_eq_true hn
  split at h
  case h_2=>cases h
  rename_i c1 hs
  obtain ⟨s1,s2⟩:=Bq _ _ _ _ hs
  have e1:y.cells.size=n:=by rw [<- hn,hxy.length];simp
  have e2:cs.length=C.size:=by rw [hd.length];simp
  have e3:y.cells.toList.length=n:=by simpa using e1
  unfold Instr.fill
  simp only [hpl]
  rw [if_neg (by simp only [Bool.or_eq_true,decide_eq_true_eq,not_or];omega)]
  have e4:(y.cells.zipIdx.foldl (fun cs (p:Value×Nat)=>cs.setIfInBounds (off+p.2) p.1) C).toList=C.toList.take off++y.cells.toList++C.toList.drop (off+n):=by
   rw [<- Array.foldl_toList,Array.toList_zipIdx,put_all off _ 0 C (by rw [e3];omega),e3]
   rfl
  refine GU ps qs c1 cs' _ h ?_ (by simpa using hl) (fun j p q h1 h2=>hp (j+1) p q (by simpa using h1) (by simpa using h2))
  have e5:(y.cells.zipIdx.foldl (fun cs x=>match x with|(c,j)=>cs.setIfInBounds (off+j) c) C).toList=C.toList.take off++y.cells.toList++C.toList.drop (off+n):=e4
  rw [e5,s2,hn]
  exact (aG.append (aG.append (hd.take off) hxy) (hd.drop (off+n)))
 | [],_::_,_,_,_,_,_,hl,_=>by simp at hl
 | _::_,[],_,_,_,_,_,hl,_=>by simp at hl
theorem Mf:∀ (fs:List Field) (l:List (Nat×Nat)),sr P fs=some l->fs.mapM (fun f=>(P.info? f.type).map fun i=>(f.offset,i.size))=some l
 | [],l,h=>by simp [sr] at h;subst h;rfl
 | f::fs,l,h=>by
  unfold sr at h
  split at h
  ·rename_i i r hi hr
   injection h with h
   subst h
   simp [List.mapM_cons,hi,Mf fs r hr]
  ·cases h
theorem Mj (h:Rel w0 st V a w):∀ (l:List (Nat×Operand)) (ps:List (Nat×List SA)),gT st.eval l=some ps->ps.length=l.length /\
  ∀ (j:Nat) p q,ps[j]?=some p->(l.map fun x=>(x.1,a.eval x.2))[j]?=some q->p.1=q.1/\aG (bq V) p.2 q.2.cells.toList
 | [],ps,hp=>by simp [gT] at hp;subst hp;exact ⟨rfl,fun j p q h=>by simp at h⟩
 | (i,x)::r,ps,hp=>by
  unfold gT at hp
  split at hp
  ·rename_i xs l hx hl
   injection hp with hp
   subst hp
   obtain ⟨h1,h2⟩:=Mj h r l hl
   refine ⟨by simp [h1],fun j p q hp hq=>?_⟩
   cases j with
   | zero =>
    simp at hp hq
    subst hp hq
    cases hs:st.eval x with
    | none=>rw [hs] at hx;cases hx
    | some s =>
     rw [hs] at hx
     exact ⟨rfl,nf (h.eval hs) hx⟩
   | succ j=>exact h2 j p q (by simpa using hp) (by simpa using hq)
  ·cases hp
theorem qiJ (h:Rel w0 st V a w) {t:TypeId} {parts:Array (Nat×Operand)} {ps:List (Nat×List SA)} {cs:List SA} (hps:gT st.eval parts.toList=some ps) (hb:Hw P t ps=some cs) :
  ∃ C:Array Value,(Instr.build t (parts.map fun (i,x)=>(i,a.eval x))).run P w=.ok (.agg C) w/\aG (bq V) cs C.toList:=by
 obtain ⟨h1,h2⟩:=Mj h _ _ hps
 have e:(parts.map fun (i,x)=>(i,a.eval x)).toList=parts.toList.map fun x=>(x.1,a.eval x.2):=by simp
 unfold Hw at hb
 split at hb
 ·rename_i z fs hz hu
  split at hb
  ·rename_i pl hpl
   obtain ⟨C,c1,c2⟩:=GU (V:=V) ps (parts.toList.map fun x=>(x.1,a.eval x.2)) _ cs z.cells hb (qA _) (by simp [h1]) h2
   refine ⟨C,run_build w t _ C ?_,c2⟩
   unfold il at hz
   split at hz
   ·rename_i i hi
    unfold Program.built
    simp only [hi,hu,hz,Mf _ _ hpl]
    rw [e]
    simpa using c1
   ·cases hz
  ·cases hb
 ·rename_i z n' el hz hu
  split at hb
  ·rename_i n hn
   obtain ⟨C,c1,c2⟩:=GU (V:=V) ps (parts.toList.map fun x=>(x.1,a.eval x.2)) _ cs z.cells hb (qA _) (by simp [h1]) h2
   refine ⟨C,run_build w t _ C ?_,c2⟩
   unfold il at hz
   unfold a8 at hn
   split at hz
   ·rename_i i hi
    split at hn
    ·rename_i i' hi'
     injection hn with hn
     unfold Program.built
     simp only [hi,hu,hz,hi']
     rw [e,hn]
     exact c1
    ·cases hn
   ·cases hz
  ·cases hb
 ·cases hb
theorem qbg (hΓ:Γ.Ok P) {o:Oper} {x:SV} {m:Mem} (hV:aL Γ P al o st.eval st.mem.blk st.mem.rows=some x) (hM:opM al P o st.eval st.mem=some m)
  (h:Rel w0 st V a w) (hp:bH P al st V):o.wp P a w (fun a' w'=>a9 P al w0 (({ st with mem:=m }:St).put o.dst x) a' w') Q:=by
 have same:(o.wp P a w (fun a' w'=>a9 P al w0 (st.put o.dst x) a' w') Q)->opM al P o st.eval st.mem=some st.mem->o.wp P a w (fun a' w'=>a9 P al w0 (({ st with mem:=m }:St).put o.dst x) a' w') Q:=by
  intro hw he
  rw [he] at hM
  injection hM with hM
  subst hM
  exact hw
 have pure_:dJ P o st.eval=some x->opM al P o st.eval st.mem=some st.mem->o.wp P a w (fun a' w'=>a9 P al w0 (({ st with mem:=m }:St).put o.dst x) a' w') Q :=
  fun hv he=>same (Tn hv h hp) he
 have val_:∀ y,(execOp a.eval o).run P w=.ok (.value y) w->aI V x y->opM al P o st.eval st.mem=some st.mem->o.wp P a w (fun a' w'=>a9 P al w0 (({ st with mem:=m }:St).put o.dst x) a' w') Q :=
  fun y hr hd he=>same (Kg hr h hp hd) he
 cases hop:o.op
 case move y =>
  simp only [aL,hop] at hV
  exact val_ (a.eval y) (by simp [execOp,hop,pure]) (h.eval hV) (by simp [opM,bj,bh,hop])
 case assign y =>
  simp only [aL,hop] at hV
  exact val_ (a.eval y) (by simp [execOp,hop,pure]) (h.eval hV) (by simp [opM,bj,bh,hop])
 case pick c y z =>
  simp only [aL,hop] at hV
  split at hV
  ·rename_i t hc
   have hct:a.eval c=.bool t:=h.eval hc
   cases t
   ·exact val_ (a.eval z) (by simp [execOp,hop,hct,asBool,pure,Sem.run]) (h.eval (by simpa using hV)) (by simp [opM,bj,bh,hop])
   ·exact val_ (a.eval y) (by simp [execOp,hop,hct,asBool,pure,Sem.run]) (h.eval (by simpa using hV)) (by simp [opM,bj,bh,hop])
  ·cases hV
 case alloc e =>
  simp only [aL,hop] at hV
  simp only [opM,bj,bh,hop] at hM
  split at hV
  ·rename_i l e' hl
   simp only [hl] at hM
   split at hV
   ·rename_i hee
    subst hee
    injection hV with hV
    subst hV
    cases hlive:st.mem.live[l]? with
    | none=>simp [hlive] at hM
    | some bl =>
     cases bl with
     | true=>simp [hlive] at hM
     | false =>
      simp [hlive] at hM
      subst hM
      have hn:V.b l=none:=by
       cases hb:V.b l with
       | none=>rfl
       | some q=>have:=h.dom l (by simp [hb]);rw [hlive] at this;simp at this
      obtain ⟨d',hmem⟩:=Ni al.a hl
      obtain ⟨z,hz,hblk⟩:=hp d' l e' hmem hn
      obtain ⟨hR,_⟩:=h.newBlock hlive hblk (qA _) e'
      have hrun:(execOp a.eval o).run P w=.ok (.value (.pointer (some ⟨w.heap.size,0,none⟩))) (w.alloc (.cells z.cells e')):=by
       unfold execOp
       rw [hop]
       refine cd ?_
       unfold Instr.alloc
       rw [aD _ _ w w z (Ah hz)]
       simp [newVar,newRow,newObj,pure,Sem.run,bind,Sem.bind]
      unfold Oper.wp
      rw [hrun,Oper.upon_value]
      have hsz:(z.cells.toList).toArray=z.cells:=by simp
      rw [hsz] at hR
      refine ⟨_,hR.put o.dst ⟨w.heap.size,0,by simp,by simp⟩,?_⟩
      refine bH.put (fun d l' e'' hm' hn'=>?_) _ _
      refine hp d l' e'' hm' ?_
      by_cases hll:l'=l
      ·subst hll;exact hn
      ·simpa [hll] using hn'
   ·cases hV
  ·cases hV
 case load t p =>
  simp only [aL,hop] at hV
  split at hV
  ·rename_i l off ag n h1 h2 h3
   split at hV
   ·rename_i cs hcs
    split at hV
    ·rename_i hn
     obtain ⟨y,hy,hd⟩:=Nk h h1 h2 h3 hcs hn hV
     exact val_ y (by unfold execOp;rw [hop];exact cd hy) hd (by simp [opM,bj,bh,hop])
    ·cases hV
   ·cases hV
  ·rename_i r mm i j n h1 h2 h3
   split at hV
   ·rename_i rc hrc
    split at hV
    ·rename_i hk
     split at hV
     ·rename_i y hy
      injection hV with hV
      subst hV
      exact val_ _ (by unfold execOp;rw [hop];exact cd (qaq h h1 h2 hrc hk.1 hk.2 hy)) rfl (by simp [opM,bj,bh,hop])
     ·cases hV
    ·cases hV
   ·cases hV
  ·rename_i r mm i j n h1 h2 h3
   split at hV
   ·rename_i rc hrc
    split at hV
    ·rename_i hk
     injection hV with hV
     subst hV
     exact val_ _ (by unfold execOp;rw [hop];exact cd (qar h h1 h2 h3 hrc hk.1 hk.2.1 hk.2.2)) rfl (by simp [opM,bj,bh,hop])
    ·cases hV
   ·cases hV
  ·rename_i l off n i n' h1 h2 h3
   split at hV
   ·rename_i cs hcs
    split at hV
    ·rename_i k L hL
     split at hV
     ·rename_i hn
      injection hV with hV
      subst hV
      exact val_ _ (by unfold execOp;rw [hop];exact cd (qhZ h h1 h2 hcs hL hn)) rfl (by simp [opM,bj,bh,hop])
     ·cases hV
    ·cases hV
   ·cases hV
  ·cases hV
 case makeFunc fn first captured =>
  have he:opM al P o st.eval st.mem=some st.mem:=by simp [opM,bj,bh,hop]
  simp only [aL,hop] at hV
  split at hV
  ·rename_i f y hf hc
   split at hV
   ·rename_i l off h1
    split at hV
    case h_2=>cases hV
    rename_i hcap
    have hcap':f<jy:=Nat.le_of_ble_eq_true hcap
    injection hV with hV
    subst hV
    obtain ⟨b,o',hb,hy⟩:=h.eval h1
    refine val_ (.func (.func f) #[.pointer (some ⟨b,o'+off,none⟩)] #[]) ?_ ⟨b,o',hb,by unfold jv;rw [if_pos hcap']⟩ he
    have e1:first=#[y]:=by cases first;simp_all
    have e2:captured=#[]:=by cases captured;simp_all
    subst e1 e2
    unfold execOp
    rw [hop]
    refine cd ?_
    simp [Instr.makeFunc,hy,pure]
   ·exact pure_ hV he
  ·rename_i f y hf hc
   split at hV
   ·rename_i l off h1
    injection hV with hV
    subst hV
    obtain ⟨b,o',hb,hy⟩:=h.eval h1
    refine val_ (.func (.func f) #[] #[.pointer (some ⟨b,o'+off,none⟩)]) ?_ ⟨b,o',hb,by unfold jv;rw [if_neg (Nat.not_lt.2 (Nat.le_add_left _ _)),Nat.add_sub_cancel]⟩ he
    have e1:first=#[]:=by cases first;simp_all
    have e2:captured=#[y]:=by cases captured;simp_all
    subst e1 e2
    unfold execOp
    rw [hop]
    refine cd ?_
    simp [Instr.makeFunc,hy,pure]
   ·exact pure_ hV he
  ·exact pure_ hV he
 case slice t y lo hi mx =>
  have he:opM al P o st.eval st.mem=some st.mem:=by simp [opM,bj,bh,hop]
  simp only [aL,hop] at hV
  split at hV
  ·rename_i s h1 h2
   split at hV
   ·rename_i l u hl hu
    cases hb:decide (0<=l)&&(decide (l<=u)&&decide (u<=(s.size:Int)))
    ·simp [hb] at hV
    ·rw [hb] at hV
     injection hV with hV
     subst hV
     simp only [Bool.and_eq_true,decide_eq_true_eq] at hb
     refine val_ _ ?_ rfl he
     unfold execOp
     rw [hop]
     refine cd ?_
     rw [show a.eval y=.string s from h.eval h1]
     exact Um h2 (lq h hl) (lq h hu) hb.1 hb.2.1 hb.2.2
   ·cases hV
  ·rename_i r e h1 h2
   split at hV
   case h_2=>cases hV
   rename_i rc n hrc hsz
   split at hV
   case h_2=>cases hV
   rename_i l u hl hu
   split at hV
   case isFalse=>cases hV
   rename_i hc
   cases hb:decide (0<=l)&&(decide (l<=u)&&decide (u<=(rc.L.length:Int)))
   ·simp [hb] at hV
   rw [hb] at hV
   injection hV with hV
   subst hV
   simp only [Bool.and_eq_true,decide_eq_true_eq] at hb
   obtain ⟨uu,huu,_⟩:=h.rows r rc hrc
   obtain ⟨y',hy',hd⟩:=qba h hc.2 hrc huu hb.1 hb.2.1 hb.2.2 h2 hsz (lq h hl) (lq h hu)
   refine val_ y' ?_ hd he
   unfold execOp
   rw [hop]
   refine cd ?_
   rw [show a.eval y=uu from (h.eval h1).2.1 uu huu]
   exact hy'
  ·rename_i r e mx h1 h2
   split at hV
   case h_2=>cases hV
   rename_i n hsz
   split at hV
   ·split at hV
    case h_2=>cases hV
    rename_i rc hiO hh mm hrc hl hm
    cases hb:decide (0<=hh)&&(decide (hh=mm)&&decide (hh<=(rc.L.length:Int)))
    ·simp [hb] at hV
    rw [hb] at hV
    injection hV with hV
    subst hV
    simp only [Bool.and_eq_true,decide_eq_true_eq] at hb
    obtain ⟨hb0,rfl,hb2⟩:=hb
    obtain ⟨uu,huu,_⟩:=h.rows _ rc hrc
    rcases lq h hl with ⟨q,_⟩|⟨yh,k,q,hyh⟩
    ·cases q
    injection q with q
    subst q
    rcases lq h hm with ⟨q,_⟩|⟨ym,k2,q,hym⟩
    ·cases q
    injection q with q
    subst q
    obtain ⟨y',hy',hd⟩:=qa7 h hrc huu hb0 hb2 h2 hsz hym hyh
    refine val_ y' ?_ hd he
    unfold execOp
    rw [hop]
    refine cd ?_
    rw [show a.eval y=uu from (h.eval h1).2.1 uu huu]
    exact hy'
   split at hV
   case h_2=>cases hV
   rename_i hz
   injection hV with hV
   subst hV
   simp only [Bool.and_eq_true] at hz
   obtain ⟨ad,hrun⟩:=qbD (w:=w) h2 hsz (h.eval h1).2.2 h hz.1 hz.2.1 hz.2.2
   refine val_ _ ?_ (show aI V .nul _ from ⟨ad,rfl⟩) he
   unfold execOp
   rw [hop]
   exact cd hrun
  ·exact pure_ hV he
 case indexAddr t y z =>
  simp only [aL,hop] at hV
  split at hV
  ·rename_i r k i e h1 h2 h3
   split at hV
   ·rename_i rc n hrc hsz
    split at hV
    ·rename_i hk
     cases hb:decide (0<=i)&&decide (i<(rc.L.length:Int))
     ·simp [hb] at hV
     ·rw [hb] at hV
      injection hV with hV
      subst hV
      simp only [Bool.and_eq_true,decide_eq_true_eq] at hb
      obtain ⟨u,hu,hd⟩:=qdR h h1 h2 h3 hsz hrc hb.1 hb.2
      exact val_ u (by unfold execOp;rw [hop];exact cd hu) hd (by simp [opM,bj,bh,hop])
    ·cases hV
   ·cases hV
  ·rename_i l off k i n e h1 h2 h3
   split at hV
   ·rename_i s hs
    split at hV
    ·rename_i y' hy'
     cases hb:decide (0<=i)&&decide (i<(n:Int))
     ·simp [hb] at hV
     ·rw [hb] at hV
      injection hV with hV
      subst hV
      simp only [Bool.and_eq_true,decide_eq_true_eq] at hb
      obtain ⟨b,o',hb',hy⟩:=h.eval h1
      refine val_ _ (by unfold execOp;rw [hop];exact cd (qje hy (h.eval h2) h3 hs hb.1 hb.2)) ?_ (by simp [opM,bj,bh,hop])
      unfold tM at hy'
      split at hy'
      ·injection hy' with hy'
       subst hy'
       exact ⟨b,o',hb',by rw [Nat.add_assoc]⟩
      ·split at hy'
       ·injection hy' with hy'
        subst hy'
        exact ⟨b,o',hb',hb.1,hb.2,by rw [Nat.mul_one,Nat.add_assoc]⟩
       ·cases hy'
    ·cases hV
   ·cases hV
  ·rename_i r mm lo hi k i e h1 h2 h3
   split at hV
   ·rename_i rc n hrc hsz
    split at hV
    ·rename_i hk
     obtain ⟨hk,rfl⟩:=hk
     cases hb:decide (0<=i)&&decide (i<hi - lo)
     ·simp [hb] at hV
     ·rw [hb] at hV
      injection hV with hV
      subst hV
      simp only [Bool.and_eq_true,decide_eq_true_eq] at hb
      obtain ⟨u,hu,hd⟩:=qbc h h1 h2 h3 hsz hrc hb.1 hb.2
      exact val_ u (by unfold execOp;rw [hop];exact cd hu) hd (by simp [opM,bj,bh,hop])
    ·cases hV
   ·cases hV
  ·cases hV
 case nilCheck y =>
  have he:opM al P o st.eval st.mem=some st.mem:=by simp [opM,bj,bh,hop]
  simp only [aL,hop] at hV
  split at hV
  ·rename_i l off h1
   injection hV with hV
   subst hV
   have hd:=h.eval h1
   obtain ⟨b,o',hb,hy⟩:=hd
   exact val_ (a.eval y) (by unfold execOp;rw [hop];simp only;rw [hy];rfl) ⟨b,o',hb,hy⟩ he
  ·exact pure_ hV he
 case index t y z =>
  have he:opM al P o st.eval st.mem=some st.mem:=by simp [opM,bj,bh,hop]
  simp only [aL,hop] at hV
  split at hV
  ·rename_i s k i h1 h2 h3
   cases hb:decide (0<=i)&&decide (i<(s.size:Int))
   ·simp [hb] at hV
   ·rw [hb] at hV
    injection hV with hV
    subst hV
    simp only [Bool.and_eq_true,decide_eq_true_eq] at hb
    refine val_ _ ?_ rfl he
    unfold execOp
    rw [hop]
    refine cd ?_
    rw [show a.eval y=.string s from h.eval h1,show a.eval z=.int k i from h.eval h2]
    have hlt:i.toNat<s.size:=by omega
    unfold Instr.index
    rw [aD _ _ w w (k,i) rfl]
    simp only
    rw [aD _ _ w w _ (run_underlying h3 w)]
    simp only [hb.1,if_true,aa]
    have hg:s[i.toNat]?=some s[i.toNat]:=by rw [getElem?_pos s i.toNat hlt]
    rw [hg]
    rfl
  ·rename_i cs k i n e h1 h2 h3
   split at hV
   ·rename_i ag s ha hs
    cases hb:decide (0<=i)&&decide (i<(n:Int))
    ·simp [hb] at hV
    ·rw [hb] at hV
     simp only [cond_true] at hV
     split at hV
     ·simp only [Bool.and_eq_true,decide_eq_true_eq] at hb
      obtain ⟨u,hu,hd⟩:=qjr (P:=P) (w:=w) (k:=k) (h.eval h1) h3 ha hs hb.1 hb.2 hV
      refine val_ u ?_ hd he
      unfold execOp
      rw [hop]
      refine cd ?_
      rw [show a.eval z=.int k i from h.eval h2]
      exact hu
     ·cases hV
   ·cases hV
  ·exact pure_ hV he
 case store t p v =>
  simp only [aL,hop] at hV
  injection hV with hV
  subst hV
  have hM':bj P o st.eval st.mem.blk=some m.blk/\st.mem.live=m.live/\st.mem.rows=m.rows:=by
   simp only [opM,bh,hop] at hM
   split at hM
   ·rename_i b l h1 h2
    injection hM with hM
    injection h2 with h2
    subst hM
    exact ⟨h1,h2,rfl⟩
   ·cases hM
  obtain ⟨hM1,hM2,hM3⟩:=hM'
  simp only [bj,hop] at hM1
  split at hM1
  ·rename_i l off n h1 h2
   split at hM1
   ·rename_i xs cs h3 h4
    split at hM1
    ·rename_i rr hrr
     split at hM1
     case isFalse=>cases hM1
     rename_i hc
     injection hM1 with hM1
     obtain ⟨hle,hreq⟩:=Bq _ _ _ _ hrr
     obtain ⟨mb,ml,mr⟩:=m
     simp only at hM1 hM2 hM3
     rw [hreq,hc.1] at hM1
     rw [hc.1] at hle
     subst hM1 hM2 hM3
     obtain ⟨w',hr,hR⟩:=Uq h h1 h2 h3 h4 hc.1 hle hc.2
     have hrun:(execOp a.eval o).run P w=.ok .skip w':=by
      unfold execOp
      rw [hop]
      simp only
      rw [aD _ _ w w' () hr]
      rfl
     unfold Oper.wp
     rw [hrun,Oper.upon_skip]
     refine ⟨V,hR.put o.dst rfl,bH.put (fun d l' e hm' hn'=>?_) _ _⟩
     obtain ⟨z,hz,hb⟩:=hp d l' e hm' hn'
     refine ⟨z,hz,?_⟩
     have hne:l≠l':=by
      rintro rfl
      obtain ⟨b,o',hb',_⟩:=h.eval h1
      rw [hn'] at hb'
      cases hb'
     simp only
     rw [List.getElem?_set_ne hne]
     exact hb
    ·cases hM1
   ·cases hM1
  ·cases hM1
 case fieldAddr s p f =>
  simp only [aL,hop] at hV
  split at hV
  ·rename_i l off fs h1 h2
   split at hV
   ·rename_i fd hfd
    split at hV
    ·rename_i n hn
     injection hV with hV
     subst hV
     obtain ⟨y,hy,hd⟩:=qhF h h1 h2 hfd hn
     exact val_ y (by unfold execOp;rw [hop];exact cd hy) hd (by simp [opM,bj,bh,hop])
    ·cases hV
   ·cases hV
  ·rename_i r mm i j fs h1 h2
   split at hV
   ·rename_i fd hfd
    split at hV
    ·rename_i n hn
     split at hV
     ·rename_i rc hrc
      injection hV with hV
      subst hV
      obtain ⟨y,hy,hd⟩:=qas h h1 ⟨rc,hrc⟩ h2 hfd hn
      exact val_ y (by unfold execOp;rw [hop];exact cd hy) hd (by simp [opM,bj,bh,hop])
     ·cases hV
    ·cases hV
   ·cases hV
  ·cases hV
 case field t y f =>
  have he:opM al P o st.eval st.mem=some st.mem:=by simp [opM,bj,bh,hop]
  simp only [aL,hop] at hV
  split at hV
  ·rename_i cs fs h1 h2
   split at hV
   ·rename_i fd hfd
    split at hV
    ·rename_i ag n ha hn
     split at hV
     ·rename_i hle
      obtain ⟨u,hu,hd⟩:=qjs (P:=P) (w:=w) (h.eval h1) h2 hfd ha hn hle hV
      exact val_ u (by unfold execOp;rw [hop];exact cd hu) hd he
     ·cases hV
    ·cases hV
   ·cases hV
  ·exact pure_ hV he
 case extract y ix =>
  have he:opM al P o st.eval st.mem=some st.mem:=by simp [opM,bj,bh,hop]
  simp only [aL,hop] at hV
  split at hV
  ·rename_i cs h1
   split at hV
   ·rename_i c hc
    injection hV with hV
    subst hV
    obtain ⟨vs,hy,hd⟩:=h.eval h1
    obtain ⟨u,hu,hd'⟩:=hd.get ix c hc
    refine val_ u ?_ (KB hd') he
    unfold execOp
    rw [hop]
    refine cd ?_
    rw [hy]
    simp [Instr.extract,hu,pure]
   ·cases hV
  ·exact pure_ hV he
 case binOp bop t y z t' =>
  have he:opM al P o st.eval st.mem=some st.mem:=by simp [opM,bj,bh,hop]
  have hbin:∀ (u v:Value) (r:Value),a.eval y=u->a.eval z=v->(eqGuard bop t y z u v).run P w=.ok () w->(binOp bop t u v).run P w=.ok r w->(execOp a.eval o).run P w=.ok (.value r) w:=by
   intro u v r hu hv hg hb
   unfold execOp
   rw [hop]
   refine cd ?_
   rw [hu,hv,aD _ _ w w () hg]
   exact hb
  have guard_int:∀ k n k' n',(eqGuard bop t y z (.int k n) (.int k' n')).run P w=.ok () w:=by
   intro k n k' n'
   unfold eqGuard
   split<;>rfl
  cases bop
  case quo =>
   simp only [aL,hop] at hV
   split at hV
   ·rename_i k n k' b h1 h2
    split at hV
    ·rename_i hk
     subst hk
     by_cases hb:b=0
     ·simp [hb] at hV
     ·have hb':(b==0)=false:=by simpa using hb
      simp [hb'] at hV
      subst hV
      exact val_ _ (hbin _ _ _ (h.eval h1) (h.eval h2) (guard_int _ _ _ _) (by simp [binOp,Op.intDiv,hb,pure])) rfl he
    ·cases hV
   ·cases hV
  case rem =>
   simp only [aL,hop] at hV
   split at hV
   ·rename_i k n k' b h1 h2
    split at hV
    ·rename_i hk
     subst hk
     by_cases hb:b=0
     ·simp [hb] at hV
     ·have hb':(b==0)=false:=by simpa using hb
      simp [hb'] at hV
      subst hV
      exact val_ _ (hbin _ _ _ (h.eval h1) (h.eval h2) (guard_int _ _ _ _) (by simp [binOp,Op.intDiv,hb,pure])) rfl he
    ·cases hV
   ·cases hV
  case shl =>
   simp only [aL,hop] at hV
   split at hV
   ·rename_i k n k' b h1 h2
    by_cases hb:b<0
    ·simp [hb] at hV
    ·simp [hb] at hV
     subst hV
     exact val_ _ (hbin _ _ _ (h.eval h1) (h.eval h2) (guard_int _ _ _ _) (by simp [binOp,Op.shift,hb,pure])) rfl he
   ·cases hV
  case shr =>
   simp only [aL,hop] at hV
   split at hV
   ·rename_i k n k' b h1 h2
    by_cases hb:b<0
    ·simp [hb] at hV
    ·simp [hb] at hV
     subst hV
     exact val_ _ (hbin _ _ _ (h.eval h1) (h.eval h2) (guard_int _ _ _ _) (by simp [binOp,Op.shift,hb,pure])) rfl he
   ·cases hV
  all_goals
   simp only [aL,hop] at hV
   split at hV
   ·rename_i k n k' b h1 h2
    split at hV
    ·rename_i hk
     subst hk
     split at hV
     ·rename_i r hr
      injection hV with hV
      subst hV
      exact val_ _ (hbin _ _ _ (h.eval h1) (h.eval h2) (guard_int _ _ _ _) (qdO hr)) rfl he
     ·cases hV
    ·cases hV
   ·rename_i xs ys h1 h2
    unfold Ql at hV
    first
     | cases hV
     | (simp only at hV
        split at hV
        · rename_i r hr
          injection hV with hV
          subst hV
          first
            | (obtain ⟨g1,g2⟩:=hΓ.eqv.1 t _ _ r hr w .eql y z (.inl rfl)
               refine val_ _ (hbin _ _ _ (h.eval h1) (h.eval h2) (by simpa using g1) ?_) rfl he
               simp only [binOp]
               rw [aD _ _ w w r (by simpa using g2)]
               rfl)
            | (obtain ⟨g1,g2⟩:=hΓ.eqv.1 t _ _ r hr w .neq y z (.inr rfl)
               refine val_ _ (hbin _ _ _ (h.eval h1) (h.eval h2) (by simpa using g1) ?_) rfl he
               simp only [binOp]
               rw [aD _ _ w w r (by simpa using g2)]
               rfl)
        · cases hV)
   ·rename_i sa sb h1 h2
    first
     | exact pure_ hV he
     | (cases hb:Nat.ble (sa.size+sb.size) 9223372036854775807
        · rw [hb] at hV;cases hV
        · rw [hb] at hV
          injection hV with hV
          subst hV
          exact val_ _ (hbin _ _ _ (h.eval h1) (h.eval h2) rfl (Up (Int.ofNat_le.2 (Nat.le_of_ble_eq_true hb)))) rfl he)
   ·rename_i l off h1 h2
    obtain ⟨pb,po,hpb,hpy⟩:=h.eval h1
    have hpz:a.eval z=.pointer none:=h.eval h2
    split at hV
    all_goals first
     | contradiction
     | (rename_i el hu _
        injection hV with hV
        subst hV
        first
          | exact val_ _ (hbin _ _ _ hpy hpz rfl (Mc hu)) rfl he
          | exact val_ _ (hbin _ _ _ hpy hpz rfl (Ma hu)) rfl he)
     | (rename_i el hu
        injection hV with hV
        subst hV
        first
          | exact val_ _ (hbin _ _ _ hpy hpz rfl (Mc hu)) rfl he
          | exact val_ _ (hbin _ _ _ hpy hpz rfl (Ma hu)) rfl he)
   ·rename_i r h1 h2
    have hpz:a.eval z=.slice none 0 0:=h.eval h2
    split at hV
    case h_2=>cases hV
    rename_i g b hq
    cases g
    ·cases hV
    injection hV with hV
    subst hV
    obtain ⟨u,e1,_,e2,e3⟩:=qau h hq h1 (z:=z)
    exact val_ _ (hbin _ _ _ e1 hpz e2 e3) rfl he
   ·exact pure_ hV he
 case unOp uop t y =>
  have he:opM al P o st.eval st.mem=some st.mem:=by simp [opM,bj,bh,hop]
  cases uop
  case xor =>
   simp only [aL,hop] at hV
   split at hV
   ·rename_i n h1
    injection hV with hV
    subst hV
    refine val_ _ ?_ rfl he
    unfold execOp
    rw [hop]
    refine cd ?_
    rw [show a.eval y=.int .i64 n from h.eval h1,cF,<- Tc]
    rfl
   ·rename_i n h1
    injection hV with hV
    subst hV
    refine val_ _ ?_ rfl he
    unfold execOp
    rw [hop]
    refine cd ?_
    rw [show a.eval y=.int .u64 n from h.eval h1,cF,<- Tb]
    rfl
   ·exact pure_ hV he
  all_goals
   (simp only [aL,hop] at hV
    exact pure_ hV he)
 case buildSlice t n parts =>
  have he:opM al P o st.eval st.mem=some st.mem:=by simp [opM,bj,bh,hop]
  simp only [aL,hop] at hV
  split at hV
  case h_2=>cases hV
  rename_i T ps hT0 hps
  split at hV
  case h_2=>cases hV
  rename_i cells hfill
  split at hV
  case h_2=>cases hV
  rename_i hb
  injection hV with hV
  subst hV
  refine same ?_ he
  obtain ⟨i,hT⟩:=lj hT0
  have hrun:=Hx (a:=a) (w:=w) hop hT (BY h _ _ hps) (Nat.le_of_ble_eq_true hb) hfill
  obtain ⟨V',hle,hR',hq',hb'⟩:=h.addLit cells T.e
  unfold Oper.wp
  rw [hrun,Oper.upon_value]
  refine ⟨V',hR'.put o.dst ⟨_,hq',rfl⟩,bH.put (fun d l e hm hn=>hp d l e hm ?_) _ _⟩
  rw [<- hb']
  exact hn
 case build t parts =>
  have he:opM al P o st.eval st.mem=some st.mem:=by simp [opM,bj,bh,hop]
  simp only [aL,hop] at hV
  split at hV
  ·exact pure_ hV he
  ·unfold Hy at hV
   split at hV
   ·rename_i ps hps
    split at hV
    ·rename_i cs hcs
     injection hV with hV
     subst hV
     obtain ⟨C,c1,c2⟩:=qiJ h hps hcs
     refine val_ (.agg C) ?_ ⟨C.toList,rfl,c2⟩ he
     unfold execOp
     rw [hop]
     exact cd c1
    ·cases hV
   ·cases hV
 case convert s d y =>
  have he:opM al P o st.eval st.mem=some st.mem:=by simp [opM,bj,bh,hop]
  simp only [aL,hop] at hV
  split at hV
  ·rename_i i n ds k h1 h2 h3
   injection hV with hV
   subst hV
   refine val_ _ ?_ rfl he
   unfold execOp
   rw [hop]
   refine cd ?_
   rw [show a.eval y=.int i n from h.eval h1]
   unfold convert
   rw [aD _ _ w w _ (run_underlying h2 w),aD _ _ w w _ (run_underlying h3 w)]
   simp [Conv.intToInt,cF,pure]
  ·rename_i r e h1 h2 h3
   split at hV
   ·rename_i rc hrc hu
    split at hV
    ·rename_i hk
     injection hV with hV
     subst hV
     refine val_ _ ?_ rfl he
     unfold execOp
     rw [hop]
     refine cd ?_
     obtain ⟨u,huu,hok⟩:=h.rows r rc hrc
     rw [show a.eval y=u from (h.eval h1).2.1 u huu]
     have hr:=hok.reads (by rw [hk];rfl) h.stay_lt
     rw [hk] at hr
     exact BK h2 hu h3 hr
    ·cases hV
   ·cases hV
  ·rename_i r mm lo hi e h1 h2 h3
   split at hV
   ·rename_i rc hrc hu
    split at hV
    ·rename_i hk
     split at hV
     ·rename_i hm1
      subst hm1
      injection hV with hV
      subst hV
      refine val_ _ ?_ rfl he
      unfold execOp
      rw [hop]
      exact cd (qa8 h h1 hrc hk h2 hu h3)
     ·cases hV
    ·cases hV
   ·cases hV
  ·rename_i cs n e h1 h2 h3
   split at hV
   ·rename_i L hu hL
    split at hV
    ·rename_i hn
     injection hV with hV
     subst hV
     refine val_ _ ?_ rfl he
     unfold execOp
     rw [hop]
     refine cd ?_
     obtain ⟨g,hq,hy⟩:=h.eval h1
     rw [hy]
     obtain ⟨⟨te,fz,hg⟩,_⟩:=h.lits g cs hq
     have hcs:=PO hL
     have hn:=Nat.eq_of_beq_eq_true hn
     have hlen:(aq L).length=n:=by simp [aq,hn]
     have hnum:cU (aq L)=L:=by
      unfold cU aq
      rw [List.map_map]
      exact List.map_id' L
     have hgo:∀ (hr:bO (fun _=>True) w [.num .u8] (aq L) (.slice (some ⟨g,0,none⟩) n n)),(convert s d (.slice (some ⟨g,0,none⟩) n n)).run P w=.ok (.string (strOfNums L)) w:=fun hr=>by
      have:=BK (w:=w) h2 hu h3 (K:=fun _=>True) (L:=aq L) hr
      rwa [hnum] at this
     refine hgo (.inr ⟨g,0,n,by rw [hlen],by rw [hlen];exact Nat.le_refl _,fun _=>trivial,fun i j l y hl hy=>?_⟩)
     simp only [aq,List.getElem?_map,Option.map_eq_some_iff] at hl
     obtain ⟨x,hx,rfl⟩:=hl
     cases j with
     | zero =>
      simp [aH,CK.cell,Dat.toI] at hy
      subst hy
      unfold World.cell?
      rw [hg,hcs]
      simp [hx]
     | succ j=>simp [aH] at hy
    ·cases hV
   ·cases hV
  ·exact pure_ hV he
 case call c =>
  obtain ⟨callee,args,at_⟩:=c
  by_cases hcal:∃ f,callee=.value (.func f)
  ·obtain ⟨f,rfl⟩:=hcal
   simp only [aL,hop] at hV
   have he:opM al P o st.eval st.mem=some st.mem:=by simp [opM,bj,bh,hop]
   split at hV
   ·rename_i xs hxs
    split at hV
    ·rename_i q hq
     have hq':=qdB hq
     split at hV
     ·rename_i g r hr
      cases g with
      | false=>cases hV
      | true =>
      injection hV with hV
      subst hV
      exact same (v9 hop rfl hxs hq' (hΓ.rd f _ _ r hr) h hp) he
     ·split at hV
      ·rename_i hls hrs
       split at hV
       ·rename_i g r hr
        cases g with
        | false=>cases hV
        | true =>
        injection hV with hV
        subst hV
        obtain ⟨z,hh,_⟩:=tl h hq' (qv h _ _ hxs)
        have hm:q.m=⟨[],[],[]⟩:=by
         have e1:q.m.blk=[]:=List.eq_nil_of_length_eq_zero (by rw [hh.bl,hls];rfl)
         have e2:q.m.rows=[]:=List.eq_nil_of_length_eq_zero (by rw [hh.rl,hrs];rfl)
         have e3:q.m.live=[]:=by rw [hh.lv,e1];rfl
         obtain ⟨as,m,ls,rs⟩:=q
         obtain ⟨b,l,r⟩:=m
         simp only at e1 e2 e3
         subst e1 e2 e3
         rfl
        have hc:=hΓ.call f _ _ _ _ hr
        rw [hm] at hc
        exact same (v9 hop rfl hxs hq' (by rw [hm];exact hc) h hp) he
       ·cases hV
      ·cases hV
    ·cases hV
   ·cases hV
  ·have he:opM al P o st.eval st.mem=some st.mem:=by
    simp [opM,bj,bh,hop]
   by_cases htm:∃ t,callee=.value (.tmp t)
   ·obtain ⟨tt,rfl⟩:=htm
    simp only [aL,hop] at hV
    split at hV
    case h_3=>cases hV
    case h_2 f l off hf =>
     split at hV
     case h_2=>cases hV
     rename_i hcap hxs
     have hcap':jy<=f:=Nat.le_of_ble_eq_true hcap
     split at hV
     case h_2=>cases hV
     rename_i q hq
     split at hV
     case h_2=>cases hV
     rename_i g r hr
     cases g with
     | false=>cases hV
     | true =>
     injection hV with hV
     subst hV
     refine same (qiC hop (f:=f - jy) (l:=l) (off:=off) ?_ hxs hq (hΓ.rd _ _ _ r hr) h hp) he
     rw [Nat.sub_add_cancel hcap']
     exact h.eval hf
    rename_i f hf
    split at hV
    case h_2=>cases hV
    rename_i xs hxs
    split at hV
    case h_2=>cases hV
    rename_i q hq
    split at hV
    case h_2=>cases hV
    rename_i g r hr
    cases g with
    | false=>cases hV
    | true =>
    injection hV with hV
    subst hV
    exact same (v9 hop (h.eval hf) hxs (Nr hq _ _) (hΓ.rd f _ _ r hr) h hp) he
   by_cases hlen:callee=.builtin .len
   ·subst hlen
    simp only [aL,hop] at hV
    split at hV
    ·rename_i y t hy ht
     split at hV
     ·rename_i r e h1 h2
      split at hV
      ·rename_i rc hrc
       injection hV with hV
       subst hV
       exact val_ _ (Ns hop hy ht (fun ty=>qdC h h1 h2 hrc)) rfl he
      ·cases hV
     ·rename_i r n lo hi e h1 h2
      split at hV
      ·rename_i rc hrc
       injection hV with hV
       subst hV
       exact val_ _ (Ns hop hy ht (fun ty=>qbb h h1 h2 hrc)) rfl he
      ·cases hV
     ·exact pure_ hV he
    ·cases hV
   ·refine pure_ ?_ he
    rw [<- hV]
    unfold aL
    rw [hop]
    cases callee with
    | value f =>
     cases f with
     | func f=>exact absurd ⟨f,rfl⟩ hcal
     | tmp t=>exact absurd ⟨t,rfl⟩ htm
     | _=>rfl
    | invoke r m=>rfl
    | builtin b=>cases b<;>first|rfl|exact absurd rfl hlen
 all_goals (simp only [aL,hop] at hV;exact pure_ hV (by simp [opM,bj,bh,hop]))
end
end Go.Sx
