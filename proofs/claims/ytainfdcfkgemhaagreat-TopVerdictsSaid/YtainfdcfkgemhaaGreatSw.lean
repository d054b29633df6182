/-
  Numbers of 64 and of 128 bits,digit by digit;places,turns,ways,boxes: what doesn't meet is on one side. No condition.
-/
import Derived.Test.YtainfdcfkgemhaaGreatSx
import Derived.Shelf.Spec.BitsCarry
namespace Go.Sx
abbrev Wd (a b:Int):Value:=.agg #[.int .i64 a,.int .u64 b]
def bd (n:Int):Bool:=decide (-9223372036854775808<=n/\n<9223372036854775808)
def a8 (n:Int):Bool:=decide (0<=n/\n<18446744073709551616)
def bO (a b:Int):Bool:=bd a&&a8 b
def wv (a b:Int):Int:=a*18446744073709551616+b
def okW (n:Int):Bool:=decide (-170141183460469231731687303715884105728<=n/\n<170141183460469231731687303715884105728)
def aY (n:Int):Int:=bif okW n then n / 18446744073709551616 else 0
def aZ (n:Int):Int:=bif okW n then n % 18446744073709551616 else 0
abbrev Wn (n:Int):Value:=Wd (aY n) (aZ n)
def cw (m n:Int):Int:=bif decide (m<n) then -1 else bif decide (n<m) then 1 else 0
def je (n:Int):Int:=bif bd n then n else 0
def gj (x y c:Int):Int:=(x+y+c) % 18446744073709551616
def fh (x y c:Int):Int:=(x+y+c) / 18446744073709551616
theorem wrU (n:Int):IntKind.u64.wrap n=n % 18446744073709551616:=(cA true .u64 n).symm
theorem dQ (n:Int):IntKind.i64.wrap n=if n % 18446744073709551616>=9223372036854775808 then n % 18446744073709551616 - 18446744073709551616 else n % 18446744073709551616:=by
 rw [<- cA true .i64 n]
 simp only [wr]
 split<;>simp_all<;>omega
def wI (n:Int):Int:=IntKind.i64.wrap n
theorem AO {n:Int} (h:-9223372036854775808<=n/\n<9223372036854775808):IntKind.i64.wrap n=n:=by
 rw [dQ];split<;>omega
theorem aM {n:Int} (h:-9223372036854775808<=n/\n<9223372036854775808):wI n=n:=AO h
theorem j7 {n:Int} (h:0<=n/\n<18446744073709551616):IntKind.u64.wrap n=n:=by
 rw [wrU];omega
theorem dX {n:Int}:bd n=true↔-9223372036854775808<=n/\n<9223372036854775808:=by simp [bd]
theorem eV {n:Int}:a8 n=true↔0<=n/\n<18446744073709551616:=by simp [a8]
theorem iI {a b:Int}:bO a b=true↔(-9223372036854775808<=a/\a<9223372036854775808)/\0<=b/\b<18446744073709551616:=by simp [bO,dX,eV]
theorem eX (n:Int):bd (IntKind.i64.wrap n)=true:=by rw [dX,dQ];split<;>omega
theorem nJ (n:Int):a8 (IntKind.u64.wrap n)=true:=by rw [eV,wrU];omega
theorem j8 {a b c d:Int} (h1:a=c) (h2:b=d):Wd a b=Wd c d:=by rw [h1,h2]
theorem km {n:Int} (h1:-170141183460469231731687303715884105728<=n) (h2:n<170141183460469231731687303715884105728):okW n=true/\aY n=n / 18446744073709551616/\aZ n=n % 18446744073709551616:=by
 have:okW n=true:=by simp [okW,h1,h2]
 simp [aY,aZ,this]
theorem qa7 {n:Int} (h:n< -170141183460469231731687303715884105728\/170141183460469231731687303715884105728<=n):okW n=false/\aY n=0/\aZ n=0:=by
 have:okW n=false:=by simp [okW];omega
 simp [aY,aZ,this]
theorem iY {n:Int} (h:okW n=true):wv (aY n) (aZ n)=n/\bO (aY n) (aZ n)=true:=by
 have h':-170141183460469231731687303715884105728<=n/\n<170141183460469231731687303715884105728:=by simpa [okW] using h
 obtain ⟨_,k2,k3⟩:=km h'.1 h'.2
 rw [iI,k2,k3]
 unfold wv
 omega
theorem xz (n:Int):bO (aY n) (aZ n)=true:=by
 cases h:okW n with
 | true=>exact (iY h).2
 | false=>simp [aY,aZ,h,iI]
theorem wM {n:Int} (h:bd n=true):okW n=true:=by
 rw [dX] at h
 simp only [okW,decide_eq_true_eq];omega
theorem qit (x:Int) (h0:0<=x) (h1:x<18446744073709551616):((BitVec.ofInt 64 x &&& BitVec.ofInt 64 4294967295).toNat:Int)=x % 4294967296:=by
 obtain ⟨n,rfl⟩:=Int.eq_ofNat_of_zero_le h0
 have e:(BitVec.ofInt 64 4294967295)=BitVec.ofNat 64 (2 ^ 32 - 1):=by decide
 rw [e,BitVec.toNat_and,BitVec.ofInt_natCast,BitVec.toNat_ofNat,BitVec.toNat_ofNat]
 rw [Nat.mod_eq_of_lt (a:=2 ^ 32 - 1) (by decide),Nat.and_two_pow_sub_one_eq_mod]
 show ((n % 18446744073709551616 % 4294967296:Nat):Int)=_
 omega
theorem sO (a b m n:Int) (ha:0<=a) (ha':a<m) (hb:0<=b) (hb':b<n):0<=a*b/\a*b<=(m - 1)*(n - 1):=by
 refine ⟨Int.mul_nonneg ha hb,?_⟩
 exact Int.mul_le_mul (by omega) (by omega) hb (by omega)
theorem qbt (x y:Int) :
  (x / 4294967296*(y / 4294967296)+(x / 4294967296*(y % 4294967296)+x % 4294967296*(y % 4294967296) / 4294967296) / 4294967296 +
   ((x / 4294967296*(y % 4294967296)+x % 4294967296*(y % 4294967296) / 4294967296) % 4294967296+x % 4294967296*(y / 4294967296)) / 4294967296)=x*y / 18446744073709551616:=by
 have ex:=Int.mul_ediv_add_emod x 4294967296
 have ey:=Int.mul_ediv_add_emod y 4294967296
 generalize x / 4294967296=p at *
 generalize x % 4294967296=q at *
 generalize y / 4294967296=r at *
 generalize y % 4294967296=s at *
 have e:x*y=18446744073709551616*(p*r)+4294967296*(p*s)+4294967296*(q*r)+q*s:=by
  rw [<- ex,<- ey]
  simp only [Int.add_mul,Int.mul_add]
  have h1:4294967296*p*(4294967296*r)=18446744073709551616*(p*r):=by
   rw [Int.mul_assoc,Int.mul_left_comm p,<- Int.mul_assoc];rfl
  have h2:4294967296*p*s=4294967296*(p*s):=Int.mul_assoc _ _ _
  have h3:q*(4294967296*r)=4294967296*(q*r):=Int.mul_left_comm _ _ _
  rw [h1,h2,h3]
  omega
 rw [e]
 generalize p*r=A
 generalize p*s=B
 generalize q*r=C
 generalize q*s=D
 omega
theorem qbs (x y:Int) (hx:a8 x=true) (hy:a8 y=true) :
  let U:=IntKind.u64.wrap
  let A:=fun z:Int=>U ((BitVec.ofInt 64 z &&& BitVec.ofInt 64 4294967295).toNat:Int)
  let S:=fun z:Int=>z.fdiv (2 ^ 32)
  let w0:=U (A x*A y);let t:=U (U (S x*A y)+S w0);let w1:=U (A t+U (A x*S y))
  U (U (U (S x*S y)+S t)+S w1)=x*y / 18446744073709551616/\U (x*y)=x*y % 18446744073709551616:=by
 intro U A S w0 t w1
 show U (U (U (S x*S y)+S (U (U (S x*A y)+S (U (A x*A y)))))+S (U (A (U (U (S x*A y)+S (U (A x*A y))))+U (A x*S y))))=_/\_
 clear w0 t w1
 rw [eV] at hx hy
 have eS:∀ z,S z=z / 4294967296:=by
  intro z
  show z.fdiv (2 ^ 32)=_
  rw [Int.fdiv_eq_ediv_of_nonneg _ (by decide)]
  rfl
 have eU:∀ z,0<=z->z<18446744073709551616->U z=z:=by
  intro z h0 h1
  show IntKind.u64.wrap z=z
  rw [wrU];omega
 have eA:∀ z,0<=z->z<18446744073709551616->A z=z % 4294967296:=by
  intro z h0 h1
  show U _=_
  rw [qit z h0 h1,eU _ (by omega) (by omega)]
 have hcore:=qbt x y
 have hxy:=sO x y 18446744073709551616 18446744073709551616 hx.1 hx.2 hy.1 hy.2
 have e0:U (x*y)=x*y % 18446744073709551616:=wrU _
 have b1:=sO (x % 4294967296) (y % 4294967296) 4294967296 4294967296 (by omega) (by omega) (by omega) (by omega)
 have b2:=sO (x / 4294967296) (y % 4294967296) 4294967296 4294967296 (by omega) (by omega) (by omega) (by omega)
 have b3:=sO (x % 4294967296) (y / 4294967296) 4294967296 4294967296 (by omega) (by omega) (by omega) (by omega)
 have b4:=sO (x / 4294967296) (y / 4294967296) 4294967296 4294967296 (by omega) (by omega) (by omega) (by omega)
 simp only [eS,eA x hx.1 hx.2,eA y hy.1 hy.2]
 rw [e0]
 refine ⟨?_,rfl⟩
 clear e0
 generalize x / 4294967296=p at *
 generalize x % 4294967296=q at *
 generalize y / 4294967296=r at *
 generalize y % 4294967296=s at *
 generalize p*r=B4 at *
 generalize p*s=B2 at *
 generalize q*r=B3 at *
 generalize q*s=B1 at *
 generalize x*y=Z at *
 have h1:U B1=B1:=eU _ (by omega) (by omega)
 have h2:U B2=B2:=eU _ (by omega) (by omega)
 have h3:U (B2+B1 / 4294967296)=B2+B1 / 4294967296:=eU _ (by omega) (by omega)
 have h4:A (B2+B1 / 4294967296)=(B2+B1 / 4294967296) % 4294967296:=eA _ (by omega) (by omega)
 have h5:U B3=B3:=eU _ (by omega) (by omega)
 have h6:U ((B2+B1 / 4294967296) % 4294967296+B3)=(B2+B1 / 4294967296) % 4294967296+B3:=eU _ (by omega) (by omega)
 have h7:U B4=B4:=eU _ (by omega) (by omega)
 have h8:U (B4+(B2+B1 / 4294967296) / 4294967296)=B4+(B2+B1 / 4294967296) / 4294967296:=eU _ (by omega) (by omega)
 have h9:U (B4+(B2+B1 / 4294967296) / 4294967296+((B2+B1 / 4294967296) % 4294967296+B3) / 4294967296)=B4+(B2+B1 / 4294967296) / 4294967296+((B2+B1 / 4294967296) % 4294967296+B3) / 4294967296 :=
  eU _ (by omega) (by omega)
 rw [h1,h2,h3,h4,h5,h6,h7,h8,h9,hcore]
theorem qiz (a b c d:Int) (h1:bO a b=true) (h2:bO c d=true) :
  let lo:=gj b d 0
  let hi:=IntKind.i64.wrap (gj (IntKind.u64.wrap a) (IntKind.u64.wrap c) (fh b d 0))
  (0<=fh b d 0/\fh b d 0<=1) /\
  ((decide (a<0)==decide (c<0))&&(decide (hi<0) != decide (a<0)))=!okW (wv a b+wv c d)/\(okW (wv a b+wv c d)=true->hi=aY (wv a b+wv c d)/\lo=aZ (wv a b+wv c d)):=by
 intro lo hi
 rw [iI] at h1 h2
 obtain ⟨⟨a1,a2⟩,b1,b2⟩:=h1
 obtain ⟨⟨c1,c2⟩,d1,d2⟩:=h2
 have hlo:lo=(b+d) % 18446744073709551616:=by show gj b d 0=_;unfold gj;omega
 generalize hk:fh b d 0=k
 have hk':(b+d<18446744073709551616/\k=0)\/(18446744073709551616<=b+d/\k=1):=by
  rw [<- hk];unfold fh;omega
 have hhi:hi=if (a+c+k) % 18446744073709551616>=9223372036854775808 then (a+c+k) % 18446744073709551616 - 18446744073709551616 else (a+c+k) % 18446744073709551616:=by
  show IntKind.i64.wrap (gj _ _ (fh b d 0))=_
  rw [hk,dQ]
  unfold gj
  rw [wrU,wrU]
  have:(a % 18446744073709551616+c % 18446744073709551616+k) % 18446744073709551616 % 18446744073709551616=(a+c+k) % 18446744073709551616:=by omega
  rw [this]
 clear_value lo hi
 refine ⟨by omega,?_⟩
 by_cases ho:okW (wv a b+wv c d)=true
 ·have ho':-170141183460469231731687303715884105728<=wv a b+wv c d/\wv a b+wv c d<170141183460469231731687303715884105728:=by simpa [okW] using ho
  obtain ⟨_,k2,k3⟩:=km ho'.1 ho'.2
  unfold wv at ho' k2 k3 ⊢
  have e1:hi=aY (a*18446744073709551616+b+(c*18446744073709551616+d)):=by rw [k2,hhi];split<;>omega
  refine ⟨?_,fun _=>⟨e1,by rw [k3,hlo];omega⟩⟩
  unfold wv at ho
  rw [ho,e1,k2]
  rw [Bool.not_true,Bool.and_eq_false_imp]
  intro hs
  have hs':(a<0)↔(c<0):=by simpa using hs
  rw [bne_eq_false_iff_eq,decide_eq_decide]
  omega
 ·have ho0:okW (wv a b+wv c d)=false:=by simpa using ho
  refine ⟨?_,fun h=>absurd h ho⟩
  have ho':¬ (-170141183460469231731687303715884105728<=wv a b+wv c d/\wv a b+wv c d<170141183460469231731687303715884105728):=by simpa [okW] using ho
  rw [ho0,Bool.not_false,Bool.and_eq_true]
  unfold wv at ho'
  have s1:(a<0)↔(c<0):=by omega
  have s2:¬ ((hi<0)↔(a<0)):=by rw [hhi];split<;>omega
  refine ⟨by simpa using s1,?_⟩
  rw [bne_iff_ne,Ne,decide_eq_decide]
  exact s2
theorem qdk (a b:Int) (h1:bO a b=true):bd (IntKind.i64.wrap b)=true/\(aY (IntKind.i64.wrap b)==a&&(aZ (IntKind.i64.wrap b)==b&&true))=bd (wv a b)/\(bd (wv a b)=true->IntKind.i64.wrap b=wv a b):=by
 rw [iI] at h1
 obtain ⟨⟨a1,a2⟩,b1,b2⟩:=h1
 have hw:IntKind.i64.wrap b=if b>=9223372036854775808 then b - 18446744073709551616 else b:=by
  rw [dQ,show b % 18446744073709551616=b by omega]
 rw [hw]
 generalize hn:(if b>=9223372036854775808 then b - 18446744073709551616 else b)=n
 have hn':(9223372036854775808<=b/\n=b - 18446744073709551616)\/(b<9223372036854775808/\n=b):=by
  rw [<- hn];by_cases hh:b>=9223372036854775808
  ·left;simp [hh]<;>omega
  ·right;simp [hh]<;>omega
 obtain ⟨_,k2,k3⟩:=km (n:=n) (by omega) (by omega)
 rw [k2,k3]
 refine ⟨by rw [dX];omega,?_,fun hq=>?_⟩
 ·rw [Bool.and_true,Bool.eq_iff_iff,Bool.and_eq_true,beq_iff_eq,beq_iff_eq,dX]
  unfold wv
  omega
 ·rw [dX] at hq
  unfold wv at hq ⊢
  omega
theorem AS {p q r s:Int} {t u:Bool} (h1:p=r) (h2:q=s) (h3:t=u):(Value.tuple #[Wd p q,.bool t])=.tuple #[Wd r s,.bool u]:=by rw [h1,h2,h3]
theorem inB {p r:Int} {t u:Bool} (h1:p=r) (h3:t=u):(Value.tuple #[.int .i64 p,.bool t])=.tuple #[.int .i64 r,.bool u]:=by rw [h1,h3]
theorem qhK {a b c d:Int} (h1:bO a b=true) (h2:bO c d=true):(bif cw a c != 0 then cw a c else cw b d)=cw (wv a b) (wv c d):=by
 rw [iI] at h1 h2
 unfold cw wv
 by_cases p1:a<c
 ·have q1:a*18446744073709551616+b<c*18446744073709551616+d:=by omega
  simp [p1,q1]
 ·by_cases p2:c<a
  ·have q1:¬ a*18446744073709551616+b<c*18446744073709551616+d:=by omega
   have q2:c*18446744073709551616+d<a*18446744073709551616+b:=by omega
   simp [p1,p2,q1,q2]
  ·have:a=c:=by omega
   subst this
   simp
theorem qbp (a b:Int) (h1:bd a=true) (h2:bd b=true) :
  let U:=IntKind.u64.wrap
  let hi:=bif decide (a<0) then (bif decide (b<0) then U (U (U a*U b / 18446744073709551616 - U b) - U a) else U (U a*U b / 18446744073709551616 - U b)) else (bif decide (b<0) then U (U a*U b / 18446744073709551616 - U a) else U a*U b / 18446744073709551616)
  Wd (IntKind.i64.wrap hi) (U a*U b % 18446744073709551616)=Wn (a*b):=by
 intro U hi
 rw [dX] at h1 h2
 have eU:∀ z,U z=z % 18446744073709551616:=wrU
 have eI:∀ z,IntKind.i64.wrap z=if z % 18446744073709551616>=9223372036854775808 then z % 18446744073709551616 - 18446744073709551616 else z % 18446744073709551616:=dQ
 have hab:-85070591730234615865843651857942052864<=a*b/\a*b<=85070591730234615865843651857942052864:=by
  have m1:(a.natAbs:Int)*b.natAbs<=9223372036854775808*9223372036854775808:=Int.mul_le_mul (by omega) (by omega) (by omega) (by omega)
  rw [<- Int.natCast_mul,<- Int.natAbs_mul] at m1
  omega
 obtain ⟨_,k2,k3⟩:=km (n:=a*b) (by omega) (by omega)
 by_cases hA:a<0
 ·by_cases hB:b<0
  ·have hh:hi=U (U (U a*U b / 18446744073709551616 - U b) - U a):=by show (bif decide (a<0) then _ else _)=_;simp [hA,hB]
   rw [hh]
   have ea:U a=a+18446744073709551616:=by rw [eU];omega
   have eb:U b=b+18446744073709551616:=by rw [eU];omega
   have ep:U a*U b=a*b+18446744073709551616*a+18446744073709551616*b+340282366920938463463374607431768211456:=by
    rw [ea,eb,Int.add_mul,Int.mul_add];omega
   rw [ep,ea,eb]
   generalize a*b=Z at *
   refine j8 ?_ ?_
   ·rw [k2,eI,eU,eU];split<;>omega
   ·rw [k3];omega
  ·have hh:hi=U (U a*U b / 18446744073709551616 - U b):=by show (bif decide (a<0) then _ else _)=_;simp [hA,hB]
   rw [hh]
   have ea:U a=a+18446744073709551616:=by rw [eU];omega
   have eb:U b=b:=by rw [eU];omega
   have ep:U a*U b=a*b+18446744073709551616*b:=by
    rw [ea,eb,Int.add_mul]
   rw [ep,eb]
   generalize a*b=Z at *
   refine j8 ?_ ?_
   ·rw [k2,eI,eU];split<;>omega
   ·rw [k3];omega
 ·by_cases hB:b<0
  ·have hh:hi=U (U a*U b / 18446744073709551616 - U a):=by show (bif decide (a<0) then _ else _)=_;simp [hA,hB]
   rw [hh]
   have ea:U a=a:=by rw [eU];omega
   have eb:U b=b+18446744073709551616:=by rw [eU];omega
   have ep:U a*U b=a*b+18446744073709551616*a:=by
    rw [ea,eb,Int.mul_add];omega
   rw [ep,ea]
   generalize a*b=Z at *
   refine j8 ?_ ?_
   ·rw [k2,eI,eU];split<;>omega
   ·rw [k3];omega
  ·have hh:hi=U a*U b / 18446744073709551616:=by show (bif decide (a<0) then _ else _)=_;simp [hA,hB]
   rw [hh]
   have ea:U a=a:=by rw [eU];omega
   have eb:U b=b:=by rw [eU];omega
   rw [ea,eb]
   have hz:0<=a*b:=Int.mul_nonneg (by omega) (by omega)
   generalize a*b=Z at *
   refine j8 ?_ ?_
   ·rw [k2,eI];split<;>omega
   ·rw [k3]
theorem wL {a b:Int} (h1:bd a=true) (h2:bd b=true):okW (a*b)=true:=by
 rw [dX] at h1 h2
 have m1:(a.natAbs:Int)*b.natAbs<=9223372036854775808*9223372036854775808:=Int.mul_le_mul (by omega) (by omega) (by omega) (by omega)
 rw [<- Int.natCast_mul,<- Int.natAbs_mul] at m1
 exact (km (by omega) (by omega)).1
end Go.Sx
namespace Go.Sx
noncomputable def eQ (p:Prop):Bool:=@decide p (Classical.propDecidable p)
theorem nH {p:Prop}:eQ p=true↔p:=by unfold eQ;exact @decide_eq_true_iff p (Classical.propDecidable p)
theorem C7 {p:Prop} (h:p):eQ p=true:=nH.2 h
def c8 (b:Int) (i:Nat):Int:=b / 2 ^ i % 2
def bl (b:Int) (n:Nat):List Int:=(List.range n).map (c8 b)
theorem mq (b:Int) (n:Nat):(bl b n).length=n:=by simp [bl]
theorem P7 (b:Int) (n:Nat):bl b (n+1)=bl b n++[c8 b n]:=by simp [bl,List.range_succ]
theorem na (L:List Int):(aq L).length=L.length:=by simp [aq]
theorem L4 (L:List Int) (x:Int):aq L++[[.n x]]=aq (L++[x]):=by simp [aq]
theorem wl (L:List Int) (i:Nat):(((aq L).getD i []).headD (.n 0)).toI=L.getD i 0:=by
 rcases Nat.lt_or_ge i L.length with h|h
 ·simp [aq,List.getD,h,Dat.toI]
 ·simp [aq,List.getD,h,Dat.toI]
theorem qiu (x:Int) (h0:0<=x) (h1:x<18446744073709551616):((BitVec.ofInt 64 x &&& BitVec.ofInt 64 1).toNat:Int)=x % 2:=by
 obtain ⟨n,rfl⟩:=Int.eq_ofNat_of_zero_le h0
 have e:(BitVec.ofInt 64 1)=BitVec.ofNat 64 (2 ^ 1 - 1):=by decide
 rw [e,BitVec.toNat_and,BitVec.ofInt_natCast,BitVec.toNat_ofNat,BitVec.toNat_ofNat]
 rw [Nat.mod_eq_of_lt (a:=2 ^ 1 - 1) (by decide),Nat.and_two_pow_sub_one_eq_mod]
 show ((n % 18446744073709551616 % 2:Nat):Int)=_
 omega
def bu (n i:Int):Int:=IntKind.u64.wrap ((BitVec.ofInt 64 (n.fdiv (2 ^ (min i.toNat 64))) &&& BitVec.ofInt 64 1).toNat:Int)
theorem PR (b:Int) (h0:0<=b) (h1:b<18446744073709551616) (i:Nat) (hi:i<64):bu b i=c8 b i:=by
 unfold bu c8
 have hm:min (i:Int).toNat 64=i:=by omega
 have hp:(0:Int)<2 ^ i:=Int.pow_pos (by decide)
 rw [hm,Int.fdiv_eq_ediv_of_nonneg _ (by omega)]
 have d0:0<=b / 2 ^ i:=Int.ediv_nonneg h0 (by omega)
 have d1:b / 2 ^ i<=b:=Int.ediv_le_self _ h0
 generalize b / 2 ^ i=y at *
 rw [qiu _ d0 (by omega),wrU]
 omega
def bx (b i:Int):Int:=IntKind.i64.wrap (bu b i)
theorem qh0 (b:Int) (h0:0<=b) (h1:b<18446744073709551616) (i:Nat) (hi:i<64):bx b i=c8 b i:=by
 unfold bx
 rw [PR b h0 h1 i hi]
 unfold c8
 exact AO (by omega)
theorem uJ (j:Nat) (h:j<1000):IntKind.i64.wrap ((j:Int)+1)=((j+1:Nat):Int):=by
 rw [dQ];split<;>omega
def ke (n:Nat):Bool:=decide ((n+1)*8<=140737488355328/\n+1<=9223372036854775807)
theorem L8 {n:Nat} (h:n<=1000000):ke n=true:=by unfold ke;exact decide_eq_true (by omega)
theorem P8 {α:Type} (b:Int) (h0:0<=b) (h1:b<18446744073709551616) (E:Nat->Int->List (List Dat)->Option α) (X:List (List Dat)->Option α)
  (st:∀ k i R,E (k+1) i R=bif decide (i<64) then (bif decide (i<0) then none else bif ke R.length then E k (IntKind.i64.wrap (i+1)) (R++[[.n (bx b i)]]) else none) else X R) (P:List Int) (hP:P.length<=1000) :
  ∀ (m j:Nat),j+m=64->E (m+1) j (aq (P++bl b j))=X (aq (P++bl b 64)):=by
 intro m
 induction m with
 | zero =>
  intro j hj
  obtain rfl:j=64:=by omega
  rw [st]
  rfl
 | succ m ih =>
  intro j hj
  rw [st]
  have g1:decide ((j:Int)<64)=true:=by simp;omega
  have g2:decide ((j:Int)<0)=false:=by simp
  have g3:ke (aq (P++bl b j)).length=true:=L8 (by rw [na,List.length_append,mq];omega)
  rw [g1,g2,g3,qh0 b h0 h1 j (by omega),uJ j (by omega),L4,List.append_assoc,<- P7]
  exact ih (j+1) (by omega)
def gT (r i:Int):Int:=IntKind.u64.wrap ((BitVec.ofInt 64 r ||| BitVec.ofInt 64 (IntKind.u64.wrap (1*2 ^ (min i.toNat 64)))).toNat:Int)
def io (f:Nat->Int):Nat->Int
 | 0=>0
 | n+1=>bif f n==1 then io f n+2 ^ n else io f n
theorem AW (f:Nat->Int):∀ n,0<=io f n/\io f n<2 ^ n
 | 0=>by simp [io]
 | n+1=>by
  have:=AW f n
  have hs:(2:Int) ^ (n+1)=2 ^ n*2:=Int.pow_succ 2 n
  have hp:(0:Int)<2 ^ n:=Int.pow_pos (by decide)
  unfold io
  cases f n==1<;>simp only [cond_true,cond_false]<;>omega
theorem MO (r:Int) (k:Nat) (hk:k<64) (h0:0<=r) (h1:r<2 ^ k):gT r k=r+2 ^ k:=by
 obtain ⟨m,rfl⟩:=Int.eq_ofNat_of_zero_le h0
 have e1:((2:Int) ^ k)=((2 ^ k:Nat):Int):=by simp
 rw [e1] at h1 ⊢
 have h1':m<2 ^ k:=by exact_mod_cast h1
 have hk2:(2:Nat) ^ k<=2 ^ 63:=Nat.pow_le_pow_right (by decide) (by omega)
 have e63:(2:Nat) ^ 63=9223372036854775808:=by decide
 have e64:(2:Nat) ^ 64=18446744073709551616:=by decide
 have hm:min (k:Int).toNat 64=k:=by omega
 unfold gT
 rw [hm,e1,Int.one_mul]
 have hw:IntKind.u64.wrap ((2 ^ k:Nat):Int)=((2 ^ k:Nat):Int):=by
  rw [wrU];omega
 rw [hw,BitVec.ofInt_natCast,BitVec.ofInt_natCast,BitVec.toNat_or,BitVec.toNat_ofNat,BitVec.toNat_ofNat,e64]
 rw [Nat.mod_eq_of_lt (by omega:m<18446744073709551616),Nat.mod_eq_of_lt (by omega:2 ^ k<18446744073709551616)]
 have hor:m ||| 2 ^ k=m+2 ^ k:=by
  have:=Nat.two_pow_add_eq_or_of_lt h1' 1
  rw [Nat.mul_one] at this
  rw [Nat.or_comm,<- this,Nat.add_comm]
 rw [hor,wrU]
 omega
def fy (L:List Int):Nat->Int:=io (fun i=>L.getD i 0)
def fG (L:List Int):Nat->Int:=io (fun i=>L.getD (64+i) 0)
def jr (R:List (List Dat)) (i:Int):Bool:=((R.getD i.toNat []).headD (Dat.n 0)).toI==1
def eW (R:List (List Dat)) (i:Int):Bool:=decide (0<=i)&&decide (i<(R.length:Int))
theorem Tt {α:Type} (L:List Int) (hL:L.length=128) (E:Nat->Int->Int->Int->Option α) (X:Int->Int->Option α)
  (st:∀ k lo hi i,E (k+1) lo hi i=bif decide (i<64) then (bif eW (aq L) i then (bif jr (aq L) i then (bif decide (i<0) then none else bif eW (aq L) (IntKind.i64.wrap (64+i)) then (bif jr (aq L) (IntKind.i64.wrap (64+i)) then (bif decide (i<0) then none else E k (gT lo i) (gT hi i) (IntKind.i64.wrap (i+1))) else E k (gT lo i) hi (IntKind.i64.wrap (i+1))) else none)
   else (bif eW (aq L) (IntKind.i64.wrap (64+i)) then (bif jr (aq L) (IntKind.i64.wrap (64+i)) then (bif decide (i<0) then none else E k lo (gT hi i) (IntKind.i64.wrap (i+1))) else E k lo hi (IntKind.i64.wrap (i+1))) else none)) else none) else X lo hi) :
  ∀ (m j:Nat),j+m=64->E (m+1) (fy L j) (fG L j) j=X (fy L 64) (fG L 64):=by
 intro m
 induction m with
 | zero =>
  intro j hj
  obtain rfl:j=64:=by omega
  rw [st]
  rfl
 | succ m ih =>
  intro j hj
  rw [st]
  have hw:IntKind.i64.wrap (64+(j:Int))=((64+j:Nat):Int):=by rw [dQ];split<;>omega
  have g1:decide ((j:Int)<64)=true:=by simp;omega
  have g2:decide ((j:Int)<0)=false:=by simp
  have g3:eW (aq L) (j:Int)=true:=by unfold eW;rw [na,hL];simp;omega
  have g4:eW (aq L) ((64+j:Nat):Int)=true:=by unfold eW;rw [na,hL];simp;omega
  have o3:jr (aq L) (j:Int)=(L.getD j 0==1):=by unfold jr;rw [Int.toNat_natCast,wl]
  have o4:jr (aq L) ((64+j:Nat):Int)=(L.getD (64+j) 0==1):=by unfold jr;rw [Int.toNat_natCast,wl]
  have b1:=AW (fun i=>L.getD i 0) j
  have b2:=AW (fun i=>L.getD (64+i) 0) j
  have o1:gT (fy L j) j=fy L j+2 ^ j:=MO _ j (by omega) b1.1 b1.2
  have o2:gT (fG L j) j=fG L j+2 ^ j:=MO _ j (by omega) b2.1 b2.2
  have n1:fy L (j+1)=bif L.getD j 0==1 then fy L j+2 ^ j else fy L j:=rfl
  have n2:fG L (j+1)=bif L.getD (64+j) 0==1 then fG L j+2 ^ j else fG L j:=rfl
  rw [g1,hw,g3,g4,g2,o1,o2,o3,o4,uJ j (by omega)]
  simp only [cond_true,cond_false]
  have:=ih (j+1) (by omega)
  rw [n1,n2] at this
  cases h1:L.getD j 0==1<;>cases h2:L.getD (64+j) 0==1<;>rw [h1,h2] at this<;>simpa only [cond_true,cond_false] using this
theorem AV (n:Int) (f:Nat->Int) (s:Nat) (h:∀ i,i<64->f i=c8 n (s+i)):∀ k,k<=64->io f k=n / 2 ^ s % 2 ^ k
 | 0,_=>by simp [io,Int.emod_one]
 | k+1,hk=>by
  have ih:=AV n f s h k (by omega)
  have hp:(0:Int)<2 ^ k:=Int.pow_pos (by decide)
  have hs:(2:Int) ^ (k+1)=2 ^ k*2:=Int.pow_succ 2 k
  have e:f k=n / 2 ^ s / 2 ^ k % 2:=by
   rw [h k (by omega)]
   unfold c8
   rw [Int.pow_add,Int.ediv_ediv_of_nonneg (Int.le_of_lt (Int.pow_pos (by decide)))]
  unfold io
  rw [e,ih,hs]
  generalize n / 2 ^ s=y
  generalize (2:Int) ^ k=p at *
  have hy:=Int.mul_ediv_add_emod y p
  have hu:=Int.mul_ediv_add_emod (y / p) 2
  have r0:0<=y % p:=Int.emod_nonneg _ (by omega)
  have r1:y % p<p:=Int.emod_lt_of_pos _ hp
  generalize y % p=r at *
  generalize y / p=q at *
  generalize q / 2=t at *
  have hq:q % 2=0\/q % 2=1:=by omega
  rcases hq with hq|hq<;>rw [hq] at hu ⊢
  ·have:y=r+p*2*t:=by rw [<- hy,<- hu,Int.mul_assoc];simp [Int.add_comm]
   rw [this,Int.add_mul_emod_self_left,Int.emod_eq_of_lt r0 (by omega)]
   rfl
  ·have:y=(r+p)+p*2*t:=by rw [<- hy,<- hu,Int.mul_assoc,Int.mul_add,Int.mul_one];omega
   rw [this,Int.add_mul_emod_self_left,Int.emod_eq_of_lt (by omega) (by omega)]
   rfl
theorem zp (n:Int) (k i:Nat) (h:i<k):(bl n k).getD i 0=c8 n i:=by
 simp [bl,List.getD,h]
theorem qc6 (n:Int):fy (bl n 128) 64=n % 18446744073709551616:=by
 have:=AV n (fun i=>(bl n 128).getD i 0) 0 (fun i hi=>by simp only [Nat.zero_add];exact zp n 128 i (by omega)) 64 (by omega)
 unfold fy
 rw [this]
 have e1:(2:Int) ^ 0=1:=by decide
 have e2:(2:Int) ^ 64=18446744073709551616:=by decide
 rw [e1,e2,Int.ediv_one]
theorem qdv (n:Int):fG (bl n 128) 64=n / 18446744073709551616 % 18446744073709551616:=by
 have:=AV n (fun i=>(bl n 128).getD (64+i) 0) 64 (fun i hi=>zp n 128 (64+i) (by omega)) 64 (by omega)
 unfold fG
 rw [this]
 have e2:(2:Int) ^ 64=18446744073709551616:=by decide
 rw [e2]
theorem qig (b h:Int) (h0:0<=b) (h1:b<18446744073709551616):bl b 64++bl h 64=bl (h*18446744073709551616+b) 128:=by
 have e2:(2:Int) ^ 64=18446744073709551616:=by decide
 refine List.ext_getElem (by simp [bl]) ?_
 intro i hi hi'
 rw [List.getElem_append]
 simp only [mq] at hi'
 split
 ·rename_i hlt
  simp only [mq] at hlt
  simp only [bl,List.getElem_map,List.getElem_range]
  unfold c8
  have hs:(2:Int) ^ 64=2 ^ i*2 ^ (64 - i):=by rw [<- Int.pow_add];congr 1;omega
  have hs2:(2:Int) ^ (64 - i)=2 ^ (63 - i)*2:=by rw [<- Int.pow_succ];congr 1;omega
  have hp:(0:Int)<2 ^ i:=Int.pow_pos (by decide)
  rw [<- e2,hs,hs2,show h*(2 ^ i*(2 ^ (63 - i)*2))=2 ^ i*(h*2 ^ (63 - i)*2) by
   rw [Int.mul_left_comm,Int.mul_assoc h]]
  rw [Int.add_comm,Int.add_mul_ediv_left _ _ (by omega)]
  omega
 ·rename_i hge
  simp only [mq] at hge
  simp only [bl,List.getElem_map,List.getElem_range]
  unfold c8
  have hs:(2:Int) ^ i=2 ^ 64*2 ^ (i - 64):=by rw [<- Int.pow_add];congr 1;omega
  simp only [List.length_map,List.length_range]
  rw [hs,<- Int.ediv_ediv_of_nonneg (by decide),e2]
  congr 2
  omega
theorem Hs (y p:Int) (hp:0<p):y % (p*2)=y % p+p*(y / p % 2):=by
 have hy:=Int.mul_ediv_add_emod y p
 have hu:=Int.mul_ediv_add_emod (y / p) 2
 have r0:0<=y % p:=Int.emod_nonneg _ (by omega)
 have r1:y % p<p:=Int.emod_lt_of_pos _ hp
 generalize y % p=r at *
 generalize y / p=q at *
 generalize q / 2=t at *
 have hq:q % 2=0\/q % 2=1:=by omega
 rcases hq with hq|hq<;>rw [hq] at hu ⊢
 ·have:y=r+p*2*t:=by rw [<- hy,<- hu,Int.mul_assoc];simp [Int.add_comm]
  rw [this,Int.add_mul_emod_self_left,Int.emod_eq_of_lt r0 (by omega)]
  simp
 ·have:y=(r+p)+p*2*t:=by rw [<- hy,<- hu,Int.mul_assoc,Int.mul_add,Int.mul_one];omega
  rw [this,Int.add_mul_emod_self_left,Int.emod_eq_of_lt (by omega) (by omega)]
  simp
def cy (A B:Int) (j:Nat):Int:=(A % 2 ^ j+B % 2 ^ j) / 2 ^ j
theorem Pl (A B:Int) (j:Nat):0<=c8 A j/\c8 A j<=1/\0<=c8 B j/\c8 B j<=1/\0<=cy A B j/\cy A B j<=1/\(c8 A j+c8 B j+cy A B j) % 2=c8 (A+B) j/\(c8 A j+c8 B j+cy A B j) / 2=cy A B (j+1):=by
 have hp:(0:Int)<2 ^ j:=Int.pow_pos (by decide)
 have hs:(2:Int) ^ (j+1)=2 ^ j*2:=Int.pow_succ 2 j
 unfold cy c8
 rw [hs,Hs A _ hp,Hs B _ hp]
 generalize (2:Int) ^ j=p at *
 have a0:=Int.emod_nonneg A (by omega:p≠0)
 have a1:=Int.emod_lt_of_pos A hp
 have b0:=Int.emod_nonneg B (by omega:p≠0)
 have b1:=Int.emod_lt_of_pos B hp
 have eA:=Int.mul_ediv_add_emod A p
 have eB:=Int.mul_ediv_add_emod B p
 have hc0:0<=(A % p+B % p) / p:=Int.ediv_nonneg (by omega) (by omega)
 have hc1:(A % p+B % p) / p<2:=Int.ediv_lt_of_lt_mul hp (by omega)
 have eAB:(A+B) / p=A / p+B / p+(A % p+B % p) / p:=by
  have:A+B=(A % p+B % p)+p*(A / p+B / p):=by rw [Int.mul_add];omega
  rw [this,Int.add_mul_ediv_left _ _ (by omega)]
  have:A % p+B % p+p*(A / p+B / p)=A+B:=by rw [Int.mul_add];omega
  omega
 rw [eAB]
 have e2:(A % p+p*(A / p % 2)+(B % p+p*(B / p % 2))) / (p*2)=(A / p % 2+B / p % 2+(A % p+B % p) / p) / 2:=by
  rw [<- Int.ediv_ediv_of_nonneg (by omega)]
  have:A % p+p*(A / p % 2)+(B % p+p*(B / p % 2))=(A % p+B % p)+p*(A / p % 2+B / p % 2):=by rw [Int.mul_add];omega
  rw [this,Int.add_mul_ediv_left _ _ (by omega)]
  congr 1
  omega
 rw [e2]
 generalize (A % p+B % p) / p=q at *
 refine ⟨by omega,by omega,by omega,by omega,hc0,by omega,by omega,rfl⟩
def sm (X Y:List (List Dat)) (s i:Int):Int:=IntKind.i64.wrap (IntKind.i64.wrap (((X.getD i.toNat []).headD (Dat.n 0)).toI+((Y.getD i.toNat []).headD (Dat.n 0)).toI)+s)
theorem UX (A B:Int) (j:Nat) (hj:j<128):sm (aq (bl A 128)) (aq (bl B 128)) (cy A B j) j=c8 A j+c8 B j+cy A B j:=by
 obtain ⟨h1,h2,h3,h4,h5,h6,_⟩:=Pl A B j
 unfold sm
 rw [Int.toNat_natCast,wl,wl,zp _ _ _ hj,zp _ _ _ hj,dQ,dQ]
 split<;>split<;>omega
theorem UW (A B:Int) (j:Nat) (hj:j<128):(sm (aq (bl A 128)) (aq (bl B 128)) (cy A B j) j).tmod 2=c8 (A+B) j/\IntKind.i64.wrap ((sm (aq (bl A 128)) (aq (bl B 128)) (cy A B j) j).tdiv 2)=cy A B (j+1):=by
 obtain ⟨h1,h2,h3,h4,h5,h6,h7,h8⟩:=Pl A B j
 rw [UX A B j hj]
 refine ⟨by rw [Int.tmod_eq_emod_of_nonneg (by omega),h7],?_⟩
 rw [Int.tdiv_eq_ediv_of_nonneg (by omega),dQ,<- h8];split<;>omega
theorem qaK {α:Type} (A B:Int) (E:Nat->Int->Int->List (List Dat)->Option α) (X:List (List Dat)->Option α)
  (st:∀ k s i R,E (k+1) s i R=bif decide (i<128) then (bif eW (aq (bl A 128)) i then (bif eW (aq (bl B 128)) i then (bif ke R.length then E k (IntKind.i64.wrap ((sm (aq (bl A 128)) (aq (bl B 128)) s i).tdiv 2)) (IntKind.i64.wrap (i+1)) (R++[[.n ((sm (aq (bl A 128)) (aq (bl B 128)) s i).tmod 2)]]) else none) else none) else none) else X R) :
  ∀ (m j:Nat),j+m=128->E (m+1) (cy A B j) j (aq (bl (A+B) j))=X (aq (bl (A+B) 128)):=by
 intro m
 induction m with
 | zero =>
  intro j hj
  obtain rfl:j=128:=by omega
  rw [st]
  have g1:decide (((128:Nat):Int)<128)=false:=by decide
  rw [g1];rfl
 | succ m ih =>
  intro j hj
  obtain ⟨e1,e2⟩:=UW A B j (by omega)
  rw [st,e1,e2]
  have g1:decide ((j:Int)<128)=true:=by simp;omega
  have g3:∀ n,eW (aq (bl n 128)) (j:Int)=true:=fun n=>by unfold eW;rw [na,mq];simp;omega
  have g4:ke (aq (bl (A+B) j)).length=true:=L8 (by rw [na,mq];omega)
  rw [g1,g3,g3,g4,L4,uJ j (by omega),<- P7]
  exact ih (j+1) (by omega)
theorem qhB (A B:Int):cy A B 0=0:=by simp [cy,Int.emod_one]
def bI (n:Int):Int:=IntKind.i64.wrap (n / 18446744073709551616)
def bv (n:Int):Int:=n % 18446744073709551616
abbrev pW (n:Int):Value:=Wd (bI n) (bv n)
theorem MK {n m:Int} (h:n % 340282366920938463463374607431768211456=m % 340282366920938463463374607431768211456):bI n=bI m:=by
 unfold bI
 have h1:n / 18446744073709551616 % 18446744073709551616=m / 18446744073709551616 % 18446744073709551616:=by omega
 rw [dQ,dQ,h1]
theorem MI {n m:Int} (h:n % 340282366920938463463374607431768211456=m % 340282366920938463463374607431768211456):bv n=bv m:=by
 unfold bv;omega
theorem MH {n m:Int} (h:n % 340282366920938463463374607431768211456=m % 340282366920938463463374607431768211456):pW n=pW m:=j8 (MK h) (MI h)
theorem mJ (n:Int):wv (bI n) (bv n) % 340282366920938463463374607431768211456=n % 340282366920938463463374607431768211456:=by
 unfold wv bI bv
 rw [dQ]
 split<;>omega
theorem MM (x y:Int):bI (wv (bI x) (bv x)+wv (bI y) (bv y))=bI (x+y):=by
 apply MK
 have h1:=mJ x
 have h2:=mJ y
 omega
theorem MJ (x y:Int):bv (wv (bI x) (bv x)+wv (bI y) (bv y))=bv (x+y):=by
 apply MI
 have h1:=mJ x
 have h2:=mJ y
 omega
theorem tg (n:Int):a8 (bv n)=true:=by rw [eV];unfold bv;omega
theorem ME {a b:Int} (h:bO a b=true):bI (wv a b)=a/\bv (wv a b)=b:=by
 rw [iI] at h
 unfold bI bv wv
 rw [dQ]
 refine ⟨?_,by omega⟩
 split<;>omega
theorem MG {n:Int} (h:okW n=true):bI n=aY n/\bv n=aZ n:=by
 have h':-170141183460469231731687303715884105728<=n/\n<170141183460469231731687303715884105728:=by simpa [okW] using h
 obtain ⟨_,k2,k3⟩:=km h'.1 h'.2
 rw [k2,k3]
 unfold bI bv
 refine ⟨?_,rfl⟩
 rw [dQ]
 split<;>omega
def wu (a b:Int):Int:=IntKind.u64.wrap a*18446744073709551616+b
theorem qaJ (a b c d:Int):Wd (IntKind.i64.wrap (fG (bl (wu a b+wu c d) 128) 64)) (fy (bl (wu a b+wu c d) 128) 64)=pW (wv a b+wv c d):=by
 rw [qc6,qdv]
 refine j8 ?_ ?_
 ·unfold bI
  rw [dQ,dQ]
  unfold wu wv
  rw [wrU,wrU]
  have:(a % 18446744073709551616*18446744073709551616+b+(c % 18446744073709551616*18446744073709551616+d)) / 18446744073709551616 % 18446744073709551616 % 18446744073709551616=(a*18446744073709551616+b+(c*18446744073709551616+d)) / 18446744073709551616 % 18446744073709551616:=by omega
  rw [this]
 ·unfold bv wu wv
  rw [wrU,wrU];omega
theorem qg5 (a b:Int) (h:a8 b=true):a8 (IntKind.u64.wrap (-1 - b))=true/\wv (IntKind.i64.wrap (-1 - a)) (IntKind.u64.wrap (-1 - b)) % 340282366920938463463374607431768211456=(- wv a b - 1) % 340282366920938463463374607431768211456:=by
 refine ⟨nJ _,?_⟩
 rw [eV] at h
 unfold wv
 rw [wrU,dQ]
 split<;>omega
theorem qbr {α:Type} (n X:Int) (h0:0<=n) (h1:n<18446744073709551616) (E:Nat->Int->Int->Int->Int->Int->Option α) (Z:Int->Int->Int->Int->Option α)
  (st:∀ k i xa xb ya yb,E (k+1) i xa xb ya yb=bif decide (i<64) then (bif decide (i<0) then none else (bif bu n i==1 then (bif a8 yb&&a8 xb then (bif a8 xb&&a8 xb then E k (IntKind.i64.wrap (i+1)) (bI (wv xa xb+wv xa xb)) (bv (wv xa xb+wv xa xb)) (bI (wv ya yb+wv xa xb)) (bv (wv ya yb+wv xa xb)) else none) else none)
   else (bif a8 xb&&a8 xb then E k (IntKind.i64.wrap (i+1)) (bI (wv xa xb+wv xa xb)) (bv (wv xa xb+wv xa xb)) ya yb else none))) else Z xa xb ya yb) :
  ∀ (m j:Nat),j+m=64->E (m+1) j (bI (X*2 ^ j)) (bv (X*2 ^ j)) (bI (X*(n % 2 ^ j))) (bv (X*(n % 2 ^ j)))=Z (bI (X*2 ^ 64)) (bv (X*2 ^ 64)) (bI (X*(n % 2 ^ 64))) (bv (X*(n % 2 ^ 64))):=by
 intro m
 induction m with
 | zero =>
  intro j hj
  obtain rfl:j=64:=by omega
  rw [st]
  rfl
 | succ m ih =>
  intro j hj
  have hp:(0:Int)<2 ^ j:=Int.pow_pos (by decide)
  have g1:decide ((j:Int)<64)=true:=by simp;omega
  have g2:decide ((j:Int)<0)=false:=by simp
  rw [st,g1,g2,tg,tg,PR n h0 h1 j (by omega),uJ j (by omega),MM,MJ,MM,MJ]
  simp only [cond_true,cond_false,Bool.and_self]
  have ih:=ih (j+1) (by omega)
  have e1:X*2 ^ j+X*2 ^ j=X*2 ^ (j+1):=by rw [Int.pow_succ,<- Int.mul_add];congr 1;omega
  have e2:=Hs n (2 ^ j) hp
  rw [<- Int.pow_succ] at e2
  rw [e1]
  have hb:n / 2 ^ j % 2=0\/n / 2 ^ j % 2=1:=by omega
  unfold c8
  rcases hb with hb|hb
  ·rw [hb] at e2 ⊢
   rw [Int.mul_zero,Int.add_zero] at e2
   rw [e2] at ih
   exact ih
  ·rw [hb] at e2 ⊢
   rw [Int.mul_one] at e2
   rw [e2,Int.mul_add] at ih
   exact ih
theorem qhL {a b c d:Int} (h1:bO a b=true) (h2:bO c d=true):(bif decide (a<c)||(a==c&&decide (b<d)) then (-1:Int) else bif a==c&&b==d then 0 else 1)=cw (wv a b) (wv c d):=by
 rw [iI] at h1 h2
 unfold cw wv
 by_cases p:a<c
 ·have q1:a*18446744073709551616+b<c*18446744073709551616+d:=by omega
  simp [p,q1]
 ·by_cases q:a=c
  ·subst q
   by_cases r:b<d
   ·simp [r]
   ·by_cases s:b=d
    ·simp [s]
    ·have t:d<b:=by omega
     have s':(b==d)=false:=by simpa using s
     simp [r,t,s']
  ·have q':(a==c)=false:=by simpa using q
   have q1:¬ a*18446744073709551616+b<c*18446744073709551616+d:=by omega
   have q2:c*18446744073709551616+d<a*18446744073709551616+b:=by omega
   simp [p,q',q1,q2]
end Go.Sx
namespace Go.Sx
def plR (x y:Int):Bool:=decide (-1099511627776<=x/\x<=1099511627776/\-1099511627776<=y/\y<=1099511627776)
theorem iy {x y:Int}:plR x y=true↔-1099511627776<=x/\x<=1099511627776/\-1099511627776<=y/\y<=1099511627776:=by unfold plR;exact decide_eq_true_iff
def bC (ax ay bx by_ cx cy:Int):Int:=bif plR ax ay&&(plR bx by_&&plR cx cy) then cw ((bx - ax)*(cy - ay)) ((by_ - ay)*(cx - ax)) else 0
def btw (x a b:Int):Bool:=decide ((if b<a then b else a)<=x)&&decide (x<=(if b>a then b else a))
def onB (px py ax ay bx by_:Int):Bool:=(plR px py&&(plR ax ay&&plR bx by_))&&(bC ax ay bx by_ px py==0&&(btw px ax bx&&btw py ay by_))
def me (ax ay bx by_ cx cy dx dy:Int):Bool:=decide (wI (bC ax ay bx by_ cx cy*bC ax ay bx by_ dx dy)<0)&&decide (wI (bC cx cy dx dy ax ay*bC cx cy dx dy bx by_)<0)
def ch (ax ay bx by_ cx cy dx dy:Int):Bool:=(plR ax ay&&(plR bx by_&&(plR cx cy&&plR dx dy)))&&(onB ax ay cx cy dx dy||(onB bx by_ cx cy dx dy||(onB cx cy ax ay bx by_||(onB dx dy ax ay bx by_||me ax ay bx by_ cx cy dx dy))))
theorem KO {ax ay bx by_ cx cy:Int} (h:(plR ax ay&&(plR bx by_&&plR cx cy))=true):cw (wI (bx - ax)*wI (cy - ay)) (wI (by_ - ay)*wI (cx - ax))=bC ax ay bx by_ cx cy:=by
 unfold bC
 rw [h]
 simp only [Bool.and_eq_true,iy] at h
 rw [aM (n:=bx - ax) (by omega),aM (n:=cy - ay) (by omega),aM (n:=by_ - ay) (by omega),aM (n:=cx - ax) (by omega)]
 rfl
theorem qhP (m n:Int):-1<=cw m n/\cw m n<=1:=by
 unfold cw
 cases decide (m<n)<;>cases decide (n<m)<;>simp
theorem qhM {m n:Int}:cw m n=0↔m=n:=by
 unfold cw
 by_cases h1:m<n
 ·simp [h1];omega
 ·by_cases h2:n<m
  ·simp [h1,h2];omega
  ·simp [h1,h2];omega
theorem ve (a1 a2 b1 b2 c1 c2:Int):-1<=bC a1 a2 b1 b2 c1 c2/\bC a1 a2 b1 b2 c1 c2<=1:=by
 unfold bC
 cases plR a1 a2&&(plR b1 b2&&plR c1 c2)
 ·simp
 ·exact qhP _ _
theorem qh5 {x a b:Int}:btw x a b=true↔(a<=x/\x<=b)\/(b<=x/\x<=a):=by
 unfold btw
 simp only [Bool.and_eq_true,decide_eq_true_eq]
 split<;>split<;>omega
theorem Nn (a1 a2 b1 b2 c1 c2 d1 d2:Int):ch c1 c2 d1 d2 a1 a2 b1 b2=ch a1 a2 b1 b2 c1 c2 d1 d2:=by
 unfold ch me
 cases plR a1 a2<;>cases plR b1 b2<;>cases plR c1 c2<;>cases plR d1 d2<;>try rfl
 cases onB a1 a2 c1 c2 d1 d2<;>cases onB b1 b2 c1 c2 d1 d2<;>cases onB c1 c2 a1 a2 b1 b2<;>cases onB d1 d2 a1 a2 b1 b2<;>try rfl
 cases decide (wI (bC a1 a2 b1 b2 c1 c2*bC a1 a2 b1 b2 d1 d2)<0)<;>cases decide (wI (bC c1 c2 d1 d2 a1 a2*bC c1 c2 d1 d2 b1 b2)<0)<;>rfl
end Go.Sx
namespace Go.Sx
def cB (B:ByteArray):List (List Dat):=aq (bG B)
def aJ (L:List (List Dat)):ByteArray:=strOfNums (bY L)
theorem r9 (B:ByteArray):aJ (cB B)=B:=by
 unfold aJ cB
 rw [Cy]
 apply ByteArray.ext
 apply Array.ext'
 simp [strOfNums,bG,Function.comp_def]
theorem B6 (B:ByteArray):(cB B).length=B.size:=by
 unfold cB
 rw [na]
 simp [bG]
theorem PN (a b:ByteArray):bG (a++b)=bG a++bG b:=by simp [bG]
theorem HL (a:ByteArray) (i j:Nat):bG (a.extract i j)=((bG a).take j).drop i:=by
 simp [bG,List.drop_take]
theorem L6 (a b:List Int):aq (a++b)=aq a++aq b:=by simp [aq]
theorem L3 (a:List Int) (n:Nat):aq (a.take n)=(aq a).take n:=by simp [aq]
theorem L5 (a:List Int) (n:Nat):aq (a.drop n)=(aq a).drop n:=by simp [aq]
theorem qhZ (s:ByteArray):(bG s).length=s.size:=by simp [bG]
def Cl (B:ByteArray) (k:Nat) (s:ByteArray):ByteArray:=B.extract 0 k++s++B.extract (k+s.size) B.size
theorem LY (B s:ByteArray) (k:Nat):(cB B).take k++aq (bG s)++(cB B).drop (k+s.size)=cB (Cl B k s):=by
 unfold cB Cl
 rw [PN,PN,L6,L6,HL,HL,List.drop_zero,L3,L5,List.take_of_length_le (Nat.le_of_eq (qhZ B))]
theorem TY (B:ByteArray) (lo n:Nat):strOfNums (bY (((cB B).drop lo).take n))=B.extract lo (lo+n):=by
 have:((cB B).drop lo).take n=cB (B.extract lo (lo+n)):=by
  unfold cB
  rw [HL,L5,L3,List.drop_take]
  congr 1
  omega
 rw [this]
 exact r9 _
def CH (n:Nat) (x:UInt8):ByteArray:=⟨(List.replicate n x).toArray⟩
theorem qai (n:Nat) (x:UInt8):cB (CH n x)=List.replicate n [.n (x.toNat:Int)]:=by
 simp [cB,CH,bG,aq]
end Go.Sx
namespace Go.Sx
def jp (r q:Int):Int:=IntKind.u64.wrap ((BitVec.ofInt 64 r ||| BitVec.ofInt 64 q).toNat:Int)
def eH (n:Int):Nat->Int->Int
 | 0,r=>r
 | k+1,r=>eH n k (bif decide ((r+2 ^ k)*(r+2 ^ k)<=n) then r+2 ^ k else r)
theorem MP (r:Int) (k:Nat) (h0:0<=r) (h1:r % 2 ^ (k+1)=0) (h2:r+2 ^ (k+1)<=18446744073709551616):jp r (2 ^ k)=r+2 ^ k/\a8 (r+2 ^ k)=true:=by
 have hp:(0:Int)<2 ^ k:=Int.pow_pos (by decide)
 have hs:(2:Int) ^ (k+1)=2 ^ k*2:=Int.pow_succ 2 k
 have hb:a8 (r+2 ^ k)=true:=by rw [eV];omega
 refine ⟨?_,hb⟩
 rw [eV] at hb
 obtain ⟨m,rfl⟩:=Int.eq_ofNat_of_zero_le h0
 unfold jp
 have e1:((2:Int) ^ k)=((2 ^ k:Nat):Int):=by simp
 have e2:((2:Int) ^ (k+1))=((2 ^ (k+1):Nat):Int):=by simp
 rw [e1,BitVec.ofInt_natCast,BitVec.ofInt_natCast,BitVec.toNat_or,BitVec.toNat_ofNat,BitVec.toNat_ofNat]
 rw [e2] at h1 h2
 have hm:m % 2 ^ (k+1)=0:=by
  have:((m % 2 ^ (k+1):Nat):Int)=0:=by rw [Int.natCast_emod];exact h1
  exact_mod_cast this
 have hk:2 ^ k<2 ^ (k+1):=Nat.pow_lt_pow_right (by decide) (by omega)
 have l1:m<2 ^ 64:=by
  have:(m:Int)<18446744073709551616:=by omega
  omega
 have l2:2 ^ k<2 ^ 64:=by omega
 rw [Nat.mod_eq_of_lt l1,Nat.mod_eq_of_lt l2]
 have hor:m ||| 2 ^ k=m+2 ^ k:=by
  have hd:m=2 ^ (k+1)*(m / 2 ^ (k+1)):=by
   have:=Nat.div_add_mod m (2 ^ (k+1));omega
  rw [hd,<- Nat.two_pow_add_eq_or_of_lt hk]
 rw [hor,wrU]
 rw [e1] at hb
 push_cast at hb ⊢
 omega
theorem UR {α:Type} (N:Int) (g:Int->Bool) (hg:∀ x,a8 x=true->g x=true) (E:Nat->Int->Int->Option α) (F:Int->Option α)
  (hE:∀ m r q,E (m+1) r q=bif decide (q>0) then (bif g (jp r q) then (bif decide (jp r q*jp r q<=N) then E m (jp r q) (q.fdiv (2 ^ 1)) else E m r (q.fdiv (2 ^ 1))) else none) else F r) :
  ∀ (k:Nat) (r:Int),0<=r->r % 2 ^ (k+1)=0->r+2 ^ (k+1)<=18446744073709551616->E (k+2) r (2 ^ k)=F (eH N (k+1) r):=by
 intro k
 induction k with
 | zero =>
  intro r h0 h1 h2
  obtain ⟨e1,e2⟩:=MP r 0 h0 h1 h2
  rw [hE,e1,hg _ e2]
  have h3:((2:Int) ^ 0).fdiv (2 ^ 1)=0:=by decide
  rw [h3]
  have:∀ r',E 1 r' 0=F r':=fun r'=>by rw [hE];rfl
  rw [this,this]
  simp only [eH,Int.pow_zero,decide_true,cond_true,show ((1:Int)>0) from by decide]
  cases decide ((r+1)*(r+1)<=N)<;>rfl
 | succ k ih =>
  intro r h0 h1 h2
  obtain ⟨e1,e2⟩:=MP r (k+1) h0 h1 h2
  rw [hE,e1,hg _ e2]
  have hp:(0:Int)<2 ^ k:=Int.pow_pos (by decide)
  have hs:(2:Int) ^ (k+1)=2 ^ k*2:=Int.pow_succ 2 k
  have hs2:(2:Int) ^ (k+1+1)=2 ^ (k+1)*2:=Int.pow_succ 2 (k+1)
  have h3:((2:Int) ^ (k+1)).fdiv (2 ^ 1)=2 ^ k:=by
   rw [Int.fdiv_eq_ediv_of_nonneg _ (by decide),hs]
   exact Int.mul_ediv_cancel _ (by decide)
  rw [h3]
  have hgt:(2:Int) ^ (k+1)>0:=by omega
  simp only [hgt,decide_true,cond_true]
  have dv:(2:Int) ^ (k+1) ∣ r:=Int.dvd_trans ⟨2,hs2⟩ (Int.dvd_of_emod_eq_zero h1)
  rw [ih r h0 (Int.emod_eq_zero_of_dvd dv) (by omega),ih (r+2 ^ (k+1)) (by omega) (Int.emod_eq_zero_of_dvd (Int.dvd_add dv (Int.dvd_refl _))) (by omega)]
  show _=F (eH N (k+1) (bif decide ((r+2 ^ (k+1))*(r+2 ^ (k+1))<=N) then r+2 ^ (k+1) else r))
  cases decide ((r+2 ^ (k+1))*(r+2 ^ (k+1))<=N)<;>rfl
theorem BA (n:Int):∀ (k:Nat) (r:Int),0<=r->r*r<=n->n<(r+2 ^ k)*(r+2 ^ k)->(r<=eH n k r/\eH n k r<r+2 ^ k)/\eH n k r*eH n k r<=n/\n<(eH n k r+1)*(eH n k r+1)
 | 0,r,h0,h1,h2=>by
  simp only [eH,Int.pow_zero] at *
  exact ⟨⟨by omega,by omega⟩,h1,h2⟩
 | k+1,r,h0,h1,h2=>by
  have hp:(0:Int)<2 ^ k:=Int.pow_pos (by decide)
  have hs:(2:Int) ^ (k+1)=2 ^ k*2:=Int.pow_succ 2 k
  simp only [eH]
  by_cases hc:(r+2 ^ k)*(r+2 ^ k)<=n
  ·simp only [hc,decide_true,cond_true]
   have:=BA n k (r+2 ^ k) (by omega) hc (by rw [show r+2 ^ k+2 ^ k=r+2 ^ (k+1) by omega];exact h2)
   exact ⟨⟨by omega,by omega⟩,this.2⟩
  ·simp only [hc,decide_false,cond_false]
   have:=BA n k r h0 h1 (by omega)
   exact ⟨⟨by omega,by omega⟩,this.2⟩
def bN (n:Int):Int:=bif decide (n<0) then 0 else eH n 64 0
theorem v9 (n:Int) (h0:0<=n) (h1:n<170141183460469231731687303715884105728):0<=bN n/\bN n<18446744073709551616/\bN n*bN n<=n/\n<(bN n+1)*(bN n+1):=by
 have e:bN n=eH n 64 0:=by
  have:¬ n<0:=by omega
  simp [bN,this]
 rw [e]
 have:=BA n 64 0 (by decide) (by simpa using h0) (by
  have:((0:Int)+2 ^ 64)*(0+2 ^ 64)=340282366920938463463374607431768211456:=by decide
  rw [this];omega)
 have e2:(0:Int)+2 ^ 64=18446744073709551616:=by decide
 rw [e2] at this
 exact ⟨this.1.1,this.1.2,this.2⟩
theorem BZ {n:Int} (h:n<0):bN n=0:=by simp [bN,h]
theorem qac {n:Int} (h1:n<170141183460469231731687303715884105728):0<=bN n:=by
 by_cases h:0<=n
 ·exact (v9 n h h1).1
 ·rw [BZ (by omega)];omega
theorem qab {n r:Int} (hn:n<170141183460469231731687303715884105728) (h0:0<=r) (h1:r*r<=n) (h2:n<(r+1)*(r+1)):bN n=r:=by
 have hn0:0<=n:=Int.le_trans (Int.mul_nonneg h0 h0) h1
 obtain ⟨s0,_,s2,s3⟩:=v9 n hn0 hn
 rcases Int.lt_trichotomy (bN n) r with h|h|h
 ·have:(bN n+1)*(bN n+1)<=r*r:=Int.mul_le_mul (by omega) (by omega) (by omega) h0
  omega
 ·exact h
 ·have:(r+1)*(r+1)<=bN n*bN n:=Int.mul_le_mul (by omega) (by omega) (by omega) s0
  omega
end Go.Sx
namespace Go.Sx
theorem sQ {a b A B:Int} (h1:-A<=a) (h2:a<=A) (h3:-B<=b) (h4:b<=B):-(A*B)<=a*b/\a*b<=A*B:=by
 have p1:=Int.mul_nonneg (show 0<=A - a by omega) (show 0<=B+b by omega)
 have p2:=Int.mul_nonneg (show 0<=A+a by omega) (show 0<=B - b by omega)
 have p3:=Int.mul_nonneg (show 0<=A - a by omega) (show 0<=B - b by omega)
 have p4:=Int.mul_nonneg (show 0<=A+a by omega) (show 0<=B+b by omega)
 simp only [Int.sub_mul,Int.add_mul,Int.mul_sub,Int.mul_add] at p1 p2 p3 p4
 omega
def Ab (z v g t:Int):Int:=2*z+2*v*t - g*t*t
def bn (z v g:Int):Int:=bif decide (z<0) then 0 else (v+bN (v*v+2*g*z)) / g
def dj (z v g:Int):Bool:=decide (-8589934592<=z/\z<=8589934592/\-262144<=v/\v<=262144/\1<=g/\g<=100)
def bK (z v g:Int):Bool:=decide (-2147483648<=z/\z<=2147483648/\-131072<=v/\v<=131072/\1<=g/\g<=100)
theorem kE {z v g:Int}:dj z v g=true↔-8589934592<=z/\z<=8589934592/\-262144<=v/\v<=262144/\1<=g/\g<=100:=by simp [dj]
theorem yw {z v g:Int}:bK z v g=true↔-2147483648<=z/\z<=2147483648/\-131072<=v/\v<=131072/\1<=g/\g<=100:=by simp [bK]
theorem yx {z v g:Int} (h:dj z v g=true):(0<=v*v/\v*v<=68719476736)/\(-1717986918400<=2*g*z/\2*g*z<=1717986918400):=by
 rw [kE] at h
 have h1:=sQ (a:=v) (b:=v) (A:=262144) (B:=262144) (by omega) (by omega) (by omega) (by omega)
 have h2:=sQ (a:=2*g) (b:=z) (A:=200) (B:=8589934592) (by omega) (by omega) (by omega) (by omega)
 have h3:0<=v*v:=by
  rcases (by omega:0<=v\/v<=0) with h|h
  ·exact Int.mul_nonneg h h
  ·exact Int.mul_nonneg_of_nonpos_of_nonpos h h
 omega
theorem gAb (z v g x:Int):g*Ab z v g x=(v*v+2*g*z) - (g*x - v)*(g*x - v):=by
 unfold Ab
 grind
theorem UT {y s:Int} (h1:-s<=y) (h2:y<=s):y*y<=s*s:=(sQ (A:=s) (B:=s) h1 h2 h1 h2).2
theorem vf {z v g:Int} (h:dj z v g=true) (hz:0<=z):∃ s,bn z v g=(v+s) / g/\0<=s/\-s<=v/\v<=s/\s*s<=v*v+2*g*z/\v*v+2*g*z<(s+1)*(s+1):=by
 have hn:=yx h
 have hx:=kE.1 h
 have gz:0<=2*g*z:=Int.mul_nonneg (by omega) hz
 obtain ⟨s0,_,s2,s3⟩:=v9 (v*v+2*g*z) (by omega) (by omega)
 refine ⟨bN (v*v+2*g*z),?_,s0,?_,?_,s2,s3⟩
 ·unfold bn;rw [decide_eq_false (by omega)];rfl
 ·rcases (by omega:-bN (v*v+2*g*z)<=v\/bN (v*v+2*g*z)+1<=-v) with h|h
  ·exact h
  ·have:=Int.mul_le_mul h h (by omega) (by omega)
   rw [Int.neg_mul_neg] at this
   omega
 ·rcases (by omega:v<=bN (v*v+2*g*z)\/bN (v*v+2*g*z)+1<=v) with h|h
  ·exact h
  ·have:=Int.mul_le_mul h h (by omega) (by omega)
   omega
theorem oT {z v g:Int} (h:dj z v g=true):0<=bn z v g:=by
 by_cases hz:z<0
 ·unfold bn;rw [decide_eq_true hz];exact Int.le_refl 0
 ·obtain ⟨s,e,h0,h1,h2,_,_⟩:=vf h (by omega)
  rw [e]
  exact Int.ediv_nonneg (by omega) (by have:=kE.1 h;omega)
theorem KT {z v g x:Int} (h:dj z v g=true) (hz:0<=z) (hx:0<=x):x<=bn z v g↔0<=Ab z v g x:=by
 obtain ⟨s,e,h0,h1,h2,h3,h4⟩:=vf h hz
 have hg:=(kE.1 h).2.2.2.2.1
 have id:=gAb z v g x
 have gx:0<=g*x:=Int.mul_nonneg (by omega) hx
 rw [e,Int.le_ediv_iff_mul_le (by omega),Int.mul_comm x g]
 constructor
 ·intro hle
  have:=UT (y:=g*x - v) (s:=s) (by omega) (by omega)
  have hp:0<=g*Ab z v g x:=by omega
  rcases (by omega:0<=Ab z v g x\/Ab z v g x<0) with h5|h5
  ·exact h5
  ·have:=Int.mul_neg_of_pos_of_neg (show 0<g by omega) h5
   omega
 ·intro hA
  have hp:=Int.mul_nonneg (show 0<=g by omega) hA
  rcases (by omega:g*x<=v+s\/s+1<=g*x - v) with h5|h5
  ·exact h5
  ·have:=Int.mul_le_mul h5 h5 (by omega) (by omega)
   omega
theorem Bm {z v g z' v':Int} (h:dj z v g=true) (h':dj z' v' g=true) (hz:z<=z') (hv:v<=v'):bn z v g<=bn z' v' g:=by
 by_cases h0:z<0
 ·have:bn z v g=0:=by unfold bn;rw [decide_eq_true h0];rfl
  rw [this];exact oT h'
 ·have t0:=oT h
  refine (KT h' (by omega) t0).2 ?_
  have:=(KT h (by omega) t0).1 (Int.le_refl _)
  have p:=Int.mul_nonneg (show 0<=v' - v by omega) t0
  unfold Ab at this ⊢
  have e:2*v'*bn z v g - 2*v*bn z v g=2*((v' - v)*bn z v g):=by grind
  omega
theorem vg {z v g:Int} (h:dj z v g=true):bn z v g<=2097152:=by
 by_cases hz:z<0
 ·unfold bn;rw [decide_eq_true hz];exact (by decide:(0:Int)<=2097152)
 ·obtain ⟨s,e,h0,h1,h2,h3,_⟩:=vf h (by omega)
  have hn:=yx h
  have hx:=kE.1 h
  have hs:s<=1500000:=by
   rcases (by omega:s<=1500000\/1500001<=s) with h|h
   ·exact h
   ·have:=Int.mul_le_mul h h (by omega) (by omega);omega
  rw [e]
  have:(v+s) / g<=v+s:=Int.ediv_le_self _ (by omega)
  omega
theorem andB (n m:Int) (h0:0<=m) (h1:m<9223372036854775808):0<=wI ((BitVec.ofInt 64 n &&& BitVec.ofInt 64 m).toNat:Int)/\wI ((BitVec.ofInt 64 n &&& BitVec.ofInt 64 m).toNat:Int)<=m:=by
 obtain ⟨k,rfl⟩:=Int.eq_ofNat_of_zero_le h0
 have e:(BitVec.ofInt 64 n &&& BitVec.ofInt 64 (k:Int)).toNat<=k:=by
  rw [BitVec.toNat_and,BitVec.ofInt_natCast,BitVec.toNat_ofNat,Nat.mod_eq_of_lt (a:=k) (by omega)]
  exact Nat.and_le_right
 rw [aM (by omega)]
 omega
theorem Bn (v k:Int) (hk:0<k):-k<v.tmod k/\v.tmod k<k:=⟨Int.lt_tmod_of_pos v hk,Int.tmod_lt_of_pos v hk⟩
end Go.Sx
namespace Go.Sx
def mn (a b:Int):Int:=if b<a then b else a
def mx (a b:Int):Int:=if b>a then b else a
theorem fw (a b:Int):mn a b<=a/\mn a b<=b/\(mn a b=a\/mn a b=b):=by unfold mn;split<;>omega
theorem fE (a b:Int):a<=mx a b/\b<=mx a b/\(mx a b=a\/mx a b=b):=by unfold mx;split<;>omega
theorem CL {c lo hi t:Int} (h1:lo<=t) (h2:t<=hi):mn (c*lo) (c*hi)<=c*t/\c*t<=mx (c*lo) (c*hi):=by
 obtain ⟨a1,a2,_⟩:=fw (c*lo) (c*hi)
 obtain ⟨b1,b2,_⟩:=fE (c*lo) (c*hi)
 rcases (by omega:0<=c\/c<=0) with h|h
 ·have:=Int.mul_le_mul_of_nonneg_left h1 h
  have:=Int.mul_le_mul_of_nonneg_left h2 h
  omega
 ·have:=Int.mul_le_mul_of_nonpos_left h h1
  have:=Int.mul_le_mul_of_nonpos_left h h2
  omega
def iD (v e a b:Int):Int:=mn (mn ((v - e)*a) ((v - e)*b)) (mn ((v+e)*a) ((v+e)*b))
def iz (v e a b:Int):Int:=mx (mx ((v - e)*a) ((v - e)*b)) (mx ((v+e)*a) ((v+e)*b))
theorem qI {v e a b w t:Int} (h1:v - e<=w) (h2:w<=v+e) (h3:a<=t) (h4:t<=b):iD v e a b<=w*t/\w*t<=iz v e a b:=by
 obtain ⟨l1,l2⟩:=CL (c:=t) h1 h2
 obtain ⟨p1,p2⟩:=CL (c:=v - e) h3 h4
 obtain ⟨q1,q2⟩:=CL (c:=v+e) h3 h4
 rw [Int.mul_comm t w,Int.mul_comm t,Int.mul_comm t] at l1 l2
 unfold iD iz
 have m1:=fw ((v - e)*t) ((v+e)*t)
 have m2:=fE ((v - e)*t) ((v+e)*t)
 have n1:=fw (mn ((v - e)*a) ((v - e)*b)) (mn ((v+e)*a) ((v+e)*b))
 have n2:=fE (mx ((v - e)*a) ((v - e)*b)) (mx ((v+e)*a) ((v+e)*b))
 omega
theorem Nd (v e a b:Int):iD v e a b=(v - e)*a\/iD v e a b=(v - e)*b\/iD v e a b=(v+e)*a\/iD v e a b=(v+e)*b:=by
 unfold iD
 have:=fw ((v - e)*a) ((v - e)*b)
 have:=fw ((v+e)*a) ((v+e)*b)
 have:=fw (mn ((v - e)*a) ((v - e)*b)) (mn ((v+e)*a) ((v+e)*b))
 omega
theorem Nb (v e a b:Int):iz v e a b=(v - e)*a\/iz v e a b=(v - e)*b\/iz v e a b=(v+e)*a\/iz v e a b=(v+e)*b:=by
 unfold iz
 have:=fE ((v - e)*a) ((v - e)*b)
 have:=fE ((v+e)*a) ((v+e)*b)
 have:=fE (mx ((v - e)*a) ((v - e)*b)) (mx ((v+e)*a) ((v+e)*b))
 omega
theorem qbu {v e a b v' e' a' b':Int} (h0:0<=e) (h1:v' - e'<=v - e) (h2:v+e<=v'+e') (h3:a'<=a) (h:a<=b) (h4:b<=b'):iD v' e' a' b'<=iD v e a b/\iz v e a b<=iz v' e' a' b':=by
 have p1:=qI (v:=v') (e:=e') (a:=a') (b:=b') (w:=v - e) (t:=a) h1 (by omega) h3 (by omega)
 have p2:=qI (v:=v') (e:=e') (a:=a') (b:=b') (w:=v - e) (t:=b) h1 (by omega) (by omega) h4
 have p3:=qI (v:=v') (e:=e') (a:=a') (b:=b') (w:=v+e) (t:=a) (by omega) h2 h3 (by omega)
 have p4:=qI (v:=v') (e:=e') (a:=a') (b:=b') (w:=v+e) (t:=b) (by omega) h2 (by omega) h4
 have:=Nd v e a b
 have:=Nb v e a b
 omega
def jn (x v e a b:Int):Int:=mn (mn (mn (mn (x+v*a - e) (x+(v+-e)*a - e)) (x+(v+e)*a - e)) (x+(v+-e)*b - e)) (x+(v+e)*b - e)
def jx (x v e a b:Int):Int:=mx (mx (mx (mx (x+v*a+e) (x+(v+-e)*a+e)) (x+(v+e)*a+e)) (x+(v+-e)*b+e)) (x+(v+e)*b+e)
theorem qdb (x e A B C D F:Int) (h:mn (mn B D) (mn C F)<=A):mn (mn (mn (mn (x+A - e) (x+B - e)) (x+C - e)) (x+D - e)) (x+F - e)=x - e+mn (mn B D) (mn C F):=by
 have a1:=fw (x+A - e) (x+B - e)
 have a2:=fw (mn (x+A - e) (x+B - e)) (x+C - e)
 have a3:=fw (mn (mn (x+A - e) (x+B - e)) (x+C - e)) (x+D - e)
 have a4:=fw (mn (mn (mn (x+A - e) (x+B - e)) (x+C - e)) (x+D - e)) (x+F - e)
 have b1:=fw B D
 have b2:=fw C F
 have b3:=fw (mn B D) (mn C F)
 omega
theorem qdc (x e A B C D F:Int) (h:A<=mx (mx B D) (mx C F)):mx (mx (mx (mx (x+A+e) (x+B+e)) (x+C+e)) (x+D+e)) (x+F+e)=x+e+mx (mx B D) (mx C F):=by
 have a1:=fE (x+A+e) (x+B+e)
 have a2:=fE (mx (x+A+e) (x+B+e)) (x+C+e)
 have a3:=fE (mx (mx (x+A+e) (x+B+e)) (x+C+e)) (x+D+e)
 have a4:=fE (mx (mx (mx (x+A+e) (x+B+e)) (x+C+e)) (x+D+e)) (x+F+e)
 have b1:=fE B D
 have b2:=fE C F
 have b3:=fE (mx B D) (mx C F)
 omega
theorem qdd (x v:Int) {e a b:Int} (h:0<=e) (hab:a<=b):jn x v e a b=x - e+iD v e a b/\jx x v e a b=x+e+iz v e a b:=by
 have p0:=qI (v:=v) (e:=e) (a:=a) (b:=b) (w:=v) (t:=a) (by omega) (by omega) (Int.le_refl _) hab
 unfold jn jx
 rw [show v+-e=v - e by omega]
 exact ⟨qdb x e _ _ _ _ _ p0.1,qdc x e _ _ _ _ _ p0.2⟩
end Go.Sx
namespace Go.Sx
theorem iA {k x:Int} (hk:0<k):0<k*x↔0<x:=by
 constructor
 ·intro h
  rcases Int.lt_or_le 0 x with h1|h1
  ·exact h1
  ·have:=Int.mul_nonneg (Int.le_of_lt hk) (show 0<=-x by omega)
   rw [Int.mul_neg] at this
   omega
 ·exact Int.mul_pos hk
theorem iB {k x:Int} (hk:0<k):k*x<0↔x<0:=by
 have:=iA (x:=-x) hk
 rw [Int.mul_neg] at this
 omega
theorem nq {x y:Int} (hx:0<=x) (hy:0<=y):0<=x*y:=Int.mul_nonneg hx hy
theorem wY {x y:Int} (hx:0<=x) (hy:y<=0):x*y<=0:=by
 have:=Int.mul_nonneg hx (show 0<=-y by omega)
 rw [Int.mul_neg] at this
 omega
theorem pN {x y:Int} (hx:x<=0) (hy:0<=y):x*y<=0:=by
 rw [Int.mul_comm];exact wY hy hx
theorem qbn {x y:Int} (hx:x<=0) (hy:y<=0):0<=x*y:=by
 have:=Int.mul_nonneg (show 0<=-x by omega) (show 0<=-y by omega)
 rw [Int.neg_mul_neg] at this
 exact this
theorem Nc {x y:Int} (hx:0<x) (hy:0<y):0<x*y:=Int.mul_pos hx hy
theorem pO {x y:Int} (hx:0<x) (hy:y<0):x*y<0:=(iB hx).2 hy
theorem qbo {x y:Int} (hx:x<0) (hy:0<y):x*y<0:=by rw [Int.mul_comm];exact pO hy hx
theorem sP {x y:Int} (hx:x<0) (hy:y<0):0<x*y:=by
 have:=Int.mul_pos (show 0< -x by omega) (show 0< -y by omega)
 rw [Int.neg_mul_neg] at this
 exact this
def tw (a1 a2 b1 b2 c1 c2:Int):Int:=(b1 - a1)*(c2 - a2) - (b2 - a2)*(c1 - a1)
def bt (x a b:Int):Prop:=(a<=x/\x<=b)\/(b<=x/\x<=a)
def cz (p1 p2 a1 a2 b1 b2:Int):Prop:=tw a1 a2 b1 b2 p1 p2=0/\bt p1 a1 b1/\bt p2 a2 b2
def du (x y:Int):Prop:=(0<x/\y<0)\/(x<0/\0<y)
structure Apart (a1 a2 b1 b2 c1 c2 d1 d2:Int):Prop where
 a:¬ cz a1 a2 c1 c2 d1 d2
 b:¬ cz b1 b2 c1 c2 d1 d2
 c:¬ cz c1 c2 a1 a2 b1 b2
 d:¬ cz d1 d2 a1 a2 b1 b2
 x:¬ (du (tw a1 a2 b1 b2 c1 c2) (tw a1 a2 b1 b2 d1 d2)/\du (tw c1 c2 d1 d2 a1 a2) (tw c1 c2 d1 d2 b1 b2))
theorem qhN {m n:Int}:0<cw m n↔n<m:=by
 unfold cw
 by_cases h1:m<n
 ·simp [h1];omega
 ·by_cases h2:n<m
  ·simp [h1,h2]
  ·simp [h1,h2]
theorem qhO {m n:Int}:cw m n<0↔m<n:=by
 unfold cw
 by_cases h1:m<n
 ·simp [h1]
 ·by_cases h2:n<m
  ·simp [h1,h2]
  ·simp [h1,h2]
section
variable {a1 a2 b1 b2 c1 c2 d1 d2 p1 p2 q1 q2:Int}
theorem mO (ha:plR a1 a2=true) (hb:plR b1 b2=true) (hc:plR c1 c2=true):(0<bC a1 a2 b1 b2 c1 c2↔0<tw a1 a2 b1 b2 c1 c2)/\(bC a1 a2 b1 b2 c1 c2<0↔tw a1 a2 b1 b2 c1 c2<0)/\(bC a1 a2 b1 b2 c1 c2=0↔tw a1 a2 b1 b2 c1 c2=0):=by
 unfold bC tw
 rw [ha,hb,hc]
 simp only [Bool.and_true,cond_true]
 refine ⟨qhN.trans (by omega),qhO.trans (by omega),qhM.trans (by omega)⟩
theorem pC (hp:plR p1 p2=true) (ha:plR a1 a2=true) (hb:plR b1 b2=true):onB p1 p2 a1 a2 b1 b2=true↔cz p1 p2 a1 a2 b1 b2:=by
 unfold onB cz bt
 rw [hp,ha,hb]
 simp only [Bool.and_true,Bool.true_and,Bool.and_eq_true,beq_iff_eq,(mO ha hb hp).2.2,qh5]
theorem qhD (ha:plR a1 a2=true) (hb:plR b1 b2=true) (hc:plR c1 c2=true) (hd:plR d1 d2=true):me a1 a2 b1 b2 c1 c2 d1 d2=true↔du (tw a1 a2 b1 b2 c1 c2) (tw a1 a2 b1 b2 d1 d2)/\du (tw c1 c2 d1 d2 a1 a2) (tw c1 c2 d1 d2 b1 b2):=by
 have key:∀ {x y u v:Int},(-1<=x/\x<=1)->(-1<=y/\y<=1)->((0<x↔0<u)/\(x<0↔u<0))->((0<y↔0<v)/\(y<0↔v<0))->(wI (x*y)<0↔du u v):=by
  intro x y u v hx hy h1 h2
  unfold du
  have ex:x=-1\/x=0\/x=1:=by omega
  have ey:y=-1\/y=0\/y=1:=by omega
  rcases ex with rfl|rfl|rfl<;>rcases ey with rfl|rfl|rfl<;>simp only [show wI (-1*-1)=1 from by decide,show wI (-1*0)=0 from by decide,show wI (-1*1)=-1 from by decide,show wI (0*-1)=0 from by decide,show wI (0*0)=0 from by decide,show wI (0*1)=0 from by decide,show wI (1*-1)=-1 from by decide,show wI (1*0)=0 from by decide,show wI (1*1)=1 from by decide]<;>omega
 unfold me
 simp only [Bool.and_eq_true,decide_eq_true_eq]
 have t1:=mO ha hb hc
 have t2:=mO ha hb hd
 have t3:=mO hc hd ha
 have t4:=mO hc hd hb
 rw [key (ve _ _ _ _ _ _) (ve _ _ _ _ _ _) ⟨t1.1,t1.2.1⟩ ⟨t2.1,t2.2.1⟩,key (ve _ _ _ _ _ _) (ve _ _ _ _ _ _) ⟨t3.1,t3.2.1⟩ ⟨t4.1,t4.2.1⟩]
theorem pQ (ha:plR a1 a2=true) (hb:plR b1 b2=true) (hc:plR c1 c2=true) (hd:plR d1 d2=true):ch a1 a2 b1 b2 c1 c2 d1 d2=false↔Apart a1 a2 b1 b2 c1 c2 d1 d2:=by
 have e:ch a1 a2 b1 b2 c1 c2 d1 d2=false↔¬ (onB a1 a2 c1 c2 d1 d2=true)/\¬ (onB b1 b2 c1 c2 d1 d2=true)/\¬ (onB c1 c2 a1 a2 b1 b2=true)/\¬ (onB d1 d2 a1 a2 b1 b2=true)/\¬ (me a1 a2 b1 b2 c1 c2 d1 d2=true):=by
  unfold ch
  rw [ha,hb,hc,hd]
  cases onB a1 a2 c1 c2 d1 d2<;>cases onB b1 b2 c1 c2 d1 d2<;>cases onB c1 c2 a1 a2 b1 b2<;>cases onB d1 d2 a1 a2 b1 b2<;>cases me a1 a2 b1 b2 c1 c2 d1 d2<;>simp
 rw [e,pC ha hc hd,pC hb hc hd,pC hc ha hb,pC hd ha hb,qhD ha hb hc hd]
 exact ⟨fun ⟨h1,h2,h3,h4,h5⟩=>⟨h1,h2,h3,h4,h5⟩,fun h=>⟨h.a,h.b,h.c,h.d,h.x⟩⟩
theorem KN:(b2 - a2)*tw p1 p2 q1 q2 a1 a2=-(tw a1 a2 b1 b2 p1 p2*(q2 - a2))+tw a1 a2 b1 b2 q1 q2*(p2 - a2):=by unfold tw;grind
theorem KM:(b2 - a2)*tw p1 p2 q1 q2 b1 b2=-(tw a1 a2 b1 b2 p1 p2*(q2 - b2))+tw a1 a2 b1 b2 q1 q2*(p2 - b2):=by unfold tw;grind
theorem sK (h:tw a1 a2 b1 b2 p1 p2=0) (hab:a2<b2) (h1:a2<=p2) (h2:p2<=b2):cz p1 p2 a1 a2 b1 b2:=by
 refine ⟨h,?_,.inl ⟨h1,h2⟩⟩
 have e1:(b2 - a2)*(p1 - a1)=(b1 - a1)*(p2 - a2):=by unfold tw at h;omega
 have e2:(b2 - a2)*(b1 - p1)=(b1 - a1)*(b2 - p2):=by grind
 have hk:0<b2 - a2:=by omega
 rcases Int.le_total a1 b1 with hx|hx
 ·have f1:=nq (show 0<=b1 - a1 by omega) (show 0<=p2 - a2 by omega)
  have f2:=nq (show 0<=b1 - a1 by omega) (show 0<=b2 - p2 by omega)
  have g1:=iB (x:=p1 - a1) hk
  have g2:=iB (x:=b1 - p1) hk
  unfold bt
  omega
 ·have f1:=pN (show b1 - a1<=0 by omega) (show 0<=p2 - a2 by omega)
  have f2:=pN (show b1 - a1<=0 by omega) (show 0<=b2 - p2 by omega)
  have g1:=iA (x:=p1 - a1) hk
  have g2:=iA (x:=b1 - p1) hk
  unfold bt
  omega
theorem dZ:tw (-a1) a2 (-b1) b2 (-c1) c2=- tw a1 a2 b1 b2 c1 c2:=by unfold tw;grind
theorem qh6 {x a b:Int}:bt (-x) (-a) (-b)↔bt x a b:=by unfold bt;omega
theorem cz.mir:cz (-p1) p2 (-a1) a2 (-b1) b2↔cz p1 p2 a1 a2 b1 b2:=by
 unfold cz
 rw [dZ,qh6,Int.neg_eq_zero]
theorem kl {x y:Int}:du (-x) (-y)↔du x y:=by unfold du;omega
theorem Apart.mir (h:Apart a1 a2 b1 b2 c1 c2 d1 d2):Apart (-a1) a2 (-b1) b2 (-c1) c2 (-d1) d2:=by
 refine ⟨?_,?_,?_,?_,?_⟩
 ·rw [cz.mir];exact h.a
 ·rw [cz.mir];exact h.b
 ·rw [cz.mir];exact h.c
 ·rw [cz.mir];exact h.d
 ·rw [dZ,dZ,dZ,dZ,kl,kl];exact h.x
theorem Apart.swap (h:Apart a1 a2 b1 b2 c1 c2 d1 d2):Apart c1 c2 d1 d2 a1 a2 b1 b2:=⟨h.c,h.d,h.a,h.b,fun hx=>h.x ⟨hx.2,hx.1⟩⟩
theorem sn (hab:a2<b2) (h1:a2<=p2) (h2:p2<=b2) (h3:a2<=q2) (h4:q2<=b2) (h:Apart p1 p2 q1 q2 a1 a2 b1 b2) (hp:0<tw a1 a2 b1 b2 p1 p2):0<tw a1 a2 b1 b2 q1 q2:=by
 have hk:0<b2 - a2:=by omega
 rcases Int.lt_trichotomy (tw a1 a2 b1 b2 q1 q2) 0 with hq|hq|hq
 case inr.inr=>exact hq
 case inr.inl=>exact absurd (sK hq hab h3 h4) h.b
 exfalso
 have ea:=KN (a1:=a1) (a2:=a2) (b1:=b1) (b2:=b2) (p1:=p1) (p2:=p2) (q1:=q1) (q2:=q2)
 have eb:=KM (a1:=a1) (a2:=a2) (b1:=b1) (b2:=b2) (p1:=p1) (p2:=p2) (q1:=q1) (q2:=q2)
 have f1:=nq (Int.le_of_lt hp) (show 0<=q2 - a2 by omega)
 have f2:=pN (Int.le_of_lt hq) (show 0<=p2 - a2 by omega)
 have f3:=wY (Int.le_of_lt hp) (show q2 - b2<=0 by omega)
 have f4:=qbn (Int.le_of_lt hq) (show p2 - b2<=0 by omega)
 have g1:=iB (x:=tw p1 p2 q1 q2 a1 a2) hk
 have g2:=iA (x:=tw p1 p2 q1 q2 b1 b2) hk
 by_cases hA:p2=a2/\q2=a2
 ·refine h.c ⟨?_,?_,?_⟩
  ·unfold tw;rw [hA.1,hA.2];grind
  ·have e1:tw a1 a2 b1 b2 p1 p2=-((b2 - a2)*(p1 - a1)):=by unfold tw;rw [hA.1];grind
   have e2:tw a1 a2 b1 b2 q1 q2=-((b2 - a2)*(q1 - a1)):=by unfold tw;rw [hA.2];grind
   have i1:=iB (x:=p1 - a1) hk
   have i2:=iA (x:=q1 - a1) hk
   unfold bt;omega
  ·unfold bt;omega
 by_cases hB:p2=b2/\q2=b2
 ·refine h.d ⟨?_,?_,?_⟩
  ·unfold tw;rw [hB.1,hB.2];grind
  ·have e1:tw a1 a2 b1 b2 p1 p2=-((b2 - a2)*(p1 - b1)):=by unfold tw;rw [hB.1];grind
   have e2:tw a1 a2 b1 b2 q1 q2=-((b2 - a2)*(q1 - b1)):=by unfold tw;rw [hB.2];grind
   have i1:=iB (x:=p1 - b1) hk
   have i2:=iA (x:=q1 - b1) hk
   unfold bt;omega
  ·unfold bt;omega
 have n1:tw p1 p2 q1 q2 a1 a2<0:=by
  refine g1.1 ?_
  rcases Int.lt_or_le a2 q2 with hx|hx
  ·have:=Nc hp (show 0<q2 - a2 by omega)
   omega
  ·have:=qbo hq (show 0<p2 - a2 by omega)
   omega
 have n2:0<tw p1 p2 q1 q2 b1 b2:=by
  refine g2.1 ?_
  rcases Int.lt_or_le q2 b2 with hx|hx
  ·have:=pO hp (show q2 - b2<0 by omega)
   omega
  ·have:=sP hq (show p2 - b2<0 by omega)
   omega
 exact h.x ⟨.inr ⟨n1,n2⟩,.inl ⟨hp,hq⟩⟩
theorem BC (hab:a2<b2) (h1:a2<=p2) (h2:p2<=b2) (hpq:p2<q2) (h4:b2<=q2) (h:Apart p1 p2 q1 q2 a1 a2 b1 b2) (hp:0<tw a1 a2 b1 b2 p1 p2):tw p1 p2 q1 q2 b1 b2<0:=by
 have hk:0<b2 - a2:=by omega
 rcases Int.lt_trichotomy (tw p1 p2 q1 q2 b1 b2) 0 with hq|hq|hq
 ·exact hq
 ·exact absurd (sK hq hpq h2 h4) h.d
 exfalso
 have ea:=KN (a1:=a1) (a2:=a2) (b1:=b1) (b2:=b2) (p1:=p1) (p2:=p2) (q1:=q1) (q2:=q2)
 have eb:=KM (a1:=a1) (a2:=a2) (b1:=b1) (b2:=b2) (p1:=p1) (p2:=p2) (q1:=q1) (q2:=q2)
 have f0:=(iA (x:=tw p1 p2 q1 q2 b1 b2) hk).2 hq
 have f3:=nq (Int.le_of_lt hp) (show 0<=q2 - b2 by omega)
 have hn:tw a1 a2 b1 b2 q1 q2<0:=by
  rcases Int.lt_or_le (tw a1 a2 b1 b2 q1 q2) 0 with hx|hx
  ·exact hx
  ·have:=wY hx (show p2 - b2<=0 by omega)
   omega
 have f1:=Nc hp (show 0<q2 - a2 by omega)
 have f2:=pN (Int.le_of_lt hn) (show 0<=p2 - a2 by omega)
 have n1:tw p1 p2 q1 q2 a1 a2<0:=(iB hk).1 (by omega)
 exact h.x ⟨.inr ⟨n1,hq⟩,.inl ⟨hp,hn⟩⟩
theorem oR:tw b1 b2 a1 a2 c1 c2=- tw a1 a2 b1 b2 c1 c2:=by unfold tw;grind
theorem PT {x a b:Int}:bt x b a↔bt x a b:=by unfold bt;omega
theorem cz.back:cz p1 p2 b1 b2 a1 a2↔cz p1 p2 a1 a2 b1 b2:=by
 unfold cz
 rw [oR,PT,PT (x:=p2),Int.neg_eq_zero]
theorem qaX {x y:Int}:du y x↔du x y:=by unfold du;omega
theorem Apart.back (h:Apart a1 a2 b1 b2 c1 c2 d1 d2):Apart b1 b2 a1 a2 c1 c2 d1 d2:=by
 refine ⟨h.b,h.a,?_,?_,?_⟩
 ·rw [cz.back];exact h.c
 ·rw [cz.back];exact h.d
 ·rw [oR (a1:=a1) (a2:=a2),oR (a1:=a1) (a2:=a2),kl,qaX (x:=tw c1 c2 d1 d2 a1 a2)];exact h.x
theorem Apart.back2 (h:Apart a1 a2 b1 b2 c1 c2 d1 d2):Apart a1 a2 b1 b2 d1 d2 c1 c2:=h.swap.back.swap
theorem LB (hab:a2<b2) (h1:a2<=p2) (h2:p2<=b2) (h3:a2<=q2) (h4:q2<=b2) (h:Apart p1 p2 q1 q2 a1 a2 b1 b2) (hp:tw a1 a2 b1 b2 p1 p2<0):tw a1 a2 b1 b2 q1 q2<0:=by
 have:=sn hab h1 h2 h3 h4 h.mir (by rw [dZ];omega)
 rw [dZ] at this
 omega
theorem LC (hab:a2<b2) (h1:a2<=p2) (h2:p2<=b2) (hpq:p2<q2) (h4:b2<=q2) (h:Apart p1 p2 q1 q2 a1 a2 b1 b2) (hp:tw a1 a2 b1 b2 p1 p2<0):0<tw p1 p2 q1 q2 b1 b2:=by
 have:=BC hab h1 h2 hpq h4 h.mir (by rw [dZ];omega)
 rw [dZ] at this
 omega
def eu (p1 p2 a1 a2 b1 b2:Int):Bool:=decide ((a2<=p2/\p2<b2/\0<tw a1 a2 b1 b2 p1 p2)\/(b2<=p2/\p2<a2/\tw a1 a2 b1 b2 p1 p2<0))
def d9 (p1 p2 q1 q2 v1 v2:Int):Bool:=decide ((p2<v2/\v2<=q2/\tw p1 p2 q1 q2 v1 v2<0)\/(q2<v2/\v2<=p2/\0<tw p1 p2 q1 q2 v1 v2))
theorem y9:eu p1 p2 b1 b2 a1 a2=eu p1 p2 a1 a2 b1 b2:=by
 unfold eu
 rw [oR]
 exact decide_eq_decide.2 (by omega)
theorem wc:d9 q1 q2 p1 p2 c1 c2=d9 p1 p2 q1 q2 c1 c2:=by
 unfold d9
 rw [oR]
 exact decide_eq_decide.2 (by omega)
theorem wH (h:Apart p1 p2 q1 q2 a1 a2 b1 b2) (hp:p2<=q2) (ha:a2<=b2):(eu p1 p2 a1 a2 b1 b2 ^^ eu q1 q2 a1 a2 b1 b2)=(d9 p1 p2 q1 q2 a1 a2 ^^ d9 p1 p2 q1 q2 b1 b2):=by
 have f:∀ {P:Prop} [Decidable P],¬ P->decide P=false:=fun h=>decide_eq_false h
 rcases Int.lt_or_le p2 b2 with h1|h1
 case inr =>
  unfold eu d9
  rw [f (show ¬ ((a2<=p2/\p2<b2/\0<tw a1 a2 b1 b2 p1 p2)\/(b2<=p2/\p2<a2/\tw a1 a2 b1 b2 p1 p2<0)) by omega),f (show ¬ ((a2<=q2/\q2<b2/\0<tw a1 a2 b1 b2 q1 q2)\/(b2<=q2/\q2<a2/\tw a1 a2 b1 b2 q1 q2<0)) by omega),f (show ¬ ((p2<a2/\a2<=q2/\tw p1 p2 q1 q2 a1 a2<0)\/(q2<a2/\a2<=p2/\0<tw p1 p2 q1 q2 a1 a2)) by omega),f (show ¬ ((p2<b2/\b2<=q2/\tw p1 p2 q1 q2 b1 b2<0)\/(q2<b2/\b2<=p2/\0<tw p1 p2 q1 q2 b1 b2)) by omega)]
 rcases Int.lt_or_le q2 a2 with h2|h2
 case inl =>
  unfold eu d9
  rw [f (show ¬ ((a2<=p2/\p2<b2/\0<tw a1 a2 b1 b2 p1 p2)\/(b2<=p2/\p2<a2/\tw a1 a2 b1 b2 p1 p2<0)) by omega),f (show ¬ ((a2<=q2/\q2<b2/\0<tw a1 a2 b1 b2 q1 q2)\/(b2<=q2/\q2<a2/\tw a1 a2 b1 b2 q1 q2<0)) by omega),f (show ¬ ((p2<a2/\a2<=q2/\tw p1 p2 q1 q2 a1 a2<0)\/(q2<a2/\a2<=p2/\0<tw p1 p2 q1 q2 a1 a2)) by omega),f (show ¬ ((p2<b2/\b2<=q2/\tw p1 p2 q1 q2 b1 b2<0)\/(q2<b2/\b2<=p2/\0<tw p1 p2 q1 q2 b1 b2)) by omega)]
 have lo:(eu p1 p2 a1 a2 b1 b2 ^^ d9 p1 p2 q1 q2 a1 a2)=decide ((a2<=p2/\0<tw a1 a2 b1 b2 p1 p2)\/(p2<a2/\tw p1 p2 q1 q2 a1 a2<0)):=by
  unfold eu d9
  rcases Int.lt_or_le p2 a2 with hx|hx
  ·rw [f (show ¬ ((a2<=p2/\p2<b2/\0<tw a1 a2 b1 b2 p1 p2)\/(b2<=p2/\p2<a2/\tw a1 a2 b1 b2 p1 p2<0)) by omega),Bool.false_xor]
   exact decide_eq_decide.2 (by omega)
  ·rw [f (show ¬ ((p2<a2/\a2<=q2/\tw p1 p2 q1 q2 a1 a2<0)\/(q2<a2/\a2<=p2/\0<tw p1 p2 q1 q2 a1 a2)) by omega),Bool.xor_false]
   exact decide_eq_decide.2 (by omega)
 have up:(eu q1 q2 a1 a2 b1 b2 ^^ d9 p1 p2 q1 q2 b1 b2)=decide ((q2<b2/\0<tw a1 a2 b1 b2 q1 q2)\/(b2<=q2/\tw p1 p2 q1 q2 b1 b2<0)):=by
  unfold eu d9
  rcases Int.lt_or_le q2 b2 with hx|hx
  ·rw [f (show ¬ ((p2<b2/\b2<=q2/\tw p1 p2 q1 q2 b1 b2<0)\/(q2<b2/\b2<=p2/\0<tw p1 p2 q1 q2 b1 b2)) by omega),Bool.xor_false]
   exact decide_eq_decide.2 (by omega)
  ·rw [f (show ¬ ((a2<=q2/\q2<b2/\0<tw a1 a2 b1 b2 q1 q2)\/(b2<=q2/\q2<a2/\tw a1 a2 b1 b2 q1 q2<0)) by omega),Bool.false_xor]
   exact decide_eq_decide.2 (by omega)
 have key:((a2<=p2/\0<tw a1 a2 b1 b2 p1 p2)\/(p2<a2/\tw p1 p2 q1 q2 a1 a2<0))↔((q2<b2/\0<tw a1 a2 b1 b2 q1 q2)\/(b2<=q2/\tw p1 p2 q1 q2 b1 b2<0)):=by
  rcases Int.lt_or_le p2 a2 with hx|hx<;>rcases Int.lt_or_le q2 b2 with hy|hy
  ·
   have k1:=BC (a1:=p1) (a2:=p2) (b1:=q1) (b2:=q2) (p1:=a1) (p2:=a2) (q1:=b1) (q2:=b2) (by omega) (by omega) (by omega) (by omega) (by omega) h.swap
   have k2:=LC (a1:=p1) (a2:=p2) (b1:=q1) (b2:=q2) (p1:=a1) (p2:=a2) (q1:=b1) (q2:=b2) (by omega) (by omega) (by omega) (by omega) (by omega) h.swap
   have k3:tw p1 p2 q1 q2 a1 a2≠0:=fun e=>h.c (sK e (by omega) (by omega) (by omega))
   omega
  ·
   have k1:=LB (a1:=p1) (a2:=p2) (b1:=q1) (b2:=q2) (p1:=a1) (p2:=a2) (q1:=b1) (q2:=b2) (by omega) (by omega) (by omega) (by omega) (by omega) h.swap
   have k2:=LB (a1:=p1) (a2:=p2) (b1:=q1) (b2:=q2) (p1:=b1) (p2:=b2) (q1:=a1) (q2:=a2) (by omega) (by omega) (by omega) (by omega) (by omega) h.swap.back
   omega
  ·
   have k1:=sn (a1:=a1) (a2:=a2) (b1:=b1) (b2:=b2) (p1:=p1) (p2:=p2) (q1:=q1) (q2:=q2) (by omega) (by omega) (by omega) (by omega) (by omega) h
   have k2:=sn (a1:=a1) (a2:=a2) (b1:=b1) (b2:=b2) (p1:=q1) (p2:=q2) (q1:=p1) (q2:=p2) (by omega) (by omega) (by omega) (by omega) (by omega) h.back
   omega
  ·
   have k1:=BC (a1:=a1) (a2:=a2) (b1:=b1) (b2:=b2) (p1:=p1) (p2:=p2) (q1:=q1) (q2:=q2) (by omega) (by omega) (by omega) (by omega) (by omega) h
   have k2:=LC (a1:=a1) (a2:=a2) (b1:=b1) (b2:=b2) (p1:=p1) (p2:=p2) (q1:=q1) (q2:=q2) (by omega) (by omega) (by omega) (by omega) (by omega) h
   have k3:tw a1 a2 b1 b2 p1 p2≠0:=fun e=>h.a (sK e (by omega) (by omega) (by omega))
   omega
 rw [decide_eq_decide.2 key,<- up] at lo
 revert lo
 cases eu p1 p2 a1 a2 b1 b2<;>cases eu q1 q2 a1 a2 b1 b2<;>cases d9 p1 p2 q1 q2 a1 a2<;>cases d9 p1 p2 q1 q2 b1 b2<;>decide
theorem qaT (h:Apart p1 p2 q1 q2 a1 a2 b1 b2):(eu p1 p2 a1 a2 b1 b2 ^^ eu q1 q2 a1 a2 b1 b2)=(d9 p1 p2 q1 q2 a1 a2 ^^ d9 p1 p2 q1 q2 b1 b2):=by
 rcases Int.le_total p2 q2 with hp|hp<;>rcases Int.le_total a2 b2 with ha|ha
 ·exact wH h hp ha
 ·rw [<- y9 (p1:=p1),<- y9 (p1:=q1),Bool.xor_comm (d9 p1 p2 q1 q2 a1 a2)];exact wH h.back2 hp ha
 ·rw [Bool.xor_comm,<- wc (c1:=a1),<- wc (c1:=b1)];exact wH h.back hp ha
 ·rw [<- y9 (p1:=p1),<- y9 (p1:=q1),Bool.xor_comm,Bool.xor_comm (d9 p1 p2 q1 q2 a1 a2),<- wc (c1:=a1),<- wc (c1:=b1)];exact wH h.back.back2 hp ha
end
end Go.Sx
namespace Go.Sx
set_option linter.unusedVariables false
section
variable {a1 a2 b1 b2 c1 c2 d1 d2 p1 p2 q1 q2 u1 u2 v1 v2 a b c d:Int}
theorem jc:tw a2 a1 b2 b1 c2 c1=- tw a1 a2 b1 b2 c1 c2:=by unfold tw;grind
theorem cz.tr:cz p2 p1 a2 a1 b2 b1↔cz p1 p2 a1 a2 b1 b2:=by
 unfold cz
 rw [jc,Int.neg_eq_zero,and_comm (a:=bt p2 a2 b2)]
theorem HA:(du (tw a2 a1 b2 b1 c2 c1) (tw a2 a1 b2 b1 d2 d1)/\du (tw c2 c1 d2 d1 a2 a1) (tw c2 c1 d2 d1 b2 b1))↔(du (tw a1 a2 b1 b2 c1 c2) (tw a1 a2 b1 b2 d1 d2)/\du (tw c1 c2 d1 d2 a1 a2) (tw c1 c2 d1 d2 b1 b2)):=by
 rw [jc (a1:=a1) (a2:=a2) (b1:=b1) (b2:=b2) (c1:=c1) (c2:=c2),jc (a1:=a1) (a2:=a2) (b1:=b1) (b2:=b2) (c1:=d1) (c2:=d2),jc (a1:=c1) (a2:=c2) (b1:=d1) (b2:=d2) (c1:=a1) (c2:=a2),jc (a1:=c1) (a2:=c2) (b1:=d1) (b2:=d2) (c1:=b1) (c2:=b2),kl,kl]
theorem Apart.tr (h:Apart a1 a2 b1 b2 c1 c2 d1 d2):Apart a2 a1 b2 b1 c2 c1 d2 d1:=by
 refine ⟨?_,?_,?_,?_,?_⟩
 ·rw [cz.tr];exact h.a
 ·rw [cz.tr];exact h.b
 ·rw [cz.tr];exact h.c
 ·rw [cz.tr];exact h.d
 ·rw [HA];exact h.x
structure Sides (a b c d p1 p2 q1 q2:Int):Prop where
 s1:Apart p1 p2 q1 q2 a b c b
 s2:Apart p1 p2 q1 q2 c b c d
 s3:Apart p1 p2 q1 q2 c d a d
 s4:Apart p1 p2 q1 q2 a d a b
theorem Sides.mir (h:Sides a b c d p1 p2 q1 q2):Sides (-c) b (-a) d (-p1) p2 (-q1) q2:=⟨h.s1.mir.back2,h.s4.mir.back2,h.s3.mir.back2,h.s2.mir.back2⟩
theorem Sides.tr (h:Sides a b c d p1 p2 q1 q2):Sides b a d c p2 p1 q2 q1:=⟨h.s4.tr.back2,h.s3.tr.back2,h.s2.tr.back2,h.s1.tr.back2⟩
def j0 (a b c d p1 p2 q1 q2:Int):Prop:=(p1<a/\q1<a)\/(c<p1/\c<q1)\/(p2<b/\q2<b)\/(d<p2/\d<q2)
def im (a b c d p1 p2 q1 q2:Int):Prop:=j0 a b c d p1 p2 q1 q2\/(∀ x y,a<=x->x<=c->b<=y->y<=d->0<tw p1 p2 q1 q2 x y)\/(∀ x y,a<=x->x<=c->b<=y->y<=d->tw p1 p2 q1 q2 x y<0)
theorem KL {x:Int}:tw (-p1) p2 (-q1) q2 (-x) c2=- tw p1 p2 q1 q2 x c2:=dZ
theorem im.mir (h:im (-c) b (-a) d (-p1) p2 (-q1) q2):im a b c d p1 p2 q1 q2:=by
 rcases h with h|h|h
 ·left;unfold j0 at h ⊢;omega
 ·right;right;intro x y h1 h2 h3 h4
  have:=h (-x) y (by omega) (by omega) h3 h4
  rw [KL] at this;omega
 ·right;left;intro x y h1 h2 h3 h4
  have:=h (-x) y (by omega) (by omega) h3 h4
  rw [KL] at this;omega
theorem im.tr (h:im b a d c p2 p1 q2 q1):im a b c d p1 p2 q1 q2:=by
 rcases h with h|h|h
 ·left;unfold j0 at h ⊢;omega
 ·right;right;intro x y h1 h2 h3 h4
  have:=h y x h3 h4 h1 h2
  rw [jc] at this;omega
 ·right;left;intro x y h1 h2 h3 h4
  have:=h y x h3 h4 h1 h2
  rw [jc] at this;omega
theorem PZ (hac:a<=c) (hp:p1<a) (hq:a<=q1) (hs:¬ (p2<b/\q2<b)) (h:Apart p1 p2 q1 q2 a b c b) (ht:0<tw p1 p2 q1 q2 a b) {x y:Int} (hx:a<=x) (hx':x<=c) (hy:b<=y):0<tw p1 p2 q1 q2 x y:=by
 have hk:0<q1 - p1:=by omega
 have e0:tw p1 p2 q1 q2 a b=(q1 - p1)*(b - p2) - (q2 - p2)*(a - p1):=rfl
 have e1:tw p1 p2 q1 q2 x y=tw p1 p2 q1 q2 a b+(q1 - p1)*(y - b) - (q2 - p2)*(x - a):=by unfold tw;grind
 have e2:tw p1 p2 q1 q2 x y=tw p1 p2 q1 q2 c b+(q1 - p1)*(y - b)+(q2 - p2)*(c - x):=by unfold tw;grind
 have f1:=nq (Int.le_of_lt hk) (show 0<=y - b by omega)
 rcases Int.lt_or_le p2 b with h1|h1
 ·have hB:=sn (a1:=p1) (a2:=p2) (b1:=q1) (b2:=q2) (p1:=a) (p2:=b) (q1:=c) (q2:=b) (by omega) (by omega) (by omega) (by omega) (by omega) h.swap ht
  rcases Int.le_total q2 p2 with h2|h2
  ·have:=pN (show q2 - p2<=0 by omega) (show 0<=x - a by omega)
   omega
  ·have:=nq (show 0<=q2 - p2 by omega) (show 0<=c - x by omega)
   omega
 ·have f2:=wY (Int.le_of_lt hk) (show b - p2<=0 by omega)
  rcases Int.le_total q2 p2 with h2|h2
  ·have:=pN (show q2 - p2<=0 by omega) (show 0<=x - a by omega)
   omega
  ·have:=nq (show 0<=q2 - p2 by omega) (show 0<=a - p1 by omega)
   omega
theorem KK:tw p1 (-p2) q1 (-q2) c1 (-c2)=- tw p1 p2 q1 q2 c1 c2:=by unfold tw;grind
theorem Apart.miry (h:Apart a1 a2 b1 b2 c1 c2 d1 d2):Apart a1 (-a2) b1 (-b2) c1 (-c2) d1 (-d2):=h.tr.mir.tr
theorem zk (hac:a<=c) (hbd:b<=d) (hp:p1<a) (h:Sides a b c d p1 p2 q1 q2):im a b c d p1 p2 q1 q2:=by
 by_cases hs:j0 a b c d p1 p2 q1 q2
 ·exact .inl hs
 right
 have hq:a<=q1:=by unfold j0 at hs;omega
 have hA:tw p1 p2 q1 q2 a b≠0:=fun e=>h.s1.c ((cz.tr).1 (sK (by rw [jc,e];rfl) (by omega) (by omega) (by omega)))
 rcases Int.lt_or_gt_of_ne hA with ht|ht
 ·right
  intro x y h1 h2 h3 h4
  have hD:tw p1 p2 q1 q2 a d<0:=by
   have:=sn (a1:=p2) (a2:=p1) (b1:=q2) (b2:=q1) (p1:=b) (p2:=a) (q1:=d) (q2:=a) (by omega) (by omega) (by omega) (by omega) (by omega) h.s4.tr.swap.back (by rw [jc];omega)
   rw [jc] at this
   omega
  have:=PZ (a:=a) (b:=-d) (c:=c) (p1:=p1) (p2:=-p2) (q1:=q1) (q2:=-q2) hac hp hq (by unfold j0 at hs;omega) h.s3.miry.back2 (by rw [KK];omega) (x:=x) (y:=-y) h1 h2 (by omega)
  rw [KK] at this
  omega
 ·left
  intro x y h1 h2 h3 h4
  exact PZ hac hp hq (by unfold j0 at hs;omega) h.s1 ht h1 h2 h3
theorem qib (hac:a<=c) (hbd:b<=d) (hp:¬ (a<=p1/\p1<=c/\b<=p2/\p2<=d)) (h:Sides a b c d p1 p2 q1 q2):im a b c d p1 p2 q1 q2:=by
 rcases Int.lt_or_le p1 a with h1|h1
 ·exact zk hac hbd h1 h
 rcases Int.lt_or_le c p1 with h2|h2
 ·exact (zk (by omega) hbd (by omega) h.mir).mir
 rcases Int.lt_or_le p2 b with h3|h3
 ·exact (zk hbd hac h3 h.tr).tr
 ·exact ((zk (by omega) hac (by omega) h.tr.mir).mir).tr
theorem im.out (h:im a b c d p1 p2 q1 q2):¬ (a<=q1/\q1<=c/\b<=q2/\q2<=d):=by
 intro hq
 have e:tw p1 p2 q1 q2 q1 q2=0:=by unfold tw;grind
 rcases h with h|h|h
 ·unfold j0 at h;omega
 ·have:=h q1 q2 (by omega) (by omega) (by omega) (by omega);omega
 ·have:=h q1 q2 (by omega) (by omega) (by omega) (by omega);omega
theorem T0:(v1 - u1)*tw p1 p2 q1 q2 u1 u2=-(tw u1 u2 v1 v2 p1 p2*(q1 - u1))+tw u1 u2 v1 v2 q1 q2*(p1 - u1):=by unfold tw;grind
theorem TZ:(v1 - u1)*tw p1 p2 q1 q2 v1 v2=-(tw u1 u2 v1 v2 p1 p2*(q1 - v1))+tw u1 u2 v1 v2 q1 q2*(p1 - v1):=by unfold tw;grind
theorem wX (h1:p1<u1) (h2:p1<v1) (h3:q1<u1) (h4:q1<v1):¬ (du (tw p1 p2 q1 q2 u1 u2) (tw p1 p2 q1 q2 v1 v2)/\du (tw u1 u2 v1 v2 p1 p2) (tw u1 u2 v1 v2 q1 q2)):=by
 rintro ⟨hx,hy⟩
 have e1:=T0 (p1:=p1) (p2:=p2) (q1:=q1) (q2:=q2) (u1:=u1) (u2:=u2) (v1:=v1) (v2:=v2)
 have e2:=TZ (p1:=p1) (p2:=p2) (q1:=q1) (q2:=q2) (u1:=u1) (u2:=u2) (v1:=v1) (v2:=v2)
 have key:(0<(v1 - u1)*tw p1 p2 q1 q2 u1 u2/\0<(v1 - u1)*tw p1 p2 q1 q2 v1 v2)\/((v1 - u1)*tw p1 p2 q1 q2 u1 u2<0/\(v1 - u1)*tw p1 p2 q1 q2 v1 v2<0):=by
  rcases hy with ⟨ha,hb⟩|⟨ha,hb⟩
  ·left
   have f1:=pO ha (show q1 - u1<0 by omega)
   have f2:=pO ha (show q1 - v1<0 by omega)
   have f3:=sP hb (show p1 - u1<0 by omega)
   have f4:=sP hb (show p1 - v1<0 by omega)
   omega
  ·right
   have f1:=sP ha (show q1 - u1<0 by omega)
   have f2:=sP ha (show q1 - v1<0 by omega)
   have f3:=pO hb (show p1 - u1<0 by omega)
   have f4:=pO hb (show p1 - v1<0 by omega)
   omega
 rcases Int.lt_trichotomy 0 (v1 - u1) with hk|hk|hk
 ·have g1:=iA (x:=tw p1 p2 q1 q2 u1 u2) hk
  have g2:=iA (x:=tw p1 p2 q1 q2 v1 v2) hk
  have g3:=iB (x:=tw p1 p2 q1 q2 u1 u2) hk
  have g4:=iB (x:=tw p1 p2 q1 q2 v1 v2) hk
  unfold du at hx
  omega
 ·rw [<- hk,Int.zero_mul,Int.zero_mul] at key
  omega
 ·have m:∀ {x:Int},(v1 - u1)*x=-((u1 - v1)*x):=by intro x;grind
  have hk':0<u1 - v1:=by omega
  have g1:=iA (x:=tw p1 p2 q1 q2 u1 u2) hk'
  have g2:=iA (x:=tw p1 p2 q1 q2 v1 v2) hk'
  have g3:=iB (x:=tw p1 p2 q1 q2 u1 u2) hk'
  have g4:=iB (x:=tw p1 p2 q1 q2 v1 v2) hk'
  rw [m,m] at key
  unfold du at hx
  omega
theorem im.apart (h:im a b c d p1 p2 q1 q2) (hp:¬ (a<=p1/\p1<=c/\b<=p2/\p2<=d)) (hu:a<=u1/\u1<=c/\b<=u2/\u2<=d) (hv:a<=v1/\v1<=c/\b<=v2/\v2<=d):Apart p1 p2 q1 q2 u1 u2 v1 v2:=by
 have hq:=h.out
 refine ⟨?_,?_,?_,?_,?_⟩
 ·rintro ⟨_,h1,h2⟩;unfold bt at h1 h2;omega
 ·rintro ⟨_,h1,h2⟩;unfold bt at h1 h2;omega
 ·rintro ⟨h0,h1,h2⟩
  rcases h with h|h|h
  ·unfold j0 at h;unfold bt at h1 h2;omega
  ·have:=h u1 u2 (by omega) (by omega) (by omega) (by omega);omega
  ·have:=h u1 u2 (by omega) (by omega) (by omega) (by omega);omega
 ·rintro ⟨h0,h1,h2⟩
  rcases h with h|h|h
  ·unfold j0 at h;unfold bt at h1 h2;omega
  ·have:=h v1 v2 (by omega) (by omega) (by omega) (by omega);omega
  ·have:=h v1 v2 (by omega) (by omega) (by omega) (by omega);omega
 ·rcases h with h|h|h
  ·rcases h with h|h|h|h
   ·exact wX (by omega) (by omega) (by omega) (by omega)
   ·have:=wX (p1:=-p1) (p2:=p2) (q1:=-q1) (q2:=q2) (u1:=-u1) (u2:=u2) (v1:=-v1) (v2:=v2) (by omega) (by omega) (by omega) (by omega)
    rwa [dZ,dZ,dZ,dZ,kl,kl] at this
   ·have:=wX (p1:=p2) (p2:=p1) (q1:=q2) (q2:=q1) (u1:=u2) (u2:=u1) (v1:=v2) (v2:=v1) (by omega) (by omega) (by omega) (by omega)
    rwa [HA] at this
   ·have:=wX (p1:=-p2) (p2:=p1) (q1:=-q2) (q2:=q1) (u1:=-u2) (u2:=u1) (v1:=-v2) (v2:=v1) (by omega) (by omega) (by omega) (by omega)
    rwa [dZ,dZ,dZ,dZ,kl,kl,HA] at this
  ·rintro ⟨h1,_⟩
   have:=h u1 u2 (by omega) (by omega) (by omega) (by omega)
   have:=h v1 v2 (by omega) (by omega) (by omega) (by omega)
   unfold du at h1
   omega
  ·rintro ⟨h1,_⟩
   have:=h u1 u2 (by omega) (by omega) (by omega) (by omega)
   have:=h v1 v2 (by omega) (by omega) (by omega) (by omega)
   unfold du at h1
   omega
end
end Go.Sx
