/-
  Numbers of 64 and of 128 bits,digit by digit;places,turns,ways,boxes: what doesn't meet is on one side. No condition.
-/
import Derived.Test.YtainfdcfkgemhaaGreatSx
import Derived.Shelf.Spec.BitsCarry
namespace Go.Sx
abbrev Wd (a b:Int):Value:=.agg #[.int .i64 a,.int .u64 b]
def bD (n:Int):Bool:=decide (-9223372036854775808<=n/\n<9223372036854775808)
def c6 (n:Int):Bool:=decide (0<=n/\n<18446744073709551616)
def cI (a b:Int):Bool:=bD a&&c6 b
def wv (a b:Int):Int:=a*18446744073709551616+b
def dm (n:Int):Bool:=decide (-170141183460469231731687303715884105728<=n/\n<170141183460469231731687303715884105728)
def bF (n:Int):Int:=bif dm n then n / 18446744073709551616 else 0
def bH (n:Int):Int:=bif dm n then n % 18446744073709551616 else 0
abbrev Wn (n:Int):Value:=Wd (bF n) (bH n)
def eT (m n:Int):Int:=bif decide (m<n) then -1 else bif decide (n<m) then 1 else 0
def jv (n:Int):Int:=bif bD n then n else 0
def gA (x y c:Int):Int:=(x+y+c) % 18446744073709551616
def fq (x y c:Int):Int:=(x+y+c) / 18446744073709551616
theorem wrU (n:Int):IntKind.u64.wrap n=n % 18446744073709551616:=(cE true .u64 n).symm
theorem oN (n:Int):IntKind.i64.wrap n=if n % 18446744073709551616>=9223372036854775808 then n % 18446744073709551616 - 18446744073709551616 else n % 18446744073709551616:=by
 rw [<- cE true .i64 n]
 simp only [wr]
 split<;>simp_all<;>omega
def wI (n:Int):Int:=IntKind.i64.wrap n
theorem J8 {n:Int} (h:-9223372036854775808<=n/\n<9223372036854775808):IntKind.i64.wrap n=n:=by
 rw [oN];split<;>omega
theorem aC {n:Int} (h:-9223372036854775808<=n/\n<9223372036854775808):wI n=n:=J8 h
theorem ka {n:Int} (h:0<=n/\n<18446744073709551616):IntKind.u64.wrap n=n:=by
 rw [wrU];omega
theorem eP {n:Int}:bD n=true↔-9223372036854775808<=n/\n<9223372036854775808:=by simp [bD]
theorem jO {n:Int}:c6 n=true↔0<=n/\n<18446744073709551616:=by simp [c6]
theorem kM {a b:Int}:cI a b=true↔(-9223372036854775808<=a/\a<9223372036854775808)/\0<=b/\b<18446744073709551616:=by simp [cI,eP,jO]
theorem me (n:Int):bD (IntKind.i64.wrap n)=true:=by rw [eP,oN];split<;>omega
theorem xz (n:Int):c6 (IntKind.u64.wrap n)=true:=by rw [jO,wrU];omega
theorem rn {a b c d:Int} (h1:a=c) (h2:b=d):Wd a b=Wd c d:=by rw [h1,h2]
theorem nq {n:Int} (h1:-170141183460469231731687303715884105728<=n) (h2:n<170141183460469231731687303715884105728):dm n=true/\bF n=n / 18446744073709551616/\bH n=n % 18446744073709551616:=by
 have:dm n=true:=by simp [dm,h1,h2]
 simp [bF,bH,this]
theorem qaS {n:Int} (h:n< -170141183460469231731687303715884105728\/170141183460469231731687303715884105728<=n):dm n=false/\bF n=0/\bH n=0:=by
 have:dm n=false:=by simp [dm];omega
 simp [bF,bH,this]
theorem mX {n:Int} (h:dm n=true):wv (bF n) (bH n)=n/\cI (bF n) (bH n)=true:=by
 have h':-170141183460469231731687303715884105728<=n/\n<170141183460469231731687303715884105728:=by simpa [dm] using h
 obtain ⟨_,k2,k3⟩:=nq h'.1 h'.2
 rw [kM,k2,k3]
 unfold wv
 omega
theorem NF (n:Int):cI (bF n) (bH n)=true:=by
 cases h:dm n with
 | true=>exact (mX h).2
 | false=>simp [bF,bH,h,kM]
theorem Ck {n:Int} (h:bD n=true):dm n=true:=by
 rw [eP] at h
 simp only [dm,decide_eq_true_eq];omega
theorem qhX (x:Int) (h0:0<=x) (h1:x<18446744073709551616):((BitVec.ofInt 64 x &&& BitVec.ofInt 64 4294967295).toNat:Int)=x % 4294967296:=by
 obtain ⟨n,rfl⟩:=Int.eq_ofNat_of_zero_le h0
 have e:(BitVec.ofInt 64 4294967295)=BitVec.ofNat 64 (2 ^ 32 - 1):=by decide
 rw [e,BitVec.toNat_and,BitVec.ofInt_natCast,BitVec.toNat_ofNat,BitVec.toNat_ofNat]
 rw [Nat.mod_eq_of_lt (a:=2 ^ 32 - 1) (by decide),Nat.and_two_pow_sub_one_eq_mod]
 show ((n % 18446744073709551616 % 4294967296:Nat):Int)=_
 omega
theorem sf (a b m n:Int) (ha:0<=a) (ha':a<m) (hb:0<=b) (hb':b<n):0<=a*b/\a*b<=(m - 1)*(n - 1):=by
 refine ⟨Int.mul_nonneg ha hb,?_⟩
 exact Int.mul_le_mul (by omega) (by omega) hb (by omega)
theorem qa8 (x y:Int) :
  (x / 4294967296*(y / 4294967296)+(x / 4294967296*(y % 4294967296)+x % 4294967296*(y % 4294967296) / 4294967296) / 4294967296 +
   ((x / 4294967296*(y % 4294967296)+x % 4294967296*(y % 4294967296) / 4294967296) % 4294967296+x % 4294967296*(y / 4294967296)) / 4294967296)=x*y / 18446744073709551616:=by
 have ex:=Int.mul_ediv_add_emod x 4294967296
 have ey:=Int.mul_ediv_add_emod y 4294967296
 generalize x / 4294967296=p at *
 generalize x % 4294967296=q at *
 generalize y / 4294967296=r at *
 generalize y % 4294967296=s at *
 have e:x*y=18446744073709551616*(p*r)+4294967296*(p*s)+4294967296*(q*r)+q*s:=by
  rw [<- ex,<- ey]
  simp only [Int.add_mul,Int.mul_add]
  have h1:4294967296*p*(4294967296*r)=18446744073709551616*(p*r):=by
   rw [Int.mul_assoc,Int.mul_left_comm p,<- Int.mul_assoc];rfl
  have h2:4294967296*p*s=4294967296*(p*s):=Int.mul_assoc _ _ _
  have h3:q*(4294967296*r)=4294967296*(q*r):=Int.mul_left_comm _ _ _
  rw [h1,h2,h3]
  omega
 rw [e]
 generalize p*r=A
 generalize p*s=B
 generalize q*r=C
 generalize q*s=D
 omega
theorem qa7 (x y:Int) (hx:c6 x=true) (hy:c6 y=true) :
  let U:=IntKind.u64.wrap
  let A:=fun z:Int=>U ((BitVec.ofInt 64 z &&& BitVec.ofInt 64 4294967295).toNat:Int)
  let S:=fun z:Int=>z.fdiv (2 ^ 32)
  let w0:=U (A x*A y);let t:=U (U (S x*A y)+S w0);let w1:=U (A t+U (A x*S y))
  U (U (U (S x*S y)+S t)+S w1)=x*y / 18446744073709551616/\U (x*y)=x*y % 18446744073709551616:=by
 intro U A S w0 t w1
 show U (U (U (S x*S y)+S (U (U (S x*A y)+S (U (A x*A y)))))+S (U (A (U (U (S x*A y)+S (U (A x*A y))))+U (A x*S y))))=_/\_
 clear w0 t w1
 rw [jO] at hx hy
 have eS:∀ z,S z=z / 4294967296:=by
  intro z
  show z.fdiv (2 ^ 32)=_
  rw [Int.fdiv_eq_ediv_of_nonneg _ (by decide)]
  rfl
 have eU:∀ z,0<=z->z<18446744073709551616->U z=z:=by
  intro z h0 h1
  show IntKind.u64.wrap z=z
  rw [wrU];omega
 have eA:∀ z,0<=z->z<18446744073709551616->A z=z % 4294967296:=by
  intro z h0 h1
  show U _=_
  rw [qhX z h0 h1,eU _ (by omega) (by omega)]
 have hcore:=qa8 x y
 have hxy:=sf x y 18446744073709551616 18446744073709551616 hx.1 hx.2 hy.1 hy.2
 have e0:U (x*y)=x*y % 18446744073709551616:=wrU _
 have b1:=sf (x % 4294967296) (y % 4294967296) 4294967296 4294967296 (by omega) (by omega) (by omega) (by omega)
 have b2:=sf (x / 4294967296) (y % 4294967296) 4294967296 4294967296 (by omega) (by omega) (by omega) (by omega)
 have b3:=sf (x % 4294967296) (y / 4294967296) 4294967296 4294967296 (by omega) (by omega) (by omega) (by omega)
 have b4:=sf (x / 4294967296) (y / 4294967296) 4294967296 4294967296 (by omega) (by omega) (by omega) (by omega)
 simp only [eS,eA x hx.1 hx.2,eA y hy.1 hy.2]
 rw [e0]
 refine ⟨?_,rfl⟩
 clear e0
 generalize x / 4294967296=p at *
 generalize x % 4294967296=q at *
 generalize y / 4294967296=r at *
 generalize y % 4294967296=s at *
 generalize p*r=B4 at *
 generalize p*s=B2 at *
 generalize q*r=B3 at *
 generalize q*s=B1 at *
 generalize x*y=Z at *
 have h1:U B1=B1:=eU _ (by omega) (by omega)
 have h2:U B2=B2:=eU _ (by omega) (by omega)
 have h3:U (B2+B1 / 4294967296)=B2+B1 / 4294967296:=eU _ (by omega) (by omega)
 have h4:A (B2+B1 / 4294967296)=(B2+B1 / 4294967296) % 4294967296:=eA _ (by omega) (by omega)
 have h5:U B3=B3:=eU _ (by omega) (by omega)
 have h6:U ((B2+B1 / 4294967296) % 4294967296+B3)=(B2+B1 / 4294967296) % 4294967296+B3:=eU _ (by omega) (by omega)
 have h7:U B4=B4:=eU _ (by omega) (by omega)
 have h8:U (B4+(B2+B1 / 4294967296) / 4294967296)=B4+(B2+B1 / 4294967296) / 4294967296:=eU _ (by omega) (by omega)
 have h9:U (B4+(B2+B1 / 4294967296) / 4294967296+((B2+B1 / 4294967296) % 4294967296+B3) / 4294967296)=B4+(B2+B1 / 4294967296) / 4294967296+((B2+B1 / 4294967296) % 4294967296+B3) / 4294967296 :=
  eU _ (by omega) (by omega)
 rw [h1,h2,h3,h4,h5,h6,h7,h8,h9,hcore]
theorem qh2 (a b c d:Int) (h1:cI a b=true) (h2:cI c d=true) :
  let lo:=gA b d 0
  let hi:=IntKind.i64.wrap (gA (IntKind.u64.wrap a) (IntKind.u64.wrap c) (fq b d 0))
  (0<=fq b d 0/\fq b d 0<=1) /\
  ((decide (a<0)==decide (c<0))&&(decide (hi<0) != decide (a<0)))=!dm (wv a b+wv c d)/\(dm (wv a b+wv c d)=true->hi=bF (wv a b+wv c d)/\lo=bH (wv a b+wv c d)):=by
 intro lo hi
 rw [kM] at h1 h2
 obtain ⟨⟨a1,a2⟩,b1,b2⟩:=h1
 obtain ⟨⟨c1,c2⟩,d1,d2⟩:=h2
 have hlo:lo=(b+d) % 18446744073709551616:=by show gA b d 0=_;unfold gA;omega
 generalize hk:fq b d 0=k
 have hk':(b+d<18446744073709551616/\k=0)\/(18446744073709551616<=b+d/\k=1):=by
  rw [<- hk];unfold fq;omega
 have hhi:hi=if (a+c+k) % 18446744073709551616>=9223372036854775808 then (a+c+k) % 18446744073709551616 - 18446744073709551616 else (a+c+k) % 18446744073709551616:=by
  show IntKind.i64.wrap (gA _ _ (fq b d 0))=_
  rw [hk,oN]
  unfold gA
  rw [wrU,wrU]
  have:(a % 18446744073709551616+c % 18446744073709551616+k) % 18446744073709551616 % 18446744073709551616=(a+c+k) % 18446744073709551616:=by omega
  rw [this]
 clear_value lo hi
 refine ⟨by omega,?_⟩
 by_cases ho:dm (wv a b+wv c d)=true
 ·have ho':-170141183460469231731687303715884105728<=wv a b+wv c d/\wv a b+wv c d<170141183460469231731687303715884105728:=by simpa [dm] using ho
  obtain ⟨_,k2,k3⟩:=nq ho'.1 ho'.2
  unfold wv at ho' k2 k3 ⊢
  have e1:hi=bF (a*18446744073709551616+b+(c*18446744073709551616+d)):=by rw [k2,hhi];split<;>omega
  refine ⟨?_,fun _=>⟨e1,by rw [k3,hlo];omega⟩⟩
  unfold wv at ho
  rw [ho,e1,k2]
  rw [Bool.not_true,Bool.and_eq_false_imp]
  intro hs
  have hs':(a<0)↔(c<0):=by simpa using hs
  rw [bne_eq_false_iff_eq,decide_eq_decide]
  omega
 ·have ho0:dm (wv a b+wv c d)=false:=by simpa using ho
  refine ⟨?_,fun h=>absurd h ho⟩
  have ho':¬ (-170141183460469231731687303715884105728<=wv a b+wv c d/\wv a b+wv c d<170141183460469231731687303715884105728):=by simpa [dm] using ho
  rw [ho0,Bool.not_false,Bool.and_eq_true]
  unfold wv at ho'
  have s1:(a<0)↔(c<0):=by omega
  have s2:¬ ((hi<0)↔(a<0)):=by rw [hhi];split<;>omega
  refine ⟨by simpa using s1,?_⟩
  rw [bne_iff_ne,Ne,decide_eq_decide]
  exact s2
theorem qcN (a b:Int) (h1:cI a b=true):bD (IntKind.i64.wrap b)=true/\(bF (IntKind.i64.wrap b)==a&&(bH (IntKind.i64.wrap b)==b&&true))=bD (wv a b)/\(bD (wv a b)=true->IntKind.i64.wrap b=wv a b):=by
 rw [kM] at h1
 obtain ⟨⟨a1,a2⟩,b1,b2⟩:=h1
 have hw:IntKind.i64.wrap b=if b>=9223372036854775808 then b - 18446744073709551616 else b:=by
  rw [oN,show b % 18446744073709551616=b by omega]
 rw [hw]
 generalize hn:(if b>=9223372036854775808 then b - 18446744073709551616 else b)=n
 have hn':(9223372036854775808<=b/\n=b - 18446744073709551616)\/(b<9223372036854775808/\n=b):=by
  rw [<- hn];by_cases hh:b>=9223372036854775808
  ·left;simp [hh]<;>omega
  ·right;simp [hh]<;>omega
 obtain ⟨_,k2,k3⟩:=nq (n:=n) (by omega) (by omega)
 rw [k2,k3]
 refine ⟨by rw [eP];omega,?_,fun hq=>?_⟩
 ·rw [Bool.and_true,Bool.eq_iff_iff,Bool.and_eq_true,beq_iff_eq,beq_iff_eq,eP]
  unfold wv
  omega
 ·rw [eP] at hq
  unfold wv at hq ⊢
  omega
theorem AL {p q r s:Int} {t u:Bool} (h1:p=r) (h2:q=s) (h3:t=u):(Value.tuple #[Wd p q,.bool t])=.tuple #[Wd r s,.bool u]:=by rw [h1,h2,h3]
theorem inB {p r:Int} {t u:Bool} (h1:p=r) (h3:t=u):(Value.tuple #[.int .i64 p,.bool t])=.tuple #[.int .i64 r,.bool u]:=by rw [h1,h3]
theorem qha {a b c d:Int} (h1:cI a b=true) (h2:cI c d=true):(bif eT a c != 0 then eT a c else eT b d)=eT (wv a b) (wv c d):=by
 rw [kM] at h1 h2
 unfold eT wv
 by_cases p1:a<c
 ·have q1:a*18446744073709551616+b<c*18446744073709551616+d:=by omega
  simp [p1,q1]
 ·by_cases p2:c<a
  ·have q1:¬ a*18446744073709551616+b<c*18446744073709551616+d:=by omega
   have q2:c*18446744073709551616+d<a*18446744073709551616+b:=by omega
   simp [p1,p2,q1,q2]
  ·have:a=c:=by omega
   subst this
   simp
theorem qa5 (a b:Int) (h1:bD a=true) (h2:bD b=true) :
  let U:=IntKind.u64.wrap
  let hi:=bif decide (a<0) then (bif decide (b<0) then U (U (U a*U b / 18446744073709551616 - U b) - U a) else U (U a*U b / 18446744073709551616 - U b)) else (bif decide (b<0) then U (U a*U b / 18446744073709551616 - U a) else U a*U b / 18446744073709551616)
  Wd (IntKind.i64.wrap hi) (U a*U b % 18446744073709551616)=Wn (a*b):=by
 intro U hi
 rw [eP] at h1 h2
 have eU:∀ z,U z=z % 18446744073709551616:=wrU
 have eI:∀ z,IntKind.i64.wrap z=if z % 18446744073709551616>=9223372036854775808 then z % 18446744073709551616 - 18446744073709551616 else z % 18446744073709551616:=oN
 have hab:-85070591730234615865843651857942052864<=a*b/\a*b<=85070591730234615865843651857942052864:=by
  have m1:(a.natAbs:Int)*b.natAbs<=9223372036854775808*9223372036854775808:=Int.mul_le_mul (by omega) (by omega) (by omega) (by omega)
  rw [<- Int.natCast_mul,<- Int.natAbs_mul] at m1
  omega
 obtain ⟨_,k2,k3⟩:=nq (n:=a*b) (by omega) (by omega)
 by_cases hA:a<0
 ·by_cases hB:b<0
  ·have hh:hi=U (U (U a*U b / 18446744073709551616 - U b) - U a):=by show (bif decide (a<0) then _ else _)=_;simp [hA,hB]
   rw [hh]
   have ea:U a=a+18446744073709551616:=by rw [eU];omega
   have eb:U b=b+18446744073709551616:=by rw [eU];omega
   have ep:U a*U b=a*b+18446744073709551616*a+18446744073709551616*b+340282366920938463463374607431768211456:=by
    rw [ea,eb,Int.add_mul,Int.mul_add];omega
   rw [ep,ea,eb]
   generalize a*b=Z at *
   refine rn ?_ ?_
   ·rw [k2,eI,eU,eU];split<;>omega
   ·rw [k3];omega
  ·have hh:hi=U (U a*U b / 18446744073709551616 - U b):=by show (bif decide (a<0) then _ else _)=_;simp [hA,hB]
   rw [hh]
   have ea:U a=a+18446744073709551616:=by rw [eU];omega
   have eb:U b=b:=by rw [eU];omega
   have ep:U a*U b=a*b+18446744073709551616*b:=by
    rw [ea,eb,Int.add_mul]
   rw [ep,eb]
   generalize a*b=Z at *
   refine rn ?_ ?_
   ·rw [k2,eI,eU];split<;>omega
   ·rw [k3];omega
 ·by_cases hB:b<0
  ·have hh:hi=U (U a*U b / 18446744073709551616 - U a):=by show (bif decide (a<0) then _ else _)=_;simp [hA,hB]
   rw [hh]
   have ea:U a=a:=by rw [eU];omega
   have eb:U b=b+18446744073709551616:=by rw [eU];omega
   have ep:U a*U b=a*b+18446744073709551616*a:=by
    rw [ea,eb,Int.mul_add];omega
   rw [ep,ea]
   generalize a*b=Z at *
   refine rn ?_ ?_
   ·rw [k2,eI,eU];split<;>omega
   ·rw [k3];omega
  ·have hh:hi=U a*U b / 18446744073709551616:=by show (bif decide (a<0) then _ else _)=_;simp [hA,hB]
   rw [hh]
   have ea:U a=a:=by rw [eU];omega
   have eb:U b=b:=by rw [eU];omega
   rw [ea,eb]
   have hz:0<=a*b:=Int.mul_nonneg (by omega) (by omega)
   generalize a*b=Z at *
   refine rn ?_ ?_
   ·rw [k2,eI];split<;>omega
   ·rw [k3]
theorem Mk {a b:Int} (h1:bD a=true) (h2:bD b=true):dm (a*b)=true:=by
 rw [eP] at h1 h2
 have m1:(a.natAbs:Int)*b.natAbs<=9223372036854775808*9223372036854775808:=Int.mul_le_mul (by omega) (by omega) (by omega) (by omega)
 rw [<- Int.natCast_mul,<- Int.natAbs_mul] at m1
 exact (nq (by omega) (by omega)).1
end Go.Sx
namespace Go.Sx
noncomputable def kK (p:Prop):Bool:=@decide p (Classical.propDecidable p)
theorem nL {p:Prop}:kK p=true↔p:=by unfold kK;exact @decide_eq_true_iff p (Classical.propDecidable p)
theorem Z0 (L:List Int):(bv L).length=L.length:=by simp [bv]
end Go.Sx
namespace Go.Sx
def plR (x y:Int):Bool:=decide (-1099511627776<=x/\x<=1099511627776/\-1099511627776<=y/\y<=1099511627776)
theorem wA {x y:Int}:plR x y=true↔-1099511627776<=x/\x<=1099511627776/\-1099511627776<=y/\y<=1099511627776:=by unfold plR;exact decide_eq_true_iff
def dP (ax ay bx by_ cx cy:Int):Int:=bif plR ax ay&&(plR bx by_&&plR cx cy) then eT ((bx - ax)*(cy - ay)) ((by_ - ay)*(cx - ax)) else 0
def HE (x a b:Int):Bool:=decide ((if b<a then b else a)<=x)&&decide (x<=(if b>a then b else a))
def cp (px py ax ay bx by_:Int):Bool:=(plR px py&&(plR ax ay&&plR bx by_))&&(dP ax ay bx by_ px py==0&&(HE px ax bx&&HE py ay by_))
def Pi (ax ay bx by_ cx cy dx dy:Int):Bool:=decide (wI (dP ax ay bx by_ cx cy*dP ax ay bx by_ dx dy)<0)&&decide (wI (dP cx cy dx dy ax ay*dP cx cy dx dy bx by_)<0)
def eK (ax ay bx by_ cx cy dx dy:Int):Bool:=(plR ax ay&&(plR bx by_&&(plR cx cy&&plR dx dy)))&&(cp ax ay cx cy dx dy||(cp bx by_ cx cy dx dy||(cp cx cy ax ay bx by_||(cp dx dy ax ay bx by_||Pi ax ay bx by_ cx cy dx dy))))
theorem Ty {ax ay bx by_ cx cy:Int} (h:(plR ax ay&&(plR bx by_&&plR cx cy))=true):eT (wI (bx - ax)*wI (cy - ay)) (wI (by_ - ay)*wI (cx - ax))=dP ax ay bx by_ cx cy:=by
 unfold dP
 rw [h]
 simp only [Bool.and_eq_true,wA] at h
 rw [aC (n:=bx - ax) (by omega),aC (n:=cy - ay) (by omega),aC (n:=by_ - ay) (by omega),aC (n:=cx - ax) (by omega)]
 rfl
end Go.Sx
namespace Go.Sx
def cv (B:ByteArray):List (List Dat):=bv (bL B)
def aD (L:List (List Dat)):ByteArray:=strOfNums (cD L)
theorem oY (B:ByteArray):aD (cv B)=B:=by
 unfold aD cv
 rw [Mw]
 apply ByteArray.ext
 apply Array.ext'
 simp [strOfNums,bL,Function.comp_def]
theorem wm (B:ByteArray):(cv B).length=B.size:=by
 unfold cv
 rw [Z0]
 simp [bL]
theorem PH (a b:ByteArray):bL (a++b)=bL a++bL b:=by simp [bL]
theorem Hy (a:ByteArray) (i j:Nat):bL (a.extract i j)=((bL a).take j).drop i:=by
 simp [bL,List.drop_take]
theorem LF (a b:List Int):bv (a++b)=bv a++bv b:=by simp [bv]
theorem LD (a:List Int) (n:Nat):bv (a.take n)=(bv a).take n:=by simp [bv]
theorem LE (a:List Int) (n:Nat):bv (a.drop n)=(bv a).drop n:=by simp [bv]
theorem qhm (s:ByteArray):(bL s).length=s.size:=by simp [bL]
def rS (B:ByteArray) (k:Nat) (s:ByteArray):ByteArray:=B.extract 0 k++s++B.extract (k+s.size) B.size
theorem LB (B s:ByteArray) (k:Nat):(cv B).take k++bv (bL s)++(cv B).drop (k+s.size)=cv (rS B k s):=by
 unfold cv rS
 rw [PH,PH,LF,LF,Hy,Hy,List.drop_zero,LD,LE,List.take_of_length_le (Nat.le_of_eq (qhm B))]
theorem Tw (B:ByteArray) (lo n:Nat):strOfNums (cD (((cv B).drop lo).take n))=B.extract lo (lo+n):=by
 have:((cv B).drop lo).take n=cv (B.extract lo (lo+n)):=by
  unfold cv
  rw [Hy,LE,LD,List.drop_take]
  congr 1
  omega
 rw [this]
 exact oY _
theorem qao {B s:ByteArray} {k:Nat} (h:k+s.size<=B.size):(rS B k s).size=B.size:=by
 unfold rS
 simp only [ByteArray.size_append,ByteArray.size_extract]
 omega
def Cx (n:Nat) (x:UInt8):ByteArray:=⟨(List.replicate n x).toArray⟩
theorem ZX (n:Nat) (x:UInt8):cv (Cx n x)=List.replicate n [.n (x.toNat:Int)]:=by
 simp [cv,Cx,bL,bv]
end Go.Sx
namespace Go.Sx
def jC (r q:Int):Int:=IntKind.u64.wrap ((BitVec.ofInt 64 r ||| BitVec.ofInt 64 q).toNat:Int)
def eZ (n:Int):Nat->Int->Int
 | 0,r=>r
 | k+1,r=>eZ n k (bif decide ((r+2 ^ k)*(r+2 ^ k)<=n) then r+2 ^ k else r)
theorem Mf (r:Int) (k:Nat) (h0:0<=r) (h1:r % 2 ^ (k+1)=0) (h2:r+2 ^ (k+1)<=18446744073709551616):jC r (2 ^ k)=r+2 ^ k/\c6 (r+2 ^ k)=true:=by
 have hp:(0:Int)<2 ^ k:=Int.pow_pos (by decide)
 have hs:(2:Int) ^ (k+1)=2 ^ k*2:=Int.pow_succ 2 k
 have hb:c6 (r+2 ^ k)=true:=by rw [jO];omega
 refine ⟨?_,hb⟩
 rw [jO] at hb
 obtain ⟨m,rfl⟩:=Int.eq_ofNat_of_zero_le h0
 unfold jC
 have e1:((2:Int) ^ k)=((2 ^ k:Nat):Int):=by simp
 have e2:((2:Int) ^ (k+1))=((2 ^ (k+1):Nat):Int):=by simp
 rw [e1,BitVec.ofInt_natCast,BitVec.ofInt_natCast,BitVec.toNat_or,BitVec.toNat_ofNat,BitVec.toNat_ofNat]
 rw [e2] at h1 h2
 have hm:m % 2 ^ (k+1)=0:=by
  have:((m % 2 ^ (k+1):Nat):Int)=0:=by rw [Int.natCast_emod];exact h1
  exact_mod_cast this
 have hk:2 ^ k<2 ^ (k+1):=Nat.pow_lt_pow_right (by decide) (by omega)
 have l1:m<2 ^ 64:=by
  have:(m:Int)<18446744073709551616:=by omega
  omega
 have l2:2 ^ k<2 ^ 64:=by omega
 rw [Nat.mod_eq_of_lt l1,Nat.mod_eq_of_lt l2]
 have hor:m ||| 2 ^ k=m+2 ^ k:=by
  have hd:m=2 ^ (k+1)*(m / 2 ^ (k+1)):=by
   have:=Nat.div_add_mod m (2 ^ (k+1));omega
  rw [hd,<- Nat.two_pow_add_eq_or_of_lt hk]
 rw [hor,wrU]
 rw [e1] at hb
 push_cast at hb ⊢
 omega
theorem Uo {α:Type} (N:Int) (g:Int->Bool) (hg:∀ x,c6 x=true->g x=true) (E:Nat->Int->Int->Option α) (F:Int->Option α)
  (hE:∀ m r q,E (m+1) r q=bif decide (q>0) then (bif g (jC r q) then (bif decide (jC r q*jC r q<=N) then E m (jC r q) (q.fdiv (2 ^ 1)) else E m r (q.fdiv (2 ^ 1))) else none) else F r) :
  ∀ (k:Nat) (r:Int),0<=r->r % 2 ^ (k+1)=0->r+2 ^ (k+1)<=18446744073709551616->E (k+2) r (2 ^ k)=F (eZ N (k+1) r):=by
 intro k
 induction k with
 | zero =>
  intro r h0 h1 h2
  obtain ⟨e1,e2⟩:=Mf r 0 h0 h1 h2
  rw [hE,e1,hg _ e2]
  have h3:((2:Int) ^ 0).fdiv (2 ^ 1)=0:=by decide
  rw [h3]
  have:∀ r',E 1 r' 0=F r':=fun r'=>by rw [hE];rfl
  rw [this,this]
  simp only [eZ,Int.pow_zero,decide_true,cond_true,show ((1:Int)>0) from by decide]
  cases decide ((r+1)*(r+1)<=N)<;>rfl
 | succ k ih =>
  intro r h0 h1 h2
  obtain ⟨e1,e2⟩:=Mf r (k+1) h0 h1 h2
  rw [hE,e1,hg _ e2]
  have hp:(0:Int)<2 ^ k:=Int.pow_pos (by decide)
  have hs:(2:Int) ^ (k+1)=2 ^ k*2:=Int.pow_succ 2 k
  have hs2:(2:Int) ^ (k+1+1)=2 ^ (k+1)*2:=Int.pow_succ 2 (k+1)
  have h3:((2:Int) ^ (k+1)).fdiv (2 ^ 1)=2 ^ k:=by
   rw [Int.fdiv_eq_ediv_of_nonneg _ (by decide),hs]
   exact Int.mul_ediv_cancel _ (by decide)
  rw [h3]
  have hgt:(2:Int) ^ (k+1)>0:=by omega
  simp only [hgt,decide_true,cond_true]
  have dv:(2:Int) ^ (k+1) ∣ r:=Int.dvd_trans ⟨2,hs2⟩ (Int.dvd_of_emod_eq_zero h1)
  rw [ih r h0 (Int.emod_eq_zero_of_dvd dv) (by omega),ih (r+2 ^ (k+1)) (by omega) (Int.emod_eq_zero_of_dvd (Int.dvd_add dv (Int.dvd_refl _))) (by omega)]
  show _=F (eZ N (k+1) (bif decide ((r+2 ^ (k+1))*(r+2 ^ (k+1))<=N) then r+2 ^ (k+1) else r))
  cases decide ((r+2 ^ (k+1))*(r+2 ^ (k+1))<=N)<;>rfl
theorem Bt (n:Int):∀ (k:Nat) (r:Int),0<=r->r*r<=n->n<(r+2 ^ k)*(r+2 ^ k)->(r<=eZ n k r/\eZ n k r<r+2 ^ k)/\eZ n k r*eZ n k r<=n/\n<(eZ n k r+1)*(eZ n k r+1)
 | 0,r,h0,h1,h2=>by
  simp only [eZ,Int.pow_zero] at *
  exact ⟨⟨by omega,by omega⟩,h1,h2⟩
 | k+1,r,h0,h1,h2=>by
  have hp:(0:Int)<2 ^ k:=Int.pow_pos (by decide)
  have hs:(2:Int) ^ (k+1)=2 ^ k*2:=Int.pow_succ 2 k
  simp only [eZ]
  by_cases hc:(r+2 ^ k)*(r+2 ^ k)<=n
  ·simp only [hc,decide_true,cond_true]
   have:=Bt n k (r+2 ^ k) (by omega) hc (by rw [show r+2 ^ k+2 ^ k=r+2 ^ (k+1) by omega];exact h2)
   exact ⟨⟨by omega,by omega⟩,this.2⟩
  ·simp only [hc,decide_false,cond_false]
   have:=Bt n k r h0 h1 (by omega)
   exact ⟨⟨by omega,by omega⟩,this.2⟩
def bS (n:Int):Int:=bif decide (n<0) then 0 else eZ n 64 0
theorem wc (n:Int) (h0:0<=n) (h1:n<170141183460469231731687303715884105728):0<=bS n/\bS n<18446744073709551616/\bS n*bS n<=n/\n<(bS n+1)*(bS n+1):=by
 have e:bS n=eZ n 64 0:=by
  have:¬ n<0:=by omega
  simp [bS,this]
 rw [e]
 have:=Bt n 64 0 (by decide) (by simpa using h0) (by
  have:((0:Int)+2 ^ 64)*(0+2 ^ 64)=340282366920938463463374607431768211456:=by decide
  rw [this];omega)
 have e2:(0:Int)+2 ^ 64=18446744073709551616:=by decide
 rw [e2] at this
 exact ⟨this.1.1,this.1.2,this.2⟩
theorem BP {n:Int} (h:n<0):bS n=0:=by simp [bS,h]
theorem ZQ {n:Int} (h1:n<170141183460469231731687303715884105728):0<=bS n:=by
 by_cases h:0<=n
 ·exact (wc n h h1).1
 ·rw [BP (by omega)];omega
theorem ZP {n r:Int} (hn:n<170141183460469231731687303715884105728) (h0:0<=r) (h1:r*r<=n) (h2:n<(r+1)*(r+1)):bS n=r:=by
 have hn0:0<=n:=Int.le_trans (Int.mul_nonneg h0 h0) h1
 obtain ⟨s0,_,s2,s3⟩:=wc n hn0 hn
 rcases Int.lt_trichotomy (bS n) r with h|h|h
 ·have:(bS n+1)*(bS n+1)<=r*r:=Int.mul_le_mul (by omega) (by omega) (by omega) h0
  omega
 ·exact h
 ·have:(r+1)*(r+1)<=bS n*bS n:=Int.mul_le_mul (by omega) (by omega) (by omega) s0
  omega
end Go.Sx
namespace Go.Sx
theorem sg {a b A B:Int} (h1:-A<=a) (h2:a<=A) (h3:-B<=b) (h4:b<=B):-(A*B)<=a*b/\a*b<=A*B:=by
 have p1:=Int.mul_nonneg (show 0<=A - a by omega) (show 0<=B+b by omega)
 have p2:=Int.mul_nonneg (show 0<=A+a by omega) (show 0<=B - b by omega)
 have p3:=Int.mul_nonneg (show 0<=A - a by omega) (show 0<=B - b by omega)
 have p4:=Int.mul_nonneg (show 0<=A+a by omega) (show 0<=B+b by omega)
 simp only [Int.sub_mul,Int.add_mul,Int.mul_sub,Int.mul_add] at p1 p2 p3 p4
 omega
def Ab (z v g t:Int):Int:=2*z+2*v*t - g*t*t
def bw (z v g:Int):Int:=bif decide (z<0) then 0 else (v+bS (v*v+2*g*z)) / g
def ed (z v g:Int):Bool:=decide (-8589934592<=z/\z<=8589934592/\-262144<=v/\v<=262144/\1<=g/\g<=100)
def bT (z v g:Int):Bool:=decide (-2147483648<=z/\z<=2147483648/\-131072<=v/\v<=131072/\1<=g/\g<=100)
theorem kS {z v g:Int}:ed z v g=true↔-8589934592<=z/\z<=8589934592/\-262144<=v/\v<=262144/\1<=g/\g<=100:=by simp [ed]
theorem yD {z v g:Int}:bT z v g=true↔-2147483648<=z/\z<=2147483648/\-131072<=v/\v<=131072/\1<=g/\g<=100:=by simp [bT]
theorem yE {z v g:Int} (h:ed z v g=true):(0<=v*v/\v*v<=68719476736)/\(-1717986918400<=2*g*z/\2*g*z<=1717986918400):=by
 rw [kS] at h
 have h1:=sg (a:=v) (b:=v) (A:=262144) (B:=262144) (by omega) (by omega) (by omega) (by omega)
 have h2:=sg (a:=2*g) (b:=z) (A:=200) (B:=8589934592) (by omega) (by omega) (by omega) (by omega)
 have h3:0<=v*v:=by
  rcases (by omega:0<=v\/v<=0) with h|h
  ·exact Int.mul_nonneg h h
  ·exact Int.mul_nonneg_of_nonpos_of_nonpos h h
 omega
theorem gAb (z v g x:Int):g*Ab z v g x=(v*v+2*g*z) - (g*x - v)*(g*x - v):=by
 unfold Ab
 grind
theorem Up {y s:Int} (h1:-s<=y) (h2:y<=s):y*y<=s*s:=(sg (A:=s) (B:=s) h1 h2 h1 h2).2
theorem vq {z v g:Int} (h:ed z v g=true) (hz:0<=z):∃ s,bw z v g=(v+s) / g/\0<=s/\-s<=v/\v<=s/\s*s<=v*v+2*g*z/\v*v+2*g*z<(s+1)*(s+1):=by
 have hn:=yE h
 have hx:=kS.1 h
 have gz:0<=2*g*z:=Int.mul_nonneg (by omega) hz
 obtain ⟨s0,_,s2,s3⟩:=wc (v*v+2*g*z) (by omega) (by omega)
 refine ⟨bS (v*v+2*g*z),?_,s0,?_,?_,s2,s3⟩
 ·unfold bw;rw [decide_eq_false (by omega)];rfl
 ·rcases (by omega:-bS (v*v+2*g*z)<=v\/bS (v*v+2*g*z)+1<=-v) with h|h
  ·exact h
  ·have:=Int.mul_le_mul h h (by omega) (by omega)
   rw [Int.neg_mul_neg] at this
   omega
 ·rcases (by omega:v<=bS (v*v+2*g*z)\/bS (v*v+2*g*z)+1<=v) with h|h
  ·exact h
  ·have:=Int.mul_le_mul h h (by omega) (by omega)
   omega
theorem o4 {z v g:Int} (h:ed z v g=true):0<=bw z v g:=by
 by_cases hz:z<0
 ·unfold bw;rw [decide_eq_true hz];exact Int.le_refl 0
 ·obtain ⟨s,e,h0,h1,h2,_,_⟩:=vq h (by omega)
  rw [e]
  exact Int.ediv_nonneg (by omega) (by have:=kS.1 h;omega)
theorem Kw {z v g x:Int} (h:ed z v g=true) (hz:0<=z) (hx:0<=x):x<=bw z v g↔0<=Ab z v g x:=by
 obtain ⟨s,e,h0,h1,h2,h3,h4⟩:=vq h hz
 have hg:=(kS.1 h).2.2.2.2.1
 have id:=gAb z v g x
 have gx:0<=g*x:=Int.mul_nonneg (by omega) hx
 rw [e,Int.le_ediv_iff_mul_le (by omega),Int.mul_comm x g]
 constructor
 ·intro hle
  have:=Up (y:=g*x - v) (s:=s) (by omega) (by omega)
  have hp:0<=g*Ab z v g x:=by omega
  rcases (by omega:0<=Ab z v g x\/Ab z v g x<0) with h5|h5
  ·exact h5
  ·have:=Int.mul_neg_of_pos_of_neg (show 0<g by omega) h5
   omega
 ·intro hA
  have hp:=Int.mul_nonneg (show 0<=g by omega) hA
  rcases (by omega:g*x<=v+s\/s+1<=g*x - v) with h5|h5
  ·exact h5
  ·have:=Int.mul_le_mul h5 h5 (by omega) (by omega)
   omega
theorem TE {z v g z' v':Int} (h:ed z v g=true) (h':ed z' v' g=true) (hz:z<=z') (hv:v<=v'):bw z v g<=bw z' v' g:=by
 by_cases h0:z<0
 ·have:bw z v g=0:=by unfold bw;rw [decide_eq_true h0];rfl
  rw [this];exact o4 h'
 ·have t0:=o4 h
  refine (Kw h' (by omega) t0).2 ?_
  have:=(Kw h (by omega) t0).1 (Int.le_refl _)
  have p:=Int.mul_nonneg (show 0<=v' - v by omega) t0
  unfold Ab at this ⊢
  have e:2*v'*bw z v g - 2*v*bw z v g=2*((v' - v)*bw z v g):=by grind
  omega
theorem vt {z v g:Int} (h:ed z v g=true):bw z v g<=2097152:=by
 by_cases hz:z<0
 ·unfold bw;rw [decide_eq_true hz];exact (by decide:(0:Int)<=2097152)
 ·obtain ⟨s,e,h0,h1,h2,h3,_⟩:=vq h (by omega)
  have hn:=yE h
  have hx:=kS.1 h
  have hs:s<=1500000:=by
   rcases (by omega:s<=1500000\/1500001<=s) with h|h
   ·exact h
   ·have:=Int.mul_le_mul h h (by omega) (by omega);omega
  rw [e]
  have:(v+s) / g<=v+s:=Int.ediv_le_self _ (by omega)
  omega
end Go.Sx
namespace Go.Sx
def mn (a b:Int):Int:=if b<a then b else a
def mx (a b:Int):Int:=if b>a then b else a
theorem ir (a b:Int):mn a b<=a/\mn a b<=b/\(mn a b=a\/mn a b=b):=by unfold mn;split<;>omega
theorem iu (a b:Int):a<=mx a b/\b<=mx a b/\(mx a b=a\/mx a b=b):=by unfold mx;split<;>omega
theorem CC {c lo hi t:Int} (h1:lo<=t) (h2:t<=hi):mn (c*lo) (c*hi)<=c*t/\c*t<=mx (c*lo) (c*hi):=by
 obtain ⟨a1,a2,_⟩:=ir (c*lo) (c*hi)
 obtain ⟨b1,b2,_⟩:=iu (c*lo) (c*hi)
 rcases (by omega:0<=c\/c<=0) with h|h
 ·have:=Int.mul_le_mul_of_nonneg_left h1 h
  have:=Int.mul_le_mul_of_nonneg_left h2 h
  omega
 ·have:=Int.mul_le_mul_of_nonpos_left h h1
  have:=Int.mul_le_mul_of_nonpos_left h h2
  omega
def xa (v e a b:Int):Int:=mn (mn ((v - e)*a) ((v - e)*b)) (mn ((v+e)*a) ((v+e)*b))
def wY (v e a b:Int):Int:=mx (mx ((v - e)*a) ((v - e)*b)) (mx ((v+e)*a) ((v+e)*b))
theorem bil {v e a b w t:Int} (h1:v - e<=w) (h2:w<=v+e) (h3:a<=t) (h4:t<=b):xa v e a b<=w*t/\w*t<=wY v e a b:=by
 obtain ⟨l1,l2⟩:=CC (c:=t) h1 h2
 obtain ⟨p1,p2⟩:=CC (c:=v - e) h3 h4
 obtain ⟨q1,q2⟩:=CC (c:=v+e) h3 h4
 rw [Int.mul_comm t w,Int.mul_comm t,Int.mul_comm t] at l1 l2
 unfold xa wY
 have m1:=ir ((v - e)*t) ((v+e)*t)
 have m2:=iu ((v - e)*t) ((v+e)*t)
 have n1:=ir (mn ((v - e)*a) ((v - e)*b)) (mn ((v+e)*a) ((v+e)*b))
 have n2:=iu (mx ((v - e)*a) ((v - e)*b)) (mx ((v+e)*a) ((v+e)*b))
 omega
def jn (x v e a b:Int):Int:=mn (mn (mn (mn (x+v*a - e) (x+(v+-e)*a - e)) (x+(v+e)*a - e)) (x+(v+-e)*b - e)) (x+(v+e)*b - e)
def jx (x v e a b:Int):Int:=mx (mx (mx (mx (x+v*a+e) (x+(v+-e)*a+e)) (x+(v+e)*a+e)) (x+(v+-e)*b+e)) (x+(v+e)*b+e)
theorem qcD (x e A B C D F:Int) (h:mn (mn B D) (mn C F)<=A):mn (mn (mn (mn (x+A - e) (x+B - e)) (x+C - e)) (x+D - e)) (x+F - e)=x - e+mn (mn B D) (mn C F):=by
 have a1:=ir (x+A - e) (x+B - e)
 have a2:=ir (mn (x+A - e) (x+B - e)) (x+C - e)
 have a3:=ir (mn (mn (x+A - e) (x+B - e)) (x+C - e)) (x+D - e)
 have a4:=ir (mn (mn (mn (x+A - e) (x+B - e)) (x+C - e)) (x+D - e)) (x+F - e)
 have b1:=ir B D
 have b2:=ir C F
 have b3:=ir (mn B D) (mn C F)
 omega
theorem qcE (x e A B C D F:Int) (h:A<=mx (mx B D) (mx C F)):mx (mx (mx (mx (x+A+e) (x+B+e)) (x+C+e)) (x+D+e)) (x+F+e)=x+e+mx (mx B D) (mx C F):=by
 have a1:=iu (x+A+e) (x+B+e)
 have a2:=iu (mx (x+A+e) (x+B+e)) (x+C+e)
 have a3:=iu (mx (mx (x+A+e) (x+B+e)) (x+C+e)) (x+D+e)
 have a4:=iu (mx (mx (mx (x+A+e) (x+B+e)) (x+C+e)) (x+D+e)) (x+F+e)
 have b1:=iu B D
 have b2:=iu C F
 have b3:=iu (mx B D) (mx C F)
 omega
theorem qcF (x v:Int) {e a b:Int} (h:0<=e) (hab:a<=b):jn x v e a b=x - e+xa v e a b/\jx x v e a b=x+e+wY v e a b:=by
 have p0:=bil (v:=v) (e:=e) (a:=a) (b:=b) (w:=v) (t:=a) (by omega) (by omega) (Int.le_refl _) hab
 unfold jn jx
 rw [show v+-e=v - e by omega]
 exact ⟨qcD x e _ _ _ _ _ p0.1,qcE x e _ _ _ _ _ p0.2⟩
end Go.Sx
namespace Go.Sx
section
variable {a1 a2 b1 b2 c1 c2 d1 d2 p1 p2 q1 q2:Int}
end
end Go.Sx
namespace Go.Sx
set_option linter.unusedVariables false
section
variable {a1 a2 b1 b2 c1 c2 d1 d2 p1 p2 q1 q2 u1 u2 v1 v2 a b c d:Int}
end
end Go.Sx
