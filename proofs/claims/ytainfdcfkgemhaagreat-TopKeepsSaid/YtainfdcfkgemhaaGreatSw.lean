/-
  Numbers of 64 and of 128 bits,digit by digit;places,turns,ways,boxes: what doesn't meet is on one side. No condition.
-/
import Derived.Test.YtainfdcfkgemhaaGreatSx
import Derived.Shelf.Spec.BitsCarry
namespace Go.Sx
abbrev Wd (a b:Int):Value:=.agg #[.int .i64 a,.int .u64 b]
def bf (n:Int):Bool:=decide (-9223372036854775808<=n/\n<9223372036854775808)
def a7 (n:Int):Bool:=decide (0<=n/\n<18446744073709551616)
def bV (a b:Int):Bool:=bf a&&a7 b
def wv (a b:Int):Int:=a*18446744073709551616+b
def c5 (n:Int):Bool:=decide (-170141183460469231731687303715884105728<=n/\n<170141183460469231731687303715884105728)
def aY (n:Int):Int:=bif c5 n then n / 18446744073709551616 else 0
def aZ (n:Int):Int:=bif c5 n then n % 18446744073709551616 else 0
abbrev Wn (n:Int):Value:=Wd (aY n) (aZ n)
def dY (m n:Int):Int:=bif decide (m<n) then -1 else bif decide (n<m) then 1 else 0
def jP (n:Int):Int:=bif bf n then n else 0
def gJ (x y c:Int):Int:=(x+y+c) % 18446744073709551616
def fM (x y c:Int):Int:=(x+y+c) / 18446744073709551616
theorem wrU (n:Int):IntKind.u64.wrap n=n % 18446744073709551616:=(cF true .u64 n).symm
theorem ed (n:Int):IntKind.i64.wrap n=if n % 18446744073709551616>=9223372036854775808 then n % 18446744073709551616 - 18446744073709551616 else n % 18446744073709551616:=by
 rw [<- cF true .i64 n]
 simp only [wr]
 split<;>simp_all<;>omega
def wI (n:Int):Int:=IntKind.i64.wrap n
theorem AB {n:Int} (h:-9223372036854775808<=n/\n<9223372036854775808):IntKind.i64.wrap n=n:=by
 rw [ed];split<;>omega
theorem az {n:Int} (h:-9223372036854775808<=n/\n<9223372036854775808):wI n=n:=AB h
theorem kr {n:Int} (h:0<=n/\n<18446744073709551616):IntKind.u64.wrap n=n:=by
 rw [wrU];omega
theorem ew {n:Int}:bf n=true↔-9223372036854775808<=n/\n<9223372036854775808:=by simp [bf]
theorem fy {n:Int}:a7 n=true↔0<=n/\n<18446744073709551616:=by simp [a7]
theorem jk {a b:Int}:bV a b=true↔(-9223372036854775808<=a/\a<9223372036854775808)/\0<=b/\b<18446744073709551616:=by simp [bV,ew,fy]
theorem fF (n:Int):bf (IntKind.i64.wrap n)=true:=by rw [ew,ed];split<;>omega
theorem nX (n:Int):a7 (IntKind.u64.wrap n)=true:=by rw [fy,wrU];omega
theorem kt {a b c d:Int} (h1:a=c) (h2:b=d):Wd a b=Wd c d:=by rw [h1,h2]
theorem kH {n:Int} (h1:-170141183460469231731687303715884105728<=n) (h2:n<170141183460469231731687303715884105728):c5 n=true/\aY n=n / 18446744073709551616/\aZ n=n % 18446744073709551616:=by
 have:c5 n=true:=by simp [c5,h1,h2]
 simp [aY,aZ,this]
theorem qbt {n:Int} (h:n< -170141183460469231731687303715884105728\/170141183460469231731687303715884105728<=n):c5 n=false/\aY n=0/\aZ n=0:=by
 have:c5 n=false:=by simp [c5];omega
 simp [aY,aZ,this]
theorem jJ {n:Int} (h:c5 n=true):wv (aY n) (aZ n)=n/\bV (aY n) (aZ n)=true:=by
 have h':-170141183460469231731687303715884105728<=n/\n<170141183460469231731687303715884105728:=by simpa [c5] using h
 obtain ⟨_,k2,k3⟩:=kH h'.1 h'.2
 rw [jk,k2,k3]
 unfold wv
 omega
theorem xq (n:Int):bV (aY n) (aZ n)=true:=by
 cases h:c5 n with
 | true=>exact (jJ h).2
 | false=>simp [aY,aZ,h,jk]
theorem wD {n:Int} (h:bf n=true):c5 n=true:=by
 rw [ew] at h
 simp only [c5,decide_eq_true_eq];omega
theorem qjn (x:Int) (h0:0<=x) (h1:x<18446744073709551616):((BitVec.ofInt 64 x &&& BitVec.ofInt 64 4294967295).toNat:Int)=x % 4294967296:=by
 obtain ⟨n,rfl⟩:=Int.eq_ofNat_of_zero_le h0
 have e:(BitVec.ofInt 64 4294967295)=BitVec.ofNat 64 (2 ^ 32 - 1):=by decide
 rw [e,BitVec.toNat_and,BitVec.ofInt_natCast,BitVec.toNat_ofNat,BitVec.toNat_ofNat]
 rw [Nat.mod_eq_of_lt (a:=2 ^ 32 - 1) (by decide),Nat.and_two_pow_sub_one_eq_mod]
 show ((n % 18446744073709551616 % 4294967296:Nat):Int)=_
 omega
theorem sH (a b m n:Int) (ha:0<=a) (ha':a<m) (hb:0<=b) (hb':b<n):0<=a*b/\a*b<=(m - 1)*(n - 1):=by
 refine ⟨Int.mul_nonneg ha hb,?_⟩
 exact Int.mul_le_mul (by omega) (by omega) hb (by omega)
theorem qbM (x y:Int) :
  (x / 4294967296*(y / 4294967296)+(x / 4294967296*(y % 4294967296)+x % 4294967296*(y % 4294967296) / 4294967296) / 4294967296 +
   ((x / 4294967296*(y % 4294967296)+x % 4294967296*(y % 4294967296) / 4294967296) % 4294967296+x % 4294967296*(y / 4294967296)) / 4294967296)=x*y / 18446744073709551616:=by
 have ex:=Int.mul_ediv_add_emod x 4294967296
 have ey:=Int.mul_ediv_add_emod y 4294967296
 generalize x / 4294967296=p at *
 generalize x % 4294967296=q at *
 generalize y / 4294967296=r at *
 generalize y % 4294967296=s at *
 have e:x*y=18446744073709551616*(p*r)+4294967296*(p*s)+4294967296*(q*r)+q*s:=by
  rw [<- ex,<- ey]
  simp only [Int.add_mul,Int.mul_add]
  have h1:4294967296*p*(4294967296*r)=18446744073709551616*(p*r):=by
   rw [Int.mul_assoc,Int.mul_left_comm p,<- Int.mul_assoc];rfl
  have h2:4294967296*p*s=4294967296*(p*s):=Int.mul_assoc _ _ _
  have h3:q*(4294967296*r)=4294967296*(q*r):=Int.mul_left_comm _ _ _
  rw [h1,h2,h3]
  omega
 rw [e]
 generalize p*r=A
 generalize p*s=B
 generalize q*r=C
 generalize q*s=D
 omega
theorem qbL (x y:Int) (hx:a7 x=true) (hy:a7 y=true) :
  let U:=IntKind.u64.wrap
  let A:=fun z:Int=>U ((BitVec.ofInt 64 z &&& BitVec.ofInt 64 4294967295).toNat:Int)
  let S:=fun z:Int=>z.fdiv (2 ^ 32)
  let w0:=U (A x*A y);let t:=U (U (S x*A y)+S w0);let w1:=U (A t+U (A x*S y))
  U (U (U (S x*S y)+S t)+S w1)=x*y / 18446744073709551616/\U (x*y)=x*y % 18446744073709551616:=by
 intro U A S w0 t w1
 show U (U (U (S x*S y)+S (U (U (S x*A y)+S (U (A x*A y)))))+S (U (A (U (U (S x*A y)+S (U (A x*A y))))+U (A x*S y))))=_/\_
 clear w0 t w1
 rw [fy] at hx hy
 have eS:∀ z,S z=z / 4294967296:=by
  intro z
  show z.fdiv (2 ^ 32)=_
  rw [Int.fdiv_eq_ediv_of_nonneg _ (by decide)]
  rfl
 have eU:∀ z,0<=z->z<18446744073709551616->U z=z:=by
  intro z h0 h1
  show IntKind.u64.wrap z=z
  rw [wrU];omega
 have eA:∀ z,0<=z->z<18446744073709551616->A z=z % 4294967296:=by
  intro z h0 h1
  show U _=_
  rw [qjn z h0 h1,eU _ (by omega) (by omega)]
 have hcore:=qbM x y
 have hxy:=sH x y 18446744073709551616 18446744073709551616 hx.1 hx.2 hy.1 hy.2
 have e0:U (x*y)=x*y % 18446744073709551616:=wrU _
 have b1:=sH (x % 4294967296) (y % 4294967296) 4294967296 4294967296 (by omega) (by omega) (by omega) (by omega)
 have b2:=sH (x / 4294967296) (y % 4294967296) 4294967296 4294967296 (by omega) (by omega) (by omega) (by omega)
 have b3:=sH (x % 4294967296) (y / 4294967296) 4294967296 4294967296 (by omega) (by omega) (by omega) (by omega)
 have b4:=sH (x / 4294967296) (y / 4294967296) 4294967296 4294967296 (by omega) (by omega) (by omega) (by omega)
 simp only [eS,eA x hx.1 hx.2,eA y hy.1 hy.2]
 rw [e0]
 refine ⟨?_,rfl⟩
 clear e0
 generalize x / 4294967296=p at *
 generalize x % 4294967296=q at *
 generalize y / 4294967296=r at *
 generalize y % 4294967296=s at *
 generalize p*r=B4 at *
 generalize p*s=B2 at *
 generalize q*r=B3 at *
 generalize q*s=B1 at *
 generalize x*y=Z at *
 have h1:U B1=B1:=eU _ (by omega) (by omega)
 have h2:U B2=B2:=eU _ (by omega) (by omega)
 have h3:U (B2+B1 / 4294967296)=B2+B1 / 4294967296:=eU _ (by omega) (by omega)
 have h4:A (B2+B1 / 4294967296)=(B2+B1 / 4294967296) % 4294967296:=eA _ (by omega) (by omega)
 have h5:U B3=B3:=eU _ (by omega) (by omega)
 have h6:U ((B2+B1 / 4294967296) % 4294967296+B3)=(B2+B1 / 4294967296) % 4294967296+B3:=eU _ (by omega) (by omega)
 have h7:U B4=B4:=eU _ (by omega) (by omega)
 have h8:U (B4+(B2+B1 / 4294967296) / 4294967296)=B4+(B2+B1 / 4294967296) / 4294967296:=eU _ (by omega) (by omega)
 have h9:U (B4+(B2+B1 / 4294967296) / 4294967296+((B2+B1 / 4294967296) % 4294967296+B3) / 4294967296)=B4+(B2+B1 / 4294967296) / 4294967296+((B2+B1 / 4294967296) % 4294967296+B3) / 4294967296 :=
  eU _ (by omega) (by omega)
 rw [h1,h2,h3,h4,h5,h6,h7,h8,h9,hcore]
theorem qjt (a b c d:Int) (h1:bV a b=true) (h2:bV c d=true) :
  let lo:=gJ b d 0
  let hi:=IntKind.i64.wrap (gJ (IntKind.u64.wrap a) (IntKind.u64.wrap c) (fM b d 0))
  (0<=fM b d 0/\fM b d 0<=1) /\
  ((decide (a<0)==decide (c<0))&&(decide (hi<0) != decide (a<0)))=!c5 (wv a b+wv c d)/\(c5 (wv a b+wv c d)=true->hi=aY (wv a b+wv c d)/\lo=aZ (wv a b+wv c d)):=by
 intro lo hi
 rw [jk] at h1 h2
 obtain ⟨⟨a1,a2⟩,b1,b2⟩:=h1
 obtain ⟨⟨c1,c2⟩,d1,d2⟩:=h2
 have hlo:lo=(b+d) % 18446744073709551616:=by show gJ b d 0=_;unfold gJ;omega
 generalize hk:fM b d 0=k
 have hk':(b+d<18446744073709551616/\k=0)\/(18446744073709551616<=b+d/\k=1):=by
  rw [<- hk];unfold fM;omega
 have hhi:hi=if (a+c+k) % 18446744073709551616>=9223372036854775808 then (a+c+k) % 18446744073709551616 - 18446744073709551616 else (a+c+k) % 18446744073709551616:=by
  show IntKind.i64.wrap (gJ _ _ (fM b d 0))=_
  rw [hk,ed]
  unfold gJ
  rw [wrU,wrU]
  have:(a % 18446744073709551616+c % 18446744073709551616+k) % 18446744073709551616 % 18446744073709551616=(a+c+k) % 18446744073709551616:=by omega
  rw [this]
 clear_value lo hi
 refine ⟨by omega,?_⟩
 by_cases ho:c5 (wv a b+wv c d)=true
 ·have ho':-170141183460469231731687303715884105728<=wv a b+wv c d/\wv a b+wv c d<170141183460469231731687303715884105728:=by simpa [c5] using ho
  obtain ⟨_,k2,k3⟩:=kH ho'.1 ho'.2
  unfold wv at ho' k2 k3 ⊢
  have e1:hi=aY (a*18446744073709551616+b+(c*18446744073709551616+d)):=by rw [k2,hhi];split<;>omega
  refine ⟨?_,fun _=>⟨e1,by rw [k3,hlo];omega⟩⟩
  unfold wv at ho
  rw [ho,e1,k2]
  rw [Bool.not_true,Bool.and_eq_false_imp]
  intro hs
  have hs':(a<0)↔(c<0):=by simpa using hs
  rw [bne_eq_false_iff_eq,decide_eq_decide]
  omega
 ·have ho0:c5 (wv a b+wv c d)=false:=by simpa using ho
  refine ⟨?_,fun h=>absurd h ho⟩
  have ho':¬ (-170141183460469231731687303715884105728<=wv a b+wv c d/\wv a b+wv c d<170141183460469231731687303715884105728):=by simpa [c5] using ho
  rw [ho0,Bool.not_false,Bool.and_eq_true]
  unfold wv at ho'
  have s1:(a<0)↔(c<0):=by omega
  have s2:¬ ((hi<0)↔(a<0)):=by rw [hhi];split<;>omega
  refine ⟨by simpa using s1,?_⟩
  rw [bne_iff_ne,Ne,decide_eq_decide]
  exact s2
theorem qdN (a b:Int) (h1:bV a b=true):bf (IntKind.i64.wrap b)=true/\(aY (IntKind.i64.wrap b)==a&&(aZ (IntKind.i64.wrap b)==b&&true))=bf (wv a b)/\(bf (wv a b)=true->IntKind.i64.wrap b=wv a b):=by
 rw [jk] at h1
 obtain ⟨⟨a1,a2⟩,b1,b2⟩:=h1
 have hw:IntKind.i64.wrap b=if b>=9223372036854775808 then b - 18446744073709551616 else b:=by
  rw [ed,show b % 18446744073709551616=b by omega]
 rw [hw]
 generalize hn:(if b>=9223372036854775808 then b - 18446744073709551616 else b)=n
 have hn':(9223372036854775808<=b/\n=b - 18446744073709551616)\/(b<9223372036854775808/\n=b):=by
  rw [<- hn];by_cases hh:b>=9223372036854775808
  ·left;simp [hh]<;>omega
  ·right;simp [hh]<;>omega
 obtain ⟨_,k2,k3⟩:=kH (n:=n) (by omega) (by omega)
 rw [k2,k3]
 refine ⟨by rw [ew];omega,?_,fun hq=>?_⟩
 ·rw [Bool.and_true,Bool.eq_iff_iff,Bool.and_eq_true,beq_iff_eq,beq_iff_eq,ew]
  unfold wv
  omega
 ·rw [ew] at hq
  unfold wv at hq ⊢
  omega
theorem AG {p q r s:Int} {t u:Bool} (h1:p=r) (h2:q=s) (h3:t=u):(Value.tuple #[Wd p q,.bool t])=.tuple #[Wd r s,.bool u]:=by rw [h1,h2,h3]
theorem inB {p r:Int} {t u:Bool} (h1:p=r) (h3:t=u):(Value.tuple #[.int .i64 p,.bool t])=.tuple #[.int .i64 r,.bool u]:=by rw [h1,h3]
theorem qiu {a b c d:Int} (h1:bV a b=true) (h2:bV c d=true):(bif dY a c != 0 then dY a c else dY b d)=dY (wv a b) (wv c d):=by
 rw [jk] at h1 h2
 unfold dY wv
 by_cases p1:a<c
 ·have q1:a*18446744073709551616+b<c*18446744073709551616+d:=by omega
  simp [p1,q1]
 ·by_cases p2:c<a
  ·have q1:¬ a*18446744073709551616+b<c*18446744073709551616+d:=by omega
   have q2:c*18446744073709551616+d<a*18446744073709551616+b:=by omega
   simp [p1,p2,q1,q2]
  ·have:a=c:=by omega
   subst this
   simp
theorem qbI (a b:Int) (h1:bf a=true) (h2:bf b=true) :
  let U:=IntKind.u64.wrap
  let hi:=bif decide (a<0) then (bif decide (b<0) then U (U (U a*U b / 18446744073709551616 - U b) - U a) else U (U a*U b / 18446744073709551616 - U b)) else (bif decide (b<0) then U (U a*U b / 18446744073709551616 - U a) else U a*U b / 18446744073709551616)
  Wd (IntKind.i64.wrap hi) (U a*U b % 18446744073709551616)=Wn (a*b):=by
 intro U hi
 rw [ew] at h1 h2
 have eU:∀ z,U z=z % 18446744073709551616:=wrU
 have eI:∀ z,IntKind.i64.wrap z=if z % 18446744073709551616>=9223372036854775808 then z % 18446744073709551616 - 18446744073709551616 else z % 18446744073709551616:=ed
 have hab:-85070591730234615865843651857942052864<=a*b/\a*b<=85070591730234615865843651857942052864:=by
  have m1:(a.natAbs:Int)*b.natAbs<=9223372036854775808*9223372036854775808:=Int.mul_le_mul (by omega) (by omega) (by omega) (by omega)
  rw [<- Int.natCast_mul,<- Int.natAbs_mul] at m1
  omega
 obtain ⟨_,k2,k3⟩:=kH (n:=a*b) (by omega) (by omega)
 by_cases hA:a<0
 ·by_cases hB:b<0
  ·have hh:hi=U (U (U a*U b / 18446744073709551616 - U b) - U a):=by show (bif decide (a<0) then _ else _)=_;simp [hA,hB]
   rw [hh]
   have ea:U a=a+18446744073709551616:=by rw [eU];omega
   have eb:U b=b+18446744073709551616:=by rw [eU];omega
   have ep:U a*U b=a*b+18446744073709551616*a+18446744073709551616*b+340282366920938463463374607431768211456:=by
    rw [ea,eb,Int.add_mul,Int.mul_add];omega
   rw [ep,ea,eb]
   generalize a*b=Z at *
   refine kt ?_ ?_
   ·rw [k2,eI,eU,eU];split<;>omega
   ·rw [k3];omega
  ·have hh:hi=U (U a*U b / 18446744073709551616 - U b):=by show (bif decide (a<0) then _ else _)=_;simp [hA,hB]
   rw [hh]
   have ea:U a=a+18446744073709551616:=by rw [eU];omega
   have eb:U b=b:=by rw [eU];omega
   have ep:U a*U b=a*b+18446744073709551616*b:=by
    rw [ea,eb,Int.add_mul]
   rw [ep,eb]
   generalize a*b=Z at *
   refine kt ?_ ?_
   ·rw [k2,eI,eU];split<;>omega
   ·rw [k3];omega
 ·by_cases hB:b<0
  ·have hh:hi=U (U a*U b / 18446744073709551616 - U a):=by show (bif decide (a<0) then _ else _)=_;simp [hA,hB]
   rw [hh]
   have ea:U a=a:=by rw [eU];omega
   have eb:U b=b+18446744073709551616:=by rw [eU];omega
   have ep:U a*U b=a*b+18446744073709551616*a:=by
    rw [ea,eb,Int.mul_add];omega
   rw [ep,ea]
   generalize a*b=Z at *
   refine kt ?_ ?_
   ·rw [k2,eI,eU];split<;>omega
   ·rw [k3];omega
  ·have hh:hi=U a*U b / 18446744073709551616:=by show (bif decide (a<0) then _ else _)=_;simp [hA,hB]
   rw [hh]
   have ea:U a=a:=by rw [eU];omega
   have eb:U b=b:=by rw [eU];omega
   rw [ea,eb]
   have hz:0<=a*b:=Int.mul_nonneg (by omega) (by omega)
   generalize a*b=Z at *
   refine kt ?_ ?_
   ·rw [k2,eI];split<;>omega
   ·rw [k3]
theorem wC {a b:Int} (h1:bf a=true) (h2:bf b=true):c5 (a*b)=true:=by
 rw [ew] at h1 h2
 have m1:(a.natAbs:Int)*b.natAbs<=9223372036854775808*9223372036854775808:=Int.mul_le_mul (by omega) (by omega) (by omega) (by omega)
 rw [<- Int.natCast_mul,<- Int.natAbs_mul] at m1
 exact (kH (by omega) (by omega)).1
end Go.Sx
namespace Go.Sx
noncomputable def dW (p:Prop):Bool:=@decide p (Classical.propDecidable p)
theorem iG {p:Prop}:dW p=true↔p:=by unfold dW;exact @decide_eq_true_iff p (Classical.propDecidable p)
theorem CN {p:Prop} (h:p):dW p=true:=iG.2 h
def dc (b:Int) (i:Nat):Int:=b / 2 ^ i % 2
def bl (b:Int) (n:Nat):List Int:=(List.range n).map (dc b)
theorem mK (b:Int) (n:Nat):(bl b n).length=n:=by simp [bl]
theorem P1 (b:Int) (n:Nat):bl b (n+1)=bl b n++[dc b n]:=by simp [bl,List.range_succ]
theorem nr (L:List Int):(aq L).length=L.length:=by simp [aq]
theorem LI (L:List Int) (x:Int):aq L++[[.n x]]=aq (L++[x]):=by simp [aq]
theorem v4 (L:List Int) (i:Nat):(((aq L).getD i []).headD (.n 0)).toI=L.getD i 0:=by
 rcases Nat.lt_or_ge i L.length with h|h
 ·simp [aq,List.getD,h,Dat.toI]
 ·simp [aq,List.getD,h,Dat.toI]
theorem qjo (x:Int) (h0:0<=x) (h1:x<18446744073709551616):((BitVec.ofInt 64 x &&& BitVec.ofInt 64 1).toNat:Int)=x % 2:=by
 obtain ⟨n,rfl⟩:=Int.eq_ofNat_of_zero_le h0
 have e:(BitVec.ofInt 64 1)=BitVec.ofNat 64 (2 ^ 1 - 1):=by decide
 rw [e,BitVec.toNat_and,BitVec.ofInt_natCast,BitVec.toNat_ofNat,BitVec.toNat_ofNat]
 rw [Nat.mod_eq_of_lt (a:=2 ^ 1 - 1) (by decide),Nat.and_two_pow_sub_one_eq_mod]
 show ((n % 18446744073709551616 % 2:Nat):Int)=_
 omega
def bu (n i:Int):Int:=IntKind.u64.wrap ((BitVec.ofInt 64 (n.fdiv (2 ^ (min i.toNat 64))) &&& BitVec.ofInt 64 1).toNat:Int)
theorem PU (b:Int) (h0:0<=b) (h1:b<18446744073709551616) (i:Nat) (hi:i<64):bu b i=dc b i:=by
 unfold bu dc
 have hm:min (i:Int).toNat 64=i:=by omega
 have hp:(0:Int)<2 ^ i:=Int.pow_pos (by decide)
 rw [hm,Int.fdiv_eq_ediv_of_nonneg _ (by omega)]
 have d0:0<=b / 2 ^ i:=Int.ediv_nonneg h0 (by omega)
 have d1:b / 2 ^ i<=b:=Int.ediv_le_self _ h0
 generalize b / 2 ^ i=y at *
 rw [qjo _ d0 (by omega),wrU]
 omega
def bx (b i:Int):Int:=IntKind.i64.wrap (bu b i)
theorem qiI (b:Int) (h0:0<=b) (h1:b<18446744073709551616) (i:Nat) (hi:i<64):bx b i=dc b i:=by
 unfold bx
 rw [PU b h0 h1 i hi]
 unfold dc
 exact AB (by omega)
theorem uU (j:Nat) (h:j<1000):IntKind.i64.wrap ((j:Int)+1)=((j+1:Nat):Int):=by
 rw [ed];split<;>omega
def kE (n:Nat):Bool:=decide ((n+1)*8<=140737488355328/\n+1<=9223372036854775807)
theorem LN {n:Nat} (h:n<=1000000):kE n=true:=by unfold kE;exact decide_eq_true (by omega)
theorem P2 {α:Type} (b:Int) (h0:0<=b) (h1:b<18446744073709551616) (E:Nat->Int->List (List Dat)->Option α) (X:List (List Dat)->Option α)
  (st:∀ k i R,E (k+1) i R=bif decide (i<64) then (bif decide (i<0) then none else bif kE R.length then E k (IntKind.i64.wrap (i+1)) (R++[[.n (bx b i)]]) else none) else X R) (P:List Int) (hP:P.length<=1000) :
  ∀ (m j:Nat),j+m=64->E (m+1) j (aq (P++bl b j))=X (aq (P++bl b 64)):=by
 intro m
 induction m with
 | zero =>
  intro j hj
  obtain rfl:j=64:=by omega
  rw [st]
  rfl
 | succ m ih =>
  intro j hj
  rw [st]
  have g1:decide ((j:Int)<64)=true:=by simp;omega
  have g2:decide ((j:Int)<0)=false:=by simp
  have g3:kE (aq (P++bl b j)).length=true:=LN (by rw [nr,List.length_append,mK];omega)
  rw [g1,g2,g3,qiI b h0 h1 j (by omega),uU j (by omega),LI,List.append_assoc,<- P1]
  exact ih (j+1) (by omega)
def iy (r i:Int):Int:=IntKind.u64.wrap ((BitVec.ofInt 64 r ||| BitVec.ofInt 64 (IntKind.u64.wrap (1*2 ^ (min i.toNat 64)))).toNat:Int)
def iU (f:Nat->Int):Nat->Int
 | 0=>0
 | n+1=>bif f n==1 then iU f n+2 ^ n else iU f n
theorem AJ (f:Nat->Int):∀ n,0<=iU f n/\iU f n<2 ^ n
 | 0=>by simp [iU]
 | n+1=>by
  have:=AJ f n
  have hs:(2:Int) ^ (n+1)=2 ^ n*2:=Int.pow_succ 2 n
  have hp:(0:Int)<2 ^ n:=Int.pow_pos (by decide)
  unfold iU
  cases f n==1<;>simp only [cond_true,cond_false]<;>omega
theorem Mv (r:Int) (k:Nat) (hk:k<64) (h0:0<=r) (h1:r<2 ^ k):iy r k=r+2 ^ k:=by
 obtain ⟨m,rfl⟩:=Int.eq_ofNat_of_zero_le h0
 have e1:((2:Int) ^ k)=((2 ^ k:Nat):Int):=by simp
 rw [e1] at h1 ⊢
 have h1':m<2 ^ k:=by exact_mod_cast h1
 have hk2:(2:Nat) ^ k<=2 ^ 63:=Nat.pow_le_pow_right (by decide) (by omega)
 have e63:(2:Nat) ^ 63=9223372036854775808:=by decide
 have e64:(2:Nat) ^ 64=18446744073709551616:=by decide
 have hm:min (k:Int).toNat 64=k:=by omega
 unfold iy
 rw [hm,e1,Int.one_mul]
 have hw:IntKind.u64.wrap ((2 ^ k:Nat):Int)=((2 ^ k:Nat):Int):=by
  rw [wrU];omega
 rw [hw,BitVec.ofInt_natCast,BitVec.ofInt_natCast,BitVec.toNat_or,BitVec.toNat_ofNat,BitVec.toNat_ofNat,e64]
 rw [Nat.mod_eq_of_lt (by omega:m<18446744073709551616),Nat.mod_eq_of_lt (by omega:2 ^ k<18446744073709551616)]
 have hor:m ||| 2 ^ k=m+2 ^ k:=by
  have:=Nat.two_pow_add_eq_or_of_lt h1' 1
  rw [Nat.mul_one] at this
  rw [Nat.or_comm,<- this,Nat.add_comm]
 rw [hor,wrU]
 omega
def ga (L:List Int):Nat->Int:=iU (fun i=>L.getD i 0)
def gd (L:List Int):Nat->Int:=iU (fun i=>L.getD (64+i) 0)
def jY (R:List (List Dat)) (i:Int):Bool:=((R.getD i.toNat []).headD (Dat.n 0)).toI==1
def fE (R:List (List Dat)) (i:Int):Bool:=decide (0<=i)&&decide (i<(R.length:Int))
theorem Tw {α:Type} (L:List Int) (hL:L.length=128) (E:Nat->Int->Int->Int->Option α) (X:Int->Int->Option α)
  (st:∀ k lo hi i,E (k+1) lo hi i=bif decide (i<64) then (bif fE (aq L) i then (bif jY (aq L) i then (bif decide (i<0) then none else bif fE (aq L) (IntKind.i64.wrap (64+i)) then (bif jY (aq L) (IntKind.i64.wrap (64+i)) then (bif decide (i<0) then none else E k (iy lo i) (iy hi i) (IntKind.i64.wrap (i+1))) else E k (iy lo i) hi (IntKind.i64.wrap (i+1))) else none)
   else (bif fE (aq L) (IntKind.i64.wrap (64+i)) then (bif jY (aq L) (IntKind.i64.wrap (64+i)) then (bif decide (i<0) then none else E k lo (iy hi i) (IntKind.i64.wrap (i+1))) else E k lo hi (IntKind.i64.wrap (i+1))) else none)) else none) else X lo hi) :
  ∀ (m j:Nat),j+m=64->E (m+1) (ga L j) (gd L j) j=X (ga L 64) (gd L 64):=by
 intro m
 induction m with
 | zero =>
  intro j hj
  obtain rfl:j=64:=by omega
  rw [st]
  rfl
 | succ m ih =>
  intro j hj
  rw [st]
  have hw:IntKind.i64.wrap (64+(j:Int))=((64+j:Nat):Int):=by rw [ed];split<;>omega
  have g1:decide ((j:Int)<64)=true:=by simp;omega
  have g2:decide ((j:Int)<0)=false:=by simp
  have g3:fE (aq L) (j:Int)=true:=by unfold fE;rw [nr,hL];simp;omega
  have g4:fE (aq L) ((64+j:Nat):Int)=true:=by unfold fE;rw [nr,hL];simp;omega
  have o3:jY (aq L) (j:Int)=(L.getD j 0==1):=by unfold jY;rw [Int.toNat_natCast,v4]
  have o4:jY (aq L) ((64+j:Nat):Int)=(L.getD (64+j) 0==1):=by unfold jY;rw [Int.toNat_natCast,v4]
  have b1:=AJ (fun i=>L.getD i 0) j
  have b2:=AJ (fun i=>L.getD (64+i) 0) j
  have o1:iy (ga L j) j=ga L j+2 ^ j:=Mv _ j (by omega) b1.1 b1.2
  have o2:iy (gd L j) j=gd L j+2 ^ j:=Mv _ j (by omega) b2.1 b2.2
  have n1:ga L (j+1)=bif L.getD j 0==1 then ga L j+2 ^ j else ga L j:=rfl
  have n2:gd L (j+1)=bif L.getD (64+j) 0==1 then gd L j+2 ^ j else gd L j:=rfl
  rw [g1,hw,g3,g4,g2,o1,o2,o3,o4,uU j (by omega)]
  simp only [cond_true,cond_false]
  have:=ih (j+1) (by omega)
  rw [n1,n2] at this
  cases h1:L.getD j 0==1<;>cases h2:L.getD (64+j) 0==1<;>rw [h1,h2] at this<;>simpa only [cond_true,cond_false] using this
theorem AI (n:Int) (f:Nat->Int) (s:Nat) (h:∀ i,i<64->f i=dc n (s+i)):∀ k,k<=64->iU f k=n / 2 ^ s % 2 ^ k
 | 0,_=>by simp [iU,Int.emod_one]
 | k+1,hk=>by
  have ih:=AI n f s h k (by omega)
  have hp:(0:Int)<2 ^ k:=Int.pow_pos (by decide)
  have hs:(2:Int) ^ (k+1)=2 ^ k*2:=Int.pow_succ 2 k
  have e:f k=n / 2 ^ s / 2 ^ k % 2:=by
   rw [h k (by omega)]
   unfold dc
   rw [Int.pow_add,Int.ediv_ediv_of_nonneg (Int.le_of_lt (Int.pow_pos (by decide)))]
  unfold iU
  rw [e,ih,hs]
  generalize n / 2 ^ s=y
  generalize (2:Int) ^ k=p at *
  have hy:=Int.mul_ediv_add_emod y p
  have hu:=Int.mul_ediv_add_emod (y / p) 2
  have r0:0<=y % p:=Int.emod_nonneg _ (by omega)
  have r1:y % p<p:=Int.emod_lt_of_pos _ hp
  generalize y % p=r at *
  generalize y / p=q at *
  generalize q / 2=t at *
  have hq:q % 2=0\/q % 2=1:=by omega
  rcases hq with hq|hq<;>rw [hq] at hu ⊢
  ·have:y=r+p*2*t:=by rw [<- hy,<- hu,Int.mul_assoc];simp [Int.add_comm]
   rw [this,Int.add_mul_emod_self_left,Int.emod_eq_of_lt r0 (by omega)]
   rfl
  ·have:y=(r+p)+p*2*t:=by rw [<- hy,<- hu,Int.mul_assoc,Int.mul_add,Int.mul_one];omega
   rw [this,Int.add_mul_emod_self_left,Int.emod_eq_of_lt (by omega) (by omega)]
   rfl
theorem zh (n:Int) (k i:Nat) (h:i<k):(bl n k).getD i 0=dc n i:=by
 simp [bl,List.getD,h]
theorem qdz (n:Int):ga (bl n 128) 64=n % 18446744073709551616:=by
 have:=AI n (fun i=>(bl n 128).getD i 0) 0 (fun i hi=>by simp only [Nat.zero_add];exact zh n 128 i (by omega)) 64 (by omega)
 unfold ga
 rw [this]
 have e1:(2:Int) ^ 0=1:=by decide
 have e2:(2:Int) ^ 64=18446744073709551616:=by decide
 rw [e1,e2,Int.ediv_one]
theorem qdW (n:Int):gd (bl n 128) 64=n / 18446744073709551616 % 18446744073709551616:=by
 have:=AI n (fun i=>(bl n 128).getD (64+i) 0) 64 (fun i hi=>zh n 128 (64+i) (by omega)) 64 (by omega)
 unfold gd
 rw [this]
 have e2:(2:Int) ^ 64=18446744073709551616:=by decide
 rw [e2]
theorem qi6 (b h:Int) (h0:0<=b) (h1:b<18446744073709551616):bl b 64++bl h 64=bl (h*18446744073709551616+b) 128:=by
 have e2:(2:Int) ^ 64=18446744073709551616:=by decide
 refine List.ext_getElem (by simp [bl]) ?_
 intro i hi hi'
 rw [List.getElem_append]
 simp only [mK] at hi'
 split
 ·rename_i hlt
  simp only [mK] at hlt
  simp only [bl,List.getElem_map,List.getElem_range]
  unfold dc
  have hs:(2:Int) ^ 64=2 ^ i*2 ^ (64 - i):=by rw [<- Int.pow_add];congr 1;omega
  have hs2:(2:Int) ^ (64 - i)=2 ^ (63 - i)*2:=by rw [<- Int.pow_succ];congr 1;omega
  have hp:(0:Int)<2 ^ i:=Int.pow_pos (by decide)
  rw [<- e2,hs,hs2,show h*(2 ^ i*(2 ^ (63 - i)*2))=2 ^ i*(h*2 ^ (63 - i)*2) by
   rw [Int.mul_left_comm,Int.mul_assoc h]]
  rw [Int.add_comm,Int.add_mul_ediv_left _ _ (by omega)]
  omega
 ·rename_i hge
  simp only [mK] at hge
  simp only [bl,List.getElem_map,List.getElem_range]
  unfold dc
  have hs:(2:Int) ^ i=2 ^ 64*2 ^ (i - 64):=by rw [<- Int.pow_add];congr 1;omega
  simp only [List.length_map,List.length_range]
  rw [hs,<- Int.ediv_ediv_of_nonneg (by decide),e2]
  congr 2
  omega
theorem G7 (y p:Int) (hp:0<p):y % (p*2)=y % p+p*(y / p % 2):=by
 have hy:=Int.mul_ediv_add_emod y p
 have hu:=Int.mul_ediv_add_emod (y / p) 2
 have r0:0<=y % p:=Int.emod_nonneg _ (by omega)
 have r1:y % p<p:=Int.emod_lt_of_pos _ hp
 generalize y % p=r at *
 generalize y / p=q at *
 generalize q / 2=t at *
 have hq:q % 2=0\/q % 2=1:=by omega
 rcases hq with hq|hq<;>rw [hq] at hu ⊢
 ·have:y=r+p*2*t:=by rw [<- hy,<- hu,Int.mul_assoc];simp [Int.add_comm]
  rw [this,Int.add_mul_emod_self_left,Int.emod_eq_of_lt r0 (by omega)]
  simp
 ·have:y=(r+p)+p*2*t:=by rw [<- hy,<- hu,Int.mul_assoc,Int.mul_add,Int.mul_one];omega
  rw [this,Int.add_mul_emod_self_left,Int.emod_eq_of_lt (by omega) (by omega)]
  simp
def cy (A B:Int) (j:Nat):Int:=(A % 2 ^ j+B % 2 ^ j) / 2 ^ j
theorem Pm (A B:Int) (j:Nat):0<=dc A j/\dc A j<=1/\0<=dc B j/\dc B j<=1/\0<=cy A B j/\cy A B j<=1/\(dc A j+dc B j+cy A B j) % 2=dc (A+B) j/\(dc A j+dc B j+cy A B j) / 2=cy A B (j+1):=by
 have hp:(0:Int)<2 ^ j:=Int.pow_pos (by decide)
 have hs:(2:Int) ^ (j+1)=2 ^ j*2:=Int.pow_succ 2 j
 unfold cy dc
 rw [hs,G7 A _ hp,G7 B _ hp]
 generalize (2:Int) ^ j=p at *
 have a0:=Int.emod_nonneg A (by omega:p≠0)
 have a1:=Int.emod_lt_of_pos A hp
 have b0:=Int.emod_nonneg B (by omega:p≠0)
 have b1:=Int.emod_lt_of_pos B hp
 have eA:=Int.mul_ediv_add_emod A p
 have eB:=Int.mul_ediv_add_emod B p
 have hc0:0<=(A % p+B % p) / p:=Int.ediv_nonneg (by omega) (by omega)
 have hc1:(A % p+B % p) / p<2:=Int.ediv_lt_of_lt_mul hp (by omega)
 have eAB:(A+B) / p=A / p+B / p+(A % p+B % p) / p:=by
  have:A+B=(A % p+B % p)+p*(A / p+B / p):=by rw [Int.mul_add];omega
  rw [this,Int.add_mul_ediv_left _ _ (by omega)]
  have:A % p+B % p+p*(A / p+B / p)=A+B:=by rw [Int.mul_add];omega
  omega
 rw [eAB]
 have e2:(A % p+p*(A / p % 2)+(B % p+p*(B / p % 2))) / (p*2)=(A / p % 2+B / p % 2+(A % p+B % p) / p) / 2:=by
  rw [<- Int.ediv_ediv_of_nonneg (by omega)]
  have:A % p+p*(A / p % 2)+(B % p+p*(B / p % 2))=(A % p+B % p)+p*(A / p % 2+B / p % 2):=by rw [Int.mul_add];omega
  rw [this,Int.add_mul_ediv_left _ _ (by omega)]
  congr 1
  omega
 rw [e2]
 generalize (A % p+B % p) / p=q at *
 refine ⟨by omega,by omega,by omega,by omega,hc0,by omega,by omega,rfl⟩
def sm (X Y:List (List Dat)) (s i:Int):Int:=IntKind.i64.wrap (IntKind.i64.wrap (((X.getD i.toNat []).headD (Dat.n 0)).toI+((Y.getD i.toNat []).headD (Dat.n 0)).toI)+s)
theorem UZ (A B:Int) (j:Nat) (hj:j<128):sm (aq (bl A 128)) (aq (bl B 128)) (cy A B j) j=dc A j+dc B j+cy A B j:=by
 obtain ⟨h1,h2,h3,h4,h5,h6,_⟩:=Pm A B j
 unfold sm
 rw [Int.toNat_natCast,v4,v4,zh _ _ _ hj,zh _ _ _ hj,ed,ed]
 split<;>split<;>omega
theorem UY (A B:Int) (j:Nat) (hj:j<128):(sm (aq (bl A 128)) (aq (bl B 128)) (cy A B j) j).tmod 2=dc (A+B) j/\IntKind.i64.wrap ((sm (aq (bl A 128)) (aq (bl B 128)) (cy A B j) j).tdiv 2)=cy A B (j+1):=by
 obtain ⟨h1,h2,h3,h4,h5,h6,h7,h8⟩:=Pm A B j
 rw [UZ A B j hj]
 refine ⟨by rw [Int.tmod_eq_emod_of_nonneg (by omega),h7],?_⟩
 rw [Int.tdiv_eq_ediv_of_nonneg (by omega),ed,<- h8];split<;>omega
theorem qa1 {α:Type} (A B:Int) (E:Nat->Int->Int->List (List Dat)->Option α) (X:List (List Dat)->Option α)
  (st:∀ k s i R,E (k+1) s i R=bif decide (i<128) then (bif fE (aq (bl A 128)) i then (bif fE (aq (bl B 128)) i then (bif kE R.length then E k (IntKind.i64.wrap ((sm (aq (bl A 128)) (aq (bl B 128)) s i).tdiv 2)) (IntKind.i64.wrap (i+1)) (R++[[.n ((sm (aq (bl A 128)) (aq (bl B 128)) s i).tmod 2)]]) else none) else none) else none) else X R) :
  ∀ (m j:Nat),j+m=128->E (m+1) (cy A B j) j (aq (bl (A+B) j))=X (aq (bl (A+B) 128)):=by
 intro m
 induction m with
 | zero =>
  intro j hj
  obtain rfl:j=128:=by omega
  rw [st]
  have g1:decide (((128:Nat):Int)<128)=false:=by decide
  rw [g1];rfl
 | succ m ih =>
  intro j hj
  obtain ⟨e1,e2⟩:=UY A B j (by omega)
  rw [st,e1,e2]
  have g1:decide ((j:Int)<128)=true:=by simp;omega
  have g3:∀ n,fE (aq (bl n 128)) (j:Int)=true:=fun n=>by unfold fE;rw [nr,mK];simp;omega
  have g4:kE (aq (bl (A+B) j)).length=true:=LN (by rw [nr,mK];omega)
  rw [g1,g3,g3,g4,LI,uU j (by omega),<- P1]
  exact ih (j+1) (by omega)
theorem qh7 (A B:Int):cy A B 0=0:=by simp [cy,Int.emod_one]
def bM (n:Int):Int:=IntKind.i64.wrap (n / 18446744073709551616)
def bD (n:Int):Int:=n % 18446744073709551616
abbrev pW (n:Int):Value:=Wd (bM n) (bD n)
theorem Ms {n m:Int} (h:n % 340282366920938463463374607431768211456=m % 340282366920938463463374607431768211456):bM n=bM m:=by
 unfold bM
 have h1:n / 18446744073709551616 % 18446744073709551616=m / 18446744073709551616 % 18446744073709551616:=by omega
 rw [ed,ed,h1]
theorem Mq {n m:Int} (h:n % 340282366920938463463374607431768211456=m % 340282366920938463463374607431768211456):bD n=bD m:=by
 unfold bD;omega
theorem Mp {n m:Int} (h:n % 340282366920938463463374607431768211456=m % 340282366920938463463374607431768211456):pW n=pW m:=kt (Ms h) (Mq h)
theorem m8 (n:Int):wv (bM n) (bD n) % 340282366920938463463374607431768211456=n % 340282366920938463463374607431768211456:=by
 unfold wv bM bD
 rw [ed]
 split<;>omega
theorem Mt (x y:Int):bM (wv (bM x) (bD x)+wv (bM y) (bD y))=bM (x+y):=by
 apply Ms
 have h1:=m8 x
 have h2:=m8 y
 omega
theorem Mr (x y:Int):bD (wv (bM x) (bD x)+wv (bM y) (bD y))=bD (x+y):=by
 apply Mq
 have h1:=m8 x
 have h2:=m8 y
 omega
theorem tg (n:Int):a7 (bD n)=true:=by rw [fy];unfold bD;omega
theorem Mm {a b:Int} (h:bV a b=true):bM (wv a b)=a/\bD (wv a b)=b:=by
 rw [jk] at h
 unfold bM bD wv
 rw [ed]
 refine ⟨?_,by omega⟩
 split<;>omega
theorem Mn {n:Int} (h:c5 n=true):bM n=aY n/\bD n=aZ n:=by
 have h':-170141183460469231731687303715884105728<=n/\n<170141183460469231731687303715884105728:=by simpa [c5] using h
 obtain ⟨_,k2,k3⟩:=kH h'.1 h'.2
 rw [k2,k3]
 unfold bM bD
 refine ⟨?_,rfl⟩
 rw [ed]
 split<;>omega
def wu (a b:Int):Int:=IntKind.u64.wrap a*18446744073709551616+b
theorem qa0 (a b c d:Int):Wd (IntKind.i64.wrap (gd (bl (wu a b+wu c d) 128) 64)) (ga (bl (wu a b+wu c d) 128) 64)=pW (wv a b+wv c d):=by
 rw [qdz,qdW]
 refine kt ?_ ?_
 ·unfold bM
  rw [ed,ed]
  unfold wu wv
  rw [wrU,wrU]
  have:(a % 18446744073709551616*18446744073709551616+b+(c % 18446744073709551616*18446744073709551616+d)) / 18446744073709551616 % 18446744073709551616 % 18446744073709551616=(a*18446744073709551616+b+(c*18446744073709551616+d)) / 18446744073709551616 % 18446744073709551616:=by omega
  rw [this]
 ·unfold bD wu wv
  rw [wrU,wrU];omega
theorem qhx (a b:Int) (h:a7 b=true):a7 (IntKind.u64.wrap (-1 - b))=true/\wv (IntKind.i64.wrap (-1 - a)) (IntKind.u64.wrap (-1 - b)) % 340282366920938463463374607431768211456=(- wv a b - 1) % 340282366920938463463374607431768211456:=by
 refine ⟨nX _,?_⟩
 rw [fy] at h
 unfold wv
 rw [wrU,ed]
 split<;>omega
theorem qbK {α:Type} (n X:Int) (h0:0<=n) (h1:n<18446744073709551616) (E:Nat->Int->Int->Int->Int->Int->Option α) (Z:Int->Int->Int->Int->Option α)
  (st:∀ k i xa xb ya yb,E (k+1) i xa xb ya yb=bif decide (i<64) then (bif decide (i<0) then none else (bif bu n i==1 then (bif a7 yb&&a7 xb then (bif a7 xb&&a7 xb then E k (IntKind.i64.wrap (i+1)) (bM (wv xa xb+wv xa xb)) (bD (wv xa xb+wv xa xb)) (bM (wv ya yb+wv xa xb)) (bD (wv ya yb+wv xa xb)) else none) else none)
   else (bif a7 xb&&a7 xb then E k (IntKind.i64.wrap (i+1)) (bM (wv xa xb+wv xa xb)) (bD (wv xa xb+wv xa xb)) ya yb else none))) else Z xa xb ya yb) :
  ∀ (m j:Nat),j+m=64->E (m+1) j (bM (X*2 ^ j)) (bD (X*2 ^ j)) (bM (X*(n % 2 ^ j))) (bD (X*(n % 2 ^ j)))=Z (bM (X*2 ^ 64)) (bD (X*2 ^ 64)) (bM (X*(n % 2 ^ 64))) (bD (X*(n % 2 ^ 64))):=by
 intro m
 induction m with
 | zero =>
  intro j hj
  obtain rfl:j=64:=by omega
  rw [st]
  rfl
 | succ m ih =>
  intro j hj
  have hp:(0:Int)<2 ^ j:=Int.pow_pos (by decide)
  have g1:decide ((j:Int)<64)=true:=by simp;omega
  have g2:decide ((j:Int)<0)=false:=by simp
  rw [st,g1,g2,tg,tg,PU n h0 h1 j (by omega),uU j (by omega),Mt,Mr,Mt,Mr]
  simp only [cond_true,cond_false,Bool.and_self]
  have ih:=ih (j+1) (by omega)
  have e1:X*2 ^ j+X*2 ^ j=X*2 ^ (j+1):=by rw [Int.pow_succ,<- Int.mul_add];congr 1;omega
  have e2:=G7 n (2 ^ j) hp
  rw [<- Int.pow_succ] at e2
  rw [e1]
  have hb:n / 2 ^ j % 2=0\/n / 2 ^ j % 2=1:=by omega
  unfold dc
  rcases hb with hb|hb
  ·rw [hb] at e2 ⊢
   rw [Int.mul_zero,Int.add_zero] at e2
   rw [e2] at ih
   exact ih
  ·rw [hb] at e2 ⊢
   rw [Int.mul_one] at e2
   rw [e2,Int.mul_add] at ih
   exact ih
theorem qiv {a b c d:Int} (h1:bV a b=true) (h2:bV c d=true):(bif decide (a<c)||(a==c&&decide (b<d)) then (-1:Int) else bif a==c&&b==d then 0 else 1)=dY (wv a b) (wv c d):=by
 rw [jk] at h1 h2
 unfold dY wv
 by_cases p:a<c
 ·have q1:a*18446744073709551616+b<c*18446744073709551616+d:=by omega
  simp [p,q1]
 ·by_cases q:a=c
  ·subst q
   by_cases r:b<d
   ·simp [r]
   ·by_cases s:b=d
    ·simp [s]
    ·have t:d<b:=by omega
     have s':(b==d)=false:=by simpa using s
     simp [r,t,s']
  ·have q':(a==c)=false:=by simpa using q
   have q1:¬ a*18446744073709551616+b<c*18446744073709551616+d:=by omega
   have q2:c*18446744073709551616+d<a*18446744073709551616+b:=by omega
   simp [p,q',q1,q2]
end Go.Sx
namespace Go.Sx
def plR (x y:Int):Bool:=decide (-1099511627776<=x/\x<=1099511627776/\-1099511627776<=y/\y<=1099511627776)
theorem wo {x y:Int}:plR x y=true↔-1099511627776<=x/\x<=1099511627776/\-1099511627776<=y/\y<=1099511627776:=by unfold plR;exact decide_eq_true_iff
def co (ax ay bx by_ cx cy:Int):Int:=bif plR ax ay&&(plR bx by_&&plR cx cy) then dY ((bx - ax)*(cy - ay)) ((by_ - ay)*(cx - ax)) else 0
def btw (x a b:Int):Bool:=decide ((if b<a then b else a)<=x)&&decide (x<=(if b>a then b else a))
def onB (px py ax ay bx by_:Int):Bool:=(plR px py&&(plR ax ay&&plR bx by_))&&(co ax ay bx by_ px py==0&&(btw px ax bx&&btw py ay by_))
def Hh (ax ay bx by_ cx cy dx dy:Int):Bool:=decide (wI (co ax ay bx by_ cx cy*co ax ay bx by_ dx dy)<0)&&decide (wI (co cx cy dx dy ax ay*co cx cy dx dy bx by_)<0)
def dE (ax ay bx by_ cx cy dx dy:Int):Bool:=(plR ax ay&&(plR bx by_&&(plR cx cy&&plR dx dy)))&&(onB ax ay cx cy dx dy||(onB bx by_ cx cy dx dy||(onB cx cy ax ay bx by_||(onB dx dy ax ay bx by_||Hh ax ay bx by_ cx cy dx dy))))
theorem Ku {ax ay bx by_ cx cy:Int} (h:(plR ax ay&&(plR bx by_&&plR cx cy))=true):dY (wI (bx - ax)*wI (cy - ay)) (wI (by_ - ay)*wI (cx - ax))=co ax ay bx by_ cx cy:=by
 unfold co
 rw [h]
 simp only [Bool.and_eq_true,wo] at h
 rw [az (n:=bx - ax) (by omega),az (n:=cy - ay) (by omega),az (n:=by_ - ay) (by omega),az (n:=cx - ax) (by omega)]
 rfl
end Go.Sx
namespace Go.Sx
def cp (B:ByteArray):List (List Dat):=aq (bK B)
def ao (L:List (List Dat)):ByteArray:=strOfNums (cU L)
theorem nb (B:ByteArray):ao (cp B)=B:=by
 unfold ao cp
 rw [Cg]
 apply ByteArray.ext
 apply Array.ext'
 simp [strOfNums,bK,Function.comp_def]
theorem vZ (B:ByteArray):(cp B).length=B.size:=by
 unfold cp
 rw [nr]
 simp [bK]
theorem PP (a b:ByteArray):bK (a++b)=bK a++bK b:=by simp [bK]
theorem Hu (a:ByteArray) (i j:Nat):bK (a.extract i j)=((bK a).take j).drop i:=by
 simp [bK,List.drop_take]
theorem LK (a b:List Int):aq (a++b)=aq a++aq b:=by simp [aq]
theorem LH (a:List Int) (n:Nat):aq (a.take n)=(aq a).take n:=by simp [aq]
theorem LJ (a:List Int) (n:Nat):aq (a.drop n)=(aq a).drop n:=by simp [aq]
theorem qiH (s:ByteArray):(bK s).length=s.size:=by simp [bK]
def dD (B:ByteArray) (k:Nat) (s:ByteArray):ByteArray:=B.extract 0 k++s++B.extract (k+s.size) B.size
theorem LF (B s:ByteArray) (k:Nat):(cp B).take k++aq (bK s)++(cp B).drop (k+s.size)=cp (dD B k s):=by
 unfold cp dD
 rw [PP,PP,LK,LK,Hu,Hu,List.drop_zero,LH,LJ,List.take_of_length_le (Nat.le_of_eq (qiH B))]
theorem TW (B:ByteArray) (lo n:Nat):strOfNums (cU (((cp B).drop lo).take n))=B.extract lo (lo+n):=by
 have:((cp B).drop lo).take n=cp (B.extract lo (lo+n)):=by
  unfold cp
  rw [Hu,LJ,LH,List.drop_take]
  congr 1
  omega
 rw [this]
 exact nb _
theorem sn {B s:ByteArray} {k:Nat} (h:k+s.size<=B.size):(dD B k s).size=B.size:=by
 unfold dD
 simp only [ByteArray.size_append,ByteArray.size_extract]
 omega
def Cn (n:Nat) (x:UInt8):ByteArray:=⟨(List.replicate n x).toArray⟩
theorem qat (n:Nat) (x:UInt8):cp (Cn n x)=List.replicate n [.n (x.toNat:Int)]:=by
 simp [cp,Cn,bK,aq]
end Go.Sx
namespace Go.Sx
def jV (r q:Int):Int:=IntKind.u64.wrap ((BitVec.ofInt 64 r ||| BitVec.ofInt 64 q).toNat:Int)
def fk (n:Int):Nat->Int->Int
 | 0,r=>r
 | k+1,r=>fk n k (bif decide ((r+2 ^ k)*(r+2 ^ k)<=n) then r+2 ^ k else r)
theorem Mw (r:Int) (k:Nat) (h0:0<=r) (h1:r % 2 ^ (k+1)=0) (h2:r+2 ^ (k+1)<=18446744073709551616):jV r (2 ^ k)=r+2 ^ k/\a7 (r+2 ^ k)=true:=by
 have hp:(0:Int)<2 ^ k:=Int.pow_pos (by decide)
 have hs:(2:Int) ^ (k+1)=2 ^ k*2:=Int.pow_succ 2 k
 have hb:a7 (r+2 ^ k)=true:=by rw [fy];omega
 refine ⟨?_,hb⟩
 rw [fy] at hb
 obtain ⟨m,rfl⟩:=Int.eq_ofNat_of_zero_le h0
 unfold jV
 have e1:((2:Int) ^ k)=((2 ^ k:Nat):Int):=by simp
 have e2:((2:Int) ^ (k+1))=((2 ^ (k+1):Nat):Int):=by simp
 rw [e1,BitVec.ofInt_natCast,BitVec.ofInt_natCast,BitVec.toNat_or,BitVec.toNat_ofNat,BitVec.toNat_ofNat]
 rw [e2] at h1 h2
 have hm:m % 2 ^ (k+1)=0:=by
  have:((m % 2 ^ (k+1):Nat):Int)=0:=by rw [Int.natCast_emod];exact h1
  exact_mod_cast this
 have hk:2 ^ k<2 ^ (k+1):=Nat.pow_lt_pow_right (by decide) (by omega)
 have l1:m<2 ^ 64:=by
  have:(m:Int)<18446744073709551616:=by omega
  omega
 have l2:2 ^ k<2 ^ 64:=by omega
 rw [Nat.mod_eq_of_lt l1,Nat.mod_eq_of_lt l2]
 have hor:m ||| 2 ^ k=m+2 ^ k:=by
  have hd:m=2 ^ (k+1)*(m / 2 ^ (k+1)):=by
   have:=Nat.div_add_mod m (2 ^ (k+1));omega
  rw [hd,<- Nat.two_pow_add_eq_or_of_lt hk]
 rw [hor,wrU]
 rw [e1] at hb
 push_cast at hb ⊢
 omega
theorem UV {α:Type} (N:Int) (g:Int->Bool) (hg:∀ x,a7 x=true->g x=true) (E:Nat->Int->Int->Option α) (F:Int->Option α)
  (hE:∀ m r q,E (m+1) r q=bif decide (q>0) then (bif g (jV r q) then (bif decide (jV r q*jV r q<=N) then E m (jV r q) (q.fdiv (2 ^ 1)) else E m r (q.fdiv (2 ^ 1))) else none) else F r) :
  ∀ (k:Nat) (r:Int),0<=r->r % 2 ^ (k+1)=0->r+2 ^ (k+1)<=18446744073709551616->E (k+2) r (2 ^ k)=F (fk N (k+1) r):=by
 intro k
 induction k with
 | zero =>
  intro r h0 h1 h2
  obtain ⟨e1,e2⟩:=Mw r 0 h0 h1 h2
  rw [hE,e1,hg _ e2]
  have h3:((2:Int) ^ 0).fdiv (2 ^ 1)=0:=by decide
  rw [h3]
  have:∀ r',E 1 r' 0=F r':=fun r'=>by rw [hE];rfl
  rw [this,this]
  simp only [fk,Int.pow_zero,decide_true,cond_true,show ((1:Int)>0) from by decide]
  cases decide ((r+1)*(r+1)<=N)<;>rfl
 | succ k ih =>
  intro r h0 h1 h2
  obtain ⟨e1,e2⟩:=Mw r (k+1) h0 h1 h2
  rw [hE,e1,hg _ e2]
  have hp:(0:Int)<2 ^ k:=Int.pow_pos (by decide)
  have hs:(2:Int) ^ (k+1)=2 ^ k*2:=Int.pow_succ 2 k
  have hs2:(2:Int) ^ (k+1+1)=2 ^ (k+1)*2:=Int.pow_succ 2 (k+1)
  have h3:((2:Int) ^ (k+1)).fdiv (2 ^ 1)=2 ^ k:=by
   rw [Int.fdiv_eq_ediv_of_nonneg _ (by decide),hs]
   exact Int.mul_ediv_cancel _ (by decide)
  rw [h3]
  have hgt:(2:Int) ^ (k+1)>0:=by omega
  simp only [hgt,decide_true,cond_true]
  have dv:(2:Int) ^ (k+1) ∣ r:=Int.dvd_trans ⟨2,hs2⟩ (Int.dvd_of_emod_eq_zero h1)
  rw [ih r h0 (Int.emod_eq_zero_of_dvd dv) (by omega),ih (r+2 ^ (k+1)) (by omega) (Int.emod_eq_zero_of_dvd (Int.dvd_add dv (Int.dvd_refl _))) (by omega)]
  show _=F (fk N (k+1) (bif decide ((r+2 ^ (k+1))*(r+2 ^ (k+1))<=N) then r+2 ^ (k+1) else r))
  cases decide ((r+2 ^ (k+1))*(r+2 ^ (k+1))<=N)<;>rfl
theorem Bk (n:Int):∀ (k:Nat) (r:Int),0<=r->r*r<=n->n<(r+2 ^ k)*(r+2 ^ k)->(r<=fk n k r/\fk n k r<r+2 ^ k)/\fk n k r*fk n k r<=n/\n<(fk n k r+1)*(fk n k r+1)
 | 0,r,h0,h1,h2=>by
  simp only [fk,Int.pow_zero] at *
  exact ⟨⟨by omega,by omega⟩,h1,h2⟩
 | k+1,r,h0,h1,h2=>by
  have hp:(0:Int)<2 ^ k:=Int.pow_pos (by decide)
  have hs:(2:Int) ^ (k+1)=2 ^ k*2:=Int.pow_succ 2 k
  simp only [fk]
  by_cases hc:(r+2 ^ k)*(r+2 ^ k)<=n
  ·simp only [hc,decide_true,cond_true]
   have:=Bk n k (r+2 ^ k) (by omega) hc (by rw [show r+2 ^ k+2 ^ k=r+2 ^ (k+1) by omega];exact h2)
   exact ⟨⟨by omega,by omega⟩,this.2⟩
  ·simp only [hc,decide_false,cond_false]
   have:=Bk n k r h0 h1 (by omega)
   exact ⟨⟨by omega,by omega⟩,this.2⟩
def bU (n:Int):Int:=bif decide (n<0) then 0 else fk n 64 0
theorem vW (n:Int) (h0:0<=n) (h1:n<170141183460469231731687303715884105728):0<=bU n/\bU n<18446744073709551616/\bU n*bU n<=n/\n<(bU n+1)*(bU n+1):=by
 have e:bU n=fk n 64 0:=by
  have:¬ n<0:=by omega
  simp [bU,this]
 rw [e]
 have:=Bk n 64 0 (by decide) (by simpa using h0) (by
  have:((0:Int)+2 ^ 64)*(0+2 ^ 64)=340282366920938463463374607431768211456:=by decide
  rw [this];omega)
 have e2:(0:Int)+2 ^ 64=18446744073709551616:=by decide
 rw [e2] at this
 exact ⟨this.1.1,this.1.2,this.2⟩
theorem BH {n:Int} (h:n<0):bU n=0:=by simp [bU,h]
theorem qao {n:Int} (h1:n<170141183460469231731687303715884105728):0<=bU n:=by
 by_cases h:0<=n
 ·exact (vW n h h1).1
 ·rw [BH (by omega)];omega
theorem qan {n r:Int} (hn:n<170141183460469231731687303715884105728) (h0:0<=r) (h1:r*r<=n) (h2:n<(r+1)*(r+1)):bU n=r:=by
 have hn0:0<=n:=Int.le_trans (Int.mul_nonneg h0 h0) h1
 obtain ⟨s0,_,s2,s3⟩:=vW n hn0 hn
 rcases Int.lt_trichotomy (bU n) r with h|h|h
 ·have:(bU n+1)*(bU n+1)<=r*r:=Int.mul_le_mul (by omega) (by omega) (by omega) h0
  omega
 ·exact h
 ·have:(r+1)*(r+1)<=bU n*bU n:=Int.mul_le_mul (by omega) (by omega) (by omega) s0
  omega
end Go.Sx
namespace Go.Sx
theorem sI {a b A B:Int} (h1:-A<=a) (h2:a<=A) (h3:-B<=b) (h4:b<=B):-(A*B)<=a*b/\a*b<=A*B:=by
 have p1:=Int.mul_nonneg (show 0<=A - a by omega) (show 0<=B+b by omega)
 have p2:=Int.mul_nonneg (show 0<=A+a by omega) (show 0<=B - b by omega)
 have p3:=Int.mul_nonneg (show 0<=A - a by omega) (show 0<=B - b by omega)
 have p4:=Int.mul_nonneg (show 0<=A+a by omega) (show 0<=B+b by omega)
 simp only [Int.sub_mul,Int.add_mul,Int.mul_sub,Int.mul_add] at p1 p2 p3 p4
 omega
def Ab (z v g t:Int):Int:=2*z+2*v*t - g*t*t
def bC (z v g:Int):Int:=bif decide (z<0) then 0 else (v+bU (v*v+2*g*z)) / g
def ez (z v g:Int):Bool:=decide (-8589934592<=z/\z<=8589934592/\-262144<=v/\v<=262144/\1<=g/\g<=100)
def bW (z v g:Int):Bool:=decide (-2147483648<=z/\z<=2147483648/\-131072<=v/\v<=131072/\1<=g/\g<=100)
theorem k9 {z v g:Int}:ez z v g=true↔-8589934592<=z/\z<=8589934592/\-262144<=v/\v<=262144/\1<=g/\g<=100:=by simp [ez]
theorem yp {z v g:Int}:bW z v g=true↔-2147483648<=z/\z<=2147483648/\-131072<=v/\v<=131072/\1<=g/\g<=100:=by simp [bW]
theorem yq {z v g:Int} (h:ez z v g=true):(0<=v*v/\v*v<=68719476736)/\(-1717986918400<=2*g*z/\2*g*z<=1717986918400):=by
 rw [k9] at h
 have h1:=sI (a:=v) (b:=v) (A:=262144) (B:=262144) (by omega) (by omega) (by omega) (by omega)
 have h2:=sI (a:=2*g) (b:=z) (A:=200) (B:=8589934592) (by omega) (by omega) (by omega) (by omega)
 have h3:0<=v*v:=by
  rcases (by omega:0<=v\/v<=0) with h|h
  ·exact Int.mul_nonneg h h
  ·exact Int.mul_nonneg_of_nonpos_of_nonpos h h
 omega
theorem gAb (z v g x:Int):g*Ab z v g x=(v*v+2*g*z) - (g*x - v)*(g*x - v):=by
 unfold Ab
 grind
theorem UW {y s:Int} (h1:-s<=y) (h2:y<=s):y*y<=s*s:=(sI (A:=s) (B:=s) h1 h2 h1 h2).2
theorem ve {z v g:Int} (h:ez z v g=true) (hz:0<=z):∃ s,bC z v g=(v+s) / g/\0<=s/\-s<=v/\v<=s/\s*s<=v*v+2*g*z/\v*v+2*g*z<(s+1)*(s+1):=by
 have hn:=yq h
 have hx:=k9.1 h
 have gz:0<=2*g*z:=Int.mul_nonneg (by omega) hz
 obtain ⟨s0,_,s2,s3⟩:=vW (v*v+2*g*z) (by omega) (by omega)
 refine ⟨bU (v*v+2*g*z),?_,s0,?_,?_,s2,s3⟩
 ·unfold bC;rw [decide_eq_false (by omega)];rfl
 ·rcases (by omega:-bU (v*v+2*g*z)<=v\/bU (v*v+2*g*z)+1<=-v) with h|h
  ·exact h
  ·have:=Int.mul_le_mul h h (by omega) (by omega)
   rw [Int.neg_mul_neg] at this
   omega
 ·rcases (by omega:v<=bU (v*v+2*g*z)\/bU (v*v+2*g*z)+1<=v) with h|h
  ·exact h
  ·have:=Int.mul_le_mul h h (by omega) (by omega)
   omega
theorem pe {z v g:Int} (h:ez z v g=true):0<=bC z v g:=by
 by_cases hz:z<0
 ·unfold bC;rw [decide_eq_true hz];exact Int.le_refl 0
 ·obtain ⟨s,e,h0,h1,h2,_,_⟩:=ve h (by omega)
  rw [e]
  exact Int.ediv_nonneg (by omega) (by have:=k9.1 h;omega)
theorem Ky {z v g x:Int} (h:ez z v g=true) (hz:0<=z) (hx:0<=x):x<=bC z v g↔0<=Ab z v g x:=by
 obtain ⟨s,e,h0,h1,h2,h3,h4⟩:=ve h hz
 have hg:=(k9.1 h).2.2.2.2.1
 have id:=gAb z v g x
 have gx:0<=g*x:=Int.mul_nonneg (by omega) hx
 rw [e,Int.le_ediv_iff_mul_le (by omega),Int.mul_comm x g]
 constructor
 ·intro hle
  have:=UW (y:=g*x - v) (s:=s) (by omega) (by omega)
  have hp:0<=g*Ab z v g x:=by omega
  rcases (by omega:0<=Ab z v g x\/Ab z v g x<0) with h5|h5
  ·exact h5
  ·have:=Int.mul_neg_of_pos_of_neg (show 0<g by omega) h5
   omega
 ·intro hA
  have hp:=Int.mul_nonneg (show 0<=g by omega) hA
  rcases (by omega:g*x<=v+s\/s+1<=g*x - v) with h5|h5
  ·exact h5
  ·have:=Int.mul_le_mul h5 h5 (by omega) (by omega)
   omega
theorem T3 {z v g z' v':Int} (h:ez z v g=true) (h':ez z' v' g=true) (hz:z<=z') (hv:v<=v'):bC z v g<=bC z' v' g:=by
 by_cases h0:z<0
 ·have:bC z v g=0:=by unfold bC;rw [decide_eq_true h0];rfl
  rw [this];exact pe h'
 ·have t0:=pe h
  refine (Ky h' (by omega) t0).2 ?_
  have:=(Ky h (by omega) t0).1 (Int.le_refl _)
  have p:=Int.mul_nonneg (show 0<=v' - v by omega) t0
  unfold Ab at this ⊢
  have e:2*v'*bC z v g - 2*v*bC z v g=2*((v' - v)*bC z v g):=by grind
  omega
theorem vf {z v g:Int} (h:ez z v g=true):bC z v g<=2097152:=by
 by_cases hz:z<0
 ·unfold bC;rw [decide_eq_true hz];exact (by decide:(0:Int)<=2097152)
 ·obtain ⟨s,e,h0,h1,h2,h3,_⟩:=ve h (by omega)
  have hn:=yq h
  have hx:=k9.1 h
  have hs:s<=1500000:=by
   rcases (by omega:s<=1500000\/1500001<=s) with h|h
   ·exact h
   ·have:=Int.mul_le_mul h h (by omega) (by omega);omega
  rw [e]
  have:(v+s) / g<=v+s:=Int.ediv_le_self _ (by omega)
  omega
end Go.Sx
namespace Go.Sx
def mn (a b:Int):Int:=if b<a then b else a
def mx (a b:Int):Int:=if b>a then b else a
theorem iD (a b:Int):mn a b<=a/\mn a b<=b/\(mn a b=a\/mn a b=b):=by unfold mn;split<;>omega
theorem iE (a b:Int):a<=mx a b/\b<=mx a b/\(mx a b=a\/mx a b=b):=by unfold mx;split<;>omega
theorem Cq {c lo hi t:Int} (h1:lo<=t) (h2:t<=hi):mn (c*lo) (c*hi)<=c*t/\c*t<=mx (c*lo) (c*hi):=by
 obtain ⟨a1,a2,_⟩:=iD (c*lo) (c*hi)
 obtain ⟨b1,b2,_⟩:=iE (c*lo) (c*hi)
 rcases (by omega:0<=c\/c<=0) with h|h
 ·have:=Int.mul_le_mul_of_nonneg_left h1 h
  have:=Int.mul_le_mul_of_nonneg_left h2 h
  omega
 ·have:=Int.mul_le_mul_of_nonpos_left h h1
  have:=Int.mul_le_mul_of_nonpos_left h h2
  omega
def wU (v e a b:Int):Int:=mn (mn ((v - e)*a) ((v - e)*b)) (mn ((v+e)*a) ((v+e)*b))
def wR (v e a b:Int):Int:=mx (mx ((v - e)*a) ((v - e)*b)) (mx ((v+e)*a) ((v+e)*b))
theorem bil {v e a b w t:Int} (h1:v - e<=w) (h2:w<=v+e) (h3:a<=t) (h4:t<=b):wU v e a b<=w*t/\w*t<=wR v e a b:=by
 obtain ⟨l1,l2⟩:=Cq (c:=t) h1 h2
 obtain ⟨p1,p2⟩:=Cq (c:=v - e) h3 h4
 obtain ⟨q1,q2⟩:=Cq (c:=v+e) h3 h4
 rw [Int.mul_comm t w,Int.mul_comm t,Int.mul_comm t] at l1 l2
 unfold wU wR
 have m1:=iD ((v - e)*t) ((v+e)*t)
 have m2:=iE ((v - e)*t) ((v+e)*t)
 have n1:=iD (mn ((v - e)*a) ((v - e)*b)) (mn ((v+e)*a) ((v+e)*b))
 have n2:=iE (mx ((v - e)*a) ((v - e)*b)) (mx ((v+e)*a) ((v+e)*b))
 omega
def jn (x v e a b:Int):Int:=mn (mn (mn (mn (x+v*a - e) (x+(v+-e)*a - e)) (x+(v+e)*a - e)) (x+(v+-e)*b - e)) (x+(v+e)*b - e)
def jx (x v e a b:Int):Int:=mx (mx (mx (mx (x+v*a+e) (x+(v+-e)*a+e)) (x+(v+e)*a+e)) (x+(v+-e)*b+e)) (x+(v+e)*b+e)
theorem qdD (x e A B C D F:Int) (h:mn (mn B D) (mn C F)<=A):mn (mn (mn (mn (x+A - e) (x+B - e)) (x+C - e)) (x+D - e)) (x+F - e)=x - e+mn (mn B D) (mn C F):=by
 have a1:=iD (x+A - e) (x+B - e)
 have a2:=iD (mn (x+A - e) (x+B - e)) (x+C - e)
 have a3:=iD (mn (mn (x+A - e) (x+B - e)) (x+C - e)) (x+D - e)
 have a4:=iD (mn (mn (mn (x+A - e) (x+B - e)) (x+C - e)) (x+D - e)) (x+F - e)
 have b1:=iD B D
 have b2:=iD C F
 have b3:=iD (mn B D) (mn C F)
 omega
theorem qdE (x e A B C D F:Int) (h:A<=mx (mx B D) (mx C F)):mx (mx (mx (mx (x+A+e) (x+B+e)) (x+C+e)) (x+D+e)) (x+F+e)=x+e+mx (mx B D) (mx C F):=by
 have a1:=iE (x+A+e) (x+B+e)
 have a2:=iE (mx (x+A+e) (x+B+e)) (x+C+e)
 have a3:=iE (mx (mx (x+A+e) (x+B+e)) (x+C+e)) (x+D+e)
 have a4:=iE (mx (mx (mx (x+A+e) (x+B+e)) (x+C+e)) (x+D+e)) (x+F+e)
 have b1:=iE B D
 have b2:=iE C F
 have b3:=iE (mx B D) (mx C F)
 omega
theorem qdF (x v:Int) {e a b:Int} (h:0<=e) (hab:a<=b):jn x v e a b=x - e+wU v e a b/\jx x v e a b=x+e+wR v e a b:=by
 have p0:=bil (v:=v) (e:=e) (a:=a) (b:=b) (w:=v) (t:=a) (by omega) (by omega) (Int.le_refl _) hab
 unfold jn jx
 rw [show v+-e=v - e by omega]
 exact ⟨qdD x e _ _ _ _ _ p0.1,qdE x e _ _ _ _ _ p0.2⟩
end Go.Sx
namespace Go.Sx
section
variable {a1 a2 b1 b2 c1 c2 d1 d2 p1 p2 q1 q2:Int}
end
end Go.Sx
namespace Go.Sx
set_option linter.unusedVariables false
section
variable {a1 a2 b1 b2 c1 c2 d1 d2 p1 p2 q1 q2 u1 u2 v1 v2 a b c d:Int}
end
end Go.Sx
