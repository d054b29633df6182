/-
  Verdicts of what is near;a tally's window;both,as a law over values.
-/
import Derived.Test.YtainfdcfkgemhaaGreatYc
import Derived.Test.YtainfdcfkgemhaaGreatYe
import Derived.Test.YtainfdcfkgemhaaGreatYh
import Derived.Test.YtainfdcfkgemhaaGreatYm
import Derived.Test.YtainfdcfkgemhaaGreatSx
set_option maxRecDepth 100000
noncomputable section
open Go.Proofs.Tryz
namespace Go.Proofs.YtainfdcfkgemhaaGreat
open Go Go.Proofs Go.Sx
def Th (f:FuncId):Bool:=uK f||false||Nat.beq f 103||Nat.beq f 168||Nat.beq f 166
def Γx19:Orc:=tK prog ΓA13.call ΓA13.rd ΓA13.eqv Th 30 8
theorem QE:Γx19.Ok prog:=O5 mixed names (ext:=ΓA13.call) (rd:=ΓA13.rd) (eqv:=ΓA13.eqv) ⟨mC.call,mC.rd,mC.eqv⟩ 30 8
theorem Z5:runG Γx19 (et Γx19 prog 30 3) prog f99 [] M0=some (.v (Bo true),M0):=by kernel_rfl
def G2 (vs:List Value):Option (Bool×Value) :=
 match vs with
 | []=>some (true,Bo true)
 | _=>none
theorem qgU:an 99 G2:=by
 intro vs r h
 unfold G2 at h
 split at h
 ·obtain ⟨_,rfl⟩:=aa h
  exact am (vs:=[]) QE func99 rfl (fun z _ _ b hb=>gb QE mixed 30 3 b) Z5
 ·cases h
end Go.Proofs.YtainfdcfkgemhaaGreat
namespace Go.Proofs.YtainfdcfkgemhaaGreat.Tv
open Go Go.Proofs Go.Sx
set_option linter.unusedVariables false
def ΓEw:Orc:={ ΓTl0 with bs:=true,wr:=fun f=>Nat.beq f 60||ΓTl0.wr f }
theorem qkn:ΓEw.Ok prog:=⟨mB.call,mB.rd,mB.eqv⟩
def sr (n:Int) (d:Int) (g:Int):Option (SV×Mem):=some (.ptr 0 0,⟨[[.ptr 1 0,.ptr 2 0,.ptr 3 0],[.v (I (aK n (1000000:Int))),.v (I 0)],[.v (I (aK d (1000000:Int))),.v (I 0)],[.v (I (aK g (1000000:Int))),.v (I 0)]],[true,true,true,true],[]⟩)
def pg (n:Int) (d:Int) (g:Int):Option (SV×Mem):=same (sr n d g) (sr n d g)
def BQ (n:Int) (d:Int) (g:Int):Option (SV×Mem):=same ((pg n d g)) (sr n d g)
def BR (n:Int) (d:Int) (g:Int):Option (SV×Mem):=same ((pg n d g)) ((same ((BQ n d g)) ((pg n d g))))
def su (n:Int) (d:Int) (g:Int):Option (SV×Mem):=same (sr n d g) ((pg n d g))
theorem V5 (n d g x1 x2 x3 x4 x5:Int):runG ΓEw L0 prog f106 [.v (.agg #[.slice none 0 0,I n,I d,I g,I x1,I x2,I x3,I x4,I x5])] M0 =
 (bif decide (n<(1:Int)) then some (.v (Value.pointer none),M0) else (bif decide (d<(1:Int)) then some (.v (Value.pointer none),M0) else (bif decide (g<(1:Int)) then some (.v (Value.pointer none),M0) else (same ((su n d g)) ((same ((same ((su n d g)) ((same ((same ((su n d g)) ((BQ n d g)))) ((BR n d g)))))) ((same ((pg n d g)) ((same ((BR n d g)) ((su n d g)))))))))))):=by kernel_rfl
def newB (n d g:Int):Bool:=decide (1<=n)&&(decide (1<=d)&&decide (1<=g))
def DW (xs:List SV) (m:Mem):Option (Bool×SV×Mem) :=
 match xs,m with
 | [.v (.agg ⟨[.slice none 0 0,.int .i64 n,.int .i64 d,.int .i64 g,.int .i64 x1,.int .i64 x2,.int .i64 x3,.int .i64 x4,.int .i64 x5]⟩)],⟨[],[],[]⟩=>some (newB n d g,.ptr 0 0,TM (aK n 1000000) 0 (aK d 1000000) 0 (aK g 1000000) 0)
 | _,_=>none
theorem KS {n d g x1 x2 x3 x4 x5:Int}:bq prog 106 [.v (.agg #[.slice none 0 0,I n,I d,I g,I x1,I x2,I x3,I x4,I x5])] M0 (bif newB n d g then .ptr 0 0 else .v (.pointer none)) (bif newB n d g then TM (aK n 1000000) 0 (aK d 1000000) 0 (aK g 1000000) 0 else M0):=by
 refine aj (Λ:=L0) qkn func106 rfl af ?_
 refine (V5 n d g x1 x2 x3 x4 x5).trans ?_
 unfold su BR BQ pg sr
 unfold newB
 by_cases h1:n<1
 ·rw [decide_eq_true h1,decide_eq_false (show ¬ 1<=n by omega)];rfl
 by_cases h2:d<1
 ·rw [decide_eq_false h1,decide_eq_true (show 1<=n by omega),decide_eq_true h2,decide_eq_false (show ¬ 1<=d by omega)];rfl
 by_cases h3:g<1
 ·rw [decide_eq_false h1,decide_eq_true (show 1<=n by omega),decide_eq_false h2,decide_eq_true (show 1<=d by omega),decide_eq_true h3,decide_eq_false (show ¬ 1<=g by omega)];rfl
 rw [decide_eq_false h1,decide_eq_false h2,decide_eq_false h3,decide_eq_true (show 1<=n by omega),decide_eq_true (show 1<=d by omega),decide_eq_true (show 1<=g by omega)]
 simp only [fY,cond_false,Bool.and_self,cond_true]
 rfl
theorem qd6:aT 106 DW:=by
 intro xs m r m' h
 unfold DW at h
 split at h
 ·rename_i n d g x1 x2 x3 x4 x5
  obtain ⟨h1,rfl,rfl⟩:=az h
  have:=@KS n d g x1 x2 x3 x4 x5
  rw [h1] at this
  exact this
 ·cases h
def DV (xs:List SV) (m:Mem):Option (Bool×SV×Mem) :=
 match xs,m with
 | [.v (.agg ⟨[.slice none 0 0,.int .i64 n,.int .i64 d,.int .i64 g,.int .i64 x1,.int .i64 x2,.int .i64 x3,.int .i64 x4,.int .i64 x5]⟩)],⟨[],[],[]⟩=>some (true,bif newB n d g then .ptr 0 0 else .v (.pointer none),bif newB n d g then TM (aK n 1000000) 0 (aK d 1000000) 0 (aK g 1000000) 0 else M0)
 | _,_=>none
theorem qd7:aT 106 DV:=by
 intro xs m r m' h
 unfold DV at h
 split at h
 ·obtain ⟨_,rfl,rfl⟩:=az h
  exact KS
 ·cases h
def ΓTc:Orc:=aE 106 DV ΓTl0
theorem IE:ΓTc.Ok prog:=aA mB qd7
def Γx20:Orc:=nT prog ΓTc.call ΓTc.rd ΓTc.eqv (fun _=>false) 30 3
theorem QD:Γx20.Ok prog:=yM mixed names (ext:=ΓTc.call) (rd:=ΓTc.rd) (eqv:=ΓTc.eqv) ⟨IE.call,IE.rd,IE.eqv⟩ 30 3
theorem Z4:runG Γx20 (et Γx20 prog 30 2) prog f105 [] M0=some (.v (Bo true),M0):=by kernel_rfl
def G1 (vs:List Value):Option (Bool×Value) :=
 match vs with
 | []=>some (true,Bo true)
 | _=>none
theorem qgT:an 105 G1:=by
 intro vs r h
 unfold G1 at h
 split at h
 ·obtain ⟨_,rfl⟩:=aa h
  exact am (vs:=[]) QD func105 rfl (fun z _ _ b hb=>gb QD mixed 30 2 b) Z4
 ·cases h
def ΓE0:Orc:=ah 105 G1 ΓTl0
theorem Sp:ΓE0.Ok prog:=ac mB qgT
def FH (vs:List Value):Option (Bool×Value) :=
 match vs with
 | [.int .i64 n,.int .i64 d,.int .i64 g]=>some (true,.agg #[.slice none 0 0,I n,I d,I g,I 0,I 0,I 0,I 0,I 0])
 | _=>none
theorem qfB:an 107 FH:=by
 intro vs r h
 unfold FH at h
 split at h
 ·rename_i n d g
  obtain ⟨_,rfl⟩:=aa h
  exact am (vs:=[I n,I d,I g]) (Λ:=L0) (m':=M0) Sp func107 rfl af (by kernel_rfl)
 ·cases h
def ΓE2:Orc:=ah 107 FH ΓE0
theorem qko:ΓE2.Ok prog:=ac Sp qfB
def ΓTl:Orc:=aE 106 DW ΓE2
theorem ID:ΓTl.Ok prog:=aA qko qd6
end Go.Proofs.YtainfdcfkgemhaaGreat.Tv
namespace Go.Proofs.YtainfdcfkgemhaaGreat.Im
open Go Go.Proofs Go.Sx
set_option linter.unusedVariables false
theorem U3 (L:List (List Dat)) (px py:Int):-1<=eJ L px py/\eJ L px py<=1:=by
 rw [<- LE]
 unfold vD
 cases kT L
 ·exact ⟨by show (-1:Int)<=-1;omega,by show (-1:Int)<=1;omega⟩
 ·cases plR px py
  ·exact ⟨by show (-1:Int)<=-1;omega,by show (-1:Int)<=1;omega⟩
  ·simp only [Bool.not_true,cond_false]
   generalize a7 _ _ _=a
   generalize lO px py L=b
   cases a<;>cases b<;>decide
theorem qic (x y z vx vy vz g e:Int) (L:List (List Dat)):-1<=dN x y z vx vy vz g e L/\dN x y z vx vy vz g e L<=1:=by
 unfold dN iv
 have:=U3 L (iK x y z vx vy vz g e) (iJ x y z vx vy vz g e)
 cases aU (iK x y z vx vy vz g e) (iJ x y z vx vy vz g e) (jK x y z vx vy vz g e) (jJ x y z vx vy vz g e)
 ·exact ⟨by show (-1:Int)<=-1;omega,by show (-1:Int)<=1;omega⟩
 ·cases cM L
  ·exact ⟨by show (-1:Int)<=-1;omega,by show (-1:Int)<=1;omega⟩
  ·simp only [Bool.not_true,cond_false]
   generalize a7 _ _ _=b
   cases b
   ·exact this
   ·exact ⟨by show (-1:Int)<=0;omega,by show (0:Int)<=1;omega⟩
theorem UV (f m e:Int) (he:0<=e):(f>m+e/\ek f m e=-1)\/(f<=m - e/\ek f m e=1)\/(f<=m+e/\f>m - e/\ek f m e=0):=by
 unfold ek
 by_cases h1:f>m+e
 ·rw [decide_eq_true h1];exact .inl ⟨h1,rfl⟩
 ·rw [decide_eq_false h1]
  by_cases h2:f<=m - e
  ·rw [decide_eq_true h2];exact .inr (.inl ⟨h2,rfl⟩)
  ·rw [decide_eq_false h2];exact .inr (.inr ⟨by omega,by omega,rfl⟩)
theorem M3 (x y z vx vy vz g mo e:Int) (L:List (List Dat)) (he:0<=e) :
  (cY x y z vx vy vz g e=false/\ofI x y z vx vy vz g mo e L=4) \/
  (cY x y z vx vy vz g e=true/\(m3 vx vy vz>mo+e\/dN x y z vx vy vz g e L=-1)/\ofI x y z vx vy vz g mo e L=3) \/
  (cY x y z vx vy vz g e=true/\m3 vx vy vz<=mo - e/\dN x y z vx vy vz g e L=1/\ofI x y z vx vy vz g mo e L=1) \/
  (cY x y z vx vy vz g e=true/\m3 vx vy vz<=mo+e/\dN x y z vx vy vz g e L≠-1/\(m3 vx vy vz>mo - e\/dN x y z vx vy vz g e L≠1)/\ofI x y z vx vy vz g mo e L=2):=by
 have b:=qic x y z vx vy vz g e L
 have s:=UV (m3 vx vy vz) mo e he
 unfold ofI
 cases cY x y z vx vy vz g e
 ·exact .inl ⟨rfl,rfl⟩
 refine .inr ?_
 simp only [Bool.not_true,cond_false,true_and]
 generalize dN x y z vx vy vz g e L=r at *
 generalize ek (m3 vx vy vz) mo e=t at *
 have w:(r<t/\iZ r t=r)\/(t<=r/\iZ r t=t):=by unfold iZ;split<;>omega
 generalize iZ r t=q at *
 have hq:q=-1\/q=0\/q=1:=by omega
 rcases hq with rfl|rfl|rfl
 ·exact .inl ⟨by omega,rfl⟩
 ·exact .inr (.inr ⟨by omega,by omega,by omega,rfl⟩)
 ·exact .inr (.inl ⟨by omega,by omega,rfl⟩)
theorem qia {x y z u v w g e x' y' z' u' v' w' e':Int} {L:List (List Dat)} (ha:cM L=true) (h:cY x y z u v w g e=true) (h':cY x' y' z' u' v' w' g e'=true) (hx:x' - e'<=x - e/\x+e<=x'+e') (hy:y' - e'<=y - e/\y+e<=y'+e') (hz:z' - e'<=z - e/\z+e<=z'+e') (hu:u' - e'<=u - e/\u+e<=u'+e') (hv:v' - e'<=v - e/\v+e<=v'+e') (hw:w' - e'<=w - e/\w+e<=w'+e')
  (hn:dN x' y' z' u' v' w' g e' L≠0):dN x y z u v w g e L=dN x' y' z' u' v' w' g e' L:=by
 obtain ⟨i1,i2,i3,i4⟩:=N7 h
 obtain ⟨j1,j2,j3,j4⟩:=N7 h'
 obtain ⟨⟨l1,l2⟩,l3,l4⟩:=qdr h h' hx hy hz hu hv hw
 have k:=N4 h
 have k':=N4 h'
 unfold dN at *
 rw [j1,j2,j3,j4] at hn ⊢
 rw [i1,i2,i3,i4]
 generalize cZ x u e (bM z w g e) (bQ z w g e)=a at *
 generalize cZ y v e (bM z w g e) (bQ z w g e)=b at *
 generalize c7 x u e (bM z w g e) (bQ z w g e)=c at *
 generalize c7 y v e (bM z w g e) (bQ z w g e)=d at *
 generalize cZ x' u' e' (bM z' w' g e') (bQ z' w' g e')=a' at *
 generalize cZ y' v' e' (bM z' w' g e') (bQ z' w' g e')=b' at *
 generalize c7 x' u' e' (bM z' w' g e') (bQ z' w' g e')=c' at *
 generalize c7 y' v' e' (bM z' w' g e') (bQ z' w' g e')=d' at *
 cases hr:a7 (er a' b' c' d' L) L.length 0
 ·have hm:∀ k,0<=k->k<(L.length:Int)->er a' b' c' d' L k=false:=fun k k0 k1=>uh.1 hr k k0 (by omega)
  have hm':=qap ha k' k hm l1 l3 l2 l4
  obtain ⟨_,_,b3,b4⟩:=zm k
  rw [Mf ha k' hm,Mf ha k hm',U2 ha k' hm (u1:=a) (u2:=b) (by omega)]
 ·exact absurd (by unfold iv;rw [k',ha,hr];rfl) hn
theorem qag {L:List (List Dat)} {g v m u:Int} (h:m8 L g v m u=true):cM L=true/\(1<=g/\g<=100)/\(1<=v/\v<=65536):=by
 unfold m8 at h
 rw [HX] at h
 simp only [Bool.and_eq_true] at h
 obtain ⟨h1,h2,h3,_⟩:=h
 have w:∀ {n lo hi:Int},eE n lo hi=true->lo<=n/\n<=hi:=fun {n lo hi} h=>by
  unfold eE at h
  by_cases h1:n>=lo
  ·rw [decide_eq_true h1] at h
   exact ⟨h1,of_decide_eq_true h⟩
  ·rw [decide_eq_false h1] at h;cases h
 exact ⟨h1,w h2,w h3⟩
def eN (e:Int):Int:=wI ((BitVec.ofInt 64 e &&& BitVec.ofInt 64 511).toNat:Int)
theorem Pd (e:Int):0<=eN e/\eN e<=511:=andB e 511 (by decide) (by decide)
def vj (v:Int):Bool:=v==1||v==3
def D1 (vs:List Value):Option (Bool×Value) :=
 match vs with
 | [.int .i64 v]=>some (true,Bo (vj v))
 | _=>none
theorem Wf (v:Int):runG ΓVe L0 prog f104 [.v (I v)] M0=(bif v==1 then some (.v (Bo true),M0) else some (.v (Bo (v==3)),M0)):=by kernel_rfl
theorem qd9:an 104 D1:=by
 intro vs r h
 unfold D1 at h
 split at h
 ·rename_i v
  obtain ⟨_,rfl⟩:=aa h
  refine am (vs:=[I v]) (Λ:=L0) (m':=M0) OkVe func104 rfl af ((Wf v).trans ?_)
  unfold vj
  cases v==1<;>rfl
 ·cases h
def Γvn:Orc:=ah 104 D1 (aR 100 xT (ah 102 FI (ah 101 yf (ah 99 G2 ΓVe))))
theorem qiL:Γvn.Ok prog:=ac (aL (ac (ac (ac OkVe qgU) OA) qfE) Ol) qd9
theorem T2 (p q x y z vx vy vz g v m u e k d0 d1 d2 d3 d4 d5:Int) (L:List (List Dat)) (own mark:Bool):runG Γvn L0 prog f54 [.v (.agg #[I p,I q,I x,I y,I z,I vx,I vy,I vz]),.ag [.row 0,.v (I g),.v (I v),.v (I m),.v (I u)],.v (I e),.v (I k),.v (.agg #[I d0,I d1,I d2,I d3,I d4,I d5])] ⟨[],[],[rP L own mark]⟩ =
 (bif decide ((L.length:Int)>12) then some (.v (Bo true),⟨[],[],[rP L own mark]⟩) else (bif L.length.ble 1000000 then (bif !m8 L g v m u then some (.v (Bo true),⟨[],[],[rP L own mark]⟩) else (bif decide (0<=eN k/\eN k<=4096) then (bif L.length.ble 1000000&&decide (0<=v/\v<=2199023255552) then (bif !vj (ofI (hX x) (hX y) (hZ z) (hV vx) (hV vy) (hV vz) g v (wI (eN e+eN k)) L) then some (.v (Bo true),⟨[],[],[rP L own mark]⟩) else (bif L.length.ble 1000000&&decide (0<=v/\v<=2199023255552) then some (.v (Bo (ofI (oI (hX x) d0 (eN k)) (oI (hX y) d1 (eN k)) (oI (hZ z) d2 (eN k)) (oI (hV vx) d3 (eN k)) (oI (hV vy) d4 (eN k)) (oI (hV vz) d5 (eN k)) g v (eN e) L==ofI (hX x) (hX y) (hZ z) (hV vx) (hV vy) (hV vz) g v (wI (eN e+eN k)) L)),⟨[],[],[rP L own mark]⟩) else none)) else none) else none)) else none)):=by kernel_rfl
theorem Ts (p q x y z vx vy vz g v m u e k d0 d1 d2 d3 d4 d5:Int) (L:List (List Dat)) (own mark:Bool):runG Γvn L0 prog f54 [.v (.agg #[I p,I q,I x,I y,I z,I vx,I vy,I vz]),.ag [.row 0,.v (I g),.v (I v),.v (I m),.v (I u)],.v (I e),.v (I k),.v (.agg #[I d0,I d1,I d2,I d3,I d4,I d5])] ⟨[],[],[rP L own mark]⟩=some (.v (Bo true),⟨[],[],[rP L own mark]⟩):=by
 refine (T2 p q x y z vx vy vz g v m u e k d0 d1 d2 d3 d4 d5 L own mark).trans ?_
 by_cases h:(L.length:Int)>12
 ·rw [decide_eq_true h];rfl
 rw [decide_eq_false h,Nat.ble_eq_true_of_le (show L.length<=1000000 by omega)]
 cases hr:m8 L g v m u
 ·rfl
 obtain ⟨ha,hg,hv⟩:=qag hr
 have rX:=N9 x
 have rY:=N9 y
 have rZ:=qdx z
 have rU:=Dm vx
 have rV:=Dm vy
 have rW:=Dm vz
 have rE:=Pd e
 have rK:=Pd k
 generalize hX x=X at *
 generalize hX y=Y at *
 generalize hZ z=Z at *
 generalize hV vx=U at *
 generalize hV vy=V at *
 generalize hV vz=W at *
 generalize eN e=E at *
 generalize eN k=K at *
 rw [aM (n:=E+K) (by omega)]
 have oX:=pG (x:=X) (d:=d0) (e:=K) (by omega) (by omega)
 have oY:=pG (x:=Y) (d:=d1) (e:=K) (by omega) (by omega)
 have oZ:=pG (x:=Z) (d:=d2) (e:=K) (by omega) (by omega)
 have oU:=pG (x:=U) (d:=d3) (e:=K) (by omega) (by omega)
 have oV:=pG (x:=V) (d:=d4) (e:=K) (by omega) (by omega)
 have oW:=pG (x:=W) (d:=d5) (e:=K) (by omega) (by omega)
 generalize oI X d0 K=X' at *
 generalize oI Y d1 K=Y' at *
 generalize oI Z d2 K=Z' at *
 generalize oI U d3 K=U' at *
 generalize oI V d4 K=V' at *
 generalize oI W d5 K=W' at *
 have hS:cY X Y Z U V W g (E+K)=true:=N5 (by omega) (by omega) (by omega) (by omega) (by omega) (by omega) (by omega) (by omega)
 have hR:cY X' Y' Z' U' V' W' g E=true:=N5 (by omega) (by omega) (by omega) (by omega) (by omega) (by omega) (by omega) (by omega)
 have a1:=M3 X Y Z U V W g v (E+K) L (by omega)
 have a2:=M3 X' Y' Z' U' V' W' g v E L (by omega)
 rw [hS] at a1
 rw [hR] at a2
 have gr:=qia (L:=L) ha hR hS (by omega) (by omega) (by omega) (by omega) (by omega) (by omega)
 have f1:=CI U V W
 have f2:=CI U' V' W'
 have c1:=kX U
 have c2:=kX V
 have c3:=kX W
 have c4:=kX U'
 have c5:=kX V'
 have c6:=kX W'
 rw [decide_eq_true (show 0<=K/\K<=4096 by omega),decide_eq_true (show 0<=v/\v<=2199023255552 by omega)]
 generalize dN X Y Z U V W g (E+K) L=r at *
 generalize dN X' Y' Z' U' V' W' g E L=r' at *
 generalize ofI X Y Z U V W g v (E+K) L=t at *
 generalize ofI X' Y' Z' U' V' W' g v E L=t' at *
 simp only [Bool.true_eq_false,false_and,true_and,false_or] at a1 a2
 have q:m3 U V W<=m3 U' V' W'+K/\m3 U' V' W'<=m3 U V W+K:=by
  generalize m3 U V W=M at *
  generalize m3 U' V' W'=M' at *
  clear a1 a2 gr
  constructor
  ·rcases f1.2.2.2 with k|k|k<;>omega
  ·rcases f2.2.2.2 with k|k|k<;>omega
 generalize m3 U V W=M at *
 generalize m3 U' V' W'=M' at *
 clear f1 f2 c1 c2 c3 c4 c5 c6
 simp only [Bool.and_self,cond_true,cond_false,Bool.not_true]
 have n1:t=1\/t=3->t'=t:=by
  intro ht
  by_cases h0:r=0
  ·omega
  ·have:=gr h0
   omega
 unfold vj
 by_cases k1:t=1
 ·rw [n1 (.inl k1),beq_self_eq_true,k1]
  rfl
 ·by_cases k3:t=3
  ·rw [n1 (.inr k3),beq_self_eq_true,k3]
   rfl
  ·rw [beq_eq_false_iff_ne.2 k1,beq_eq_false_iff_ne.2 k3]
   rfl
def gVN (xs:List SV) (m:Mem):Option (Bool×Value) :=
 match xs,m with
 | [.v (.agg ⟨[.int .i64 p,.int .i64 q,.int .i64 x,.int .i64 y,.int .i64 z,.int .i64 vx,.int .i64 vy,.int .i64 vz]⟩),.ag [.row 0,.v (.int .i64 g),.v (.int .i64 v),.v (.int .i64 m),.v (.int .i64 u)],.v (.int .i64 e),.v (.int .i64 k),.v (.agg ⟨[.int .i64 d0,.int .i64 d1,.int .i64 d2,.int .i64 d3,.int .i64 d4,.int .i64 d5]⟩)],⟨[],[],[.live ⟨162,[.num .i64,.num .i64],L,own,mark⟩]⟩=>some (true,Bo true)
 | _,_=>none
theorem gVN_ok:bi 54 gVN:=by
 intro xs m r h
 unfold gVN at h
 split at h
 ·rename_i p q x y z vx vy vz g v m u e k d0 d1 d2 d3 d4 d5 L own mark
  obtain ⟨_,rfl⟩:=aa h
  exact aj (Λ:=L0) qiL func54 rfl af (Ts p q x y z vx vy vz g v m u e k d0 d1 d2 d3 d4 d5 L own mark)
 ·cases h
end Go.Proofs.YtainfdcfkgemhaaGreat.Im
namespace Go.Proofs.YtainfdcfkgemhaaGreat.Tv
open Go Go.Proofs Go.Sx
set_option linter.unusedVariables false
theorem Py {a:Int} (h:0<=a):aK 0 a=0:=by
 unfold aK
 rw [if_neg (show ¬ a<0 by omega)]
 rfl
theorem Px {x a:Int} (h0:0<=x) (h:x<=a):aK x a=x:=by
 unfold aK
 rw [if_neg (show ¬ a<x by omega)]
 split<;>omega
theorem H3 {a v:Int} (h0:0<=v) (h1:v<=a) (h2:a<=1000000):au a v 1=if v<a then v+1 else v:=by
 unfold au aK
 rw [aM (n:=a - v) (by omega)]
 by_cases h:v<a
 ·rw [if_neg (show ¬ a - v<1 by omega),if_pos h,if_pos (by decide),aM (by omega)]
 ·rw [if_pos (show a - v<1 by omega),if_neg h,if_neg (show ¬ a - v>0 by omega),aM (by omega)]
  omega
def either (t:Code) (Λ1 Λ2:aV):aV:=fun b st=>match Nat.beq (cH b) (cH t) with
 | true=>Λ1 b st
 | false=>Λ2 b st
theorem eitherL {t:Code} {Λ1 Λ2:aV} {b:Code} {z:Base} (h:Nat.beq (cH b) (cH t)=true) (h1:aQ Λ1 prog z b):aQ (either t Λ1 Λ2) prog z b:=fun st x hx=>h1 st x (by unfold either at hx;rw [h] at hx;exact hx)
theorem eitherR {t:Code} {Λ1 Λ2:aV} {b:Code} {z:Base} (h:Nat.beq (cH b) (cH t)=false) (h1:aQ Λ2 prog z b):aQ (either t Λ1 Λ2) prog z b:=fun st x hx=>h1 st x (by unfold either at hx;rw [h] at hx;exact hx)
theorem twoLoops {Λ:aV} {c b0 b1:Code} {z:Base} (h:loopsOf c=[b0,b1]) (h0:aQ Λ prog z b0) (h1:aQ Λ prog z b1):∀ b∈loopsOf c,aQ Λ prog z b:=by
 intro b hb
 rw [h] at hb
 simp only [List.mem_cons,List.not_mem_nil,or_false] at hb
 rcases hb with rfl|rfl
 ·exact h0
 ·exact h1
def ft (L:List (List Dat)) (k:Int):Int:=((L.getD k.toNat []).headD (Dat.n 0)).toI
def sd (L:List (List Dat)) (k:Int):Int:=((L.getD k.toNat []).tail.headD (Dat.n 0)).toI
def fb (L:List (List Dat)) (k:Int):Bool:=((L.getD k.toNat []).headD (Dat.n 0)).toB
abbrev rA (L:List (List Dat)) (own mark:Bool):RowS:=.live ⟨44,[.num .i64,.num .i64],L,own,mark⟩
abbrev rO (L:List (List Dat)) (own mark:Bool):RowS:=.live ⟨3,[.num .i64],L,own,mark⟩
abbrev rB (L:List (List Dat)) (own mark:Bool):RowS:=.live ⟨4,[.bool],L,own,mark⟩
structure R3 where
 A:List (List Dat)
 O:List (List Dat)
 B:List (List Dat)
 a1:Bool
 a2:Bool
 o1:Bool
 o2:Bool
 b1:Bool
 b2:Bool
def jh (r:R3):List RowS:=[rA r.A r.a1 r.a2,rO r.O r.o1 r.o2,rB r.B r.b1 r.b2]
structure T3 where
 a:Int
 u:Int
 b:Int
 v:Int
 c:Int
 w:Int
def mW (t:T3) (r:R3):Mem:=⟨[[.ptr 1 0,.ptr 2 0,.ptr 3 0],[.v (I t.a),.v (I t.u)],[.v (I t.b),.v (I t.v)],[.v (I t.c),.v (I t.w)]],[true,true,true,true],jh r⟩
def cyT (p q:Int) (t:T3):T3:=⟨t.a,tV p q t.a t.u,t.b,tD p q t.b t.v,t.c,tG p q t.c t.w⟩
def oy:Code:=bX (f55.body.getD .skip) 0
def zy:Code:=bX (f55.body.getD .skip) 1
def CZ:List Bool:=aB 98 [0,1,3,4,11,53,54,55]
def AI (e:Ex):List Bool:=match e with
 | .exit _=>aB 98 [0,1,3,4,11]
 | .ret=>aB 98 []
 | .normal=>aB 98 [0,1,3,4,11,53,54,55]
def CY:List Bool:=aB 98 [3,4,11,69,70]
def AH (e:Ex):List Bool:=match e with
 | .exit _=>aB 98 [11]
 | .ret=>aB 98 []
 | .normal=>aB 98 [3,4,11,69,70]
def KW1 (e:Ex) (st:St):Option (Ex×St):=some (e,ab 0 3 (AI e) st)
def KW2 (e:Ex) (st:St):Option (Ex×St):=some (e,ab 0 3 (AH e) st)
def Ao (n:Nat) (p q nn i:Int) (t:T3) (r:R3):Option (Ex×St):=ao ΓTl prog L0 (ab 0 3 CZ) oy n (mk CZ [.v (I p),.v (I q),.row 1,.row 2,.ptr 0 0,.row 0,.v (I nn),.v (I i)] (mW t r)) KW1
def uE (n:Nat) (nn i:Int) (t:T3) (r:R3):Option (Ex×St):=ao ΓTl prog L0 (ab 0 3 CY) zy n (mk CY [.row 1,.row 2,.ptr 0 0,.v (I nn),.v (I i)] (mW t r)) KW2
def Hu (p q:Int) (t:T3) (r:R3):Ex×St:=(.exit 0,mk (AI (.exit 0)) [.v (I p),.v (I q),.row 1,.row 2,.ptr 0 0] (mW t r))
def Ht (t:T3) (r:R3):Ex×St:=(.exit 2,mk (AH (.exit 2)) [.ptr 0 0] (mW t r))
theorem LK (n:Nat) (p q nn i:Int) (t:T3) (r:R3):Ao (n+1) p q nn i t r=(bif decide (i<nn) then (bif decide (0<=i)&&decide (i<(r.A.length:Int)) then Ao n p q nn (wI (i+1)) (cyT (ft r.A i) (sd r.A i) t) r else none) else some (Hu p q t r)):=by kernel_rfl
theorem LJ (n:Nat) (nn i:Int) (t:T3) (r:R3):uE (n+1) nn i t r=(bif decide (i<nn) then (bif decide (0<=i)&&decide (i<(r.B.length:Int)) then (bif fb r.B i then (bif decide (0<=i)&&decide (i<(r.O.length:Int)) then uE n nn (wI (i+1)) (cyT 3 (ft r.O i) t) r else none) else (bif decide (0<=i)&&decide (i<(r.O.length:Int)) then uE n nn (wI (i+1)) (cyT (ft r.O i) 3 t) r else none)) else none) else some (Ht t r)):=by kernel_rfl
end Go.Proofs.YtainfdcfkgemhaaGreat.Tv
namespace Go.Proofs.YtainfdcfkgemhaaGreat.Tv
open Go Go.Proofs Go.Sx
set_option linter.unusedVariables false
theorem QA {a v:Int} (h:0<=v/\v<=a) (h2:a<=1000000):0<=au a v 1/\au a v 1<=a:=by
 rw [H3 h.1 h.2 h2]
 split<;>omega
def jI (t:T3):Prop:=(1<=t.a/\t.a<=20)/\(1<=t.b/\t.b<=20)/\(0<=t.u/\t.u<=t.a)/\(0<=t.v/\t.v<=t.b)
theorem Db {t:T3} (h:jI t) (p q:Int):jI (cyT p q t):=by
 obtain ⟨h1,h2,h3,h4⟩:=h
 have a1:=QA h3 (by omega)
 have a2:=QA h4 (by omega)
 refine ⟨h1,h2,?_,?_⟩
 ·show 0<=tV p q t.a t.u/\tV p q t.a t.u<=t.a
  unfold tV
  rw [Py (by omega)]
  cases hrd p||hrd q<;>cases p != 3&&q != 3<;>cases hrd p&&(hrd q&&p != q)<;>simp only [cond_true,cond_false]<;>omega
 ·show 0<=tD p q t.b t.v/\tD p q t.b t.v<=t.b
  unfold tD
  rw [Py (by omega)]
  cases hrd p||hrd q<;>cases p != 3&&q != 3<;>cases hrd p&&(hrd q&&p != q)<;>simp only [cond_true,cond_false]<;>omega
theorem Ky {t:T3} (h:jI t) {p q:Int} (hpq:p=3\/q=3) {j:Int} (hj:t.u=t.a\/t.v=t.b\/j<=t.u+t.v):(cyT p q t).u=t.a\/(cyT p q t).v=t.b\/j+1<=(cyT p q t).u+(cyT p q t).v:=by
 obtain ⟨h1,h2,h3,h4⟩:=h
 have e1:=H3 h3.1 h3.2 (by omega)
 have e2:=H3 h4.1 h4.2 (by omega)
 show tV p q t.a t.u=t.a\/tD p q t.b t.v=t.b\/j+1<=tV p q t.a t.u+tD p q t.b t.v
 have k1:(hrd p||hrd q)=true:=by
  rcases hpq with rfl|rfl
  ·rfl
  ·rw [show hrd 3=true from rfl,Bool.or_true]
 have k2:(p != 3&&q != 3)=false:=by
  rcases hpq with rfl|rfl
  ·rfl
  ·rw [show ((3:Int) != 3)=false from rfl,Bool.and_false]
 unfold tV tD
 rw [k1,k2,e1,e2]
 cases hrd p&&(hrd q&&p != q)<;>simp only [cond_true,cond_false]
 ·split<;>omega
 ·split<;>omega
def kF (A:List (List Dat)):Nat->Int->T3->T3
 | 0,_,t=>t
 | m+1,k,t=>kF A m (k+1) (cyT (ft A k) (sd A k) t)
def dD (O B:List (List Dat)):Nat->Int->T3->T3
 | 0,_,t=>t
 | m+1,k,t=>dD O B m (k+1) (bif fb B k then cyT 3 (ft O k) t else cyT (ft O k) 3 t)
theorem OQ (A:List (List Dat)):∀ (m:Nat) (k:Int) (t:T3),(kF A m k t).a=t.a/\(kF A m k t).b=t.b
 | 0,_,_=>⟨rfl,rfl⟩
 | m+1,k,t=>OQ A m (k+1) (cyT (ft A k) (sd A k) t)
theorem OP (A:List (List Dat)):∀ (m:Nat) (k:Int) (t:T3),jI t->jI (kF A m k t)
 | 0,_,_,h=>h
 | m+1,k,t,h=>OP A m (k+1) _ (Db h _ _)
theorem OO (O B:List (List Dat)):∀ (m:Nat) (k:Int) (t:T3) (j:Int),jI t->(t.u=t.a\/t.v=t.b\/j<=t.u+t.v)->jI (dD O B m k t)/\(dD O B m k t).a=t.a/\(dD O B m k t).b=t.b/\((dD O B m k t).u=t.a\/(dD O B m k t).v=t.b\/j+m<=(dD O B m k t).u+(dD O B m k t).v)
 | 0,k,t,j,h,hj=>⟨h,rfl,rfl,by show t.u=t.a\/t.v=t.b\/j+((0:Nat):Int)<=t.u+t.v;omega⟩
 | m+1,k,t,j,h,hj=>by
  have key:∀ t':T3,jI t'->t'.a=t.a->t'.b=t.b->(t'.u=t.a\/t'.v=t.b\/j+1<=t'.u+t'.v)->jI (dD O B m (k+1) t')/\(dD O B m (k+1) t').a=t.a/\(dD O B m (k+1) t').b=t.b/\((dD O B m (k+1) t').u=t.a\/(dD O B m (k+1) t').v=t.b\/j+((m+1:Nat):Int)<=(dD O B m (k+1) t').u+(dD O B m (k+1) t').v):=by
   intro t' h1 h2 h3 h4
   have:=OO O B m (k+1) t' (j+1) h1 (by rw [h2,h3];exact h4)
   rw [h2,h3] at this
   obtain ⟨g1,g2,g3,g4⟩:=this
   exact ⟨g1,g2,g3,by omega⟩
  have e:dD O B (m+1) k t=dD O B m (k+1) (bif fb B k then cyT 3 (ft O k) t else cyT (ft O k) 3 t):=rfl
  rw [e]
  cases fb B k
  ·exact key (cyT (ft O k) 3 t) (Db h _ _) rfl rfl (Ky h (.inr rfl) hj)
  ·exact key (cyT 3 (ft O k) t) (Db h _ _) rfl rfl (Ky h (.inl rfl) hj)
section
attribute [local irreducible] Ao uE
theorem lW1 (p q:Int) (r:R3) (hl:r.A.length<=1000):∀ (m k:Nat) (t:T3),k+m=r.A.length->Ao (m+1) p q (r.A.length:Int) (k:Int) t r=some (Hu p q (kF r.A m (k:Int) t) r):=by
 intro m
 induction m with
 | zero =>
  intro k t hk
  refine (LK 0 p q _ _ t r).trans ?_
  rw [decide_eq_false (show ¬ (k:Int)<(r.A.length:Int) by omega)]
  rfl
 | succ m ih =>
  intro k t hk
  refine (LK (m+1) p q _ _ t r).trans ?_
  rw [decide_eq_true (show (k:Int)<(r.A.length:Int) by omega),decide_eq_true (show (0:Int)<=(k:Int) by omega),aM (n:=(k:Int)+1) (by omega),show ((k:Int)+1)=((k+1:Nat):Int) from rfl]
  simp only [cond_true,Bool.and_self]
  exact ih (k+1) (cyT (ft r.A (k:Int)) (sd r.A (k:Int)) t) (by omega)
theorem lW2 (r:R3) (M:Nat) (hM:M<=1000) (hO:M<=r.O.length) (hB:M<=r.B.length):∀ (m k:Nat) (t:T3),k+m=M->uE (m+1) (M:Int) (k:Int) t r=some (Ht (dD r.O r.B m (k:Int) t) r):=by
 intro m
 induction m with
 | zero =>
  intro k t hk
  refine (LJ 0 _ _ t r).trans ?_
  rw [decide_eq_false (show ¬ (k:Int)<(M:Int) by omega)]
  rfl
 | succ m ih =>
  intro k t hk
  refine (LJ (m+1) _ _ t r).trans ?_
  rw [decide_eq_true (show (k:Int)<(M:Int) by omega),decide_eq_true (show (0:Int)<=(k:Int) by omega),decide_eq_true (show (k:Int)<(r.B.length:Int) by omega),decide_eq_true (show (k:Int)<(r.O.length:Int) by omega),aM (n:=(k:Int)+1) (by omega),show ((k:Int)+1)=((k+1:Nat):Int) from rfl]
  simp only [cond_true,Bool.and_self]
  have e:=ih (k+1) (bif fb r.B (k:Int) then cyT 3 (ft r.O (k:Int)) t else cyT (ft r.O (k:Int)) 3 t) (by omega)
  refine Eq.trans ?_ (e.trans rfl)
  cases hb:fb r.B (k:Int)<;>rfl
end
def zA (r:RowS):Option (List (List Dat)×Bool×Bool):=match r with
 | .live ⟨t,[.num .i64,.num .i64],L,own,mark⟩=>bif Nat.beq t 44 then some (L,own,mark) else none
 | _=>none
def zO (r:RowS):Option (List (List Dat)×Bool×Bool):=match r with
 | .live ⟨t,[.num .i64],L,own,mark⟩=>bif Nat.beq t 3 then some (L,own,mark) else none
 | _=>none
def zB (r:RowS):Option (List (List Dat)×Bool×Bool):=match r with
 | .live ⟨t,[.bool],L,own,mark⟩=>bif Nat.beq t 4 then some (L,own,mark) else none
 | _=>none
def uF (l:List RowS):Option R3:=match l with
 | [x,y,z]=>match zA x,zO y,zB z with
  | some (A,a1,a2),some (O,o1,o2),some (B,b1,b2)=>some ⟨A,O,B,a1,a2,o1,o2,b1,b2⟩
  | _,_,_=>none
 | _=>none
theorem Ta {r:RowS} {L:List (List Dat)} {o m:Bool} (h:zA r=some (L,o,m)):r=rA L o m:=by
 unfold zA at h
 split at h
 ·rename_i t L' o' m'
  cases e:Nat.beq t 44
  ·rw [e] at h;cases h
  ·rw [e] at h
   injection h with h
   injection h with h1 h
   injection h with h2 h3
   subst h1 h2 h3
   rw [Nat.eq_of_beq_eq_true e]
 ·cases h
theorem S4 {r:RowS} {L:List (List Dat)} {o m:Bool} (h:zO r=some (L,o,m)):r=rO L o m:=by
 unfold zO at h
 split at h
 ·rename_i t L' o' m'
  cases e:Nat.beq t 3
  ·rw [e] at h;cases h
  ·rw [e] at h
   injection h with h
   injection h with h1 h
   injection h with h2 h3
   subst h1 h2 h3
   rw [Nat.eq_of_beq_eq_true e]
 ·cases h
theorem S9 {r:RowS} {L:List (List Dat)} {o m:Bool} (h:zB r=some (L,o,m)):r=rB L o m:=by
 unfold zB at h
 split at h
 ·rename_i t L' o' m'
  cases e:Nat.beq t 4
  ·rw [e] at h;cases h
  ·rw [e] at h
   injection h with h
   injection h with h1 h
   injection h with h2 h3
   subst h1 h2 h3
   rw [Nat.eq_of_beq_eq_true e]
 ·cases h
theorem Kf {l:List RowS} {r:R3} (h:uF l=some r):l=jh r:=by
 unfold uF at h
 split at h
 ·split at h
  ·rename_i h1 h2 h3
   injection h with h
   subst h
   rw [Ta h1,S4 h2,S9 h3]
   rfl
  ·cases h
 ·cases h
def uW (m:Mem):Option (T3×R3):=match m with
 | ⟨[[.ptr 1 0,.ptr 2 0,.ptr 3 0],[.v (.int .i64 a),.v (.int .i64 u)],[.v (.int .i64 b),.v (.int .i64 v)],[.v (.int .i64 c),.v (.int .i64 w)]],[true,true,true,true],l⟩=>match uF l with
  | some r=>some (⟨a,u,b,v,c,w⟩,r)
  | none=>none
 | _=>none
theorem KC {m:Mem} {t:T3} {r:R3} (h:uW m=some (t,r)):m=mW t r:=by
 unfold uW at h
 split at h
 ·split at h
  ·rename_i hr
   injection h with h
   injection h with h1 h2
   subst h1 h2
   rw [Kf hr]
   rfl
  ·cases h
 ·cases h
def Jx (vals:List SV) (m:Mem):Option (Bool×LT):=match vals,uW m with
 | [.v (.int .i64 p),.v (.int .i64 q),.row 1,.row 2,.ptr 0 0,.row 0,.v (.int .i64 nn),.v (.int .i64 i)],some (t,r)=>some (i==0&&(nn==(r.A.length:Int)&&Nat.ble r.A.length 1000),.leaf (.exit 0) (Hu p q (kF r.A r.A.length 0 t) r).2)
 | _,_=>none
def Jw (vals:List SV) (m:Mem):Option (Bool×LT):=match vals,uW m with
 | [.row 1,.row 2,.ptr 0 0,.v (.int .i64 nn),.v (.int .i64 i)],some (t,r)=>some (i==0&&(decide (0<=nn/\nn<=1000)&&(decide (nn<=(r.O.length:Int))&&decide (nn<=(r.B.length:Int)))),.leaf (.exit 2) (Ht (dD r.O r.B nn.toNat 0 t) r).2)
 | _,_=>none
def ΛW1:aV:=fun _ st=>fR 0 3 CZ Jx st
def ΛW2:aV:=fun _ st=>fR 0 3 CY Jw st
def ΛW:aV:=either oy ΛW1 ΛW2
theorem qa9 (z:Base) (z1:z.L.length=0) (z2:z.U.length=3):aQ ΛW1 prog z oy:=by
 refine gV (Λ:=L0) (kx:=AI) ID mixed z1 z2 (fun b hb st t h=>by cases h) (G:=Jx) (fun _=>rfl) ?_
 intro vals m t h
 unfold Jx at h
 split at h
 ·rename_i p q nn i t r hm
  obtain ⟨h1,rfl⟩:=aa h
  simp only [Bool.and_eq_true,beq_iff_eq] at h1
  obtain ⟨rfl,rfl,h3⟩:=h1
  rw [KC hm]
  exact ⟨r.A.length+1,lW1 p q r (Nat.le_of_ble_eq_true h3) r.A.length 0 t (by omega)⟩
 ·cases h
theorem qa8 (z:Base) (z1:z.L.length=0) (z2:z.U.length=3):aQ ΛW2 prog z zy:=by
 refine gV (Λ:=L0) (kx:=AH) ID mixed z1 z2 (fun b hb st t h=>by cases h) (G:=Jw) (fun _=>rfl) ?_
 intro vals m t h
 unfold Jw at h
 split at h
 ·rename_i nn i t r hm
  obtain ⟨h1,rfl⟩:=aa h
  simp only [Bool.and_eq_true,beq_iff_eq,decide_eq_true_eq] at h1
  obtain ⟨rfl,h2,h3,h4⟩:=h1
  obtain ⟨M,rfl⟩:=Int.eq_ofNat_of_zero_le h2.1
  rw [KC hm]
  exact ⟨M+1,lW2 r M (by omega) (by omega) (by omega) M 0 t (by omega)⟩
 ·cases h
theorem qbB:loopsOf (f55.body.getD .skip)=[oy,zy]:=by kernel_rfl
theorem Ua:Nat.beq (cH oy) (cH oy)=true:=by kernel_rfl
theorem T9:Nat.beq (cH zy) (cH oy)=false:=by kernel_rfl
theorem okW (z:Base) (z1:z.L.length=0) (z2:z.U.length=3):∀ b∈loopsOf (f55.body.getD .skip),aQ ΛW prog z b:=twoLoops qbB (eitherL Ua (qa9 z z1 z2)) (eitherR T9 (qa8 z z1 z2))
def dh (n:Int):Int:=wI (1+wI ((IntKind.u64.wrap n).tmod 20))
theorem M9 (n:Int):1<=dh n/\dh n<=20:=by
 have e2:0<=IntKind.u64.wrap n:=Int.emod_nonneg n (by show (18446744073709551616:Int)≠0;decide)
 unfold dh
 generalize IntKind.u64.wrap n=q at *
 rw [Int.tmod_eq_emod_of_nonneg e2,aM (n:=q % 20) (by omega),aM (by omega)]
 omega
def mY (n d:Int):T3:=⟨aK n 1000000,0,aK d 1000000,0,aK 50 1000000,0⟩
def AQ (t:T3):Int:=mL (t.u==t.a) (t.v==t.b) (t.w==t.c)
def Ng (w:Int):Int:=wI ((BitVec.ofInt 64 w &&& BitVec.ofInt 64 3).toNat:Int)
def eF (n d:Int) (r:R3):T3:=dD r.O r.B (wI (wI (n+d) - 1)).toNat 0 (kF r.A r.A.length 0 (mY n d))
theorem Vw (n d:Int) (r:R3):runG ΓTl ΛW prog f55 [.v (I n),.v (I d),.row 0,.row 1,.row 2] ⟨[],[],jh r⟩=(bif decide ((r.A.length:Int)>100) then some (.v (Bo true),⟨[],[],jh r⟩) else (bif decide ((r.O.length:Int)<wI (dh n+dh d)) then some (.v (Bo true),⟨[],[],jh r⟩) else (bif decide ((r.B.length:Int)<wI (dh n+dh d)) then some (.v (Bo true),⟨[],[],jh r⟩) else (bif newB (dh n) (dh d) 50 then (bif (0:Int)==0&&((r.A.length:Int)==(r.A.length:Int)&&Nat.ble r.A.length 1000) then (bif (0:Int)==0&&(decide (0<=wI (wI (dh n+dh d) - 1)/\wI (wI (dh n+dh d) - 1)<=1000)&&(decide (wI (wI (dh n+dh d) - 1)<=(r.O.length:Int))&&decide (wI (wI (dh n+dh d) - 1)<=(r.B.length:Int)))) then (bif AQ (eF (dh n) (dh d) r) != 0 then some (.v (Bo (Ng (AQ (eF (dh n) (dh d) r)) != 0)),⟨[],[],jh r⟩) else some (.v (Bo false),⟨[],[],jh r⟩)) else none) else none) else none)))):=by kernel_rfl
theorem Tp {x y:Bool} (z:Bool) (h:x=true\/y=true):(mL x y z != 0)=true/\(Ng (mL x y z) != 0)=true:=by
 rcases h with rfl|rfl
 ·cases y<;>cases z<;>exact ⟨by decide,by decide⟩
 ·cases x<;>cases z<;>exact ⟨by decide,by decide⟩
theorem T8 (n d:Int) (r:R3):runG ΓTl ΛW prog f55 [.v (I n),.v (I d),.row 0,.row 1,.row 2] ⟨[],[],jh r⟩=some (.v (Bo true),⟨[],[],jh r⟩):=by
 refine (Vw n d r).trans ?_
 have hn:=M9 n
 have hd:=M9 d
 generalize dh n=N at *
 generalize dh d=D at *
 rw [aM (n:=N+D) (by omega),aM (n:=N+D - 1) (by omega)]
 by_cases h1:(r.A.length:Int)>100
 ·rw [decide_eq_true h1];rfl
 by_cases h2:(r.O.length:Int)<N+D
 ·rw [decide_eq_false h1,decide_eq_true h2];rfl
 by_cases h3:(r.B.length:Int)<N+D
 ·rw [decide_eq_false h1,decide_eq_false h2,decide_eq_true h3];rfl
 have e0:mY N D=⟨N,0,D,0,aK 50 1000000,0⟩:=by
  unfold mY
  rw [Px (x:=N) (by omega) (by omega),Px (x:=D) (by omega) (by omega)]
 have g0:jI (mY N D):=by rw [e0];exact ⟨hn,hd,⟨Int.le_refl 0,by show (0:Int)<=N;omega⟩,⟨Int.le_refl 0,by show (0:Int)<=D;omega⟩⟩
 have g1:=OP r.A r.A.length 0 _ g0
 have g2:=OQ r.A r.A.length 0 (mY N D)
 have ge:eF N D r=dD r.O r.B (N+D - 1).toNat 0 (kF r.A r.A.length 0 (mY N D)):=by
  unfold eF
  rw [aM (n:=N+D) (by omega),aM (n:=N+D - 1) (by omega)]
 have g3:=OO r.O r.B (N+D - 1).toNat 0 (kF r.A r.A.length 0 (mY N D)) 0 g1 (.inr (.inr (by have:=g1.2.2;omega)))
 rw [<- ge,g2.1,g2.2,e0] at g3
 obtain ⟨q1,q2,q3,q4⟩:=g3
 have q2:(eF N D r).a=N:=q2
 have q3:(eF N D r).b=D:=q3
 have q4:(eF N D r).u=N\/(eF N D r).v=D\/(0:Int)+((N+D - 1).toNat:Int)<=(eF N D r).u+(eF N D r).v:=q4
 have b1:=q1.2.2
 rw [q2,q3] at b1
 have key:((eF N D r).u==(eF N D r).a)=true\/((eF N D r).v==(eF N D r).b)=true:=by
  rw [q2,q3,beq_iff_eq,beq_iff_eq]
  omega
 obtain ⟨k1,k2⟩:=Tp ((eF N D r).w==(eF N D r).c) key
 have nb:newB N D 50=true:=by
  unfold newB
  rw [decide_eq_true (show 1<=N by omega),decide_eq_true (show 1<=D by omega)]
  rfl
 rw [decide_eq_false h1,decide_eq_false h2,decide_eq_false h3,nb,beq_self_eq_true,beq_self_eq_true,Nat.ble_eq_true_of_le (show r.A.length<=1000 by omega),decide_eq_true (show 0<=N+D - 1/\N+D - 1<=1000 by omega),decide_eq_true (show N+D - 1<=(r.O.length:Int) by omega),decide_eq_true (show N+D - 1<=(r.B.length:Int) by omega)]
 unfold AQ
 rw [k1,k2]
 rfl
def DU (xs:List SV) (m:Mem):Option (Bool×Value):=match xs,m with
 | [.v (.int .i64 n),.v (.int .i64 d),.row 0,.row 1,.row 2],⟨[],[],l⟩=>match uF l with
  | some r=>some (true,Bo true)
  | none=>none
 | _,_=>none
theorem qd5:bi 55 DU:=by
 intro xs m r h
 unfold DU at h
 split at h
 ·rename_i n d l
  split at h
  ·rename_i q hq
   obtain ⟨_,rfl⟩:=aa h
   rw [Kf hq]
   exact aj (Λ:=ΛW) ID func55 rfl (fun z z1 z2=>okW z z1 z2) (T8 n d q)
  ·cases h
 ·cases h
end Go.Proofs.YtainfdcfkgemhaaGreat.Tv
namespace Go.Proofs.YtainfdcfkgemhaaGreat.Tv
open Go Go.Proofs Go.Sx
set_option linter.unusedVariables false
def Γtv:Orc:=ah 26 Hr.gAx (aR 55 DU (aR 54 Im.gVN Im.ΓVe))
theorem Oktv:Γtv.Ok prog:=ac (aL (aL Im.OkVe Im.gVN_ok) qd5) Hr.gAx_ok
theorem topVerdicts (p q x y z vx vy vz g v m u e k d0 d1 d2 d3 d4 d5:Int) (L A O B:List (List Dat)) (f1 f2 f3 f4 f5 f6 f7 f8:Bool):runG Γtv L0 prog f13 [.v (.agg #[I p,I q,I x,I y,I z,I vx,I vy,I vz]),.ag [.row 0,.v (I g),.v (I v),.v (I m),.v (I u)],.v (I e),.v (I k),.v (.agg #[I d0,I d1,I d2,I d3,I d4,I d5]),.row 1,.row 2,.row 3] ⟨[],[],[rP L f1 f2,rA A f3 f4,rO O f5 f6,rB B f7 f8]⟩=some (.v (Bo true),⟨[],[],[rP L f1 f2,rA A f3 f4,rO O f5 f6,rB B f7 f8]⟩):=by kernel_rfl
end Go.Proofs.YtainfdcfkgemhaaGreat.Tv
namespace Go.Proofs.YtainfdcfkgemhaaGreat
open Go Go.Proofs Go.Sx
def kPz:List TK:=[.r 162 [.num .i64,.num .i64],.p (.num .i64),.p (.num .i64),.p (.num .i64),.p (.num .i64)]
theorem Mu {xs:List TD} (h:kY kPz xs):∃ L g v m u,xs=[.L L,.d (.n g),.d (.n v),.d (.n m),.d (.n u)]:=by
 match xs,h with
 | [.L L,.d (.n g),.d (.n v),.d (.n m),.d (.n u)],_=>exact ⟨L,g,v,m,u,rfl⟩
theorem rows_kPz {xs:List TD} (h:kY kPz xs):(lV (tkIn kPz xs)).length=1:=by
 obtain ⟨L,g,v,m,u,rfl⟩:=Mu h
 rfl
abbrev xk:List CK:=[.num .i64,.num .i64,.num .i64,.num .i64,.num .i64,.num .i64,.num .i64,.num .i64]
theorem qbc {l:List Dat} (h:cd xk l):∃ a b c d e f g q,l=[.n a,.n b,.n c,.n d,.n e,.n f,.n g,.n q]:=by
 match l,h with
 | [.n a,.n b,.n c,.n d,.n e,.n f,.n g,.n q],_=>exact ⟨a,b,c,d,e,f,g,q,rfl⟩
abbrev xm:List CK:=[.num .i64,.num .i64,.num .i64,.num .i64,.num .i64,.num .i64]
theorem qiI {l:List Dat} (h:cd xm l):∃ a b c d e f,l=[.n a,.n b,.n c,.n d,.n e,.n f]:=by
 match l,h with
 | [.n a,.n b,.n c,.n d,.n e,.n f],_=>exact ⟨a,b,c,d,e,f,rfl⟩
theorem topVerdictsLaw (l0:List Dat) (l1:List TD) (a2 a3:Int) (l4:List Dat) (l5 l6 l7:List (List Dat)) (w0:cd xk l0) (w1:kY kPz l1) (_:(Lit.int .i64 a2).wf=true) (_:(Lit.int .i64 a3).wf=true) (w4:cd xm l4) (_:∀ o∈l5,cd [.num .i64,.num .i64] o) (_:l5.length<=281474976710656) (_:∀ o∈l6,cd [.num .i64] o) (_:l6.length<=281474976710656) (_:∀ o∈l7,cd [.bool] o) (_:l7.length<=281474976710656) :
  ∃ m',runG Tv.Γtv L0 prog f13 (inArgs [.v (.agg (mkEl xk l0).toArray),.ag (tkIn kPz l1),.v (.int .i64 a2),.v (.int .i64 a3),.v (.agg (mkEl xm l4).toArray),.row 44 [.num .i64,.num .i64] l5,.row 3 [.num .i64] l6,.row 4 [.bool] l7] 0) (inMem [.v (.agg (mkEl xk l0).toArray),.ag (tkIn kPz l1),.v (.int .i64 a2),.v (.int .i64 a3),.v (.agg (mkEl xm l4).toArray),.row 44 [.num .i64,.num .i64] l5,.row 3 [.num .i64] l6,.row 4 [.bool] l7])=some (.v (.bool true),m'):=by
 obtain ⟨n0,n1,n2,n3,n4,n5,n6,n7,rfl⟩:=qbc w0
 obtain ⟨L,g,v,m,u,rfl⟩:=Mu w1
 obtain ⟨c0,c1,c2,c3,c4,c5,rfl⟩:=qiI w4
 exact ⟨_,Tv.topVerdicts n0 n1 n2 n3 n4 n5 n6 n7 g v m u a2 a3 c0 c1 c2 c3 c4 c5 L l5 l6 l7 false false false false false false false false⟩
end Go.Proofs.YtainfdcfkgemhaaGreat
