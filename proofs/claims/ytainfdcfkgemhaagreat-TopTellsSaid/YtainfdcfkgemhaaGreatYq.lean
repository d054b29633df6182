/-
  How words and reports are read back;what is told is what is kept: round by round,and as a law over values.
-/
import Derived.Test.YtainfdcfkgemhaaGreatYg
import Derived.Test.YtainfdcfkgemhaaGreatYl
import Derived.Test.YtainfdcfkgemhaaGreatYf
import Derived.Test.YtainfdcfkgemhaaGreatYn
import Derived.Test.YtainfdcfkgemhaaGreatYm
set_option maxRecDepth 100000
noncomputable section
open Go.Proofs.Tryz
namespace Go.Proofs.YtainfdcfkgemhaaGreat.Pe
open Go Go.Proofs Go.Sx Nw
set_option linter.unusedVariables false
def ΓPd0:Orc:=ΓTa
theorem Rz:ΓPd0.Ok prog:=qi5
theorem U0 (n m:Int):runG ΓPd0 L0 prog f198 [.v (I n),.v (I m)] M0 =
 (bif decide (n>=(0:Int)) then some (.v (.bool (decide (n<=m))),⟨[],[],[]⟩) else some (.v (.bool false),⟨[],[],[]⟩)):=by kernel_rfl
def Di (vs:List Value):Option (Bool×Value) :=
 match vs with
 | [.int .i64 n,.int .i64 m]=>some (true,Bo (inB n m))
 | _=>none
theorem qc7:am 198 Di:=by
 intro vs r h
 unfold Di at h
 split at h
 ·rename_i n m
  obtain ⟨h1,rfl⟩:=ab h
  refine ak (vs:=[I n,I m]) (Λ:=L0) (m':=M0) Rz func198 rfl (fun z _ _=>bV _ z) ?_
  exact (U0 n m).trans (by unfold inB;cases decide (n>=0)<;>rfl)
 ·cases h
def ΓPd1:Orc:=ah 198 Di ΓPd0
theorem Ry:ΓPd1.Ok prog:=ac Rz qc7
theorem W7 (c p s w:Int):runG ΓPd1 L0 prog f126 [.v (.agg #[I c,I p,I s,I w])] M0 =
 (bif inB c (1000000:Int) then (bif inB p (3:Int) then (bif inB s (2:Int) then some (.v (Bo (inB w (15:Int))),M0) else some (.v (Bo false),M0)) else some (.v (Bo false),M0)) else some (.v (Bo false),M0)):=by kernel_rfl
def EL (vs:List Value):Option (Bool×Value) :=
 match vs with
 | [.agg ⟨[.int .i64 c,.int .i64 p,.int .i64 s,.int .i64 w]⟩]=>some (true,Bo (gE c p s w))
 | _=>none
theorem qek:am 126 EL:=by
 intro vs r h
 unfold EL at h
 split at h
 ·rename_i c p s w
  obtain ⟨h1,rfl⟩:=ab h
  refine ak (vs:=[.agg #[I c,I p,I s,I w]]) (Λ:=L0) (m':=M0) Ry func126 rfl (fun z _ _=>bV _ z) ?_
  exact (W7 c p s w).trans (by unfold gE gg;cases inB c 1000000<;>cases inB p 3<;>cases inB s 2<;>rfl)
 ·cases h
def ΓPd2:Orc:=ah 126 EL ΓPd1
theorem Rx:ΓPd2.Ok prog:=ac Ry qek
theorem W9 (c p s x y z u v f:Int):runG ΓPd2 L0 prog f128 [.v (.agg #[I c,I p,I s,I x,I y,I z,I u,I v,I f])] M0 =
 (bif inB c (1000000:Int) then (bif inB p (3:Int) then (bif inB s (2:Int) then (bif inB x (255:Int) then (bif inB y (255:Int) then (bif inB z (255:Int) then (bif inB u (4:Int) then (bif inB v (4:Int) then some (.v (Bo (inB f (255:Int))),M0) else some (.v (Bo false),M0)) else some (.v (Bo false),M0)) else some (.v (Bo false),M0)) else some (.v (Bo false),M0)) else some (.v (Bo false),M0)) else some (.v (Bo false),M0)) else some (.v (Bo false),M0)) else some (.v (Bo false),M0)):=by kernel_rfl
def EM (vs:List Value):Option (Bool×Value) :=
 match vs with
 | [.agg ⟨[.int .i64 c,.int .i64 p,.int .i64 s,.int .i64 x,.int .i64 y,.int .i64 z,.int .i64 u,.int .i64 v,.int .i64 f]⟩]=>some (true,Bo (fc c p s x y z u v f))
 | _=>none
theorem qel:am 128 EM:=by
 intro vs r h
 unfold EM at h
 split at h
 ·rename_i c p s x y z u v f
  obtain ⟨h1,rfl⟩:=ab h
  refine ak (vs:=[.agg #[I c,I p,I s,I x,I y,I z,I u,I v,I f]]) (Λ:=L0) (m':=M0) Rx func128 rfl (fun z _ _=>bV _ z) ?_
  exact (W9 c p s x y z u v f).trans (by
   simp only [PP]
   unfold fc gg
   congr 4
   ac_rfl)
 ·cases h
def ΓPd3:Orc:=ah 128 EM ΓPd2
theorem Rw:ΓPd3.Ok prog:=ac Rx qel
theorem runOpen (s:ByteArray) (n:Int):runG ΓPd3 L0 prog f124 [.v (S s),.v (I n)] M0 =
 (bif decide (↑s.size<wI (n+(4:Int))) then some (.v (I 5),M0) else (bif decide (↑s.size>wI (n+(4:Int))) then some (.v (I 3),M0) else (bif true&&(decide ((0:Int)<=n)&&decide (n<=↑s.size)) then (bif (s.extract (0:Nat) n.toNat).size.ble (1000000) then (bif !(di (s.extract (0:Nat) n.toNat)).toList==s.toList then some (.v (I 4),M0) else some (.v (I 0),M0)) else none) else none))):=by kernel_rfl
def EY (vs:List Value):Option (Bool×Value) :=
 match vs with
 | [.string s,.int .i64 n]=>some ((n==4||(n==6||n==10))&&Nat.ble s.size 1000000,I (cq s n))
 | _=>none
theorem qex:am 124 EY:=by
 intro vs r h
 unfold EY at h
 split at h
 ·rename_i s n
  obtain ⟨h1,rfl⟩:=ab h
  refine ak (vs:=[S s,I n]) (Λ:=L0) (m':=M0) Rw func124 rfl (fun z _ _=>bV _ z) ?_
  exact (runOpen s n).trans (by
   simp only [Bool.and_eq_true,Bool.or_eq_true,beq_iff_eq] at h1
   obtain ⟨h0,h1⟩:=h1
   have hz:=Nat.le_of_ble_eq_true h1
   have hw:wI (n+4)=n+4:=aC (by omega)
   rw [hw]
   unfold cq
   by_cases c1:(s.size:Int)<n+4
   ·rw [decide_eq_true c1,if_pos c1];rfl
   by_cases c2:(s.size:Int)>n+4
   ·rw [decide_eq_false c1,decide_eq_true c2,if_neg c1,if_pos c2];rfl
   rw [decide_eq_false c1,decide_eq_false c2,if_neg c1,if_neg c2,decide_eq_true (show 0<=n by omega),decide_eq_true (show n<=(s.size:Int) by omega),Nat.ble_eq_true_of_le (show (s.extract 0 n.toNat).size<=1000000 by rw [ByteArray.size_extract];omega),oq]
   cases di (s.extract 0 n.toNat)==s<;>rfl)
 ·cases h
def ΓPd4:Orc:=ah 124 EY ΓPd3
theorem Rv:ΓPd4.Ok prog:=ac Rw qex
theorem XH (s:ByteArray):runG ΓPd4 L0 prog f125 [.v (S s)] M0 =
 (bif true&&decide ((0:Int)<↑s.size) then (bif true&&decide ((1:Int)<↑s.size) then (bif true&&decide ((2:Int)<↑s.size) then (bif true&&decide ((3:Int)<↑s.size) then some (.v (I (wI (wI (wI (wI (wI (aa s (0:Int))*(16777216:Int))+wI (wI (aa s (1:Int))*(65536:Int)))+wI (wI (aa s (2:Int))*(256:Int)))+wI (aa s (3:Int))))),M0) else none) else none) else none) else none):=by kernel_rfl
def E6 (vs:List Value):Option (Bool×Value) :=
 match vs with
 | [.string s]=>some (Nat.ble 4 s.size&&Nat.ble s.size 1000000,I (bU s))
 | _=>none
theorem qeD:am 125 E6:=by
 intro vs r h
 unfold E6 at h
 split at h
 ·rename_i s
  obtain ⟨h1,rfl⟩:=ab h
  refine ak (vs:=[S s]) (Λ:=L0) (m':=M0) Rv func125 rfl (fun z _ _=>bV _ z) ?_
  exact (XH s).trans (by
   simp only [Bool.and_eq_true] at h1
   have h2:=Nat.le_of_ble_eq_true h1.1
   have hn:=Mx (s:=s) (i:=0) (by omega)
   have r0:=dV s 0
   have r1:=dV s 1
   have r2:=dV s 2
   have r3:=dV s 3
   rw [show (0+4:Nat)=4 from rfl,show (0+1:Nat)=1 from rfl,show (0+2:Nat)=2 from rfl,show (0+3:Nat)=3 from rfl] at hn
   have q0:((0:Nat):Int)=0:=rfl
   have q1:((1:Nat):Int)=1:=rfl
   have q2:((2:Nat):Int)=2:=rfl
   have q3:((3:Nat):Int)=3:=rfl
   rw [q0] at r0 hn
   rw [q1] at r1 hn
   rw [q2] at r2 hn
   rw [q3] at r3 hn
   unfold bU
   rw [hn]
   generalize aa s 0=y0 at *
   generalize aa s 1=y1 at *
   generalize aa s 2=y2 at *
   generalize aa s 3=y3 at *
   rw [aC (n:=y0) (by omega),aC (n:=y1) (by omega),aC (n:=y2) (by omega),aC (n:=y3) (by omega),aC (n:=y0*16777216) (by omega),aC (n:=y1*65536) (by omega),aC (n:=y2*256) (by omega),aC (n:=y0*16777216+y1*65536) (by omega),aC (n:=y0*16777216+y1*65536+y2*256) (by omega),decide_eq_true (show (0:Int)<(s.size:Int) by omega),decide_eq_true (show (1:Int)<(s.size:Int) by omega),decide_eq_true (show (2:Int)<(s.size:Int) by omega),decide_eq_true (show (3:Int)<(s.size:Int) by omega)]
   rfl)
 ·cases h
def ΓPd5:Orc:=ah 125 E6 ΓPd4
theorem Ru:ΓPd5.Ok prog:=ac Rv qeD
theorem W6 (s:ByteArray):runG ΓPd5 L0 prog f63 [.v (S s)] M0 =
 (bif true&&s.size.ble (1000000) then (bif cq s (6:Int) != (0:Int) then some (.v (.tuple #[(.agg #[(I 0),(I 0),(I 0),(I 0)]),(I (cq s (6:Int)))]),M0) else (bif Nat.ble (4) s.size&&s.size.ble (1000000) then (bif true&&decide ((4:Int)<↑s.size) then (bif true&&decide ((4:Int)<↑s.size) then (bif true&&decide ((5:Int)<↑s.size) then (bif !gE (bU s) ((wI (aa s (4:Int))).tmod (16:Int)) (wI ((wI (aa s (4:Int))).tdiv (16:Int))) (wI (aa s (5:Int))) then some (.v (.tuple #[(.agg #[(I 0),(I 0),(I 0),(I 0)]),(I 3)]),M0) else some (.v (.tuple #[(.agg #[(I (bU s)),(I ((wI (aa s (4:Int))).tmod (16:Int))),(I (wI ((wI (aa s (4:Int))).tdiv (16:Int)))),(I (wI (aa s (5:Int))))]),(I 0)]),M0)) else none) else none) else none) else none)) else none):=by kernel_rfl
def yc (vs:List Value):Option (Bool×Value) :=
 match vs with
 | [.string s]=>some (Nat.ble s.size 1000000,.tuple #[.agg #[I (bn (cP s==0) (bU s)),I (bn (cP s==0) (bp s 4)),I (bn (cP s==0) (bq s 4)),I (bn (cP s==0) (wI (aa s 5)))],I (cP s)])
 | _=>none
theorem N4:am 63 yc:=by
 intro vs r h
 unfold yc at h
 split at h
 ·rename_i s
  obtain ⟨h1,rfl⟩:=ab h
  refine ak (vs:=[S s]) (Λ:=L0) (m':=M0) Ru func63 rfl (fun z _ _=>bV _ z) ?_
  exact (W6 s).trans (by
   rw [h1]
   unfold cP
   rcases zi s 6 with he|he|he|he
   ·rw [he];rfl
   ·rw [he];rfl
   ·rw [he];rfl
   ·have hs:=qu he
    have hl4:=si s 4
    have hh4:=sN s 4
    have r4:=dV s 4
    have q4:=gF s 4
    rw [show ((4:Nat):Int)=4 from rfl] at hl4 hh4 r4 q4
    rw [he,Nat.ble_eq_true_of_le (show 4<=s.size by omega),decide_eq_true (show (5:Int)<(s.size:Int) by omega),decide_eq_true (show (4:Int)<(s.size:Int) by omega),S1 he,q4,Int.tmod_eq_emod_of_nonneg r4.1,Int.tdiv_eq_ediv_of_nonneg r4.1,aC (n:=aa s 4 / 16) (by omega),<- hl4,<- hh4]
    cases gE (bU s) (bp s 4) (bq s 4) (wI (aa s 5))<;>rfl)
 ·cases h
def ΓPd6:Orc:=ah 63 yc ΓPd5
theorem Rt:ΓPd6.Ok prog:=ac Ru N4
theorem W8 (s:ByteArray):runG ΓPd6 L0 prog f65 [.v (S s)] M0 =
 (bif true&&s.size.ble (1000000) then (bif cq s (10:Int) != (0:Int) then some (.v (.tuple #[(.agg #[(I 0),(I 0),(I 0),(I 0),(I 0),(I 0),(I 0),(I 0),(I 0)]),(I (cq s (10:Int)))]),M0) else (bif Nat.ble (4) s.size&&s.size.ble (1000000) then (bif true&&decide ((4:Int)<↑s.size) then (bif true&&decide ((4:Int)<↑s.size) then (bif true&&decide ((5:Int)<↑s.size) then (bif true&&decide ((6:Int)<↑s.size) then (bif true&&decide ((7:Int)<↑s.size) then (bif true&&decide ((8:Int)<↑s.size) then (bif true&&decide ((8:Int)<↑s.size) then (bif true&&decide ((9:Int)<↑s.size) then (bif !fc (bU s) ((wI (aa s (4:Int))).tmod (16:Int)) (wI ((wI (aa s (4:Int))).tdiv (16:Int))) (wI (aa s (5:Int))) (wI (aa s (6:Int))) (wI (aa s (7:Int))) ((wI (aa s (8:Int))).tmod (16:Int)) (wI ((wI (aa s (8:Int))).tdiv (16:Int))) (wI (aa s (9:Int))) then some (.v (.tuple #[(.agg #[(I 0),(I 0),(I 0),(I 0),(I 0),(I 0),(I 0),(I 0),(I 0)]),(I 3)]),M0) else some (.v (.tuple #[(.agg #[(I (bU s)),(I ((wI (aa s (4:Int))).tmod (16:Int))),(I (wI ((wI (aa s (4:Int))).tdiv (16:Int)))),(I (wI (aa s (5:Int)))),(I (wI (aa s (6:Int)))),(I (wI (aa s (7:Int)))),(I ((wI (aa s (8:Int))).tmod (16:Int))),(I (wI ((wI (aa s (8:Int))).tdiv (16:Int)))),(I (wI (aa s (9:Int))))]),(I 0)]),M0)) else none) else none) else none) else none) else none) else none) else none) else none) else none)) else none):=by kernel_rfl
def yd (vs:List Value):Option (Bool×Value) :=
 match vs with
 | [.string s]=>some (Nat.ble s.size 1000000,.tuple #[.agg #[I (bn (dj s==0) (bU s)),I (bn (dj s==0) (bp s 4)),I (bn (dj s==0) (bq s 4)),I (bn (dj s==0) (wI (aa s 5))),I (bn (dj s==0) (wI (aa s 6))),I (bn (dj s==0) (wI (aa s 7))),I (bn (dj s==0) (bp s 8)),I (bn (dj s==0) (bq s 8)),I (bn (dj s==0) (wI (aa s 9)))],I (dj s)])
 | _=>none
theorem N5:am 65 yd:=by
 intro vs r h
 unfold yd at h
 split at h
 ·rename_i s
  obtain ⟨h1,rfl⟩:=ab h
  refine ak (vs:=[S s]) (Λ:=L0) (m':=M0) Rt func65 rfl (fun z _ _=>bV _ z) ?_
  exact (W8 s).trans (by
   rw [h1]
   unfold dj
   rcases zi s 10 with he|he|he|he
   ·rw [he];rfl
   ·rw [he];rfl
   ·rw [he];rfl
   ·have hs:=qu he
    have hl4:=si s 4
    have hh4:=sN s 4
    have r4:=dV s 4
    have q4:=gF s 4
    rw [show ((4:Nat):Int)=4 from rfl] at hl4 hh4 r4 q4
    have hl8:=si s 8
    have hh8:=sN s 8
    have r8:=dV s 8
    have q8:=gF s 8
    rw [show ((8:Nat):Int)=8 from rfl] at hl8 hh8 r8 q8
    rw [he,Nat.ble_eq_true_of_le (show 4<=s.size by omega)]
    simp only [decide_eq_true (show (5:Int)<(s.size:Int) by omega),decide_eq_true (show (4:Int)<(s.size:Int) by omega),decide_eq_true (show (6:Int)<(s.size:Int) by omega),decide_eq_true (show (7:Int)<(s.size:Int) by omega),decide_eq_true (show (8:Int)<(s.size:Int) by omega),decide_eq_true (show (9:Int)<(s.size:Int) by omega)]
    rw [Z9 he,q4,q8,Int.tmod_eq_emod_of_nonneg r4.1,Int.tdiv_eq_ediv_of_nonneg r4.1,Int.tmod_eq_emod_of_nonneg r8.1,Int.tdiv_eq_ediv_of_nonneg r8.1,aC (n:=aa s 4 / 16) (by omega),aC (n:=aa s 8 / 16) (by omega),<- hl4,<- hh4,<- hl8,<- hh8]
    cases fc (bU s) (bp s 4) (bq s 4) (wI (aa s 5)) (wI (aa s 6)) (wI (aa s 7)) (bp s 8) (bq s 8) (wI (aa s 9))<;>rfl)
 ·cases h
def ΓPd7:Orc:=ah 65 yd ΓPd6
theorem Rs:ΓPd7.Ok prog:=ac Rt N5
end Go.Proofs.YtainfdcfkgemhaaGreat.Pe
namespace Go.Proofs.YtainfdcfkgemhaaGreat.Pe
open Go Go.Proofs Go.Sx Nw
set_option linter.unusedVariables false
theorem Li {b:ByteArray} {n:Nat} (h:b.size=n):cq (di b) (n:Int)=0/\(di b).size=n+4/\(di b).extract 0 n=b:=by
 have hs:=UA b
 have he:(di b).extract 0 n=b:=by
  unfold di
  rw [OO (by omega),<- h,yT]
 refine ⟨?_,by omega,he⟩
 unfold cq
 rw [if_neg (by omega),if_neg (by omega),Int.toNat_natCast,he]
 exact if_pos ((ji _ _).2 rfl)
theorem Sp (b:ByteArray):L (di b)=L b++L (be 4 (hZ b)):=by unfold di;rw [dC]
theorem mD {s:ByteArray} {l r:List UInt8} {i:Nat} {x:Int} (h:L s=l++r) (hx:l[i]?=some (UInt8.ofNat (x % 256).toNat)):aa s (i:Int)=x % 256:=by
 have hi:i<l.length:=(List.getElem?_eq_some_iff.1 hx).1
 rw [ek,h,List.getElem?_append_left hi,hx]
 exact rA (by omega) (by omega)
theorem C1 {n m:Int}:inB n m=true↔0<=n/\n<=m:=by
 unfold inB
 rw [Bool.and_eq_true,decide_eq_true_eq,decide_eq_true_eq]
theorem CA {s:ByteArray} {i:Nat} {p w:Int} (h:aa s (i:Int)=cZ p w % 256) (h0:0<=p) (h1:p<=15) (h2:0<=w) (h3:w<=15):bp s (i:Int)=p/\bq s (i:Int)=w:=by
 have e:cZ p w=p+16*w:=by unfold cZ;rw [aC (n:=16*w) (by omega),aC (by omega)]
 rw [si,sN,h,e]
 omega
theorem S2 (c p w x:Int):∃ t,L (df c p w x)=[UInt8.ofNat (c / 256 ^ 3 % 256).toNat,UInt8.ofNat (c / 256 ^ 2 % 256).toNat,UInt8.ofNat (c / 256 ^ 1 % 256).toNat,UInt8.ofNat (c / 256 ^ 0 % 256).toNat,UInt8.ofNat (cZ p w / 256 ^ 0 % 256).toNat,UInt8.ofNat (x / 256 ^ 0 % 256).toNat]++t :=
 ⟨_,by unfold df;rw [Sp,dC,dC];rfl⟩
theorem O7 {s:ByteArray} {c:Int} {l:List UInt8} (h:L s=[UInt8.ofNat (c / 256 ^ 3 % 256).toNat,UInt8.ofNat (c / 256 ^ 2 % 256).toNat,UInt8.ofNat (c / 256 ^ 1 % 256).toNat,UInt8.ofNat (c / 256 ^ 0 % 256).toNat]++l) (h0:0<=c) (h1:c<=1000000):bU s=c:=by
 have:s.extract 0 4=be 4 c:=by
  rw [<- f9,ga,h]
  rfl
 unfold bU
 rw [this,qaZ,aC (by omega)]
 omega
theorem my (x:Int):x / 256 ^ 0 % 256=x % 256:=by omega
theorem S0 {c p w x:Int} (h:gE c p w x=true):js c p w x=df c p w x/\(df c p w x).size=10/\cP (df c p w x)=0/\bU (df c p w x)=c/\bp (df c p w x) 4=p/\bq (df c p w x) 4=w/\wI (aa (df c p w x) 5)=x:=by
 have hT:js c p w x=df c p w x:=by unfold js;rw [h];rfl
 have h':=h
 unfold gE gg at h'
 simp only [Bool.and_eq_true,C1] at h'
 obtain ⟨t,hl⟩:=S2 c p w x
 obtain ⟨k1,k2,k3⟩:=Li (b:=(be 4 c++be 1 (cZ p w))++be 1 x) (n:=6) (by simp only [ByteArray.size_append,ot])
 have k1:cq (df c p w x) 6=0:=k1
 have k2:(df c p w x).size=10:=k2
 have e1:bU (df c p w x)=c:=O7 (l:=UInt8.ofNat (cZ p w / 256 ^ 0 % 256).toNat::UInt8.ofNat (x / 256 ^ 0 % 256).toNat::t) (by rw [hl];rfl) h'.1.1.1 h'.1.1.2
 have s4:aa (df c p w x) ((4:Nat):Int)=cZ p w % 256:=mD hl (by rw [<- my (cZ p w)];rfl)
 have s5:aa (df c p w x) ((5:Nat):Int)=x % 256:=mD hl (by rw [<- my (x)];rfl)
 obtain ⟨e2,e3⟩:=CA s4 (by omega) (by omega) (by omega) (by omega)
 have e4:wI (aa (df c p w x) ((5:Nat):Int))=x:=by rw [gF,s5];omega
 have e2:bp (df c p w x) 4=p:=e2
 have e3:bq (df c p w x) 4=w:=e3
 have e4:wI (aa (df c p w x) 5)=x:=e4
 refine ⟨hT,k2,?_,e1,e2,e3,e4⟩
 have hw:oO (df c p w x)=true:=by unfold oO;rw [e1,e2,e3,e4,hT];exact (ji _ _).2 rfl
 unfold cP
 rw [k1,hw]
 rfl
theorem qaa (c p w x y z u v f:Int):∃ t,L (dF c p w x y z u v f)=[UInt8.ofNat (c / 256 ^ 3 % 256).toNat,UInt8.ofNat (c / 256 ^ 2 % 256).toNat,UInt8.ofNat (c / 256 ^ 1 % 256).toNat,UInt8.ofNat (c / 256 ^ 0 % 256).toNat,UInt8.ofNat (cZ p w / 256 ^ 0 % 256).toNat,UInt8.ofNat (x / 256 ^ 0 % 256).toNat,UInt8.ofNat (y / 256 ^ 0 % 256).toNat,UInt8.ofNat (z / 256 ^ 0 % 256).toNat,UInt8.ofNat (cZ u v / 256 ^ 0 % 256).toNat,UInt8.ofNat (f / 256 ^ 0 % 256).toNat]++t :=
 ⟨_,by unfold dF;rw [Sp,dC,dC,dC,dC,dC,dC];rfl⟩
theorem Z8 {c p w x y z u v f:Int} (h:fc c p w x y z u v f=true):lS c p w x y z u v f=dF c p w x y z u v f/\(dF c p w x y z u v f).size=14/\dj (dF c p w x y z u v f)=0/\bU (dF c p w x y z u v f)=c/\bp (dF c p w x y z u v f) 4=p/\bq (dF c p w x y z u v f) 4=w/\wI (aa (dF c p w x y z u v f) 5)=x/\wI (aa (dF c p w x y z u v f) 6)=y/\wI (aa (dF c p w x y z u v f) 7)=z/\bp (dF c p w x y z u v f) 8=u/\bq (dF c p w x y z u v f) 8=v/\wI (aa (dF c p w x y z u v f) 9)=f:=by
 have hT:lS c p w x y z u v f=dF c p w x y z u v f:=by unfold lS;rw [h];rfl
 have h':=h
 unfold fc gg at h'
 simp only [Bool.and_eq_true,C1] at h'
 obtain ⟨t,hl⟩:=qaa c p w x y z u v f
 obtain ⟨k1,k2,k3⟩:=Li (b:=(((be 4 c++be 1 (cZ p w))++((be 1 x++be 1 y)++be 1 z))++be 1 (cZ u v))++be 1 f) (n:=10) (by simp only [ByteArray.size_append,ot])
 have k1:cq (dF c p w x y z u v f) 10=0:=k1
 have k2:(dF c p w x y z u v f).size=14:=k2
 generalize hB:dF c p w x y z u v f=B at *
 have e1:bU B=c:=by
  refine O7 (l:=_) (by rw [hl];rfl) h'.2.2.1.1 h'.2.2.1.2
 have s4:aa B ((4:Nat):Int)=cZ p w % 256:=mD hl (by rw [<- my (cZ p w)];rfl)
 have s5:aa B ((5:Nat):Int)=x % 256:=mD hl (by rw [<- my (x)];rfl)
 have s6:aa B ((6:Nat):Int)=y % 256:=mD hl (by rw [<- my (y)];rfl)
 have s7:aa B ((7:Nat):Int)=z % 256:=mD hl (by rw [<- my (z)];rfl)
 have s8:aa B ((8:Nat):Int)=cZ u v % 256:=mD hl (by rw [<- my (cZ u v)];rfl)
 have s9:aa B ((9:Nat):Int)=f % 256:=mD hl (by rw [<- my (f)];rfl)
 obtain ⟨e2,e3⟩:=CA s4 (by omega) (by omega) (by omega) (by omega)
 obtain ⟨e7,e8⟩:=CA s8 (by omega) (by omega) (by omega) (by omega)
 have e4:wI (aa B ((5:Nat):Int))=x:=by rw [gF,s5];omega
 have e5:wI (aa B ((6:Nat):Int))=y:=by rw [gF,s6];omega
 have e6:wI (aa B ((7:Nat):Int))=z:=by rw [gF,s7];omega
 have e9:wI (aa B ((9:Nat):Int))=f:=by rw [gF,s9];omega
 have e2:bp B 4=p:=e2
 have e3:bq B 4=w:=e3
 have e4:wI (aa B 5)=x:=e4
 have e5:wI (aa B 6)=y:=e5
 have e6:wI (aa B 7)=z:=e6
 have e7:bp B 8=u:=e7
 have e8:bq B 8=v:=e8
 have e9:wI (aa B 9)=f:=e9
 refine ⟨hT,k2,?_,e1,e2,e3,e4,e5,e6,e7,e8,e9⟩
 have hw:rR B=true:=by unfold rR;rw [e1,e2,e3,e4,e5,e6,e7,e8,e9,hT];exact (ji _ _).2 rfl
 unfold dj
 rw [k1,hw]
 rfl
end Go.Proofs.YtainfdcfkgemhaaGreat.Pe
namespace Go.Proofs.YtainfdcfkgemhaaGreat.Hr
open Go Go.Proofs Go.Sx Nw Pe So
set_option linter.unusedVariables false
def eY (s:ByteArray):Bool:=aU s==0&&(bJ s==(s.size:Int)&&(eG s==64&&dj (aG s)==0))
def Kx (s:ByteArray):Value:=.tuple #[.agg #[I (bn (eY s) (bU (aG s))),I (bn (eY s) (bp (aG s) 4)),I (bn (eY s) (bq (aG s) 4)),I (bn (eY s) (wI (aa (aG s) 5))),I (bn (eY s) (wI (aa (aG s) 6))),I (bn (eY s) (wI (aa (aG s) 7))),I (bn (eY s) (bp (aG s) 8)),I (bn (eY s) (bq (aG s) 8)),I (bn (eY s) (wI (aa (aG s) 9)))],Bo (eY s)]
def Bj:Value:=.tuple #[.agg #[I 0,I 0,I 0,I 0,I 0,I 0,I 0,I 0,I 0],Bo false]
def ZV (s:ByteArray):Value:=.tuple #[.agg #[I (bn (dj s==0) (bU s)),I (bn (dj s==0) (bp s 4)),I (bn (dj s==0) (bq s 4)),I (bn (dj s==0) (wI (aa s 5))),I (bn (dj s==0) (wI (aa s 6))),I (bn (dj s==0) (wI (aa s 7))),I (bn (dj s==0) (bp s 8)),I (bn (dj s==0) (bq s 8)),I (bn (dj s==0) (wI (aa s 9)))],Bo (dj s==0)]
def Γto24:Orc:=ah 65 yd (ah 64 yb ΓPd7)
theorem qiq:Γto24.Ok prog:=ac (ac Rs N3) N5
theorem Vx (s:ByteArray):runG Γto24 L0 prog f23 [.v (S s)] M0=(bif aU s != 0 then some (.v Bj,M0) else (bif bJ s != (s.size:Int) then some (.v Bj,M0) else (bif eG s != 64 then some (.v Bj,M0) else (bif Nat.ble (aG s).size 1000000 then some (.v (ZV (aG s)),M0) else none)))):=by kernel_rfl
theorem LQ (s:ByteArray):(aG s).size<=s.size:=by
 unfold aG
 cases aU s==0
 ·exact Nat.zero_le _
 ·show (eJ s).size<=s.size
  unfold eJ
  rw [ByteArray.size_extract]
  omega
def DM (vs:List Value):Option (Bool×Value) :=
 match vs with
 | [.string s]=>some (Nat.ble s.size 1000000,Kx s)
 | _=>none
theorem qdy:am 23 DM:=by
 intro vs r h
 unfold DM at h
 split at h
 ·rename_i s
  obtain ⟨h1,rfl⟩:=ab h
  have h1:=Nat.le_of_ble_eq_true h1
  refine ak (vs:=[S s]) (Λ:=L0) (m':=M0) qiq func23 rfl ai ((Vx s).trans ?_)
  rw [Nat.ble_eq_true_of_le (show (aG s).size<=1000000 by have:=LQ s;omega)]
  unfold Kx eY
  simp only [bne]
  cases aU s==0
  ·rfl
  ·cases bJ s==(s.size:Int)
   ·rfl
   ·cases eG s==64
    ·rfl
    ·rfl
 ·cases h
def iX (s:ByteArray):Bool:=eG s==48&&cP (aG s)==0
def kP (s:ByteArray):Bool:=aU s==0&&(bJ s==(s.size:Int)&&Nat.ble s.size 1000000)
def NM (s:ByteArray):Value:=.tuple #[.agg #[I (bn (iX s) (bU (aG s))),I (bn (iX s) (bp (aG s) 4)),I (bn (iX s) (bq (aG s) 4)),I (bn (iX s) (wI (aa (aG s) 5)))],Bo (iX s)]
def Eg (xs:List SV) (m:Mem):Option (Bool×SV×Mem) :=
 match xs,m with
 | [.v (.string s)],⟨[],[],[]⟩=>some (kP s,.tup [.one (.row 0),.one (.v (S ⟨#[]⟩)),.one (.v (I 0))],⟨[],[],[kT 151 [fr s]]⟩)
 | _,_=>none
theorem Lj {s:ByteArray} (h:kP s=true):dE s=[fr s]/\sR s=⟨#[]⟩/\sD s=0/\s.size<=1000000:=by
 unfold kP at h
 simp only [Bool.and_eq_true,beq_iff_eq] at h
 obtain ⟨h1,h2,h3⟩:=h
 obtain ⟨a1,a2,a3⟩:=pn h1
 have e:s.extract (bJ s).toNat s.size=⟨#[]⟩:=by
  rw [h2,Int.toNat_natCast]
  apply ByteArray.ext
  rw [ByteArray.data_extract]
  apply Array.ext'
  rw [Array.toList_extract,List.extract_eq_take_drop,Nat.sub_self,List.take_zero]
 have z:aU (⟨#[]⟩:ByteArray)=5:=by kernel_rfl
 obtain ⟨b1,b2,b3⟩:=pm z
 rw [e] at a1 a2 a3
 rw [b1] at a1
 rw [b2] at a2
 rw [b3] at a3
 exact ⟨a1,a2,a3,Nat.le_of_ble_eq_true h3⟩
theorem qdW:aM 62 Eg:=by
 intro xs m r m' h
 unfold Eg at h
 split at h
 ·rename_i s
  obtain ⟨h1,rfl,rfl⟩:=an h
  obtain ⟨a1,a2,a3,a4⟩:=Lj h1
  refine N0 _ _ _ _ ?_
  show some (Nat.ble s.size 1000000,SV.tup [.one (.row 0),.one (.v (S (sR s))),.one (.v (I ((sD s:Nat):Int)))],(⟨[],[],[kT 151 (dE s)]⟩:Mem))=_
  rw [a1,a2,a3,Nat.ble_eq_true_of_le a4]
  rfl
 ·cases h
def Γhd:Orc:=ah 63 yc (aw 62 Eg ΓPd7)
theorem qiO:Γhd.Ok prog:=ac (aq Rs qdW) N4
def NK:Value:=.tuple #[.agg #[I 0,I 0,I 0,I 0],Bo false]
def NL (s:ByteArray):Value:=.tuple #[.agg #[I (bn (cP s==0) (bU s)),I (bn (cP s==0) (bp s 4)),I (bn (cP s==0) (bq s 4)),I (bn (cP s==0) (wI (aa s 5)))],Bo true]
theorem Yo (s:ByteArray):runG Γhd L0 prog f22 [.v (S s)] M0=(bif kP s then (bif Nat.ble (aG s).size 1000000 then (bif eG s==48 then (bif cP (aG s)==0 then some (.v (NL (aG s)),M0) else some (.v NK,M0)) else some (.v NK,M0)) else none) else none):=by kernel_rfl
def FH (vs:List Value):Option (Bool×Value) :=
 match vs with
 | [.string s]=>some (kP s,NM s)
 | _=>none
theorem qfb:am 22 FH:=by
 intro vs r h
 unfold FH at h
 split at h
 ·rename_i s
  obtain ⟨h1,rfl⟩:=ab h
  have h2:=(Lj h1).2.2.2
  refine ak (vs:=[S s]) (Λ:=L0) (m':=M0) qiO func22 rfl (fun z _ _ b hb st t h=>by cases h) ((Yo s).trans ?_)
  rw [h1,Nat.ble_eq_true_of_le (show (aG s).size<=1000000 by have:=LQ s;omega)]
  unfold NM iX NL
  cases eG s==48
  ·rfl
  ·cases cP (aG s)==0<;>rfl
 ·cases h
def DA (xs:List SV) (m:Mem):Option (Bool×SV×Mem) :=
 match xs,uU m with
 | [.ptr 0 0,.v (.int .i64 i)],some s=>bif i==0 then some (true,.ptr 1 0,uM s) else bif i==1 then some (true,.ptr 2 0,uM s) else none
 | _,_=>none
theorem Vg (s:US):runG Γuc1 L0 prog f53 [.ptr 0 0,.v (I 0)] (uM s)=some (.ptr 1 0,uM s):=by kernel_rfl
theorem Vf (s:US):runG Γuc1 L0 prog f53 [.ptr 0 0,.v (I 1)] (uM s)=some (.ptr 2 0,uM s):=by kernel_rfl
theorem qdm:aM 53 DA:=by
 intro xs m r m' h
 unfold DA at h
 split at h
 case h_2=>cases h
 rename_i i s hs
 rw [m5 hs]
 cases e0:i==0
 ·rw [e0] at h
  cases e1:i==1
  ·rw [e1] at h;cases h
  ·rw [e1] at h
   obtain ⟨_,rfl,rfl⟩:=an h
   obtain rfl:=eq_of_beq e1
   exact af (Λ:=L0) mQ func53 rfl ai (Vf s)
 ·rw [e0] at h
  obtain ⟨_,rfl,rfl⟩:=an h
  obtain rfl:=eq_of_beq e0
  exact af (Λ:=L0) mQ func53 rfl ai (Vg s)
end Go.Proofs.YtainfdcfkgemhaaGreat.Hr
namespace Go.Proofs.YtainfdcfkgemhaaGreat.Hr
open Go Go.Proofs Go.Sx Nw Pe So
set_option linter.unusedVariables false
theorem qhR (s:ByteArray):s++(⟨#[]⟩:ByteArray)=s:=by
 apply ByteArray.ext
 rw [ByteArray.data_append]
 exact Array.append_empty
theorem OH {k:Int} {p:ByteArray} (hk:0<=k/\k<=255) (h0:0<p.size) (h1:p.size<=64):aU (gT k p)=0/\eG (gT k p)=k/\aG (gT k p)=p/\bJ (gT k p)=((gT k p).size:Int):=by
 have hr:d6 k p=true:=by
  unfold d6
  rw [decide_eq_true (show k>=0 from hk.1),decide_eq_true hk.2,decide_eq_true (show (p.size:Int)<=64 by omega)]
  rfl
 have e:gT k p=cj k p:=by
  unfold gT
  rw [oq]
  have:(p==(⟨#[]⟩:ByteArray))=false:=by
   cases e:p==(⟨#[]⟩:ByteArray)
   ·rfl
   ·rw [ji] at e
    rw [e] at h0
    exact absurd h0 (by decide)
  rw [this]
  exact qat hr
 obtain ⟨a1,a2,a3,a4⟩:=qah hr ⟨#[]⟩
 rw [qhR] at a1 a2 a3 a4
 rw [e]
 exact ⟨a1,a2,a3,a4⟩
theorem TA {c p s x y z u v f:Int} (h:fc c p s x y z u v f=true):eY (dk c p s x y z u v f)=true/\bU (aG (dk c p s x y z u v f))=c/\bp (aG (dk c p s x y z u v f)) 4=p/\bq (aG (dk c p s x y z u v f)) 4=s/\wI (aa (aG (dk c p s x y z u v f)) 5)=x/\wI (aa (aG (dk c p s x y z u v f)) 6)=y/\wI (aa (aG (dk c p s x y z u v f)) 7)=z/\bp (aG (dk c p s x y z u v f)) 8=u/\bq (aG (dk c p s x y z u v f)) 8=v/\wI (aa (aG (dk c p s x y z u v f)) 9)=f:=by
 obtain ⟨a0,a1,a2,a3⟩:=Z8 h
 obtain ⟨b1,b2,b3,b4⟩:=OH (k:=64) (p:=dF c p s x y z u v f) (by decide) (by omega) (by omega)
 unfold dk eY
 rw [a0,b1,b2,b3,b4,a2]
 simp only [beq_self_eq_true,Bool.and_self,true_and]
 exact a3
theorem qcY {c p s w:Int} (h:gE c p s w=true):kP (ge c p s w)=true/\iX (ge c p s w)=true/\bU (aG (ge c p s w))=c/\bp (aG (ge c p s w)) 4=p/\bq (aG (ge c p s w)) 4=s:=by
 obtain ⟨a0,a1,a2,a3,a4,a5,a6⟩:=S0 h
 obtain ⟨b1,b2,b3,b4⟩:=OH (k:=48) (p:=df c p s w) (by decide) (by omega) (by omega)
 have hs:(ge c p s w).size<=70:=G1 _ _
 unfold kP
 rw [Nat.ble_eq_true_of_le (show (ge c p s w).size<=1000000 by omega)]
 unfold ge iX
 rw [a0,b1,b2,b3,b4,a2]
 simp only [beq_self_eq_true,Bool.and_self,true_and]
 exact ⟨a3,a4,a5⟩
theorem lB {n l m:Int} (h:La.withB n l m=true):l<=n/\n<=m:=by
 unfold La.withB at h
 by_cases h1:n>=l
 ·rw [decide_eq_true h1] at h
  exact ⟨h1,of_decide_eq_true h⟩
 ·rw [decide_eq_false h1] at h;cases h
theorem Z5 {q c p s f v d i n:Int} (h:La.rightL q c p s f v d i n=true):(0<=v/\v<=255)/\(0<=d/\d<=255)/\(0<=i/\i<=255)/\(0<=p/\p<=3)/\(0<=s/\s<=2)/\(0<=f/\f<=1)/\(1<=q/\q<=2147483648)/\(0<=c/\c<=1000000):=by
 unfold La.rightL at h
 cases h1:La.withB v 0 255
 ·rw [h1] at h;cases h
 cases h2:La.withB d 0 255
 ·rw [h1,h2] at h;cases h
 cases h3:La.withB i 0 255
 ·rw [h1,h2,h3] at h;cases h
 cases h4:La.withB p 0 3
 ·rw [h1,h2,h3,h4] at h;cases h
 cases h5:La.withB s 0 2
 ·rw [h1,h2,h3,h4,h5] at h;cases h
 cases h6:La.withB f 0 1
 ·rw [h1,h2,h3,h4,h5,h6] at h;cases h
 cases h7:La.withB q 1 2147483648
 ·rw [h1,h2,h3,h4,h5,h6,h7] at h;cases h
 cases h8:La.withB c 0 1000000
 ·rw [h1,h2,h3,h4,h5,h6,h7,h8] at h;cases h
 exact ⟨lB h1,lB h2,lB h3,lB h4,lB h5,lB h6,lB h7,lB h8⟩
theorem qD {n m:Int} (hm:0<=m/\m<=2147483648) (h:dN n m=false):-m<=n/\n<=m:=by
 unfold dN at h
 rw [aC (n:=0 - m) (by omega)] at h
 by_cases h1:n<0 - m
 ·rw [decide_eq_true h1] at h;cases h
 ·rw [decide_eq_false h1] at h
  have:=of_decide_eq_false h
  omega
theorem qgx {x y z vx vy vz:Int} (h:fk x y z vx vy vz=false):(-1073741824<=x/\x<=1073741824)/\(-1073741824<=y/\y<=1073741824)/\(-1073741824<=z/\z<=1073741824)/\(-65536<=vx/\vx<=65536)/\(-65536<=vy/\vy<=65536)/\(-65536<=vz/\vz<=65536):=by
 unfold fk at h
 simp only [Bool.or_eq_false_iff] at h
 obtain ⟨h1,h2,h3,h4,h5,h6⟩:=h
 exact ⟨qD (by decide) h1,qD (by decide) h2,qD (by decide) h3,qD (by decide) h4,qD (by decide) h5,qD (by decide) h6⟩
theorem qgy {L:List (List Dat)} {hs:Bool} {l1 l6 l7 l8 P:Int} (h:dG L hs l1 l6 l7 l8 P=0):fk (gn L) (gm L) (gl L) (dr L) (dq L) (dp L)=false:=by
 unfold dG at h
 cases e:(L.length:Int)==0
 ·rw [e] at h
  cases f:fk (gn L) (gm L) (gl L) (dr L) (dq L) (dp L)
  ·rfl
  ·exfalso
   rw [f] at h
   generalize (hs&&iq L==l1)=a at h
   generalize (ip L != 0)=b at h
   generalize (hs&&eO (dr L) (dq L) (dp L) l6 l7 l8 P)=c at h
   revert h
   cases a<;>cases b<;>cases c<;>decide
 ·rw [e] at h
  have h:(1:Int)=0:=h
  exact absurd h (by decide)
theorem qaW {x y z vx vy vz g mo e:Int} {L:List (List Dat)} (h:Im.imR x y z vx vy vz g e=true):1<=Im.ofI x y z vx vy vz g mo e L/\Im.ofI x y z vx vy vz g mo e L<=3:=by
 unfold Im.ofI
 rw [h]
 simp only [Bool.not_true,cond_false]
 generalize (Im.wsI (Im.boxI x y z vx vy vz g e L) (Im.spI (Im.m3 vx vy vz) mo e)==-1)=a
 generalize (Im.wsI (Im.boxI x y z vx vy vz g e L) (Im.spI (Im.m3 vx vy vz) mo e)==1)=b
 cases a<;>cases b<;>decide
end Go.Proofs.YtainfdcfkgemhaaGreat.Hr
namespace Go.Proofs.YtainfdcfkgemhaaGreat.Hr
open Go Go.Proofs Go.Sx Nw Pe So
set_option linter.unusedVariables false
def Γtt0:Orc:=ah 23 DM (ah 22 FH (aQ 25 Fu (aw 53 DA Γul0)))
theorem Ij:Γtt0.Ok prog:=ac (ac (aJ (aq qij qdm) qeY) qfb) qdy
def Γtt:Orc:={ Γtt0 with av:=true,bs:=true,sb:=true }
theorem Qq:Γtt.Ok prog:=⟨Ij.call,Ij.rd,Ij.eqv⟩
def tW:Code:=cH (f12.body.getD .skip) 0
def CM:List Bool:=aE 191 [7,8,41,42,43]
def qT (e:Ex):List Bool:=match e with
 | .exit _=>aE 191 []
 | .ret=>aE 191 [6]
 | .normal=>aE 191 [7,8,41,42,43]
def KTt (e:Ex) (st:St):Option (Ex×St):=some (e,aj 0 1 (qT e) st)
def LI (L:List (List Dat)) (own mark:Bool):Option (Ex×St):=some (.ret,mk (qT .ret) [.v (Bo false)] ⟨[],[],[ig L own mark]⟩)
def f7 (x k:Int):Int:=wI ((BitVec.ofInt 64 x &&& BitVec.ofInt 64 k).toNat:Int)
def rV (o:Ot) (x:Int):Int:=bn (eY o.r) x
def wV (o:Ot) (x:Int):Int:=bn (iX o.l) x
def Pu {α:Type} (K R:Option α) (o:Ot):Option α :=
 bif decide (rV o (bp (aG o.r) 8)<1) then R else (bif (rV o (bp (aG o.r) 8)==4) != (f7 (rV o (wI (aa (aG o.r) 9))) 64 != 0) then R else
 (bif decide (rV o (bq (aG o.r) 8)<1) then R else (bif (rV o (bq (aG o.r) 8)==4) != (f7 (rV o (wI (aa (aG o.r) 9))) 128 != 0) then R else K)))
def Pw {α:Type} (K R:Option α) (o:Ot) (k:Rcd):Option α :=
 bif !decide (k.q>0) then R else (bif !eY o.r then R else (bif !iX o.l then R else
 (bif rV o (bU (aG o.r)) != k.c then R else (bif rV o (bp (aG o.r) 4) != k.p then R else (bif rV o (bq (aG o.r) 4) != k.s then R else
 (bif rV o (wI (aa (aG o.r) 5)) != k.v then R else (bif rV o (wI (aa (aG o.r) 6)) != k.d then R else (bif rV o (wI (aa (aG o.r) 7)) != k.i then R else
 (bif wV o (bU (aG o.l)) != k.c then R else (bif wV o (bq (aG o.l) 4) != k.s then R else (bif wV o (bp (aG o.l) 4) != k.p then R else
 (bif f7 (rV o (wI (aa (aG o.r) 9))) 31 != 0 then R else Pu K R o))))))))))))
def zk {α:Type} (K R:Option α) (o:Ot) (k:Rcd):Option α :=
 bif !o.up then K else (bif Nat.ble o.r.size 1000000 then (bif kP o.l then Pw K R o k else none) else none)
def Hu (o p:Ot):List SA:=[.v (Bo o.up),.v (I o.s),.v (I o.p),.v (Bo o.fi),.v (S o.l),.v (S o.r),.v (Bo p.up),.v (I p.s),.v (I p.p),.v (Bo p.fi),.v (S p.l),.v (S p.r)]
def AW (b:List SA):Option (Ot×Ot):=match b with
 | [.v (.bool a1),.v (.int .i64 a2),.v (.int .i64 a3),.v (.bool a4),.v (.string a5),.v (.string a6),.v (.bool b1),.v (.int .i64 b2),.v (.int .i64 b3),.v (.bool b4),.v (.string b5),.v (.string b6)]=>some (⟨a1,a2,a3,a4,a5,a6⟩,⟨b1,b2,b3,b4,b5,b6⟩)
 | _=>none
theorem Tg {b:List SA} {o p:Ot} (h:AW b=some (o,p)):b=Hu o p:=by
 unfold AW at h
 split at h
 ·injection h with h
  injection h with h1 h2
  subst h1 h2
  rfl
 ·cases h
def MT (s:US) (x:Fl) (r:RowS) (o p:Ot):Mem:=⟨cU 2 s::mC 1 x::Hu o p::kf 2 2 s.x s.y,tt 49,r::bh x.L::kd s.x s.y⟩
def HO:Code:=cH tW 0
def CO:List Bool:=aE 191 [7,8,11,41,42,43,56]
def AC (e:Ex):List Bool:=match e with
 | .exit _=>aE 191 [7,8,41,42,43]
 | .ret=>aE 191 [6]
 | .normal=>aE 191 [7,8,11,41,42,43,56]
def KTi (e:Ex) (st:St):Option (Ex×St):=some (e,aj 0 1 (AC e) st)
def yU (nn i:Int) (s:US) (x:Fl) (L:List (List Dat)) (own mark:Bool):Ex×St:=(.exit 2,mk (AC (.exit 2)) [.ptr 0 0,.ptr 1 0,.row 0,.v (I nn),.v (I i)] (Cy s x (ig L own mark)))
def qQ (n:Nat) (nn i j:Int) (s:US) (x:Fl) (L:List (List Dat)) (own mark:Bool) (o p:Ot):Option (Ex×St):=au Γtt prog L0 (aj 0 1 CO) HO n (mk CO [.ptr 0 0,.ptr 1 0,.ptr 2 0,.row 0,.v (I nn),.v (I i),.v (I j)] (MT s x (ig L own mark) o p)) KTi
theorem T2 (n:Nat) (nn i:Int) (s:US) (x:Fl) (L:List (List Dat)) (own mark:Bool) (o p:Ot):qQ (n+1) nn i 0 s x L own mark o p=zk (qQ n nn i 1 s x L own mark o p) (LI L own mark) o s.x.la.r:=by kernel_rfl
theorem T1 (n:Nat) (nn i:Int) (s:US) (x:Fl) (L:List (List Dat)) (own mark:Bool) (o p:Ot):qQ (n+1) nn i 1 s x L own mark o p=zk (qQ n nn i 2 s x L own mark o p) (LI L own mark) p s.y.la.r:=by kernel_rfl
theorem T0 (n:Nat) (nn i:Int) (s:US) (x:Fl) (L:List (List Dat)) (own mark:Bool) (o p:Ot):qQ (n+1) nn i 2 s x L own mark o p=some (yU nn i s x L own mark):=by kernel_rfl
def AR (m:Mem):Option (US×Fl×RowS×Ot×Ot):=match m with
 | ⟨b0::b1::b2::bs,lv,r::r1::rs⟩=>match Nat.beq bs.length 46&&(jM 49 lv&&Nat.beq rs.length 6),rt 2 b0,oW 1 b1,AW b2,lu r1 with
  | true,some (l0,l1,nw,wh),some (R,n),some (o,p),some L=>match mH (n0 2 2) 3 (fun i=>(b0::b1::b2::bs).getD i []) (fun i=>(r::r1::rs).getD i .dead),mH (n1 2 2) 4 (fun i=>(b0::b1::b2::bs).getD i []) (fun i=>(r::r1::rs).getD i .dead) with
   | some x,some y=>some (⟨x,y,l0,l1,nw,wh⟩,⟨L,R,n⟩,r,o,p)
   | _,_=>none
  | _,_,_,_,_=>none
 | _=>none
set_option maxHeartbeats 4000000 in
theorem Tb {m:Mem} {s:US} {f:Fl} {r0:RowS} {o p:Ot} (h:AR m=some (s,f,r0,o,p)):m=MT s f r0 o p:=by
 unfold AR at h
 split at h
 case h_2=>cases h
 rename_i b0 b1 b2 bs lv r r1 rs
 split at h
 case h_2=>cases h
 rename_i l0 l1 nw wh R n o p L hb hu hf ho hl
 split at h
 case h_2=>cases h
 rename_i x y hx hy
 injection h with h
 injection h with e1 h
 injection h with e2 h
 injection h with e3 h
 injection h with e4 e5
 subst e1 e2 e3 e4 e5
 rw [Bool.and_eq_true,Bool.and_eq_true] at hb
 obtain ⟨b1',b2',b3⟩:=hb
 have e2:=kJ b2'
 generalize hbs:b0::b1::b2::bs=BS at hx hy
 generalize hrs:r::r1::rs=RS at hx hy
 have k1:BS.length=49:=by rw [<- hbs];show bs.length+1+1+1=49;rw [Nat.eq_of_beq_eq_true b1']
 have k2:RS.length=8:=by rw [<- hrs];show rs.length+1+1=8;rw [Nat.eq_of_beq_eq_true b3]
 have g0:BS.getD 0 []=b0:=by rw [<- hbs];rfl
 have g1:BS.getD 1 []=b1:=by rw [<- hbs];rfl
 have g2:BS.getD 2 []=b2:=by rw [<- hbs];rfl
 have q0:RS.getD 0 .dead=r:=by rw [<- hrs];rfl
 have q1:RS.getD 1 .dead=r1:=by rw [<- hrs];rfl
 have e1:=o3 [] BS 49 k1
 have e3:=o3 RowS.dead RS 8 k2
 obtain ⟨p1,p2,p3,p4,p5,p6,p7,p8,p9,p10,p11,p12,p13,p14,p15,p16,p17,p18,p19,p20,p21,p22,p23,p24,p25,p26⟩:=qG hx
 obtain ⟨q1',q2,q3,q4,q5,q6,q7,q8,q9,q10,q11,q12,q13,q14,q15,er,q17,q18,q19,q20,q21,q22,q23,q24,q25,q26⟩:=qG hy
 have j1:(List.range 49).map (fun i=>BS.getD i [])=cU 2 ⟨x,y,l0,l1,nw,wh⟩::mC 1 ⟨L,R,n⟩::Hu o p::kf 2 2 x y:=by
  refine Eq.trans (b:=[BS.getD 0 [],BS.getD 1 [],BS.getD 2 [],BS.getD 3 [],BS.getD 4 [],BS.getD 5 [],BS.getD 6 [],BS.getD 7 [],BS.getD 8 [],BS.getD 9 [],BS.getD 10 [],BS.getD 11 [],BS.getD 12 [],BS.getD 13 [],BS.getD 14 [],BS.getD 15 [],BS.getD 16 [],BS.getD 17 [],BS.getD 18 [],BS.getD 19 [],BS.getD 20 [],BS.getD 21 [],BS.getD 22 [],BS.getD 23 [],BS.getD 24 [],BS.getD 25 [],BS.getD 26 [],BS.getD 27 [],BS.getD 28 [],BS.getD 29 [],BS.getD 30 [],BS.getD 31 [],BS.getD 32 [],BS.getD 33 [],BS.getD 34 [],BS.getD 35 [],BS.getD 36 [],BS.getD 37 [],BS.getD 38 [],BS.getD 39 [],BS.getD 40 [],BS.getD 41 [],BS.getD 42 [],BS.getD 43 [],BS.getD 44 [],BS.getD 45 [],BS.getD 46 [],BS.getD 47 [],BS.getD 48 []]) rfl ?_
  rw [g0,g1,g2,AO hu,vi hf,Tg ho,show BS.getD 3 []=_ from p1,show BS.getD 4 []=_ from q1',show BS.getD 5 []=_ from p2,show BS.getD 6 []=_ from q2,show BS.getD 7 []=_ from p3,show BS.getD 8 []=_ from p4,show BS.getD 9 []=_ from p5,show BS.getD 10 []=_ from p6,show BS.getD 11 []=_ from p7,show BS.getD 12 []=_ from p8,show BS.getD 13 []=_ from p9,show BS.getD 14 []=_ from p10,show BS.getD 15 []=_ from p11,show BS.getD 16 []=_ from p12,show BS.getD 17 []=_ from q3,show BS.getD 18 []=_ from q4,show BS.getD 19 []=_ from q5,show BS.getD 20 []=_ from q6,show BS.getD 21 []=_ from q7,show BS.getD 22 []=_ from q8,show BS.getD 23 []=_ from q9,show BS.getD 24 []=_ from q10,show BS.getD 25 []=_ from q11,show BS.getD 26 []=_ from q12,show BS.getD 27 []=_ from p13,show BS.getD 28 []=_ from q13,show BS.getD 29 []=_ from p14,show BS.getD 30 []=_ from p15,show BS.getD 31 []=_ from p16,show BS.getD 32 []=_ from p17,show BS.getD 33 []=_ from p18,show BS.getD 34 []=_ from p19,show BS.getD 35 []=_ from p20,show BS.getD 36 []=_ from p21,show BS.getD 37 []=_ from p22,show BS.getD 38 []=_ from p23,show BS.getD 39 []=_ from q14,show BS.getD 40 []=_ from q15,show BS.getD 41 []=_ from er,show BS.getD 42 []=_ from q17,show BS.getD 43 []=_ from q18,show BS.getD 44 []=_ from q19,show BS.getD 45 []=_ from q20,show BS.getD 46 []=_ from q21,show BS.getD 47 []=_ from q22,show BS.getD 48 []=_ from q23]
  rfl
 have j2:(List.range 8).map (fun i=>RS.getD i .dead)=r::bh L::kd x y:=by
  refine Eq.trans (b:=[RS.getD 0 .dead,RS.getD 1 .dead,RS.getD 2 .dead,RS.getD 3 .dead,RS.getD 4 .dead,RS.getD 5 .dead,RS.getD 6 .dead,RS.getD 7 .dead]) rfl ?_
  rw [q0,q1,oI hl,show RS.getD 2 .dead=_ from p24,show RS.getD 3 .dead=_ from q24,show RS.getD 4 .dead=_ from p25,show RS.getD 5 .dead=_ from q25,show RS.getD 6 .dead=_ from p26,show RS.getD 7 .dead=_ from q26]
  rfl
 rw [e1,e2,e3,j1,j2]
 rfl
end Go.Proofs.YtainfdcfkgemhaaGreat.Hr
namespace Go.Proofs.YtainfdcfkgemhaaGreat.Hr
open Go Go.Proofs Go.Sx Nw Pe So
set_option linter.unusedVariables false
structure Qv (x:PS):Prop where
 w:0<=x.q.w/\x.q.w<=2
 e:x.R.r4=2
theorem He {w d:Int} (h:0<=w/\w<=2):0<=Se.dropW w d/\Se.dropW w d<=2:=by
 have z:(0:Int)<=0/\(0:Int)<=2:=by decide
 unfold Se.dropW
 cases w==d
 ·exact h
 ·exact z
theorem S5 {c w:Int} (h:0<=w/\w<=2):0<=Se.w1N c w/\Se.w1N c w<=2:=by
 have z1:(0:Int)<=1/\(1:Int)<=2:=by decide
 have z2:(0:Int)<=2/\(2:Int)<=2:=by decide
 unfold Se.w1N
 cases c==1
 ·cases c==2
  ·exact h
  ·exact z2
 ·exact z1
theorem qgR {s:Int} {l:Bool} {t w c ph:Int} {fl fi a f:Bool} (h:0<=w/\w<=2):0<=Se.cyW s l t w c ph fl fi a f/\Se.cyW s l t w c ph fl fi a f<=2:=by
 have h1:=S5 (c:=c) h
 have z:(0:Int)<=0/\(0:Int)<=2:=by decide
 have d2:=He (d:=2) h1
 have d1:=He (d:=1) h1
 have d12:=He (d:=2) d1
 unfold Se.cyW Se.wsW Se.waW
 generalize (Se.dropW (Se.w1N c w) 2==1&&a)=b1
 generalize (Se.dropW (Se.w1N c w) 1==2&&f)=b2
 generalize (fl&&decide (ph<s))=b3
 generalize (c==3||fi)=b4
 generalize (t==0)=b5
 generalize (t==1)=b6
 generalize (t==2)=b7
 cases l
 ·cases b5
  ·cases b6
   ·cases b7
    ·exact h1
    ·exact z
   ·cases b4
    ·cases b3
     ·cases b2
      ·exact d1
      ·exact z
     ·exact d12
    ·exact z
  ·cases b1
   ·exact d2
   ·exact z
 ·exact h
theorem qgW (x:PS) (i:Inp):(Hr.cyE x i).q=Pg (cyB x i) (je x i) (Hk (cyB x i) (d4 x i)) ((cyB x i).q.t==1&&yM (tC (cyB x i) (d4 x i) true)):=by kernel_rfl
theorem qg1 (x:PS) (i:Inp):(Hr.cyE x i).R=x.R:=by kernel_rfl
theorem qg2 (x:PS) (i:Inp):(cyB x i).q=x.q:=by kernel_rfl
theorem Qv.cyE {x:PS} (h:Qv x) (i:Inp):Qv (Hr.cyE x i):=by
 refine ⟨?_,by rw [qg1];exact h.e⟩
 rw [qgW]
 exact qgR (by rw [qg2];exact h.w)
theorem Qv.upd {x:PS} (h:Qv x) {u:Bool} {l:Int}:Qv { x with up:=u,lf:=l }:=⟨h.w,h.e⟩
theorem Qv.cyN {x:PS} (h:Qv x) {i:Inp}:Qv (Hr.cyN x i):=by
 have hE:=h.cyE i
 unfold Hr.cyN gw
 cases hu:x.up
 ·exact h.upd (u:=x.up) (l:=bif x.lf==0 then 0 else x.lf - 1)
 ·show Qv (bif fm x i != 0 then _ else _)
  cases fm x i != 0
  ·exact hE
  ·exact hE.upd (u:=false) (l:=(Hr.cyE x i).lf)
theorem qhC (x:PS):(bI x).R=gW x.img:=by kernel_rfl
theorem qhr (x:PS):(bI x).q.w=0:=by
 have e:(bI x).q.w=(De (dz (k8 (bz (bu x 1))))).w:=by kernel_rfl
 rw [e]
 have z:(dz (k8 (bz (bu x 1)))).q.w=0:=by kernel_rfl
 generalize dz (k8 (bz (bu x 1)))=y at *
 unfold De
 show (bif Se.setB y.q.l y.la.r.s then 0 else y.q.w)=0
 rw [z]
 cases Se.setB y.q.l y.la.r.s<;>rfl
theorem Qv.bt (x:PS):Qv (bI x):=by
 refine ⟨?_,?_⟩
 ·rw [qhr];decide
 ·rw [qhC];rfl
structure Pq (x:PS):Prop where
 i:Pv x
 q:Qv x
theorem Pq.uc {x:PS} (h:Pq x) (r:Bool) (t:Int):Pq (lF (hP x r) t):=by
 refine ⟨h.i.uc r t,?_⟩
 have ha:Qv (hP x r):=by
  unfold hP
  cases r
  ·exact h.q
  ·exact ⟨h.q.w,h.q.e⟩
 unfold lF
 cases decide (t>0)&&(hP x r).up
 ·exact ha
 ·exact ⟨ha.w,ha.e⟩
end Go.Proofs.YtainfdcfkgemhaaGreat.Hr
namespace Go.Proofs.YtainfdcfkgemhaaGreat.Hr
open Go Go.Proofs Go.Sx Nw Pe So
set_option linter.unusedVariables false
structure TO (o:Ot) (k:Rcd):Prop where
 q:k.q>0
 sz:o.r.size<=70
 td:eY o.r=true
 hg:kP o.l=true
 hb:iX o.l=true
 c1:bU (aG o.r)=k.c
 p1:bp (aG o.r) 4=k.p
 s1:bq (aG o.r) 4=k.s
 v1:wI (aa (aG o.r) 5)=k.v
 d1:wI (aa (aG o.r) 6)=k.d
 i1:wI (aa (aG o.r) 7)=k.i
 c2:bU (aG o.l)=k.c
 s2:bq (aG o.l) 4=k.s
 p2:bp (aG o.l) 4=k.p
 f0:f7 (wI (aa (aG o.r) 9)) 31=0
 u1:1<=bp (aG o.r) 8
 u2:(bp (aG o.r) 8==4)=(f7 (wI (aa (aG o.r) 9)) 64 != 0)
 w1:1<=bq (aG o.r) 8
 w2:(bq (aG o.r) 8==4)=(f7 (wI (aa (aG o.r) 9)) 128 != 0)
theorem Pt {α:Type} (K R:Option α) {o:Ot} {k:Rcd} (h:o.up=true->TO o k):zk K R o k=K:=by
 unfold zk
 cases hu:o.up
 ·rfl
 ·obtain ⟨q,sz,td,hg,hb,c1,p1,s1,v1,d1,i1,c2,s2,p2,f0,u1,u2,w1,w2⟩:=h hu
  rw [Nat.ble_eq_true_of_le (show o.r.size<=1000000 by omega),hg]
  have r0:∀ x,rV o x=x:=fun x=>by unfold rV;rw [td];rfl
  have w0:∀ x,wV o x=x:=fun x=>by unfold wV;rw [hb];rfl
  unfold Pw Pu
  simp only [r0,w0]
  rw [td,hb,decide_eq_true q,c1,p1,s1,v1,d1,i1,c2,s2,p2,f0,u2,w2,decide_eq_false (show ¬ bp (aG o.r) 8<1 by omega),decide_eq_false (show ¬ bq (aG o.r) 8<1 by omega)]
  simp only [bne_self_eq_false,Bool.not_true,cond_false,cond_true]
structure JdOk (J:Jd):Prop where
 a:1<=J.v1/\J.v1<=4
 b:1<=J.v2/\J.v2<=4
 f:0<=J.ft/\J.ft<=255
 f0:f7 J.ft 31=0
 u:(J.v1==4)=(f7 J.ft 64 != 0)
 w:(J.v2==4)=(f7 J.ft 128 != 0)
theorem qaH {w:Int} (h:0<=w/\w<=2):0<=rW w/\rW w<=15:=by
 rcases (show w=0\/w=1\/w=2 by omega) with rfl|rfl|rfl<;>decide
theorem iU {n m:Int} (h:0<=n/\n<=m):inB n m=true:=C1.2 h
theorem TH (D:PS) (J:Jd) (b:Bool) (hX:svE D (dD D)=0) (hw:0<=D.q.w/\D.q.w<=2) (hJ:JdOk J):TO (kg (o6 D) J b) (o6 D).la.r:=by
 have hk:kh (dD D)=true/\Bn D (dD D)=0:=by
  unfold svE La.svE at hX
  cases e:kh (dD D)
  ·rw [e] at hX
   exact absurd (show (1:Int)=0 from hX) (by decide)
  ·rw [e] at hX
   exact ⟨rfl,hX⟩
 have hO:hU D (dD D)=true:=by
  unfold hU
  rw [hk.1,hk.2]
  rfl
 have hla:(o6 D).la.r=dD D:=by
  show (Bp D (dD D)).r=dD D
  unfold Bp
  rw [hO]
  rfl
 obtain ⟨rv,rd,ri,rp,rs,rf,rq,rc⟩:=Z5 (show La.rightL (dD D).q (dD D).c (dD D).p (dD D).s (dD D).f (dD D).v (dD D).d (dD D).i (dD D).n=true from hk.1)
 have eo:kg (o6 D) J b=⟨true,D.q.t,D.m.p,D.q.t==2,ge D.cy D.m.p D.q.t (bif b then rW D.q.w else D.q.w),dk D.cy D.m.p D.q.t D.y.u D.y.v D.y.w J.v1 J.v2 J.ft⟩:=rfl
 have rc:0<=D.cy/\D.cy<=1000000:=rc
 have rp:0<=D.m.p/\D.m.p<=3:=rp
 have rs:0<=D.q.t/\D.q.t<=2:=rs
 have rv:0<=D.y.u/\D.y.u<=255:=rv
 have rd:0<=D.y.v/\D.y.v<=255:=rd
 have ri:0<=D.y.w/\D.y.w<=255:=ri
 have hst:gg D.cy D.m.p D.q.t=true:=by
  unfold gg
  rw [iU rc,iU rp,iU rs]
  rfl
 have hrep:fc D.cy D.m.p D.q.t D.y.u D.y.v D.y.w J.v1 J.v2 J.ft=true:=by
  unfold fc
  rw [iU rv,iU rd,iU ri,iU hJ.f,iU (show 0<=J.v1/\J.v1<=4 by have:=hJ.a;omega),iU (show 0<=J.v2/\J.v2<=4 by have:=hJ.b;omega),hst]
  rfl
 have hwr:gE D.cy D.m.p D.q.t (bif b then rW D.q.w else D.q.w)=true:=by
  unfold gE
  rw [hst]
  have h4:=qaH hw
  cases b
  ·exact iU (show 0<=D.q.w/\D.q.w<=15 by omega)
  ·exact iU h4
 obtain ⟨t0,t1,t2,t3,t4,t5,t6,t7,t8,t9⟩:=TA hrep
 obtain ⟨h0,h1,h2,h3,h4⟩:=qcY hwr
 rw [hla,eo]
 refine ⟨?_,G1 _ _,t0,h0,h1,t1,t2,t3,t4,t5,t6,h2,h4,h3,?_,?_,?_,?_,?_⟩
 ·show (dD D).q>0
  omega
 ·show f7 (wI (aa (aG (dk D.cy D.m.p D.q.t D.y.u D.y.v D.y.w J.v1 J.v2 J.ft)) 9)) 31=0
  rw [t9]
  exact hJ.f0
 ·show 1<=bp (aG (dk D.cy D.m.p D.q.t D.y.u D.y.v D.y.w J.v1 J.v2 J.ft)) 8
  rw [t7]
  exact hJ.a.1
 ·show (bp (aG (dk D.cy D.m.p D.q.t D.y.u D.y.v D.y.w J.v1 J.v2 J.ft)) 8==4)=(f7 (wI (aa (aG (dk D.cy D.m.p D.q.t D.y.u D.y.v D.y.w J.v1 J.v2 J.ft)) 9)) 64 != 0)
  rw [t7,t9]
  exact hJ.u
 ·show 1<=bq (aG (dk D.cy D.m.p D.q.t D.y.u D.y.v D.y.w J.v1 J.v2 J.ft)) 8
  rw [t8]
  exact hJ.b.1
 ·show (bq (aG (dk D.cy D.m.p D.q.t D.y.u D.y.v D.y.w J.v1 J.v2 J.ft)) 8==4)=(f7 (wI (aa (aG (dk D.cy D.m.p D.q.t D.y.u D.y.v D.y.w J.v1 J.v2 J.ft)) 9)) 128 != 0)
  rw [t8,t9]
  exact hJ.w
theorem qcG {a b:Int} {vn vm ap:Bool} {ht:Int} {kn:Bool} (ha:vn=true->1<=a/\a<=3) (hb:vm=true->1<=b/\b<=3):JdOk ⟨bif vn then a else 4,bif vm then b else 4,ht,kn,(bif ap then 32 else 0)+((bif vn then 0 else 64)+(bif vm then 0 else 128))⟩:=by
 have f:∀ vn vm ap:Bool,(0<=(bif ap then (32:Int) else 0)+((bif vn then 0 else 64)+(bif vm then 0 else 128))/\(bif ap then (32:Int) else 0)+((bif vn then 0 else 64)+(bif vm then 0 else 128))<=255)/\f7 ((bif ap then (32:Int) else 0)+((bif vn then 0 else 64)+(bif vm then 0 else 128))) 31=0/\(f7 ((bif ap then (32:Int) else 0)+((bif vn then 0 else 64)+(bif vm then 0 else 128))) 64 != 0)=!vn/\(f7 ((bif ap then (32:Int) else 0)+((bif vn then 0 else 64)+(bif vm then 0 else 128))) 128 != 0)=!vm:=by
  intro vn vm ap
  cases vn<;>cases vm<;>cases ap<;>decide
 obtain ⟨f1,f2,f3,f4⟩:=f vn vm ap
 refine ⟨?_,?_,f1,f2,?_,?_⟩
 ·cases vn
  ·exact ⟨by show (1:Int)<=4;decide,by show (4:Int)<=4;decide⟩
  ·have:=ha rfl
   exact ⟨this.1,by show a<=4;omega⟩
 ·cases vm
  ·exact ⟨by show (1:Int)<=4;decide,by show (4:Int)<=4;decide⟩
  ·have:=hb rfl
   exact ⟨this.1,by show b<=4;omega⟩
 ·refine Eq.trans ?_ f3.symm
  cases vn
  ·rfl
  ·exact beq_eq_false_iff_ne.2 (show a≠4 by have:=ha rfl;omega)
 ·refine Eq.trans ?_ f4.symm
  cases vm
  ·rfl
  ·exact beq_eq_false_iff_ne.2 (show b≠4 by have:=hb rfl;omega)
theorem qaw {s:ByteArray} {p:Int} (h0:0<=p) (h1:p<((cN s).length:Int)):c5 (cN s) p=1:=by
 unfold cN at h1 ⊢
 rw [List.length_replicate] at h1
 unfold c5
 rw [List.getD_eq_getElem?_getD,List.getElem?_eq_getElem (by rw [List.length_replicate];omega),Option.getD_some,List.getElem_replicate]
 rfl
theorem Kg {x:PS} (hL:x.m.L=cN x.img) (hp:0<=x.m.p/\x.m.p<((cN x.img).length:Int)) (he:x.R.r4=2) (y:Src) (L:List (List Dat)) (hv:(dh y L==0)=true):1<=gH x (pe y L)/\gH x (pe y L)<=3:=by
 have hf:=qgy (beq_iff_eq.1 hv)
 obtain ⟨a1,a2,a3,a4,a5,a6⟩:=qgx hf
 have en:pe y L=⟨iq L,ip L,gn L,gm L,gl L,dr L,dq L,dp L⟩:=by
  unfold pe
  rw [hv]
  rfl
 rw [en]
 unfold gH
 rw [hL,qaw hp.1 hp.2,he]
 have key:Im.imR (gn L) (gm L) (gl L) (dr L) (dq L) (dp L) 1 2=true:=Im.imR_of (by omega) (by omega) (by omega) (by omega) (by omega) (by omega) (by decide) (by decide)
 exact qaW key
theorem Pc (x:PS) (i:Inp):(cyB x i).m=x.m:=by kernel_rfl
theorem Pd (x:PS) (i:Inp):(cyB x i).img=x.img:=by kernel_rfl
theorem qg3 (x:PS) (i:Inp):(cyB x i).R=x.R:=by kernel_rfl
theorem qgU {x:PS} (h:Pq x) (i:Inp):JdOk (d4 x i):=by
 have hI:Inv 48 x:=h.i
 have e:d4 x i=jX (cyB x i) (je x i):=rfl
 rw [e]
 unfold jX
 have k1:(cyB x i).m.L=cN (cyB x i).img:=by rw [Pc,Pd];exact hI.mL
 have k2:0<=(cyB x i).m.p/\(cyB x i).m.p<((cN (cyB x i).img).length:Int):=by rw [Pc,Pd];exact hI.mp
 have k3:(cyB x i).R.r4=2:=by rw [qg3];exact h.q.e
 refine qcG (fun hv=>?_) (fun hv=>?_)
 ·exact Kg k1 k2 k3 (mz x).s (cF 0 (c0 (mz x).a i.a)) hv
 ·exact Kg k1 k2 k3 (mz x).t (cF 1 (c0 (mz x).b i.b)) hv
theorem zd {x:PS} (h:Pq x) (i:Inp):(bR x i).up=true->TO (bR x i) (cyN x i).la.r:=by
 intro hu
 have hE:=(h.q.cyE i).w
 unfold bR at hu ⊢
 unfold cyN gw
 cases hx:x.up
 ·rw [hx] at hu;cases hu
 ·rw [hx] at hu
  show TO (bif fm x i != 0 then o0 else kg (Hr.cyE x i) (d4 x i) (cyW x i)) (bif fm x i != 0 then { Hr.cyE x i with up:=false } else Hr.cyE x i).la.r
  cases hX:fm x i != 0
  ·exact TH (jf x i) (d4 x i) (cyW x i) (bne_eq_false_iff_eq.1 hX) hE (qgU h i)
  ·exfalso
   have hu:(bif fm x i != 0 then o0 else kg (Hr.cyE x i) (d4 x i) (cyW x i)).up=true:=hu
   rw [hX] at hu
   cases hu
end Go.Proofs.YtainfdcfkgemhaaGreat.Hr
namespace Go.Proofs.YtainfdcfkgemhaaGreat.Hr
open Go Go.Proofs Go.Sx Nw Pe So
set_option linter.unusedVariables false
def wL (o p:Ot) (s:US):Prop:=(o.up=true->TO o s.x.la.r)/\(p.up=true->TO p s.y.la.r)
def Jo (vals:List SV) (m:Mem):Option (Bool×LT) :=
 match vals,AR m with
 | [.ptr 0 0,.ptr 1 0,.ptr 2 0,.row 0,.v (.int .i64 nn),.v (.int .i64 i),.v (.int .i64 j)],some (s,x,r,o,p)=>match uG r with
  | some (L,own,mark)=>some (j==0&&kK (wL o p s),.leaf (yU nn i s x L own mark).1 (yU nn i s x L own mark).2)
  | none=>none
 | _,_=>none
def ΛTi:bg:=fun _ st=>gG 0 1 CO Jo st
theorem qbW (nn i:Int) (s:US) (x:Fl) (L:List (List Dat)) (own mark:Bool) (o p:Ot) (h:wL o p s):qQ 3 nn i 0 s x L own mark o p=some (yU nn i s x L own mark):=by
 rw [T2,Pt _ _ h.1,T1,Pt _ _ h.2,T0]
theorem qb4 (z:Base) (z1:z.L.length=0) (z2:z.U.length=1):a9 ΛTi prog z HO:=by
 refine iN (Λ:=L0) (kx:=AC) Qq mixed z1 z2 (fun b hb st t h=>by cases h) (G:=Jo) (fun _=>rfl) ?_
 intro vals m t h
 unfold Jo at h
 split at h
 case h_2=>cases h
 rename_i nn i j s x r o p hm
 split at h
 case h_2=>cases h
 rename_i L own mark hr
 obtain ⟨h1,rfl⟩:=ab h
 simp only [Bool.and_eq_true,beq_iff_eq] at h1
 obtain ⟨rfl,h2⟩:=h1
 rw [Tb hm,J0 hr]
 exact ⟨3,qbW nn i s x L own mark o p (nL.1 h2)⟩
theorem qbh:aL tW=[HO]:=by kernel_rfl
def uF (n:Nat) (nn i:Int) (s:US) (x:Fl) (L:List (List Dat)) (own mark:Bool):Option (Ex×St):=au Γtt prog ΛTi (aj 0 1 CM) tW n (mk CM [.ptr 0 0,.ptr 1 0,.row 0,.v (I nn),.v (I i)] (Cy s x (ig L own mark))) KTt
def qv (n:Nat) (nn i:Int) (x:Fl) (L:List (List Dat)) (own mark:Bool) (o p:Ot) (s:US):Option (Ex×St) :=
 bif (0:Int)==0&&kK (wL o p s) then uF n nn (wI (i+1)) s x L own mark else none
def BX (n:Nat) (nn i:Int) (s:US) (x:Fl) (u:Uin) (L:List (List Dat)) (own mark:Bool):Option (Ex×St) :=
 bif ch (bd s u)&&ch (aZ s u) then (bif fW s.l1 (bd s u)&&fW s.l0 (aZ s u) then qv n nn i x L own mark o0 o0 (gj s o0 o0 (bI (bd s u)) (bI (aZ s u))) else none)
 else (bif ch (bd s u) then (bif fW s.l1 (bd s u)&&fX s.l0 (aZ s u) (cn s u) then qv n nn i x L own mark o0 (bR (aZ s u) (cn s u)) (gj s o0 (bR (aZ s u) (cn s u)) (bI (bd s u)) (cyN (aZ s u) (cn s u))) else none)
 else (bif ch (aZ s u) then (bif fX s.l1 (bd s u) (co s u)&&fW s.l0 (aZ s u) then qv n nn i x L own mark (bR (bd s u) (co s u)) o0 (gj s (bR (bd s u) (co s u)) o0 (cyN (bd s u) (co s u)) (bI (aZ s u))) else none)
 else (bif fX s.l1 (bd s u) (co s u)&&fX s.l0 (aZ s u) (cn s u) then qv n nn i x L own mark (bR (bd s u) (co s u)) (bR (aZ s u) (cn s u)) (gj s (bR (bd s u) (co s u)) (bR (aZ s u) (cn s u)) (cyN (bd s u) (co s u)) (cyN (aZ s u) (cn s u))) else none)))
theorem KT (n:Nat) (nn i:Int) (s:US) (x:Fl) (L:List (List Dat)) (own mark:Bool):uF (n+1) nn i s (wE x) L own mark=(bif decide (i<nn) then (bif decide (0<=i)&&decide (i<(L.length:Int)) then BX n nn i s (wE (sP x (jE (L.getD i.toNat [])))) (cd (sP x (jE (L.getD i.toNat []))).n (jE (L.getD i.toNat []))) L own mark else none) else some (.exit 0,mk (qT (.exit 0)) [] ⟨[],[],[ig L own mark]⟩)):=by kernel_rfl
structure IK (s:US):Prop where
 x:Pq s.x
 y:Pq s.y
 l0:s.l0.size<=100
 l1:s.l1.size<=100
theorem Pq.b {x:PS} (h:Pq x) {l:ByteArray} (hl:l.size<=100) (hb:ch x=true):fW l x=true/\Pq (bI x):=⟨(h.i.b hl hb).1,(h.i.b hl hb).2,Qv.bt x⟩
theorem Pq.n {x:PS} (h:Pq x) {l:ByteArray} (hl:l.size<=100) {i:Inp} (hi:fO i=true) (hb:ch x=false):fX l x i=true/\Pq (cyN x i):=⟨(h.i.n hl hi hb).1,(h.i.n hl hi hb).2,h.q.cyN⟩
theorem zj (n:Nat) (nn i:Int) (x:Fl) (L:List (List Dat)) (own mark:Bool) {o p:Ot} {s:US} (h:wL o p s):qv n nn i x L own mark o p s=uF n nn (wI (i+1)) s x L own mark:=by
 unfold qv
 rw [nL.2 h]
 rfl
theorem wS (k:Rcd):o0.up=true->TO o0 k:=fun h=>by cases h
theorem qaj (n:Nat) (nn i:Int) {s:US} (h:IK s) (y:Fl) (N:Nv) (o:Op5) (ho:pF o) (L:List (List Dat)) (own mark:Bool):∃ s',IK s'/\BX n nn i s y (cd N o) L own mark=uF n nn (wI (i+1)) s' y L own mark:=by
 have X:Pq (bd s (cd N o)):=h.x.uc _ _
 have Y:Pq (aZ s (cd N o)):=h.y.uc _ _
 have i0:fO (co s (cd N o))=true:=qcV ho h.l1
 have i1:fO (cn s (cd N o))=true:=qcU ho h.l0
 have z0:o0.l.size<=100:=Nat.zero_le _
 have cl:∀ x i,(bR x i).l.size<=100:=fun x i=>Nat.le_trans (qgS x i) (by decide)
 unfold BX
 cases hx:ch (bd s (cd N o))
 ·obtain ⟨a1,a2⟩:=X.n h.l1 i0 hx
  cases hy:ch (aZ s (cd N o))
  ·obtain ⟨b1,b2⟩:=Y.n h.l0 i1 hy
   refine ⟨gj s (bR (bd s (cd N o)) (co s (cd N o))) (bR (aZ s (cd N o)) (cn s (cd N o))) (cyN (bd s (cd N o)) (co s (cd N o))) (cyN (aZ s (cd N o)) (cn s (cd N o))),⟨a2,b2,cl _ _,cl _ _⟩,?_⟩
   rw [a1,b1]
   exact zj n nn i y L own mark ⟨zd X _,zd Y _⟩
  ·obtain ⟨b1,b2⟩:=Y.b h.l0 hy
   refine ⟨gj s (bR (bd s (cd N o)) (co s (cd N o))) o0 (cyN (bd s (cd N o)) (co s (cd N o))) (bI (aZ s (cd N o))),⟨a2,b2,cl _ _,z0⟩,?_⟩
   rw [a1,b1]
   exact zj n nn i y L own mark ⟨zd X _,wS _⟩
 ·obtain ⟨a1,a2⟩:=X.b h.l1 hx
  cases hy:ch (aZ s (cd N o))
  ·obtain ⟨b1,b2⟩:=Y.n h.l0 i1 hy
   refine ⟨gj s o0 (bR (aZ s (cd N o)) (cn s (cd N o))) (bI (bd s (cd N o))) (cyN (aZ s (cd N o)) (cn s (cd N o))),⟨a2,b2,z0,cl _ _⟩,?_⟩
   rw [a1,b1]
   exact zj n nn i y L own mark ⟨wS _,zd Y _⟩
  ·obtain ⟨b1,b2⟩:=Y.b h.l0 hy
   refine ⟨gj s o0 o0 (bI (bd s (cd N o))) (bI (aZ s (cd N o))),⟨a2,b2,z0,z0⟩,?_⟩
   rw [a1,b1]
   exact zj n nn i y L own mark ⟨wS _,wS _⟩
def G7 (L:List (List Dat)) (own mark:Bool):Ex×St:=(.exit 0,mk (qT (.exit 0)) [] ⟨[],[],[ig L own mark]⟩)
theorem qbV (L:List (List Dat)) (own mark:Bool) (hl:L.length<=1000000) (hO:∀ k,k<L.length->pF (jE (L.getD k []))):∀ (m k:Nat) (s:US) (x:Fl),k+m=L.length->IK s->jF x=true->uF (m+1) (L.length:Int) (k:Int) s x L own mark=some (G7 L own mark):=by
 intro m
 induction m with
 | zero =>
  intro k s x hk hs hx
  have e:=KT 0 (L.length:Int) (k:Int) s x L own mark
  rw [mZ hx,decide_eq_false (show ¬ (k:Int)<(L.length:Int) by omega)] at e
  exact e
 | succ m ih =>
  intro k s x hk hs hx
  have e:=KT (m+1) (L.length:Int) (k:Int) s x L own mark
  have hx':jF (sP x (jE (L.getD (k:Int).toNat [])))=true:=hx
  rw [mZ hx,mZ hx',decide_eq_true (show (k:Int)<(L.length:Int) by omega),decide_eq_true (show (0:Int)<=(k:Int) by omega)] at e
  obtain ⟨s',hs',e'⟩:=qaj (m+1) (L.length:Int) (k:Int) hs (sP x (jE (L.getD (k:Int).toNat []))) (sP x (jE (L.getD (k:Int).toNat []))).n (jE (L.getD (k:Int).toNat [])) (hO k (by omega)) L own mark
  refine e.trans (Eq.trans e' ?_)
  rw [aC (n:=(k:Int)+1) (by omega)]
  exact ih (k+1) s' _ (by omega) hs' hx'
def Cl (s:US) (x:Fl) (L:List (List Dat)):Prop:=IK s/\jF x=true/\L.length<=1000000/\∀ k,k<L.length->pF (jE (L.getD k []))
def Jm (vals:List SV) (m:Mem):Option (Bool×LT) :=
 match vals,AT m with
 | [.ptr 0 0,.ptr 1 0,.row 0,.v (.int .i64 nn),.v (.int .i64 i)],some (s,x,r)=>match uG r with
  | some (L,own,mark)=>some (i==0&&(nn==(L.length:Int)&&kK (Cl s x L)),.leaf (G7 L own mark).1 (G7 L own mark).2)
  | none=>none
 | _,_=>none
def ΛTt:bg:=fun _ st=>gG 0 1 CM Jm st
theorem qb3 (z:Base) (z1:z.L.length=0) (z2:z.U.length=1):a9 ΛTt prog z tW:=by
 refine iN (Λ:=ΛTi) (kx:=qT) Qq mixed z1 z2 (bX qbh (qb4 z z1 z2)) (G:=Jm) (fun _=>rfl) ?_
 intro vals m t h
 unfold Jm at h
 split at h
 case h_2=>cases h
 rename_i nn i s x r hm
 split at h
 case h_2=>cases h
 rename_i L own mark hr
 obtain ⟨h1,rfl⟩:=ab h
 simp only [Bool.and_eq_true,beq_iff_eq] at h1
 obtain ⟨rfl,rfl,h2⟩:=h1
 obtain ⟨g1,g2,g3,g4⟩:=nL.1 h2
 rw [Tc hm,J0 hr]
 exact ⟨L.length+1,qbV L own mark g3 g4 L.length 0 s x (by omega) g1 g2⟩
theorem qbi:aL (f12.body.getD .skip)=[tW]:=by kernel_rfl
def Γtw0:Orc:=aQ 27 FT (ah 26 GP (aw 29 xP (ah 30 FB (aw 28 Fo (aw 31 xW ΓO)))))
theorem Ii:Γtw0.Ok prog:=aJ (ac (aq (ac (aq (aq bM NY) qeQ) qe4) NU) qgc) qfk
def Γtw:Orc:={ Γtw0 with av:=true,bs:=true,sb:=true,wr:=fun f=>Nat.beq f 28||Nat.beq f 31 }
theorem Oktw:Γtw.Ok prog:=⟨Ii.call,Ii.rd,Ii.eqv⟩
theorem Vw (p:Int) (n:Nv) (L:List (List Dat)) (own mark:Bool):runG Γtw ΛTt prog f12 [.v (I p),.v (.agg #[I n.x1,I n.x2,I n.x3,I n.x4,I n.x5,I n.x6,I n.x7,I n.x8]),.row 0] ⟨[],[],[ig L own mark]⟩=(bif Nat.ble L.length 281474976710656 then (bif !qb L then some (.v (Bo true),⟨[],[],[ig L own mark]⟩) else (bif im (gh p) then (bif fP (cJ (gh p)) 0 0 iA&&fP (cJ (gh p)) 0 0 iA then (bif im (gh p) then (bif (0:Int)==0&&((L.length:Int)==(L.length:Int)&&kK (Cl (BC (gh p)) (J5 (gh p) n) L)) then some (.v (Bo true),⟨[],[],[ig L own mark]⟩) else none) else none) else none) else none)) else none):=by kernel_rfl
theorem Mt {k:Int} (h:im k=true):Qv (dd (cJ k) 0):=by
 have e:∀ k,(dd (cJ k) 0).R=gW (cJ k):=fun k=>by kernel_rfl
 have w1:(dd (cJ 1) 0).q.w=0:=by kernel_rfl
 have w2:(dd (cJ 2) 0).q.w=0:=by kernel_rfl
 have w3:(dd (cJ 3) 0).q.w=0:=by kernel_rfl
 have w4:(dd (cJ 4) 0).q.w=0:=by kernel_rfl
 refine ⟨?_,by rw [e];rfl⟩
 rcases sc h with rfl|rfl|rfl|rfl
 ·rw [w1];decide
 ·rw [w2];decide
 ·rw [w3];decide
 ·rw [w4];decide
theorem UP {k:Int} (h:im k=true):IK (BC k):=⟨⟨Mu h,Mt h⟩,⟨Mu h,Mt h⟩,Nat.zero_le _,Nat.zero_le _⟩
theorem topTells (p:Int) (n:Nv) (L:List (List Dat)) (own mark:Bool) (hw:∀ l∈L,dU sw l/\fu l) (hl:L.length<=281474976710656):runG Γtw ΛTt prog f12 [.v (I p),.v (.agg #[I n.x1,I n.x2,I n.x3,I n.x4,I n.x5,I n.x6,I n.x7,I n.x8]),.row 0] ⟨[],[],[ig L own mark]⟩=some (.v (Bo true),⟨[],[],[ig L own mark]⟩):=by
 refine (Vw p n L own mark).trans ?_
 have hk:=qav p
 rw [Nat.ble_eq_true_of_le hl,hk,qaX hk]
 cases hf:qb L
 ·rfl
 ·obtain ⟨h1,h2⟩:=qgu hw hf
  rw [nL.2 (show Cl (BC (gh p)) (J5 (gh p) n) L from ⟨UP hk,rfl,h1,h2⟩),beq_self_eq_true,beq_self_eq_true]
  rfl
theorem loopsOkTt (z:Base) (z1:z.L.length=0) (z2:z.U.length=1):∀ b∈aL (f12.body.getD .skip),a9 ΛTt prog z b:=bX qbi (qb3 z z1 z2)
end Go.Proofs.YtainfdcfkgemhaaGreat.Hr
namespace Go.Proofs.YtainfdcfkgemhaaGreat
open Go Go.Proofs Go.Sx
theorem topTellsLaw (a0:Int) (l1:List Dat) (l2:List (List Dat)) (_:(Lit.int .i64 a0).wf=true) (w1:dU [.num .i64,.num .i64,.num .i64,.num .i64,.num .i64,.num .i64,.num .i64,.num .i64] l1) (w2:∀ o∈l2,dU [.num .i8,.num .i8,.num .i8,.num .i8,.num .i8,.num .i8,.num .i8,.num .i8,.num .i8,.num .i8,.num .i8,.num .i8,.num .i8,.num .i8,.num .i8,.num .i64,.num .i64,.str,.str,.num .i64,.num .i64,.num .i64,.num .i64,.bool,.bool,.num .i64,.num .i64] o/\fu o) (n2:l2.length<=281474976710656):∃ m',runG Hr.Γtw Hr.ΛTt prog f12 (inArgs [.v (.int .i64 a0),.v (.agg (mkEl [.num .i64,.num .i64,.num .i64,.num .i64,.num .i64,.num .i64,.num .i64,.num .i64] l1).toArray),.row 75 [.num .i8,.num .i8,.num .i8,.num .i8,.num .i8,.num .i8,.num .i8,.num .i8,.num .i8,.num .i8,.num .i8,.num .i8,.num .i8,.num .i8,.num .i8,.num .i64,.num .i64,.str,.str,.num .i64,.num .i64,.num .i64,.num .i64,.bool,.bool,.num .i64,.num .i64] l2] 0) (inMem [.v (.int .i64 a0),.v (.agg (mkEl [.num .i64,.num .i64,.num .i64,.num .i64,.num .i64,.num .i64,.num .i64,.num .i64] l1).toArray),.row 75 [.num .i8,.num .i8,.num .i8,.num .i8,.num .i8,.num .i8,.num .i8,.num .i8,.num .i8,.num .i8,.num .i8,.num .i8,.num .i8,.num .i8,.num .i8,.num .i64,.num .i64,.str,.str,.num .i64,.num .i64,.num .i64,.num .i64,.bool,.bool,.num .i64,.num .i64] l2])=some (.v (.bool true),m'):=by
 obtain ⟨n,rfl⟩:=Hr.navs8' w1
 exact ⟨_,Hr.topTells a0 n l2 false false w2 n2⟩
end Go.Proofs.YtainfdcfkgemhaaGreat
