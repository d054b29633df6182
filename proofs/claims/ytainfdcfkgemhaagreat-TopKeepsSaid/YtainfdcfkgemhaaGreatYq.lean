/-
  How words and reports are read back;what is told is what is kept.
-/
import Derived.Test.YtainfdcfkgemhaaGreatYg
import Derived.Test.YtainfdcfkgemhaaGreatYl
import Derived.Test.YtainfdcfkgemhaaGreatYf
import Derived.Test.YtainfdcfkgemhaaGreatYn
set_option maxRecDepth 100000
noncomputable section
open Go.Proofs.Tryz
namespace Go.Proofs.YtainfdcfkgemhaaGreat.Pe
open Go Go.Proofs Go.Sx Nw
set_option linter.unusedVariables false
def ΓPd0:Orc:=ΓTa
theorem RN:ΓPd0.Ok prog:=qkr
theorem Vx (n m:Int):runG ΓPd0 L0 prog f198 [.v (I n),.v (I m)] M0 =
 (bif decide (n>=(0:Int)) then some (.v (.bool (decide (n<=m))),⟨[],[],[]⟩) else some (.v (.bool false),⟨[],[],[]⟩)):=by kernel_rfl
def Da (vs:List Value):Option (Bool×Value) :=
 match vs with
 | [.int .i64 n,.int .i64 m]=>some (true,Bo (inB n m))
 | _=>none
theorem qd7:am 198 Da:=by
 intro vs r h
 unfold Da at h
 split at h
 ·rename_i n m
  obtain ⟨h1,rfl⟩:=ab h
  refine ak (vs:=[I n,I m]) (Λ:=L0) (m':=M0) RN func198 rfl (fun z _ _=>bX _ z) ?_
  exact (Vx n m).trans (by unfold inB;cases decide (n>=0)<;>rfl)
 ·cases h
def ΓPd1:Orc:=ah 198 Da ΓPd0
theorem RM:ΓPd1.Ok prog:=af RN qd7
theorem Xz (c p s w:Int):runG ΓPd1 L0 prog f126 [.v (.agg #[I c,I p,I s,I w])] M0 =
 (bif inB c (1000000:Int) then (bif inB p (3:Int) then (bif inB s (2:Int) then some (.v (Bo (inB w (15:Int))),M0) else some (.v (Bo false),M0)) else some (.v (Bo false),M0)) else some (.v (Bo false),M0)):=by kernel_rfl
def ED (vs:List Value):Option (Bool×Value) :=
 match vs with
 | [.agg ⟨[.int .i64 c,.int .i64 p,.int .i64 s,.int .i64 w]⟩]=>some (true,Bo (gP c p s w))
 | _=>none
theorem qfn:am 126 ED:=by
 intro vs r h
 unfold ED at h
 split at h
 ·rename_i c p s w
  obtain ⟨h1,rfl⟩:=ab h
  refine ak (vs:=[.agg #[I c,I p,I s,I w]]) (Λ:=L0) (m':=M0) RM func126 rfl (fun z _ _=>bX _ z) ?_
  exact (Xz c p s w).trans (by unfold gP stR;cases inB c 1000000<;>cases inB p 3<;>cases inB s 2<;>rfl)
 ·cases h
def ΓPd2:Orc:=ah 126 ED ΓPd1
theorem RL:ΓPd2.Ok prog:=af RM qfn
theorem XB (c p s x y z u v f:Int):runG ΓPd2 L0 prog f128 [.v (.agg #[I c,I p,I s,I x,I y,I z,I u,I v,I f])] M0 =
 (bif inB c (1000000:Int) then (bif inB p (3:Int) then (bif inB s (2:Int) then (bif inB x (255:Int) then (bif inB y (255:Int) then (bif inB z (255:Int) then (bif inB u (4:Int) then (bif inB v (4:Int) then some (.v (Bo (inB f (255:Int))),M0) else some (.v (Bo false),M0)) else some (.v (Bo false),M0)) else some (.v (Bo false),M0)) else some (.v (Bo false),M0)) else some (.v (Bo false),M0)) else some (.v (Bo false),M0)) else some (.v (Bo false),M0)) else some (.v (Bo false),M0)):=by kernel_rfl
def EE (vs:List Value):Option (Bool×Value) :=
 match vs with
 | [.agg ⟨[.int .i64 c,.int .i64 p,.int .i64 s,.int .i64 x,.int .i64 y,.int .i64 z,.int .i64 u,.int .i64 v,.int .i64 f]⟩]=>some (true,Bo (fq c p s x y z u v f))
 | _=>none
theorem qfo:am 128 EE:=by
 intro vs r h
 unfold EE at h
 split at h
 ·rename_i c p s x y z u v f
  obtain ⟨h1,rfl⟩:=ab h
  refine ak (vs:=[.agg #[I c,I p,I s,I x,I y,I z,I u,I v,I f]]) (Λ:=L0) (m':=M0) RL func128 rfl (fun z _ _=>bX _ z) ?_
  exact (XB c p s x y z u v f).trans (by
   simp only [P3]
   unfold fq stR
   congr 4
   ac_rfl)
 ·cases h
def ΓPd3:Orc:=ah 128 EE ΓPd2
theorem RK:ΓPd3.Ok prog:=af RL qfo
theorem runOpen (s:ByteArray) (n:Int):runG ΓPd3 L0 prog f124 [.v (S s),.v (I n)] M0 =
 (bif decide (↑s.size<wI (n+(4:Int))) then some (.v (I 5),M0) else (bif decide (↑s.size>wI (n+(4:Int))) then some (.v (I 3),M0) else (bif true&&(decide ((0:Int)<=n)&&decide (n<=↑s.size)) then (bif (s.extract (0:Nat) n.toNat).size.ble (1000000) then (bif !(dh (s.extract (0:Nat) n.toNat)).toList==s.toList then some (.v (I 4),M0) else some (.v (I 0),M0)) else none) else none))):=by kernel_rfl
def E1 (vs:List Value):Option (Bool×Value) :=
 match vs with
 | [.string s,.int .i64 n]=>some ((n==4||(n==6||n==10))&&Nat.ble s.size 1000000,I (cu s n))
 | _=>none
theorem qfL:am 124 E1:=by
 intro vs r h
 unfold E1 at h
 split at h
 ·rename_i s n
  obtain ⟨h1,rfl⟩:=ab h
  refine ak (vs:=[S s,I n]) (Λ:=L0) (m':=M0) RK func124 rfl (fun z _ _=>bX _ z) ?_
  exact (runOpen s n).trans (by
   simp only [Bool.and_eq_true,Bool.or_eq_true,beq_iff_eq] at h1
   obtain ⟨h0,h1⟩:=h1
   have hz:=Nat.le_of_ble_eq_true h1
   have hw:wI (n+4)=n+4:=az (by omega)
   rw [hw]
   unfold cu
   by_cases c1:(s.size:Int)<n+4
   ·rw [decide_eq_true c1,if_pos c1];rfl
   by_cases c2:(s.size:Int)>n+4
   ·rw [decide_eq_false c1,decide_eq_true c2,if_neg c1,if_pos c2];rfl
   rw [decide_eq_false c1,decide_eq_false c2,if_neg c1,if_neg c2,decide_eq_true (show 0<=n by omega),decide_eq_true (show n<=(s.size:Int) by omega),Nat.ble_eq_true_of_le (show (s.extract 0 n.toNat).size<=1000000 by rw [ByteArray.size_extract];omega),mN]
   cases dh (s.extract 0 n.toNat)==s<;>rfl)
 ·cases h
def ΓPd4:Orc:=ah 124 E1 ΓPd3
theorem RJ:ΓPd4.Ok prog:=af RK qfL
theorem Yh (s:ByteArray):runG ΓPd4 L0 prog f125 [.v (S s)] M0 =
 (bif true&&decide ((0:Int)<↑s.size) then (bif true&&decide ((1:Int)<↑s.size) then (bif true&&decide ((2:Int)<↑s.size) then (bif true&&decide ((3:Int)<↑s.size) then some (.v (I (wI (wI (wI (wI (wI (aa s (0:Int))*(16777216:Int))+wI (wI (aa s (1:Int))*(65536:Int)))+wI (wI (aa s (2:Int))*(256:Int)))+wI (aa s (3:Int))))),M0) else none) else none) else none) else none):=by kernel_rfl
def E7 (vs:List Value):Option (Bool×Value) :=
 match vs with
 | [.string s]=>some (Nat.ble 4 s.size&&Nat.ble s.size 1000000,I (bY s))
 | _=>none
theorem qfS:am 125 E7:=by
 intro vs r h
 unfold E7 at h
 split at h
 ·rename_i s
  obtain ⟨h1,rfl⟩:=ab h
  refine ak (vs:=[S s]) (Λ:=L0) (m':=M0) RJ func125 rfl (fun z _ _=>bX _ z) ?_
  exact (Yh s).trans (by
   simp only [Bool.and_eq_true] at h1
   have h2:=Nat.le_of_ble_eq_true h1.1
   have hn:=MP (s:=s) (i:=0) (by omega)
   have r0:=d5 s 0
   have r1:=d5 s 1
   have r2:=d5 s 2
   have r3:=d5 s 3
   rw [show (0+4:Nat)=4 from rfl,show (0+1:Nat)=1 from rfl,show (0+2:Nat)=2 from rfl,show (0+3:Nat)=3 from rfl] at hn
   have q0:((0:Nat):Int)=0:=rfl
   have q1:((1:Nat):Int)=1:=rfl
   have q2:((2:Nat):Int)=2:=rfl
   have q3:((3:Nat):Int)=3:=rfl
   rw [q0] at r0 hn
   rw [q1] at r1 hn
   rw [q2] at r2 hn
   rw [q3] at r3 hn
   unfold bY
   rw [hn]
   generalize aa s 0=y0 at *
   generalize aa s 1=y1 at *
   generalize aa s 2=y2 at *
   generalize aa s 3=y3 at *
   rw [az (n:=y0) (by omega),az (n:=y1) (by omega),az (n:=y2) (by omega),az (n:=y3) (by omega),az (n:=y0*16777216) (by omega),az (n:=y1*65536) (by omega),az (n:=y2*256) (by omega),az (n:=y0*16777216+y1*65536) (by omega),az (n:=y0*16777216+y1*65536+y2*256) (by omega),decide_eq_true (show (0:Int)<(s.size:Int) by omega),decide_eq_true (show (1:Int)<(s.size:Int) by omega),decide_eq_true (show (2:Int)<(s.size:Int) by omega),decide_eq_true (show (3:Int)<(s.size:Int) by omega)]
   rfl)
 ·cases h
def ΓPd5:Orc:=ah 125 E7 ΓPd4
theorem RI:ΓPd5.Ok prog:=af RJ qfS
theorem Xy (s:ByteArray):runG ΓPd5 L0 prog f63 [.v (S s)] M0 =
 (bif true&&s.size.ble (1000000) then (bif cu s (6:Int) != (0:Int) then some (.v (.tuple #[(.agg #[(I 0),(I 0),(I 0),(I 0)]),(I (cu s (6:Int)))]),M0) else (bif Nat.ble (4) s.size&&s.size.ble (1000000) then (bif true&&decide ((4:Int)<↑s.size) then (bif true&&decide ((4:Int)<↑s.size) then (bif true&&decide ((5:Int)<↑s.size) then (bif !gP (bY s) ((wI (aa s (4:Int))).tmod (16:Int)) (wI ((wI (aa s (4:Int))).tdiv (16:Int))) (wI (aa s (5:Int))) then some (.v (.tuple #[(.agg #[(I 0),(I 0),(I 0),(I 0)]),(I 3)]),M0) else some (.v (.tuple #[(.agg #[(I (bY s)),(I ((wI (aa s (4:Int))).tmod (16:Int))),(I (wI ((wI (aa s (4:Int))).tdiv (16:Int)))),(I (wI (aa s (5:Int))))]),(I 0)]),M0)) else none) else none) else none) else none)) else none):=by kernel_rfl
def xP (vs:List Value):Option (Bool×Value) :=
 match vs with
 | [.string s]=>some (Nat.ble s.size 1000000,.tuple #[.agg #[I (bz (cO s==0) (bY s)),I (bz (cO s==0) (bF s 4)),I (bz (cO s==0) (bG s 4)),I (bz (cO s==0) (wI (aa s 5)))],I (cO s)])
 | _=>none
theorem Oc:am 63 xP:=by
 intro vs r h
 unfold xP at h
 split at h
 ·rename_i s
  obtain ⟨h1,rfl⟩:=ab h
  refine ak (vs:=[S s]) (Λ:=L0) (m':=M0) RI func63 rfl (fun z _ _=>bX _ z) ?_
  exact (Xy s).trans (by
   rw [h1]
   unfold cO
   rcases y6 s 6 with he|he|he|he
   ·rw [he];rfl
   ·rw [he];rfl
   ·rw [he];rfl
   ·have hs:=qF he
    have hl4:=sK s 4
    have hh4:=tk s 4
    have r4:=d5 s 4
    have q4:=gQ s 4
    rw [show ((4:Nat):Int)=4 from rfl] at hl4 hh4 r4 q4
    rw [he,Nat.ble_eq_true_of_le (show 4<=s.size by omega),decide_eq_true (show (5:Int)<(s.size:Int) by omega),decide_eq_true (show (4:Int)<(s.size:Int) by omega),Tp he,q4,Int.tmod_eq_emod_of_nonneg r4.1,Int.tdiv_eq_ediv_of_nonneg r4.1,az (n:=aa s 4 / 16) (by omega),<- hl4,<- hh4]
    cases gP (bY s) (bF s 4) (bG s 4) (wI (aa s 5))<;>rfl)
 ·cases h
def ΓPd6:Orc:=ah 63 xP ΓPd5
theorem RH:ΓPd6.Ok prog:=af RI Oc
theorem XA (s:ByteArray):runG ΓPd6 L0 prog f65 [.v (S s)] M0 =
 (bif true&&s.size.ble (1000000) then (bif cu s (10:Int) != (0:Int) then some (.v (.tuple #[(.agg #[(I 0),(I 0),(I 0),(I 0),(I 0),(I 0),(I 0),(I 0),(I 0)]),(I (cu s (10:Int)))]),M0) else (bif Nat.ble (4) s.size&&s.size.ble (1000000) then (bif true&&decide ((4:Int)<↑s.size) then (bif true&&decide ((4:Int)<↑s.size) then (bif true&&decide ((5:Int)<↑s.size) then (bif true&&decide ((6:Int)<↑s.size) then (bif true&&decide ((7:Int)<↑s.size) then (bif true&&decide ((8:Int)<↑s.size) then (bif true&&decide ((8:Int)<↑s.size) then (bif true&&decide ((9:Int)<↑s.size) then (bif !fq (bY s) ((wI (aa s (4:Int))).tmod (16:Int)) (wI ((wI (aa s (4:Int))).tdiv (16:Int))) (wI (aa s (5:Int))) (wI (aa s (6:Int))) (wI (aa s (7:Int))) ((wI (aa s (8:Int))).tmod (16:Int)) (wI ((wI (aa s (8:Int))).tdiv (16:Int))) (wI (aa s (9:Int))) then some (.v (.tuple #[(.agg #[(I 0),(I 0),(I 0),(I 0),(I 0),(I 0),(I 0),(I 0),(I 0)]),(I 3)]),M0) else some (.v (.tuple #[(.agg #[(I (bY s)),(I ((wI (aa s (4:Int))).tmod (16:Int))),(I (wI ((wI (aa s (4:Int))).tdiv (16:Int)))),(I (wI (aa s (5:Int)))),(I (wI (aa s (6:Int)))),(I (wI (aa s (7:Int)))),(I ((wI (aa s (8:Int))).tmod (16:Int))),(I (wI ((wI (aa s (8:Int))).tdiv (16:Int)))),(I (wI (aa s (9:Int))))]),(I 0)]),M0)) else none) else none) else none) else none) else none) else none) else none) else none) else none)) else none):=by kernel_rfl
def xQ (vs:List Value):Option (Bool×Value) :=
 match vs with
 | [.string s]=>some (Nat.ble s.size 1000000,.tuple #[.agg #[I (bz (di s==0) (bY s)),I (bz (di s==0) (bF s 4)),I (bz (di s==0) (bG s 4)),I (bz (di s==0) (wI (aa s 5))),I (bz (di s==0) (wI (aa s 6))),I (bz (di s==0) (wI (aa s 7))),I (bz (di s==0) (bF s 8)),I (bz (di s==0) (bG s 8)),I (bz (di s==0) (wI (aa s 9)))],I (di s)])
 | _=>none
theorem Od:am 65 xQ:=by
 intro vs r h
 unfold xQ at h
 split at h
 ·rename_i s
  obtain ⟨h1,rfl⟩:=ab h
  refine ak (vs:=[S s]) (Λ:=L0) (m':=M0) RH func65 rfl (fun z _ _=>bX _ z) ?_
  exact (XA s).trans (by
   rw [h1]
   unfold di
   rcases y6 s 10 with he|he|he|he
   ·rw [he];rfl
   ·rw [he];rfl
   ·rw [he];rfl
   ·have hs:=qF he
    have hl4:=sK s 4
    have hh4:=tk s 4
    have r4:=d5 s 4
    have q4:=gQ s 4
    rw [show ((4:Nat):Int)=4 from rfl] at hl4 hh4 r4 q4
    have hl8:=sK s 8
    have hh8:=tk s 8
    have r8:=d5 s 8
    have q8:=gQ s 8
    rw [show ((8:Nat):Int)=8 from rfl] at hl8 hh8 r8 q8
    rw [he,Nat.ble_eq_true_of_le (show 4<=s.size by omega)]
    simp only [decide_eq_true (show (5:Int)<(s.size:Int) by omega),decide_eq_true (show (4:Int)<(s.size:Int) by omega),decide_eq_true (show (6:Int)<(s.size:Int) by omega),decide_eq_true (show (7:Int)<(s.size:Int) by omega),decide_eq_true (show (8:Int)<(s.size:Int) by omega),decide_eq_true (show (9:Int)<(s.size:Int) by omega)]
    rw [qaE he,q4,q8,Int.tmod_eq_emod_of_nonneg r4.1,Int.tdiv_eq_ediv_of_nonneg r4.1,Int.tmod_eq_emod_of_nonneg r8.1,Int.tdiv_eq_ediv_of_nonneg r8.1,az (n:=aa s 4 / 16) (by omega),az (n:=aa s 8 / 16) (by omega),<- hl4,<- hh4,<- hl8,<- hh8]
    cases fq (bY s) (bF s 4) (bG s 4) (wI (aa s 5)) (wI (aa s 6)) (wI (aa s 7)) (bF s 8) (bG s 8) (wI (aa s 9))<;>rfl)
 ·cases h
def ΓPd7:Orc:=ah 65 xQ ΓPd6
theorem RG:ΓPd7.Ok prog:=af RH Od
end Go.Proofs.YtainfdcfkgemhaaGreat.Pe
namespace Go.Proofs.YtainfdcfkgemhaaGreat.Pe
open Go Go.Proofs Go.Sx Nw
set_option linter.unusedVariables false
theorem Lm {b:ByteArray} {n:Nat} (h:b.size=n):cu (dh b) (n:Int)=0/\(dh b).size=n+4/\(dh b).extract 0 n=b:=by
 have hs:=U9 b
 have he:(dh b).extract 0 n=b:=by
  unfold dh
  rw [OX (by omega),<- h,yG]
 refine ⟨?_,by omega,he⟩
 unfold cu
 rw [if_neg (by omega),if_neg (by omega),Int.toNat_natCast,he]
 exact if_pos ((ic _ _).2 rfl)
theorem SL (b:ByteArray):L (dh b)=L b++L (be 4 (f7 b)):=by unfold dh;rw [de]
theorem bytesAt {s:ByteArray} {l r:List UInt8} {i:Nat} {x:Int} (h:L s=l++r) (hx:l[i]?=some (UInt8.ofNat (x % 256).toNat)):aa s (i:Int)=x % 256:=by
 have hi:i<l.length:=(List.getElem?_eq_some_iff.1 hx).1
 rw [dR,h,List.getElem?_append_left hi,hx]
 exact pd (by omega) (by omega)
theorem CT {n m:Int}:inB n m=true↔0<=n/\n<=m:=by
 unfold inB
 rw [Bool.and_eq_true,decide_eq_true_eq,decide_eq_true_eq]
theorem Co {s:ByteArray} {i:Nat} {p w:Int} (h:aa s (i:Int)=cY p w % 256) (h0:0<=p) (h1:p<=15) (h2:0<=w) (h3:w<=15):bF s (i:Int)=p/\bG s (i:Int)=w:=by
 have e:cY p w=p+16*w:=by unfold cY;rw [az (n:=16*w) (by omega),az (by omega)]
 rw [sK,tk,h,e]
 omega
theorem Tq (c p w x:Int):∃ t,L (df c p w x)=[UInt8.ofNat (c / 256 ^ 3 % 256).toNat,UInt8.ofNat (c / 256 ^ 2 % 256).toNat,UInt8.ofNat (c / 256 ^ 1 % 256).toNat,UInt8.ofNat (c / 256 ^ 0 % 256).toNat,UInt8.ofNat (cY p w / 256 ^ 0 % 256).toNat,UInt8.ofNat (x / 256 ^ 0 % 256).toNat]++t :=
 ⟨_,by unfold df;rw [SL,de,de];rfl⟩
theorem Pk {s:ByteArray} {c:Int} {l:List UInt8} (h:L s=[UInt8.ofNat (c / 256 ^ 3 % 256).toNat,UInt8.ofNat (c / 256 ^ 2 % 256).toNat,UInt8.ofNat (c / 256 ^ 1 % 256).toNat,UInt8.ofNat (c / 256 ^ 0 % 256).toNat]++l) (h0:0<=c) (h1:c<=1000000):bY s=c:=by
 have:s.extract 0 4=be 4 c:=by
  rw [<- gM,fO,h]
  rfl
 unfold bY
 rw [this,wL,az (by omega)]
 omega
theorem div0 (x:Int):x / 256 ^ 0 % 256=x % 256:=by omega
theorem To {c p w x:Int} (h:gP c p w x=true):jK c p w x=df c p w x/\(df c p w x).size=10/\cO (df c p w x)=0/\bY (df c p w x)=c/\bF (df c p w x) 4=p/\bG (df c p w x) 4=w/\wI (aa (df c p w x) 5)=x:=by
 have hT:jK c p w x=df c p w x:=by unfold jK;rw [h];rfl
 have h':=h
 unfold gP stR at h'
 simp only [Bool.and_eq_true,CT] at h'
 obtain ⟨t,hl⟩:=Tq c p w x
 obtain ⟨k1,k2,k3⟩:=Lm (b:=(be 4 c++be 1 (cY p w))++be 1 x) (n:=6) (by simp only [ByteArray.size_append,gh])
 have k1:cu (df c p w x) 6=0:=k1
 have k2:(df c p w x).size=10:=k2
 have e1:bY (df c p w x)=c:=Pk (l:=UInt8.ofNat (cY p w / 256 ^ 0 % 256).toNat::UInt8.ofNat (x / 256 ^ 0 % 256).toNat::t) (by rw [hl];rfl) h'.1.1.1 h'.1.1.2
 have s4:aa (df c p w x) ((4:Nat):Int)=cY p w % 256:=bytesAt hl (by rw [<- div0 (cY p w)];rfl)
 have s5:aa (df c p w x) ((5:Nat):Int)=x % 256:=bytesAt hl (by rw [<- div0 (x)];rfl)
 obtain ⟨e2,e3⟩:=Co s4 (by omega) (by omega) (by omega) (by omega)
 have e4:wI (aa (df c p w x) ((5:Nat):Int))=x:=by rw [gQ,s5];omega
 have e2:bF (df c p w x) 4=p:=e2
 have e3:bG (df c p w x) 4=w:=e3
 have e4:wI (aa (df c p w x) 5)=x:=e4
 refine ⟨hT,k2,?_,e1,e2,e3,e4⟩
 have hw:oZ (df c p w x)=true:=by unfold oZ;rw [e1,e2,e3,e4,hT];exact (ic _ _).2 rfl
 unfold cO
 rw [k1,hw]
 rfl
theorem qaF (c p w x y z u v f:Int):∃ t,L (dC c p w x y z u v f)=[UInt8.ofNat (c / 256 ^ 3 % 256).toNat,UInt8.ofNat (c / 256 ^ 2 % 256).toNat,UInt8.ofNat (c / 256 ^ 1 % 256).toNat,UInt8.ofNat (c / 256 ^ 0 % 256).toNat,UInt8.ofNat (cY p w / 256 ^ 0 % 256).toNat,UInt8.ofNat (x / 256 ^ 0 % 256).toNat,UInt8.ofNat (y / 256 ^ 0 % 256).toNat,UInt8.ofNat (z / 256 ^ 0 % 256).toNat,UInt8.ofNat (cY u v / 256 ^ 0 % 256).toNat,UInt8.ofNat (f / 256 ^ 0 % 256).toNat]++t :=
 ⟨_,by unfold dC;rw [SL,de,de,de,de,de,de];rfl⟩
theorem qaD {c p w x y z u v f:Int} (h:fq c p w x y z u v f=true):lX c p w x y z u v f=dC c p w x y z u v f/\(dC c p w x y z u v f).size=14/\di (dC c p w x y z u v f)=0/\bY (dC c p w x y z u v f)=c/\bF (dC c p w x y z u v f) 4=p/\bG (dC c p w x y z u v f) 4=w/\wI (aa (dC c p w x y z u v f) 5)=x/\wI (aa (dC c p w x y z u v f) 6)=y/\wI (aa (dC c p w x y z u v f) 7)=z/\bF (dC c p w x y z u v f) 8=u/\bG (dC c p w x y z u v f) 8=v/\wI (aa (dC c p w x y z u v f) 9)=f:=by
 have hT:lX c p w x y z u v f=dC c p w x y z u v f:=by unfold lX;rw [h];rfl
 have h':=h
 unfold fq stR at h'
 simp only [Bool.and_eq_true,CT] at h'
 obtain ⟨t,hl⟩:=qaF c p w x y z u v f
 obtain ⟨k1,k2,k3⟩:=Lm (b:=(((be 4 c++be 1 (cY p w))++((be 1 x++be 1 y)++be 1 z))++be 1 (cY u v))++be 1 f) (n:=10) (by simp only [ByteArray.size_append,gh])
 have k1:cu (dC c p w x y z u v f) 10=0:=k1
 have k2:(dC c p w x y z u v f).size=14:=k2
 generalize hB:dC c p w x y z u v f=B at *
 have e1:bY B=c:=by
  refine Pk (l:=_) (by rw [hl];rfl) h'.2.2.1.1 h'.2.2.1.2
 have s4:aa B ((4:Nat):Int)=cY p w % 256:=bytesAt hl (by rw [<- div0 (cY p w)];rfl)
 have s5:aa B ((5:Nat):Int)=x % 256:=bytesAt hl (by rw [<- div0 (x)];rfl)
 have s6:aa B ((6:Nat):Int)=y % 256:=bytesAt hl (by rw [<- div0 (y)];rfl)
 have s7:aa B ((7:Nat):Int)=z % 256:=bytesAt hl (by rw [<- div0 (z)];rfl)
 have s8:aa B ((8:Nat):Int)=cY u v % 256:=bytesAt hl (by rw [<- div0 (cY u v)];rfl)
 have s9:aa B ((9:Nat):Int)=f % 256:=bytesAt hl (by rw [<- div0 (f)];rfl)
 obtain ⟨e2,e3⟩:=Co s4 (by omega) (by omega) (by omega) (by omega)
 obtain ⟨e7,e8⟩:=Co s8 (by omega) (by omega) (by omega) (by omega)
 have e4:wI (aa B ((5:Nat):Int))=x:=by rw [gQ,s5];omega
 have e5:wI (aa B ((6:Nat):Int))=y:=by rw [gQ,s6];omega
 have e6:wI (aa B ((7:Nat):Int))=z:=by rw [gQ,s7];omega
 have e9:wI (aa B ((9:Nat):Int))=f:=by rw [gQ,s9];omega
 have e2:bF B 4=p:=e2
 have e3:bG B 4=w:=e3
 have e4:wI (aa B 5)=x:=e4
 have e5:wI (aa B 6)=y:=e5
 have e6:wI (aa B 7)=z:=e6
 have e7:bF B 8=u:=e7
 have e8:bG B 8=v:=e8
 have e9:wI (aa B 9)=f:=e9
 refine ⟨hT,k2,?_,e1,e2,e3,e4,e5,e6,e7,e8,e9⟩
 have hw:sj B=true:=by unfold sj;rw [e1,e2,e3,e4,e5,e6,e7,e8,e9,hT];exact (ic _ _).2 rfl
 unfold di
 rw [k1,hw]
 rfl
end Go.Proofs.YtainfdcfkgemhaaGreat.Pe
namespace Go.Proofs.YtainfdcfkgemhaaGreat.Hr
open Go Go.Proofs Go.Sx Nw Pe So
set_option linter.unusedVariables false
def fY (s:ByteArray):Bool:=aX s==0&&(bI s==(s.size:Int)&&(eV s==64&&di (aN s)==0))
def KA (s:ByteArray):Value:=.tuple #[.agg #[I (bz (fY s) (bY (aN s))),I (bz (fY s) (bF (aN s) 4)),I (bz (fY s) (bG (aN s) 4)),I (bz (fY s) (wI (aa (aN s) 5))),I (bz (fY s) (wI (aa (aN s) 6))),I (bz (fY s) (wI (aa (aN s) 7))),I (bz (fY s) (bF (aN s) 8)),I (bz (fY s) (bG (aN s) 8)),I (bz (fY s) (wI (aa (aN s) 9)))],Bo (fY s)]
def Ba:Value:=.tuple #[.agg #[I 0,I 0,I 0,I 0,I 0,I 0,I 0,I 0,I 0],Bo false]
def rpV (s:ByteArray):Value:=.tuple #[.agg #[I (bz (di s==0) (bY s)),I (bz (di s==0) (bF s 4)),I (bz (di s==0) (bG s 4)),I (bz (di s==0) (wI (aa s 5))),I (bz (di s==0) (wI (aa s 6))),I (bz (di s==0) (wI (aa s 7))),I (bz (di s==0) (bF s 8)),I (bz (di s==0) (bG s 8)),I (bz (di s==0) (wI (aa s 9)))],Bo (di s==0)]
def Γto24:Orc:=ah 65 xQ (ah 64 xO ΓPd7)
theorem qjN:Γto24.Ok prog:=af (af RG Ob) Od
theorem VV (s:ByteArray):runG Γto24 L0 prog f23 [.v (S s)] M0=(bif aX s != 0 then some (.v Ba,M0) else (bif bI s != (s.size:Int) then some (.v Ba,M0) else (bif eV s != 64 then some (.v Ba,M0) else (bif Nat.ble (aN s).size 1000000 then some (.v (rpV (aN s)),M0) else none)))):=by kernel_rfl
theorem L3 (s:ByteArray):(aN s).size<=s.size:=by
 unfold aN
 cases aX s==0
 ·exact Nat.zero_le _
 ·show (eX s).size<=s.size
  unfold eX
  rw [ByteArray.size_extract]
  omega
def xF (vs:List Value):Option (Bool×Value) :=
 match vs with
 | [.string s]=>some (Nat.ble s.size 1000000,KA s)
 | _=>none
theorem N3:am 23 xF:=by
 intro vs r h
 unfold xF at h
 split at h
 ·rename_i s
  obtain ⟨h1,rfl⟩:=ab h
  have h1:=Nat.le_of_ble_eq_true h1
  refine ak (vs:=[S s]) (Λ:=L0) (m':=M0) qjN func23 rfl ai ((VV s).trans ?_)
  rw [Nat.ble_eq_true_of_le (show (aN s).size<=1000000 by have:=L3 s;omega)]
  unfold KA fY
  simp only [bne]
  cases aX s==0
  ·rfl
  ·cases bI s==(s.size:Int)
   ·rfl
   ·cases eV s==64
    ·rfl
    ·rfl
 ·cases h
def kX (s:ByteArray):Bool:=eV s==48&&cO (aN s)==0
def mt (s:ByteArray):Bool:=aX s==0&&(bI s==(s.size:Int)&&Nat.ble s.size 1000000)
def NU (s:ByteArray):Value:=.tuple #[.agg #[I (bz (kX s) (bY (aN s))),I (bz (kX s) (bF (aN s) 4)),I (bz (kX s) (bG (aN s) 4)),I (bz (kX s) (wI (aa (aN s) 5)))],Bo (kX s)]
def D5 (xs:List SV) (m:Mem):Option (Bool×SV×Mem) :=
 match xs,m with
 | [.v (.string s)],⟨[],[],[]⟩=>some (mt s,.tup [.one (.row 0),.one (.v (S ⟨#[]⟩)),.one (.v (I 0))],⟨[],[],[lc 151 [fr s]]⟩)
 | _,_=>none
theorem Ln {s:ByteArray} (h:mt s=true):dB s=[fr s]/\sR s=⟨#[]⟩/\sD s=0/\s.size<=1000000:=by
 unfold mt at h
 simp only [Bool.and_eq_true,beq_iff_eq] at h
 obtain ⟨h1,h2,h3⟩:=h
 obtain ⟨a1,a2,a3⟩:=pC h1
 have e:s.extract (bI s).toNat s.size=⟨#[]⟩:=by
  rw [h2,Int.toNat_natCast]
  apply ByteArray.ext
  rw [ByteArray.data_extract]
  apply Array.ext'
  rw [Array.toList_extract,List.extract_eq_take_drop,Nat.sub_self,List.take_zero]
 have z:aX (⟨#[]⟩:ByteArray)=5:=by kernel_rfl
 obtain ⟨b1,b2,b3⟩:=pB z
 rw [e] at a1 a2 a3
 rw [b1] at a1
 rw [b2] at a2
 rw [b3] at a3
 exact ⟨a1,a2,a3,Nat.le_of_ble_eq_true h3⟩
theorem qeW:aQ 62 D5:=by
 intro xs m r m' h
 unfold D5 at h
 split at h
 ·rename_i s
  obtain ⟨h1,rfl,rfl⟩:=aw h
  obtain ⟨a1,a2,a3,a4⟩:=Ln h1
  refine N7 _ _ _ _ ?_
  show some (Nat.ble s.size 1000000,SV.tup [.one (.row 0),.one (.v (S (sR s))),.one (.v (I ((sD s:Nat):Int)))],(⟨[],[],[lc 151 (dB s)]⟩:Mem))=_
  rw [a1,a2,a3,Nat.ble_eq_true_of_le a4]
  rfl
 ·cases h
def Γhd:Orc:=ah 63 xP (aC 62 D5 ΓPd7)
theorem qkc:Γhd.Ok prog:=af (aA RG qeW) Oc
def NS:Value:=.tuple #[.agg #[I 0,I 0,I 0,I 0],Bo false]
def NT (s:ByteArray):Value:=.tuple #[.agg #[I (bz (cO s==0) (bY s)),I (bz (cO s==0) (bF s 4)),I (bz (cO s==0) (bG s 4)),I (bz (cO s==0) (wI (aa s 5)))],Bo true]
theorem YW (s:ByteArray):runG Γhd L0 prog f22 [.v (S s)] M0=(bif mt s then (bif Nat.ble (aN s).size 1000000 then (bif eV s==48 then (bif cO (aN s)==0 then some (.v (NT (aN s)),M0) else some (.v NS,M0)) else some (.v NS,M0)) else none) else none):=by kernel_rfl
def FF (vs:List Value):Option (Bool×Value) :=
 match vs with
 | [.string s]=>some (mt s,NU s)
 | _=>none
theorem qgo:am 22 FF:=by
 intro vs r h
 unfold FF at h
 split at h
 ·rename_i s
  obtain ⟨h1,rfl⟩:=ab h
  have h2:=(Ln h1).2.2.2
  refine ak (vs:=[S s]) (Λ:=L0) (m':=M0) qkc func22 rfl (fun z _ _ b hb st t h=>by cases h) ((YW s).trans ?_)
  rw [h1,Nat.ble_eq_true_of_le (show (aN s).size<=1000000 by have:=L3 s;omega)]
  unfold NU kX NT
  cases eV s==48
  ·rfl
  ·cases cO (aN s)==0<;>rfl
 ·cases h
end Go.Proofs.YtainfdcfkgemhaaGreat.Hr
namespace Go.Proofs.YtainfdcfkgemhaaGreat.Hr
open Go Go.Proofs Go.Sx Nw Pe So
set_option linter.unusedVariables false
theorem qjh (s:ByteArray):s++(⟨#[]⟩:ByteArray)=s:=by
 apply ByteArray.ext
 rw [ByteArray.data_append]
 exact Array.append_empty
theorem OQ {k:Int} {p:ByteArray} (hk:0<=k/\k<=255) (h0:0<p.size) (h1:p.size<=64):aX (hU k p)=0/\eV (hU k p)=k/\aN (hU k p)=p/\bI (hU k p)=((hU k p).size:Int):=by
 have hr:eh k p=true:=by
  unfold eh
  rw [decide_eq_true (show k>=0 from hk.1),decide_eq_true hk.2,decide_eq_true (show (p.size:Int)<=64 by omega)]
  rfl
 have e:hU k p=cn k p:=by
  unfold hU
  rw [mN]
  have:(p==(⟨#[]⟩:ByteArray))=false:=by
   cases e:p==(⟨#[]⟩:ByteArray)
   ·rfl
   ·rw [ic] at e
    rw [e] at h0
    exact absurd h0 (by decide)
  rw [this]
  exact qaZ hr
 obtain ⟨a1,a2,a3,a4⟩:=qaM hr ⟨#[]⟩
 rw [qjh] at a1 a2 a3 a4
 rw [e]
 exact ⟨a1,a2,a3,a4⟩
theorem T0 {c p s x y z u v f:Int} (h:fq c p s x y z u v f=true):fY (dj c p s x y z u v f)=true/\bY (aN (dj c p s x y z u v f))=c/\bF (aN (dj c p s x y z u v f)) 4=p/\bG (aN (dj c p s x y z u v f)) 4=s/\wI (aa (aN (dj c p s x y z u v f)) 5)=x/\wI (aa (aN (dj c p s x y z u v f)) 6)=y/\wI (aa (aN (dj c p s x y z u v f)) 7)=z/\bF (aN (dj c p s x y z u v f)) 8=u/\bG (aN (dj c p s x y z u v f)) 8=v/\wI (aa (aN (dj c p s x y z u v f)) 9)=f:=by
 obtain ⟨a0,a1,a2,a3⟩:=qaD h
 obtain ⟨b1,b2,b3,b4⟩:=OQ (k:=64) (p:=dC c p s x y z u v f) (by decide) (by omega) (by omega)
 unfold dj fY
 rw [a0,b1,b2,b3,b4,a2]
 simp only [beq_self_eq_true,Bool.and_self,true_and]
 exact a3
theorem qdX {c p s w:Int} (h:gP c p s w=true):mt (gp c p s w)=true/\kX (gp c p s w)=true/\bY (aN (gp c p s w))=c/\bF (aN (gp c p s w)) 4=p/\bG (aN (gp c p s w)) 4=s:=by
 obtain ⟨a0,a1,a2,a3,a4,a5,a6⟩:=To h
 obtain ⟨b1,b2,b3,b4⟩:=OQ (k:=48) (p:=df c p s w) (by decide) (by omega) (by omega)
 have hs:(gp c p s w).size<=70:=OR _ _
 unfold mt
 rw [Nat.ble_eq_true_of_le (show (gp c p s w).size<=1000000 by omega)]
 unfold gp kX
 rw [a0,b1,b2,b3,b4,a2]
 simp only [beq_self_eq_true,Bool.and_self,true_and]
 exact ⟨a3,a4,a5⟩
theorem lL {n l m:Int} (h:La.withB n l m=true):l<=n/\n<=m:=by
 unfold La.withB at h
 by_cases h1:n>=l
 ·rw [decide_eq_true h1] at h
  exact ⟨h1,of_decide_eq_true h⟩
 ·rw [decide_eq_false h1] at h;cases h
theorem LO {q c p s f v d i n:Int} (h:La.rightL q c p s f v d i n=true):(0<=v/\v<=255)/\(0<=d/\d<=255)/\(0<=i/\i<=255)/\(0<=p/\p<=3)/\(0<=s/\s<=2)/\(0<=f/\f<=1)/\(1<=q/\q<=2147483648)/\(0<=c/\c<=1000000):=by
 unfold La.rightL at h
 cases h1:La.withB v 0 255
 ·rw [h1] at h;cases h
 cases h2:La.withB d 0 255
 ·rw [h1,h2] at h;cases h
 cases h3:La.withB i 0 255
 ·rw [h1,h2,h3] at h;cases h
 cases h4:La.withB p 0 3
 ·rw [h1,h2,h3,h4] at h;cases h
 cases h5:La.withB s 0 2
 ·rw [h1,h2,h3,h4,h5] at h;cases h
 cases h6:La.withB f 0 1
 ·rw [h1,h2,h3,h4,h5,h6] at h;cases h
 cases h7:La.withB q 1 2147483648
 ·rw [h1,h2,h3,h4,h5,h6,h7] at h;cases h
 cases h8:La.withB c 0 1000000
 ·rw [h1,h2,h3,h4,h5,h6,h7,h8] at h;cases h
 exact ⟨lL h1,lL h2,lL h3,lL h4,lL h5,lL h6,lL h7,lL h8⟩
theorem qN {n m:Int} (hm:0<=m/\m<=2147483648) (h:dP n m=false):-m<=n/\n<=m:=by
 unfold dP at h
 rw [az (n:=0 - m) (by omega)] at h
 by_cases h1:n<0 - m
 ·rw [decide_eq_true h1] at h;cases h
 ·rw [decide_eq_false h1] at h
  have:=of_decide_eq_false h
  omega
theorem qhK {x y z vx vy vz:Int} (h:fH x y z vx vy vz=false):(-1073741824<=x/\x<=1073741824)/\(-1073741824<=y/\y<=1073741824)/\(-1073741824<=z/\z<=1073741824)/\(-65536<=vx/\vx<=65536)/\(-65536<=vy/\vy<=65536)/\(-65536<=vz/\vz<=65536):=by
 unfold fH at h
 simp only [Bool.or_eq_false_iff] at h
 obtain ⟨h1,h2,h3,h4,h5,h6⟩:=h
 exact ⟨qN (by decide) h1,qN (by decide) h2,qN (by decide) h3,qN (by decide) h4,qN (by decide) h5,qN (by decide) h6⟩
theorem qhL {L:List (List Dat)} {hs:Bool} {l1 l6 l7 l8 P:Int} (h:dG L hs l1 l6 l7 l8 P=0):fH (gA L) (gy L) (gw L) (dr L) (dq L) (dp L)=false:=by
 unfold dG at h
 cases e:(L.length:Int)==0
 ·rw [e] at h
  cases f:fH (gA L) (gy L) (gw L) (dr L) (dq L) (dp L)
  ·rfl
  ·exfalso
   rw [f] at h
   generalize (hs&&iC L==l1)=a at h
   generalize (iB L != 0)=b at h
   generalize (hs&&fa (dr L) (dq L) (dp L) l6 l7 l8 P)=c at h
   revert h
   cases a<;>cases b<;>cases c<;>decide
 ·rw [e] at h
  have h:(1:Int)=0:=h
  exact absurd h (by decide)
theorem qby {x y z vx vy vz g mo e:Int} {L:List (List Dat)} (h:Im.imR x y z vx vy vz g e=true):1<=Im.ofI x y z vx vy vz g mo e L/\Im.ofI x y z vx vy vz g mo e L<=3:=by
 unfold Im.ofI
 rw [h]
 simp only [Bool.not_true,cond_false]
 generalize (Im.wsI (Im.boxI x y z vx vy vz g e L) (Im.spI (Im.m3 vx vy vz) mo e)==-1)=a
 generalize (Im.wsI (Im.boxI x y z vx vy vz g e L) (Im.spI (Im.m3 vx vy vz) mo e)==1)=b
 cases a<;>cases b<;>decide
end Go.Proofs.YtainfdcfkgemhaaGreat.Hr
namespace Go.Proofs.YtainfdcfkgemhaaGreat.Hr
open Go Go.Proofs Go.Sx Nw Pe So
set_option linter.unusedVariables false
def iS (x k:Int):Int:=wI ((BitVec.ofInt 64 x &&& BitVec.ofInt 64 k).toNat:Int)
def rV (o:Ot) (x:Int):Int:=bz (fY o.r) x
end Go.Proofs.YtainfdcfkgemhaaGreat.Hr
namespace Go.Proofs.YtainfdcfkgemhaaGreat.Hr
open Go Go.Proofs Go.Sx Nw Pe So
set_option linter.unusedVariables false
structure Qv (x:PS):Prop where
 w:0<=x.q.w/\x.q.w<=2
 e:x.R.r4=2
theorem G8 {w d:Int} (h:0<=w/\w<=2):0<=Se.dropW w d/\Se.dropW w d<=2:=by
 have z:(0:Int)<=0/\(0:Int)<=2:=by decide
 unfold Se.dropW
 cases w==d
 ·exact h
 ·exact z
theorem Tv {c w:Int} (h:0<=w/\w<=2):0<=Se.w1N c w/\Se.w1N c w<=2:=by
 have z1:(0:Int)<=1/\(1:Int)<=2:=by decide
 have z2:(0:Int)<=2/\(2:Int)<=2:=by decide
 unfold Se.w1N
 cases c==1
 ·cases c==2
  ·exact h
  ·exact z2
 ·exact z1
theorem qh8 {s:Int} {l:Bool} {t w c ph:Int} {fl fi a f:Bool} (h:0<=w/\w<=2):0<=Se.cyW s l t w c ph fl fi a f/\Se.cyW s l t w c ph fl fi a f<=2:=by
 have h1:=Tv (c:=c) h
 have z:(0:Int)<=0/\(0:Int)<=2:=by decide
 have d2:=G8 (d:=2) h1
 have d1:=G8 (d:=1) h1
 have d12:=G8 (d:=2) d1
 unfold Se.cyW Se.wsW Se.waW
 generalize (Se.dropW (Se.w1N c w) 2==1&&a)=b1
 generalize (Se.dropW (Se.w1N c w) 1==2&&f)=b2
 generalize (fl&&decide (ph<s))=b3
 generalize (c==3||fi)=b4
 generalize (t==0)=b5
 generalize (t==1)=b6
 generalize (t==2)=b7
 cases l
 ·cases b5
  ·cases b6
   ·cases b7
    ·exact h1
    ·exact z
   ·cases b4
    ·cases b3
     ·cases b2
      ·exact d1
      ·exact z
     ·exact d12
    ·exact z
  ·cases b1
   ·exact d2
   ·exact z
 ·exact h
theorem qid (x:PS) (i:Inp):(Hr.cyE x i).q=tQ (cyB x i) (fe x i) (yY (cyB x i) (cA x i)) ((cyB x i).q.t==1&&tB (qC (cyB x i) (cA x i) true)):=by kernel_rfl
theorem qij (x:PS) (i:Inp):(Hr.cyE x i).R=x.R:=by kernel_rfl
theorem Hf (x:PS) (i:Inp):(cyB x i).q=x.q:=by kernel_rfl
theorem Qv.cyE {x:PS} (h:Qv x) (i:Inp):Qv (Hr.cyE x i):=by
 refine ⟨?_,by rw [qij];exact h.e⟩
 rw [qid]
 exact qh8 (by rw [Hf];exact h.w)
theorem Qv.upd {x:PS} (h:Qv x) {u:Bool} {l:Int}:Qv { x with up:=u,lf:=l }:=⟨h.w,h.e⟩
theorem Qv.cyN {x:PS} (h:Qv x) {i:Inp}:Qv (Hr.cyN x i):=by
 have hE:=h.cyE i
 unfold Hr.cyN gH
 cases hu:x.up
 ·exact h.upd (u:=x.up) (l:=bif x.lf==0 then 0 else x.lf - 1)
 ·show Qv (bif fc x i != 0 then _ else _)
  cases fc x i != 0
  ·exact hE
  ·exact hE.upd (u:=false) (l:=(Hr.cyE x i).lf)
theorem qi1 (x:PS):(bZ x).R=iO x.img:=by kernel_rfl
theorem qiO (x:PS):(bZ x).q.w=0:=by
 have e:(bZ x).q.w=(C6 (dw (lp (bw (bm x 1))))).w:=by kernel_rfl
 rw [e]
 have z:(dw (lp (bw (bm x 1)))).q.w=0:=by kernel_rfl
 generalize dw (lp (bw (bm x 1)))=y at *
 unfold C6
 show (bif Se.setB y.q.l y.la.r.s then 0 else y.q.w)=0
 rw [z]
 cases Se.setB y.q.l y.la.r.s<;>rfl
theorem Qv.bt (x:PS):Qv (bZ x):=by
 refine ⟨?_,?_⟩
 ·rw [qiO];decide
 ·rw [qi1];rfl
end Go.Proofs.YtainfdcfkgemhaaGreat.Hr
namespace Go.Proofs.YtainfdcfkgemhaaGreat.Hr
open Go Go.Proofs Go.Sx Nw Pe So
set_option linter.unusedVariables false
structure TO (o:Ot) (k:Rcd):Prop where
 q:k.q>0
 sz:o.r.size<=70
 td:fY o.r=true
 hg:mt o.l=true
 hb:kX o.l=true
 c1:bY (aN o.r)=k.c
 p1:bF (aN o.r) 4=k.p
 s1:bG (aN o.r) 4=k.s
 v1:wI (aa (aN o.r) 5)=k.v
 d1:wI (aa (aN o.r) 6)=k.d
 i1:wI (aa (aN o.r) 7)=k.i
 c2:bY (aN o.l)=k.c
 s2:bG (aN o.l) 4=k.s
 p2:bF (aN o.l) 4=k.p
 f0:iS (wI (aa (aN o.r) 9)) 31=0
 u1:1<=bF (aN o.r) 8
 u2:(bF (aN o.r) 8==4)=(iS (wI (aa (aN o.r) 9)) 64 != 0)
 w1:1<=bG (aN o.r) 8
 w2:(bG (aN o.r) 8==4)=(iS (wI (aa (aN o.r) 9)) 128 != 0)
structure JdOk (J:Jd):Prop where
 a:1<=J.v1/\J.v1<=4
 b:1<=J.v2/\J.v2<=4
 f:0<=J.ft/\J.ft<=255
 f0:iS J.ft 31=0
 u:(J.v1==4)=(iS J.ft 64 != 0)
 w:(J.v2==4)=(iS J.ft 128 != 0)
theorem qbf {w:Int} (h:0<=w/\w<=2):0<=sw w/\sw w<=15:=by
 rcases (show w=0\/w=1\/w=2 by omega) with rfl|rfl|rfl<;>decide
theorem jo {n m:Int} (h:0<=n/\n<=m):inB n m=true:=CT.2 h
theorem T6 (D:PS) (J:Jd) (b:Bool) (hX:svE D (bQ D)=0) (hw:0<=D.q.w/\D.q.w<=2) (hJ:JdOk J):TO (jN (fj D) J b) (fj D).la.r:=by
 have hk:dQ (bQ D)=true/\ip D (bQ D)=0:=by
  unfold svE La.svE at hX
  cases e:dQ (bQ D)
  ·rw [e] at hX
   exact absurd (show (1:Int)=0 from hX) (by decide)
  ·rw [e] at hX
   exact ⟨rfl,hX⟩
 have hO:d4 D (bQ D)=true:=by
  unfold d4
  rw [hk.1,hk.2]
  rfl
 have hla:(fj D).la.r=bQ D:=by
  show (kv D (bQ D)).r=bQ D
  unfold kv
  rw [hO]
  rfl
 obtain ⟨rv,rd,ri,rp,rs,rf,rq,rc⟩:=LO (show La.rightL (bQ D).q (bQ D).c (bQ D).p (bQ D).s (bQ D).f (bQ D).v (bQ D).d (bQ D).i (bQ D).n=true from hk.1)
 have eo:jN (fj D) J b=⟨true,D.q.t,D.m.p,D.q.t==2,gp D.cy D.m.p D.q.t (bif b then sw D.q.w else D.q.w),dj D.cy D.m.p D.q.t D.y.u D.y.v D.y.w J.v1 J.v2 J.ft⟩:=rfl
 have rc:0<=D.cy/\D.cy<=1000000:=rc
 have rp:0<=D.m.p/\D.m.p<=3:=rp
 have rs:0<=D.q.t/\D.q.t<=2:=rs
 have rv:0<=D.y.u/\D.y.u<=255:=rv
 have rd:0<=D.y.v/\D.y.v<=255:=rd
 have ri:0<=D.y.w/\D.y.w<=255:=ri
 have hst:stR D.cy D.m.p D.q.t=true:=by
  unfold stR
  rw [jo rc,jo rp,jo rs]
  rfl
 have hrep:fq D.cy D.m.p D.q.t D.y.u D.y.v D.y.w J.v1 J.v2 J.ft=true:=by
  unfold fq
  rw [jo rv,jo rd,jo ri,jo hJ.f,jo (show 0<=J.v1/\J.v1<=4 by have:=hJ.a;omega),jo (show 0<=J.v2/\J.v2<=4 by have:=hJ.b;omega),hst]
  rfl
 have hwr:gP D.cy D.m.p D.q.t (bif b then sw D.q.w else D.q.w)=true:=by
  unfold gP
  rw [hst]
  have h4:=qbf hw
  cases b
  ·exact jo (show 0<=D.q.w/\D.q.w<=15 by omega)
  ·exact jo h4
 obtain ⟨t0,t1,t2,t3,t4,t5,t6,t7,t8,t9⟩:=T0 hrep
 obtain ⟨h0,h1,h2,h3,h4⟩:=qdX hwr
 rw [hla,eo]
 refine ⟨?_,OR _ _,t0,h0,h1,t1,t2,t3,t4,t5,t6,h2,h4,h3,?_,?_,?_,?_,?_⟩
 ·show (bQ D).q>0
  omega
 ·show iS (wI (aa (aN (dj D.cy D.m.p D.q.t D.y.u D.y.v D.y.w J.v1 J.v2 J.ft)) 9)) 31=0
  rw [t9]
  exact hJ.f0
 ·show 1<=bF (aN (dj D.cy D.m.p D.q.t D.y.u D.y.v D.y.w J.v1 J.v2 J.ft)) 8
  rw [t7]
  exact hJ.a.1
 ·show (bF (aN (dj D.cy D.m.p D.q.t D.y.u D.y.v D.y.w J.v1 J.v2 J.ft)) 8==4)=(iS (wI (aa (aN (dj D.cy D.m.p D.q.t D.y.u D.y.v D.y.w J.v1 J.v2 J.ft)) 9)) 64 != 0)
  rw [t7,t9]
  exact hJ.u
 ·show 1<=bG (aN (dj D.cy D.m.p D.q.t D.y.u D.y.v D.y.w J.v1 J.v2 J.ft)) 8
  rw [t8]
  exact hJ.b.1
 ·show (bG (aN (dj D.cy D.m.p D.q.t D.y.u D.y.v D.y.w J.v1 J.v2 J.ft)) 8==4)=(iS (wI (aa (aN (dj D.cy D.m.p D.q.t D.y.u D.y.v D.y.w J.v1 J.v2 J.ft)) 9)) 128 != 0)
  rw [t8,t9]
  exact hJ.w
theorem qdG {a b:Int} {vn vm ap:Bool} {ht:Int} {kn:Bool} (ha:vn=true->1<=a/\a<=3) (hb:vm=true->1<=b/\b<=3):JdOk ⟨bif vn then a else 4,bif vm then b else 4,ht,kn,(bif ap then 32 else 0)+((bif vn then 0 else 64)+(bif vm then 0 else 128))⟩:=by
 have f:∀ vn vm ap:Bool,(0<=(bif ap then (32:Int) else 0)+((bif vn then 0 else 64)+(bif vm then 0 else 128))/\(bif ap then (32:Int) else 0)+((bif vn then 0 else 64)+(bif vm then 0 else 128))<=255)/\iS ((bif ap then (32:Int) else 0)+((bif vn then 0 else 64)+(bif vm then 0 else 128))) 31=0/\(iS ((bif ap then (32:Int) else 0)+((bif vn then 0 else 64)+(bif vm then 0 else 128))) 64 != 0)=!vn/\(iS ((bif ap then (32:Int) else 0)+((bif vn then 0 else 64)+(bif vm then 0 else 128))) 128 != 0)=!vm:=by
  intro vn vm ap
  cases vn<;>cases vm<;>cases ap<;>decide
 obtain ⟨f1,f2,f3,f4⟩:=f vn vm ap
 refine ⟨?_,?_,f1,f2,?_,?_⟩
 ·cases vn
  ·exact ⟨by show (1:Int)<=4;decide,by show (4:Int)<=4;decide⟩
  ·have:=ha rfl
   exact ⟨this.1,by show a<=4;omega⟩
 ·cases vm
  ·exact ⟨by show (1:Int)<=4;decide,by show (4:Int)<=4;decide⟩
  ·have:=hb rfl
   exact ⟨this.1,by show b<=4;omega⟩
 ·refine Eq.trans ?_ f3.symm
  cases vn
  ·rfl
  ·exact beq_eq_false_iff_ne.2 (show a≠4 by have:=ha rfl;omega)
 ·refine Eq.trans ?_ f4.symm
  cases vm
  ·rfl
  ·exact beq_eq_false_iff_ne.2 (show b≠4 by have:=hb rfl;omega)
theorem qa4 {s:ByteArray} {p:Int} (h0:0<=p) (h1:p<((cc s).length:Int)):c4 (cc s) p=1:=by
 unfold cc at h1 ⊢
 rw [List.length_replicate] at h1
 unfold c4
 rw [List.getD_eq_getElem?_getD,List.getElem?_eq_getElem (by rw [List.length_replicate];omega),Option.getD_some,List.getElem_replicate]
 rfl
theorem Km {x:PS} (hL:x.m.L=cc x.img) (hp:0<=x.m.p/\x.m.p<((cc x.img).length:Int)) (he:x.R.r4=2) (y:Src) (L:List (List Dat)) (hv:(dg y L==0)=true):1<=gR x (pm y L)/\gR x (pm y L)<=3:=by
 have hf:=qhL (beq_iff_eq.1 hv)
 obtain ⟨a1,a2,a3,a4,a5,a6⟩:=qhK hf
 have en:pm y L=⟨iC L,iB L,gA L,gy L,gw L,dr L,dq L,dp L⟩:=by
  unfold pm
  rw [hv]
  rfl
 rw [en]
 unfold gR
 rw [hL,qa4 hp.1 hp.2,he]
 have key:Im.imR (gA L) (gy L) (gw L) (dr L) (dq L) (dp L) 1 2=true:=Im.imR_of (by omega) (by omega) (by omega) (by omega) (by omega) (by omega) (by decide) (by decide)
 exact qby key
theorem Pt (x:PS) (i:Inp):(cyB x i).m=x.m:=by kernel_rfl
theorem Pu (x:PS) (i:Inp):(cyB x i).img=x.img:=by kernel_rfl
theorem qin (x:PS) (i:Inp):(cyB x i).R=x.R:=by kernel_rfl
end Go.Proofs.YtainfdcfkgemhaaGreat.Hr
