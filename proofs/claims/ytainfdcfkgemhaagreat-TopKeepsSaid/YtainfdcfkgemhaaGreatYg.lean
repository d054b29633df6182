/-
  What is known of this program: navs,words,reports,commands;sources,sequencers.
-/
import Derived.Test.YtainfdcfkgemhaaGreatYf
import Derived.Test.YtainfdcfkgemhaaGreatYe
import Derived.Test.YtainfdcfkgemhaaGreatYa
set_option maxRecDepth 100000
noncomputable section
open Go.Proofs.Tryz
namespace Go.Proofs.YtainfdcfkgemhaaGreat.Nw
open Go Go.Proofs Go.Sx
set_option linter.unusedVariables false
theorem qdZ (x y b:Int):decide (jE x y>b)=!decide (jE x y<=b):=by
 rw [Bool.eq_iff_iff]
 simp only [decide_eq_true_eq,Bool.not_eq_true',decide_eq_false_iff_not]
 omega
def pM (w x y:Int):Bool:=decide (jE x y<=IntKind.u64.wrap w)
def pL (w c c' d d' e e' f f' g g' q q':Int):Bool:=!decide (w<0)&&(pM w c c'&&(pM w d d'&&(pM w e e'&&(pM w f f'&&(pM w g g'&&pM w q q')))))
def lU (s:ByteArray) (i j:Nat):Int:=IntKind.i64.wrap (IntKind.i32.wrap ((numN (s.extract i j):Nat):Int))
def rd27 (s:ByteArray) (x:Int):Int:=if s.size=27 then x else 0
def rdA (s:ByteArray):Int:=rd27 s (wI ((numN (s.extract 0 2):Nat):Int))
def rdB (s:ByteArray):Int:=rd27 s (wI (aa s 2))
def rdC (s:ByteArray) (i j:Nat):Int:=rd27 s (lU s i j)
def navE (s:ByteArray):Int:=if s.size<27 then 5 else if s.size>27 then 3 else 0
theorem Yp (a b c d e f g q a' b' c' d' e' f' g' q' w:Int):runG ΓNa L0 prog f215 [.v (.agg #[I a,I b,I c,I d,I e,I f,I g,I q]),.v (.agg #[I a',I b',I c',I d',I e',I f',I g',I q']),.v (I w)] M0=bif decide (w<0) then some (.v (Bo false),M0) else (bif decide (jE c c'>IntKind.u64.wrap w) then some (.v (Bo false),M0) else (bif decide (jE d d'>IntKind.u64.wrap w) then some (.v (Bo false),M0) else (bif decide (jE e e'>IntKind.u64.wrap w) then some (.v (Bo false),M0) else (bif decide (jE f f'>IntKind.u64.wrap w) then some (.v (Bo false),M0) else (bif decide (jE g g'>IntKind.u64.wrap w) then some (.v (Bo false),M0) else (bif decide (jE q q'>IntKind.u64.wrap w) then some (.v (Bo false),M0) else (some (.v (Bo true),M0)))))))):=by kernel_rfl
def Fe (vs:List Value):Option (Bool×Value) :=
 match vs with
 | [.agg ⟨[.int .i64 a,.int .i64 b,.int .i64 c,.int .i64 d,.int .i64 e,.int .i64 f,.int .i64 g,.int .i64 q]⟩,.agg ⟨[.int .i64 a',.int .i64 b',.int .i64 c',.int .i64 d',.int .i64 e',.int .i64 f',.int .i64 g',.int .i64 q']⟩,.int .i64 w]=>some (true,Bo (pL w c c' d d' e e' f f' g g' q q'))
 | _=>none
theorem qfZ:am 215 Fe:=by
 intro vs r h
 unfold Fe at h
 split at h
 ·rename_i a b c d e f g q a' b' c' d' e' f' g' q' w
  obtain ⟨h1,rfl⟩:=ab h
  refine ak (vs:=[.agg #[I a,I b,I c,I d,I e,I f,I g,I q],.agg #[I a',I b',I c',I d',I e',I f',I g',I q'],I w]) (Λ:=L0) (m':=M0) IA func215 rfl (fun z _ _=>bX _ z) ?_
  exact (Yp a b c d e f g q a' b' c' d' e' f' g' q' w).trans (by
   simp only [qdZ,zj,Bool.not_not,Bool.and_true]
   rfl)
 ·cases h
def ΓP1:Orc:=ah 215 Fe ΓNa
theorem OkP1:ΓP1.Ok prog:=af IA qfZ
def ΓP2:Orc:=ΓP1
theorem OkP2:ΓP2.Ok prog:=OkP1
theorem szS_ext (s:ByteArray) (i j:Nat) (h:s.size=27):bv (s.extract i j)=true:=nl (by rw [ByteArray.size_extract];omega)
theorem Yn (s:ByteArray):runG ΓP2 L0 prog f208 [.v (S s)] M0=bif decide ((s.size:Int)<27) then some (.v (.tuple #[.agg #[I 0,I 0,I 0,I 0,I 0,I 0,I 0,I 0],I 5]),M0) else (bif decide ((s.size:Int)>27) then some (.v (.tuple #[.agg #[I 0,I 0,I 0,I 0,I 0,I 0,I 0,I 0],I 3]),M0) else (bif decide ((0:Int)<=0)&&(decide ((0:Int)<=2)&&decide (2<=(s.size:Int))) then (bif bv (s.extract (Int.toNat 0) (Int.toNat 2)) then (bif decide ((0:Int)<=2)&&decide (2<(s.size:Int)) then (bif decide ((0:Int)<=3)&&(decide ((3:Int)<=7)&&decide (7<=(s.size:Int))) then (bif bv (s.extract (Int.toNat 3) (Int.toNat 7)) then (bif decide ((0:Int)<=7)&&(decide ((7:Int)<=11)&&decide (11<=(s.size:Int))) then (bif bv (s.extract (Int.toNat 7) (Int.toNat 11)) then (bif decide ((0:Int)<=11)&&(decide ((11:Int)<=15)&&decide (15<=(s.size:Int))) then (bif bv (s.extract (Int.toNat 11) (Int.toNat 15)) then (bif decide ((0:Int)<=15)&&(decide ((15:Int)<=19)&&decide (19<=(s.size:Int))) then (bif bv (s.extract (Int.toNat 15) (Int.toNat 19)) then (bif decide ((0:Int)<=19)&&(decide ((19:Int)<=23)&&decide (23<=(s.size:Int))) then (bif bv (s.extract (Int.toNat 19) (Int.toNat 23)) then (bif decide ((0:Int)<=23)&&(decide ((23:Int)<=27)&&decide (27<=(s.size:Int))) then (bif bv (s.extract (Int.toNat 23) (Int.toNat 27)) then some (.v (.tuple #[.agg #[I (wI ((numN (s.extract (Int.toNat 0) (Int.toNat 2)):Nat):Int)),I (wI (aa s 2)),I (lU s (Int.toNat 3) (Int.toNat 7)),I (lU s (Int.toNat 7) (Int.toNat 11)),I (lU s (Int.toNat 11) (Int.toNat 15)),I (lU s (Int.toNat 15) (Int.toNat 19)),I (lU s (Int.toNat 19) (Int.toNat 23)),I (lU s (Int.toNat 23) (Int.toNat 27))],I 0]),M0) else none) else none) else none) else none) else none) else none) else none) else none) else none) else none) else none) else none) else none) else none) else none)):=by kernel_rfl
def xW (vs:List Value):Option (Bool×Value) :=
 match vs with
 | [.string s]=>some (true,.tuple #[.agg #[I (rdA s),I (rdB s),I (rdC s 3 7),I (rdC s 7 11),I (rdC s 11 15),I (rdC s 15 19),I (rdC s 19 23),I (rdC s 23 27)],I (navE s)])
 | _=>none
theorem Om:am 208 xW:=by
 intro vs r h
 unfold xW at h
 split at h
 ·rename_i s
  obtain ⟨h1,rfl⟩:=ab h
  refine ak (vs:=[S s]) (Λ:=L0) (m':=M0) OkP2 func208 rfl (fun z _ _=>bX _ z) ?_
  exact (Yn s).trans (by
   unfold rdA rdB rdC rd27 navE
   by_cases c1:s.size<27
   ·simp only [decide_eq_true (show (s.size:Int)<27 by omega),if_neg (show ¬ s.size=27 by omega),if_pos c1]
    rfl
   by_cases c2:s.size>27
   ·simp only [decide_eq_false (show ¬ (s.size:Int)<27 by omega),decide_eq_true (show (s.size:Int)>27 by omega),if_neg (show ¬ s.size=27 by omega),if_neg c1,if_pos c2]
    rfl
   have c3:s.size=27:=by omega
   simp only [szS_ext s _ _ c3,if_pos c3,if_neg c1,if_neg c2]
   rw [c3]
   rfl)
 ·cases h
def ΓP3:Orc:=ah 208 xW ΓP2
theorem OkP3:ΓP3.Ok prog:=af OkP2 Om
def ΓP4:Orc:=ΓP3
theorem OkP4:ΓP4.Ok prog:=OkP3
def ΓNb:Orc:=ΓP4
theorem zM:ΓNb.Ok prog:=OkP4
end Go.Proofs.YtainfdcfkgemhaaGreat.Nw
namespace Go.Proofs.YtainfdcfkgemhaaGreat.Pe
open Go Go.Proofs Go.Sx Nw
set_option linter.unusedVariables false
def inB (n m:Int):Bool:=decide (n>=0)&&decide (n<=m)
def cY (p s:Int):Int:=wI (p+wI (16*s))
def dh (s:ByteArray):ByteArray:=s++be 4 (f7 s)
def cu (s:ByteArray) (n:Int):Int:=if (s.size:Int)<n+4 then 5 else if (s.size:Int)>n+4 then 3 else if dh (s.extract 0 n.toNat)==s then 0 else 4
def stR (c p s:Int):Bool:=inB c 1000000&&(inB p 3&&inB s 2)
def gP (c p s w:Int):Bool:=stR c p s&&inB w 15
def df (c p s w:Int):ByteArray:=dh ((be 4 c++be 1 (cY p s))++be 1 w)
def jK (c p s w:Int):ByteArray:=bif gP c p s w then df c p s w else ⟨#[]⟩
def fq (c p s x y z u v f:Int):Bool:=(inB x 255&&(inB y 255&&(inB z 255&&inB f 255)))&&((inB u 4&&inB v 4)&&stR c p s)
def dC (c p s x y z u v f:Int):ByteArray:=dh ((((be 4 c++be 1 (cY p s))++((be 1 x++be 1 y)++be 1 z))++be 1 (cY u v))++be 1 f)
def lX (c p s x y z u v f:Int):ByteArray:=bif fq c p s x y z u v f then dC c p s x y z u v f else ⟨#[]⟩
def Ar (x y:Int):Int:=IntKind.i64.wrap (((BitVec.ofInt 64 x ^^^ BitVec.ofInt 64 y).toNat:Nat):Int)
def Hj (c:Int):ByteArray:=dh (((be 1 c++be 1 (Ar c 85))++be 1 (Ar c 170))++be 1 (Ar c 255))
def comR (c:Int):Bool:=decide (1<=c)&&decide (c<=3)
def comT (c:Int):ByteArray:=bif comR c then Hj c else ⟨#[]⟩
theorem U9 (s:ByteArray):(dh s).size=s.size+4:=by unfold dh;rw [ByteArray.size_append,gh]
theorem runUpTo (n m:Int):runG ΓNb L0 prog f269 [.v (I n),.v (I m)] M0 =
 (bif decide (n>=(0:Int)) then some (.v (.bool (decide (n<=m))),⟨[],[],[]⟩) else some (.v (.bool false),⟨[],[],[]⟩)):=by kernel_rfl
def gUpTo (vs:List Value):Option (Bool×Value) :=
 match vs with
 | [.int .i64 n,.int .i64 m]=>some (true,Bo (inB n m))
 | _=>none
theorem gUpTo_ok:am 269 gUpTo:=by
 intro vs r h
 unfold gUpTo at h
 split at h
 ·rename_i n m
  obtain ⟨h1,rfl⟩:=ab h
  refine ak (vs:=[I n,I m]) (Λ:=L0) (m':=M0) zM func269 rfl (fun z _ _=>bX _ z) ?_
  exact (runUpTo n m).trans (by unfold inB;cases decide (n>=0)<;>rfl)
 ·cases h
def ΓQ1:Orc:=ah 269 gUpTo ΓNb
theorem OkQ1:ΓQ1.Ok prog:=af zM gUpTo_ok
def ΓQ2:Orc:=ΓQ1
theorem OkQ2:ΓQ2.Ok prog:=OkQ1
theorem Xv (c p s:Int):runG ΓQ2 L0 prog f268 [.v (I c),.v (I p),.v (I s)] M0 =
 (bif inB c (1000000:Int) then (bif inB p (3:Int) then some (.v (.bool (inB s (2:Int))),⟨[],[],[]⟩) else some (.v (.bool false),⟨[],[],[]⟩)) else some (.v (.bool false),⟨[],[],[]⟩)):=by kernel_rfl
def EB (vs:List Value):Option (Bool×Value) :=
 match vs with
 | [.int .i64 c,.int .i64 p,.int .i64 s]=>some (true,Bo (stR c p s))
 | _=>none
theorem qfl:am 268 EB:=by
 intro vs r h
 unfold EB at h
 split at h
 ·rename_i c p s
  obtain ⟨h1,rfl⟩:=ab h
  refine ak (vs:=[I c,I p,I s]) (Λ:=L0) (m':=M0) OkQ2 func268 rfl (fun z _ _=>bX _ z) ?_
  exact (Xv c p s).trans (by unfold stR;cases inB c 1000000<;>cases inB p 3<;>rfl)
 ·cases h
def ΓQ3:Orc:=ah 268 EB ΓQ2
theorem OkQ3:ΓQ3.Ok prog:=af OkQ2 qfl
theorem ZA (n:Int):runG ΓQ3 L0 prog f270 [.v (I n)] M0 =
 some (.v (Value.string (be (4:Nat) (IntKind.u64.wrap n))),⟨[],[],[]⟩):=by kernel_rfl
def Gc (vs:List Value):Option (Bool×Value) :=
 match vs with
 | [.int .i64 n]=>some (true,S (be 4 n))
 | _=>none
theorem qgU:am 270 Gc:=by
 intro vs r h
 unfold Gc at h
 split at h
 ·rename_i n
  obtain ⟨h1,rfl⟩:=ab h
  refine ak (vs:=[I n]) (Λ:=L0) (m':=M0) OkQ3 func270 rfl (fun z _ _=>bX _ z) ?_
  exact (ZA n).trans (by rw [zk];rfl)
 ·cases h
def ΓQ4:Orc:=ah 270 Gc ΓQ3
theorem OkQ4:ΓQ4.Ok prog:=af OkQ3 qgU
theorem Yb (n:Int):runG ΓQ4 L0 prog f183 [.v (I n)] M0 =
 some (.v (Value.string (be (1:Nat) (IntKind.u64.wrap n))),⟨[],[],[]⟩):=by kernel_rfl
def E3 (vs:List Value):Option (Bool×Value) :=
 match vs with
 | [.int .i64 n]=>some (true,S (be 1 n))
 | _=>none
theorem qfN:am 183 E3:=by
 intro vs r h
 unfold E3 at h
 split at h
 ·rename_i n
  obtain ⟨h1,rfl⟩:=ab h
  refine ak (vs:=[I n]) (Λ:=L0) (m':=M0) OkQ4 func183 rfl (fun z _ _=>bX _ z) ?_
  exact (Yb n).trans (by rw [HF];rfl)
 ·cases h
def ΓQ5:Orc:=ah 183 E3 ΓQ4
theorem OkQ5:ΓQ5.Ok prog:=af OkQ4 qfN
theorem VS (p s:Int):runG ΓQ5 L0 prog f271 [.v (I p),.v (I s)] M0 =
 some (.v (Value.string (be (1:Nat) (wI (p+wI ((16:Int)*s))))),⟨[],[],[]⟩):=by kernel_rfl
def Dv (vs:List Value):Option (Bool×Value) :=
 match vs with
 | [.int .i64 p,.int .i64 s]=>some (true,S (be 1 (cY p s)))
 | _=>none
theorem qet:am 271 Dv:=by
 intro vs r h
 unfold Dv at h
 split at h
 ·rename_i p s
  obtain ⟨h1,rfl⟩:=ab h
  refine ak (vs:=[I p,I s]) (Λ:=L0) (m':=M0) OkQ5 func271 rfl (fun z _ _=>bX _ z) ?_
  exact (VS p s).trans (rfl)
 ·cases h
def ΓQ6:Orc:=ah 271 Dv ΓQ5
theorem Rz:ΓQ6.Ok prog:=af OkQ5 qet
theorem VR (b:Int):runG ΓQ6 L0 prog f213 [.v (U8 b)] M0 =
 some (.v (.tuple #[(.int .i64 (wI (b.tmod (16:Int)))),(.int .i64 (wI (IntKind.u8.wrap (b.tdiv (16:Int)))))]),⟨[],[],[]⟩):=by kernel_rfl
def Du (vs:List Value):Option (Bool×Value) :=
 match vs with
 | [.int .u8 b]=>some (true,.tuple #[I (wI (b.tmod 16)),I (wI (IntKind.u8.wrap (b.tdiv 16)))])
 | _=>none
theorem qes:am 213 Du:=by
 intro vs r h
 unfold Du at h
 split at h
 ·rename_i b
  obtain ⟨h1,rfl⟩:=ab h
  refine ak (vs:=[U8 b]) (Λ:=L0) (m':=M0) Rz func213 rfl (fun z _ _=>bX _ z) ?_
  exact (VR b).trans (rfl)
 ·cases h
def ΓQ7:Orc:=ah 213 Du ΓQ6
theorem Ry:ΓQ7.Ok prog:=af Rz qes
theorem Wj (s:ByteArray):runG ΓQ7 L0 prog f182 [.v (S s)] M0 =
 (bif bv s then (bif (s.size+(be (4:Nat) (IntKind.u64.wrap (f7 s))).size).ble (9223372036854775807) then some (.v (Value.string (s++be (4:Nat) (IntKind.u64.wrap (f7 s)))),⟨[],[],[]⟩) else none) else none):=by kernel_rfl
def DG (vs:List Value):Option (Bool×Value) :=
 match vs with
 | [.string s]=>some (Nat.ble s.size 1000000,S (dh s))
 | _=>none
theorem qeA:am 182 DG:=by
 intro vs r h
 unfold DG at h
 split at h
 ·rename_i s
  obtain ⟨h1,rfl⟩:=ab h
  refine ak (vs:=[S s]) (Λ:=L0) (m':=M0) Ry func182 rfl (fun z _ _=>bX _ z) ?_
  exact (Wj s).trans (by
   have hz:=Nat.le_of_ble_eq_true h1
   rw [nl (show s.size<=9223372036854775807 by omega),zk,gh,Nat.ble_eq_true_of_le (show s.size+4<=9223372036854775807 by omega)]
   rfl)
 ·cases h
def ΓQ8:Orc:=ah 182 DG ΓQ7
theorem Rx:ΓQ8.Ok prog:=af Ry qeA
theorem ZL (s:ByteArray) (n:Int):runG ΓQ8 L0 prog f211 [.v (S s),.v (I n)] M0 =
 (bif decide (↑s.size<wI (n+(4:Int))) then some (.v (.int .i64 5),⟨[],[],[]⟩) else (bif decide (↑s.size>wI (n+(4:Int))) then some (.v (.int .i64 3),⟨[],[],[]⟩) else (bif true&&(decide ((0:Int)<=n)&&decide (n<=↑s.size)) then (bif (s.extract (0:Nat) n.toNat).size.ble (1000000) then (bif !(dh (s.extract (0:Nat) n.toNat)).toList==s.toList then some (.v (.int .i64 4),⟨[],[],[]⟩) else some (.v (.int .i64 0),⟨[],[],[]⟩)) else none) else none))):=by kernel_rfl
def Gq (vs:List Value):Option (Bool×Value) :=
 match vs with
 | [.string s,.int .i64 n]=>some ((n==4||(n==6||n==10))&&Nat.ble s.size 1000000,I (cu s n))
 | _=>none
theorem qg7:am 211 Gq:=by
 intro vs r h
 unfold Gq at h
 split at h
 ·rename_i s n
  obtain ⟨h1,rfl⟩:=ab h
  refine ak (vs:=[S s,I n]) (Λ:=L0) (m':=M0) Rx func211 rfl (fun z _ _=>bX _ z) ?_
  exact (ZL s n).trans (by
   simp only [Bool.and_eq_true,Bool.or_eq_true,beq_iff_eq] at h1
   obtain ⟨h0,h1⟩:=h1
   have hz:=Nat.le_of_ble_eq_true h1
   have hw:wI (n+4)=n+4:=az (by omega)
   rw [hw]
   unfold cu
   by_cases c1:(s.size:Int)<n+4
   ·rw [decide_eq_true c1,if_pos c1];rfl
   by_cases c2:(s.size:Int)>n+4
   ·rw [decide_eq_false c1,decide_eq_true c2,if_neg c1,if_pos c2];rfl
   rw [decide_eq_false c1,decide_eq_false c2,if_neg c1,if_neg c2,decide_eq_true (show 0<=n by omega),decide_eq_true (show n<=(s.size:Int) by omega),Nat.ble_eq_true_of_le (show (s.extract 0 n.toNat).size<=1000000 by rw [ByteArray.size_extract];omega),mN]
   cases dh (s.extract 0 n.toNat)==s<;>rfl)
 ·cases h
def ΓQ9:Orc:=ah 211 Gq ΓQ8
theorem Rw:ΓQ9.Ok prog:=af Rx qg7
theorem Zz (s:ByteArray):runG ΓQ9 L0 prog f212 [.v (S s)] M0 =
 (bif true&&(true&&decide ((4:Int)<=↑s.size)) then (bif bv (s.extract (0:Nat) (4:Nat)) then some (.v (.int .i64 (wI ↑(numN (s.extract (0:Nat) (4:Nat))))),⟨[],[],[]⟩) else none) else none):=by kernel_rfl
def Gb (vs:List Value):Option (Bool×Value) :=
 match vs with
 | [.string s]=>some (Nat.ble 4 s.size&&Nat.ble s.size 1000000,I (wI ((numN (s.extract 0 4):Nat):Int)))
 | _=>none
theorem qgT:am 212 Gb:=by
 intro vs r h
 unfold Gb at h
 split at h
 ·rename_i s
  obtain ⟨h1,rfl⟩:=ab h
  refine ak (vs:=[S s]) (Λ:=L0) (m':=M0) Rw func212 rfl (fun z _ _=>bX _ z) ?_
  exact (Zz s).trans (by
   simp only [Bool.and_eq_true] at h1
   have h2:=Nat.le_of_ble_eq_true h1.1
   rw [decide_eq_true (show (4:Int)<=(s.size:Int) by omega),nl (show (s.extract 0 4).size<=9223372036854775807 by rw [ByteArray.size_extract];omega)]
   rfl)
 ·cases h
def ΓQ10:Orc:=ah 212 Gb ΓQ9
theorem RB:ΓQ10.Ok prog:=af Rw qgT
theorem X1 (c p s w:Int):runG ΓQ10 L0 prog f204 [.v (.agg #[I c,I p,I s,I w])] M0 =
 (bif !stR c p s then some (.v (Value.string { data:=#[]:ByteArray }),⟨[],[],[]⟩) else (bif !inB w (15:Int) then some (.v (Value.string { data:=#[]:ByteArray }),⟨[],[],[]⟩) else some (.v (Value.string (dh (be (4:Nat) c++be (1:Nat) (cY p s)++be (1:Nat) w))),⟨[],[],[]⟩))):=by kernel_rfl
def xS (vs:List Value):Option (Bool×Value) :=
 match vs with
 | [.agg ⟨[.int .i64 c,.int .i64 p,.int .i64 s,.int .i64 w]⟩]=>some (true,S (jK c p s w))
 | _=>none
theorem Og:am 204 xS:=by
 intro vs r h
 unfold xS at h
 split at h
 ·rename_i c p s w
  obtain ⟨h1,rfl⟩:=ab h
  refine ak (vs:=[.agg #[I c,I p,I s,I w]]) (Λ:=L0) (m':=M0) RB func204 rfl (fun z _ _=>bX _ z) ?_
  exact (X1 c p s w).trans (by
   unfold jK gP
   cases stR c p s<;>cases inB w 15<;>first|rfl|(simp only [ByteArray.size_append,gh];rfl))
 ·cases h
def ΓQ11:Orc:=ah 204 xS ΓQ10
theorem RA:ΓQ11.Ok prog:=af RB Og
def bY (s:ByteArray):Int:=wI ((numN (s.extract 0 4):Nat):Int)
def bF (s:ByteArray) (i:Int):Int:=wI ((aa s i).tmod 16)
def bG (s:ByteArray) (i:Int):Int:=wI (IntKind.u8.wrap ((aa s i).tdiv 16))
def bz (b:Bool) (x:Int):Int:=bif b then x else 0
def oZ (s:ByteArray):Bool:=jK (bY s) (bF s 4) (bG s 4) (wI (aa s 5))==s
def cO (s:ByteArray):Int:=bif cu s 6 != 0 then cu s 6 else bif oZ s then 0 else 3
theorem qF {s:ByteArray} {n:Int} (h:cu s n=0):(s.size:Int)=n+4:=by
 unfold cu at h
 split at h
 ·cases h
 ·split at h
  ·cases h
  ·omega
theorem y6 (s:ByteArray) (n:Int):cu s n=5\/cu s n=3\/cu s n=4\/cu s n=0:=by
 unfold cu
 split
 ·exact .inl rfl
 ·split
  ·exact .inr (.inl rfl)
  ·split
   ·exact .inr (.inr (.inr rfl))
   ·exact .inr (.inr (.inl rfl))
theorem Xs (s:ByteArray):runG ΓQ11 L0 prog f143 [.v (S s)] M0 =
 (bif true&&s.size.ble (1000000) then (bif cu s (6:Int) != (0:Int) then some (.v (.tuple #[(.agg #[(.int .i64 0),(.int .i64 0),(.int .i64 0),(.int .i64 0)]),(.int .i64 (cu s (6:Int)))]),⟨[],[],[]⟩) else (bif Nat.ble (4) s.size&&s.size.ble (1000000) then (bif true&&decide ((5:Int)<↑s.size) then (bif true&&decide ((4:Int)<↑s.size) then (bif !(jK (wI ↑(numN (s.extract (0:Nat) (4:Nat)))) (wI ((aa s (4:Int)).tmod (16))) (wI (IntKind.u8.wrap ((aa s (4:Int)).tdiv (16)))) (wI (aa s (5:Int)))).toList==s.toList then some (.v (.tuple #[(.agg #[(.int .i64 0),(.int .i64 0),(.int .i64 0),(.int .i64 0)]),(.int .i64 3)]),⟨[],[],[]⟩) else some (.v (.tuple #[(.agg #[(.int .i64 (wI ↑(numN (s.extract (0:Nat) (4:Nat))))),(.int .i64 (wI ((aa s (4:Int)).tmod (16)))),(.int .i64 (wI (IntKind.u8.wrap ((aa s (4:Int)).tdiv (16))))),(.int .i64 (wI (aa s (5:Int))))]),(.int .i64 0)]),⟨[],[],[]⟩)) else none) else none) else none)) else none):=by kernel_rfl
def xN (vs:List Value):Option (Bool×Value) :=
 match vs with
 | [.string s]=>some (Nat.ble s.size 1000000,.tuple #[.agg #[I (bz (cO s==0) (bY s)),I (bz (cO s==0) (bF s 4)),I (bz (cO s==0) (bG s 4)),I (bz (cO s==0) (wI (aa s 5)))],I (cO s)])
 | _=>none
theorem Oa:am 143 xN:=by
 intro vs r h
 unfold xN at h
 split at h
 ·rename_i s
  obtain ⟨h1,rfl⟩:=ab h
  refine ak (vs:=[S s]) (Λ:=L0) (m':=M0) RA func143 rfl (fun z _ _=>bX _ z) ?_
  exact (Xs s).trans (by
   rw [h1]
   unfold cO
   rcases y6 s 6 with he|he|he|he
   ·rw [he];rfl
   ·rw [he];rfl
   ·rw [he];rfl
   ·have hs:=qF he
    rw [he,Nat.ble_eq_true_of_le (show 4<=s.size by omega),decide_eq_true (show (5:Int)<(s.size:Int) by omega),decide_eq_true (show (4:Int)<(s.size:Int) by omega)]
    unfold oZ bY bF bG
    rw [<- mN]
    cases (jK (wI ((numN (s.extract 0 4):Nat):Int)) (wI ((aa s 4).tmod 16)) (wI (IntKind.u8.wrap ((aa s 4).tdiv 16))) (wI (aa s 5))).toList==s.toList<;>rfl)
 ·cases h
def ΓQ12:Orc:=ah 143 xN ΓQ11
theorem qkL:ΓQ12.Ok prog:=af RA Oa
def ΓQa:Orc:=ΓQ12
theorem qkK:ΓQa.Ok prog:=qkL
end Go.Proofs.YtainfdcfkgemhaaGreat.Pe
namespace Go.Proofs.YtainfdcfkgemhaaGreat.Pe
open Go Go.Proofs Go.Sx Nw
set_option linter.unusedVariables false
theorem Hv (x:Int) (j k:Nat) (h:(2:Int) ^ min (Int.toNat (8*k:Nat)) 32=256 ^ k) (hj:j=8*k):IntKind.u8.wrap (x.fdiv (2 ^ min (Int.toNat (j:Nat)) 32))=x / 256 ^ k % 256:=by
 subst hj
 rw [h,Int.fdiv_eq_ediv_of_nonneg _ (Int.le_of_lt (Int.pow_pos (by decide))),<- cF true]
 rfl
theorem qjb (x:Int):strOfNums [IntKind.u8.wrap (x.fdiv (2 ^ min (Int.toNat 24) 32)),IntKind.u8.wrap (x.fdiv (2 ^ min (Int.toNat 16) 32)),IntKind.u8.wrap (x.fdiv (2 ^ min (Int.toNat 8) 32)),IntKind.u8.wrap x]=be 4 x:=by
 have e1:=Hv x 8 1 (by decide) rfl
 have e2:=Hv x 16 2 (by decide) rfl
 have e3:=Hv x 24 3 (by decide) rfl
 rw [show ((8:Nat):Int)=8 from rfl] at e1
 rw [show ((16:Nat):Int)=16 from rfl] at e2
 rw [show ((24:Nat):Int)=24 from rfl] at e3
 have e0:IntKind.u8.wrap x=x / 256 ^ 0 % 256:=by
  rw [<- cF true]
  simp only [wr]
  omega
 rw [e0,e1,e2,e3];rfl
def ΓR1:Orc:=ΓQa
theorem OkR1:ΓR1.Ok prog:=qkK
def ΓR2:Orc:=ΓR1
theorem OkR2:ΓR2.Ok prog:=OkR1
theorem X4 (c p s x y z u v f:Int):runG ΓR2 L0 prog f272 [.v (.agg #[I c,I p,I s,I x,I y,I z,I u,I v,I f])] M0 =
 (bif !inB x (255:Int) then some (.v (Bo false),M0) else (bif !inB y (255:Int) then some (.v (Bo false),M0) else (bif !inB z (255:Int) then some (.v (Bo false),M0) else (bif !inB f (255:Int) then some (.v (Bo false),M0) else (bif !inB u (4:Int) then some (.v (Bo false),M0) else (bif !inB v (4:Int) then some (.v (Bo false),M0) else some (.v (Bo (stR c p s)),M0))))))):=by kernel_rfl
def EX (vs:List Value):Option (Bool×Value) :=
 match vs with
 | [.agg ⟨[.int .i64 c,.int .i64 p,.int .i64 s,.int .i64 x,.int .i64 y,.int .i64 z,.int .i64 u,.int .i64 v,.int .i64 f]⟩]=>some (true,Bo (fq c p s x y z u v f))
 | _=>none
theorem qfH:am 272 EX:=by
 intro vs r h
 unfold EX at h
 split at h
 ·rename_i c p s x y z u v f
  obtain ⟨h1,rfl⟩:=ab h
  refine ak (vs:=[.agg #[I c,I p,I s,I x,I y,I z,I u,I v,I f]]) (Λ:=L0) (m':=M0) OkR2 func272 rfl (fun z _ _=>bX _ z) ?_
  exact (X4 c p s x y z u v f).trans (by
   simp only [zj,Bool.not_not]
   unfold fq stR
   congr 4
   ac_rfl)
 ·cases h
def ΓR3:Orc:=ah 272 EX ΓR2
theorem OkR3:ΓR3.Ok prog:=af OkR2 qfH
theorem Y4 (n:Int):runG ΓR3 L0 prog f244 [.v (cl n)] M0 =
 some (.v (S (strOfNums (cU [[Dat.n (IntKind.u8.wrap (n.fdiv (16777216:Int)))],[Dat.n (IntKind.u8.wrap (n.fdiv (65536:Int)))],[Dat.n (IntKind.u8.wrap (n.fdiv (256:Int)))],[Dat.n (IntKind.u8.wrap n)]]))),M0):=by kernel_rfl
def FO (vs:List Value):Option (Bool×Value) :=
 match vs with
 | [.int .u32 n]=>some (true,S (be 4 n))
 | _=>none
theorem qgw:am 244 FO:=by
 intro vs r h
 unfold FO at h
 split at h
 ·rename_i n
  obtain ⟨h1,rfl⟩:=ab h
  refine ak (vs:=[cl n]) (Λ:=L0) (m':=M0) OkR3 func244 rfl (fun z _ _=>bX _ z) ?_
  exact (Y4 n).trans (by rw [<- qjb n];rfl)
 ·cases h
def ΓR4:Orc:=ah 244 FO ΓR3
theorem Rs:ΓR4.Ok prog:=af OkR3 qgw
theorem WF (s:ByteArray):runG ΓR4 L0 prog f197 [.v (S s)] M0 =
 (bif bv s then (bif (s.size+(be (4:Nat) (f7 s)).size).ble (9223372036854775807) then some (.v (S (s++be (4:Nat) (f7 s))),M0) else none) else none):=by kernel_rfl
def D1 (vs:List Value):Option (Bool×Value) :=
 match vs with
 | [.string s]=>some (Nat.ble s.size 1000000,S (dh s))
 | _=>none
theorem qeT:am 197 D1:=by
 intro vs r h
 unfold D1 at h
 split at h
 ·rename_i s
  obtain ⟨h1,rfl⟩:=ab h
  refine ak (vs:=[S s]) (Λ:=L0) (m':=M0) Rs func197 rfl (fun z _ _=>bX _ z) ?_
  exact (WF s).trans (by
   have hz:=Nat.le_of_ble_eq_true h1
   rw [nl (show s.size<=9223372036854775807 by omega),gh,Nat.ble_eq_true_of_le (show s.size+4<=9223372036854775807 by omega)]
   rfl)
 ·cases h
def ΓR5:Orc:=ah 197 D1 ΓR4
theorem qkH:ΓR5.Ok prog:=af Rs qeT
def ΓR6:Orc:=ΓR5
theorem qkG:ΓR6.Ok prog:=qkH
def ΓR7:Orc:=ΓR6
theorem qkF:ΓR7.Ok prog:=qkG
def ΓR8:Orc:=ΓR7
theorem qkE:ΓR8.Ok prog:=qkF
def ΓR9:Orc:=ΓR8
theorem qkD:ΓR9.Ok prog:=qkE
def ΓR10:Orc:=ΓR9
theorem Rv:ΓR10.Ok prog:=qkD
theorem X3 (c p s x y z u v f:Int):runG ΓR10 L0 prog f205 [.v (.agg #[I c,I p,I s,I x,I y,I z,I u,I v,I f])] M0 =
 (bif !fq c p s x y z u v f then some (.v (S { data:=#[]:ByteArray }),M0) else some (.v (S (dh (be (4:Nat) c++be (1:Nat) (cY p s)++(be (1:Nat) x++be (1:Nat) y++be (1:Nat) z)++be (1:Nat) (cY u v)++be (1:Nat) f))),M0)):=by kernel_rfl
def xT (vs:List Value):Option (Bool×Value) :=
 match vs with
 | [.agg ⟨[.int .i64 c,.int .i64 p,.int .i64 s,.int .i64 x,.int .i64 y,.int .i64 z,.int .i64 u,.int .i64 v,.int .i64 f]⟩]=>some (true,S (lX c p s x y z u v f))
 | _=>none
theorem Oh:am 205 xT:=by
 intro vs r h
 unfold xT at h
 split at h
 ·rename_i c p s x y z u v f
  obtain ⟨h1,rfl⟩:=ab h
  refine ak (vs:=[.agg #[I c,I p,I s,I x,I y,I z,I u,I v,I f]]) (Λ:=L0) (m':=M0) Rv func205 rfl (fun z _ _=>bX _ z) ?_
  exact (X3 c p s x y z u v f).trans (by
   unfold lX dC
   cases fq c p s x y z u v f with
   | false=>rfl
   | true =>
    rfl)
 ·cases h
def ΓR11:Orc:=ah 205 xT ΓR10
theorem qkJ:ΓR11.Ok prog:=af Rv Oh
def ΓR12:Orc:=ΓR11
theorem Ru:ΓR12.Ok prog:=qkJ
theorem X7 (c:Int):runG ΓR12 L0 prog f115 [.v (I c)] M0 =
 (bif decide (c<(1:Int)) then some (.v (S { data:=#[]:ByteArray }),M0) else (bif decide (c>(3:Int)) then some (.v (S { data:=#[]:ByteArray }),M0) else some (.v (S (dh (be (1:Nat) c++be (1:Nat) (wI ↑(BitVec.ofInt (64:Nat) c ^^^ BitVec.ofInt (64:Nat) (85:Int)).toNat)++be (1:Nat) (wI ↑(BitVec.ofInt (64:Nat) c ^^^ BitVec.ofInt (64:Nat) (170:Int)).toNat)++be (1:Nat) (wI ↑(BitVec.ofInt (64:Nat) c ^^^ BitVec.ofInt (64:Nat) (255:Int)).toNat)))),M0))):=by kernel_rfl
def EZ (vs:List Value):Option (Bool×Value) :=
 match vs with
 | [.int .i64 c]=>some (true,S (comT c))
 | _=>none
theorem qfJ:am 115 EZ:=by
 intro vs r h
 unfold EZ at h
 split at h
 ·rename_i c
  obtain ⟨h1,rfl⟩:=ab h
  refine ak (vs:=[I c]) (Λ:=L0) (m':=M0) Ru func115 rfl (fun z _ _=>bX _ z) ?_
  exact (X7 c).trans (by
   unfold comT comR
   by_cases c1:c<1
   ·rw [decide_eq_true c1,decide_eq_false (show ¬ 1<=c by omega)];rfl
   by_cases c2:c>3
   ·rw [decide_eq_false c1,decide_eq_true c2,decide_eq_true (show 1<=c by omega),decide_eq_false (show ¬ c<=3 by omega)];rfl
   have hc:c=1\/c=2\/c=3:=by omega
   unfold Hj
   rcases hc with rfl|rfl|rfl
   ·rfl
   ·rfl
   ·rfl)
 ·cases h
def ΓR13:Orc:=ah 115 EZ ΓR12
theorem Rt:ΓR13.Ok prog:=af Ru qfJ
theorem XE (c:Int):runG ΓR13 L0 prog f133 [.v (I c)] M0 =
 (bif decide (c<(1:Int)) then some (.v (S { data:=#[]:ByteArray }),M0) else (bif decide (c>(3:Int)) then some (.v (S { data:=#[]:ByteArray }),M0) else some (.v (S (dh (strOfNums (cU [[Dat.n (IntKind.u8.wrap c)],[Dat.n (IntKind.u8.wrap ↑(BitVec.ofInt (8:Nat) (IntKind.u8.wrap c) ^^^ BitVec.ofInt (8:Nat) (85:Int)).toNat)],[Dat.n (IntKind.u8.wrap ↑(BitVec.ofInt (8:Nat) (IntKind.u8.wrap c) ^^^ BitVec.ofInt (8:Nat) (170:Int)).toNat)],[Dat.n (IntKind.u8.wrap ↑(BitVec.ofInt (8:Nat) (IntKind.u8.wrap c) ^^^ BitVec.ofInt (8:Nat) (255:Int)).toNat)]])))),M0))):=by kernel_rfl
def EH (vs:List Value):Option (Bool×Value) :=
 match vs with
 | [.int .i64 c]=>some (true,S (comT c))
 | _=>none
theorem qfr:am 133 EH:=by
 intro vs r h
 unfold EH at h
 split at h
 ·rename_i c
  obtain ⟨h1,rfl⟩:=ab h
  refine ak (vs:=[I c]) (Λ:=L0) (m':=M0) Rt func133 rfl (fun z _ _=>bX _ z) ?_
  exact (XE c).trans (by
   unfold comT comR
   by_cases c1:c<1
   ·rw [decide_eq_true c1,decide_eq_false (show ¬ 1<=c by omega)];rfl
   by_cases c2:c>3
   ·rw [decide_eq_false c1,decide_eq_true c2,decide_eq_true (show 1<=c by omega),decide_eq_false (show ¬ c<=3 by omega)];rfl
   have hc:c=1\/c=2\/c=3:=by omega
   unfold Hj
   rcases hc with rfl|rfl|rfl
   ·simp only [HO]
    rfl
   ·simp only [HO]
    rfl
   ·simp only [HO]
    rfl)
 ·cases h
def ΓR14:Orc:=ah 133 EH ΓR13
theorem qkI:ΓR14.Ok prog:=af Rt qfr
def ΓRa:Orc:=ΓR14
theorem qkC:ΓRa.Ok prog:=qkI
end Go.Proofs.YtainfdcfkgemhaaGreat.Pe
namespace Go.Proofs.YtainfdcfkgemhaaGreat.Pe
open Go Go.Proofs Go.Sx Nw
set_option linter.unusedVariables false
theorem mz {s:ByteArray} {a b c:Nat} (h1:a<=b) (h2:b<=c):s.extract a b++s.extract b c=s.extract a c:=by
 rw [<- gM,de,fO,fO,fO]
 rw [show (L s).drop b=((L s).drop a).drop (b - a) by rw [List.drop_drop];congr 1;omega]
 rw [show c - a=(b - a)+(c - b) by omega,List.take_add]
def sj (s:ByteArray):Bool:=lX (bY s) (bF s 4) (bG s 4) (wI (aa s 5)) (wI (aa s 6)) (wI (aa s 7)) (bF s 8) (bG s 8) (wI (aa s 9))==s
def di (s:ByteArray):Int:=bif cu s 10 != 0 then cu s 10 else bif sj s then 0 else 3
def PM (s:ByteArray):Bool:=comT (wI (aa s 0))==s
def oo (s:ByteArray):Int:=bif cu s 4 != 0 then cu s 4 else bif PM s then 0 else 3
theorem lP {s:ByteArray} {i:Nat} (h:i+1<=s.size):be 1 (aa s (i:Int))=s.extract i (i+1):=by
 have h2:∃ x r,(L s).drop i=x::r:=by
  have:1<=((L s).drop i).length:=by rw [List.length_drop,eG];omega
  match hq:(L s).drop i,this with
  | x::r,_=>exact ⟨x,r,rfl⟩
 obtain ⟨x,r,h2⟩:=h2
 have hx:aa s (i:Int)=(x.toNat:Int):=by
  rw [dR,show (L s)[i]?=((L s).drop i)[0]? by rw [List.getElem?_drop];rfl,h2]
  rfl
 have:=dO x
 rw [<- gM,fO,h2,SO,hx,tW x _ (by omega),show i+1 - i=1 by omega]
 rfl
theorem gQ (s:ByteArray) (i:Nat):wI (aa s (i:Int))=aa s (i:Int):=by
 have:=d5 s i
 exact az (by omega)
theorem sK (s:ByteArray) (i:Nat):bF s (i:Int)=aa s (i:Int) % 16:=by
 have:=d5 s i
 unfold bF
 rw [Int.tmod_eq_emod_of_nonneg this.1,az (by omega)]
theorem tk (s:ByteArray) (i:Nat):bG s (i:Int)=aa s (i:Int) / 16:=by
 have:=d5 s i
 have e:∀ j:Int,IntKind.u8.wrap j=j % 256:=fun j=>by rw [<- cF true];rfl
 unfold bG
 rw [Int.tdiv_eq_ediv_of_nonneg this.1,e,az (by omega)]
 omega
theorem A7 (s:ByteArray) (i:Nat):cY (bF s (i:Int)) (bG s (i:Int))=aa s (i:Int):=by
 have:=d5 s i
 rw [sK,tk]
 unfold cY
 rw [az (n:=16*(aa s (i:Int) / 16)) (by omega),az (by omega)]
 omega
theorem Pl {s:ByteArray} (h:4<=s.size):be 4 (bY s)=s.extract 0 4:=by
 have hn:=MP (s:=s) (i:=0) (by omega)
 have r0:=d5 s 0
 have r1:=d5 s 1
 have r2:=d5 s 2
 have r3:=d5 s 3
 rw [show (0+4:Nat)=4 from rfl,show (0+1:Nat)=1 from rfl,show (0+2:Nat)=2 from rfl,show (0+3:Nat)=3 from rfl] at hn
 unfold bY
 rw [az (by rw [hn];omega)]
 exact qi9 (by rw [ByteArray.size_extract];omega) _ (by rw [hn];omega)
theorem PE {s:ByteArray} {n:Nat} (h:cu s (n:Int)=0):dh (s.extract 0 n)=s:=by
 unfold cu at h
 split at h
 ·cases h
 ·split at h
  ·cases h
  ·split at h
   ·rename_i hb
    rw [Int.toNat_natCast] at hb
    exact (ic _ _).1 hb
   ·cases h
theorem MW {s:ByteArray} (h:0<s.size):((⟨#[]⟩:ByteArray)==s)=false:=by
 rw [<- Bool.not_eq_true,ic]
 rintro rfl
 exact absurd h (Nat.lt_irrefl 0)
theorem Tp {s:ByteArray} (h:cu s 6=0):oZ s=gP (bY s) (bF s 4) (bG s 4) (wI (aa s 5)):=by
 have hs:=qF h
 have hb:df (bY s) (bF s 4) (bG s 4) (wI (aa s 5))=s:=by
  unfold df
  have t4:=A7 s 4
  have b4:=lP (s:=s) (i:=4) (by omega)
  have b5:=lP (s:=s) (i:=5) (by omega)
  have w5:=gQ s 5
  rw [show ((4:Nat):Int)=4 from rfl] at t4 b4
  rw [show ((5:Nat):Int)=5 from rfl] at b5 w5
  rw [Pl (by omega),t4,b4,w5,b5,mz (by omega) (by omega),mz (by omega) (by omega)]
  exact PE (n:=6) h
 unfold oZ jK
 cases gP (bY s) (bF s 4) (bG s 4) (wI (aa s 5)) with
 | false=>exact MW (by omega)
 | true=>exact (ic _ _).2 hb
theorem qaE {s:ByteArray} (h:cu s 10=0):sj s=fq (bY s) (bF s 4) (bG s 4) (wI (aa s 5)) (wI (aa s 6)) (wI (aa s 7)) (bF s 8) (bG s 8) (wI (aa s 9)):=by
 have hs:=qF h
 have hb:dC (bY s) (bF s 4) (bG s 4) (wI (aa s 5)) (wI (aa s 6)) (wI (aa s 7)) (bF s 8) (bG s 8) (wI (aa s 9))=s:=by
  unfold dC
  have t4:=A7 s 4
  have t8:=A7 s 8
  have b4:=lP (s:=s) (i:=4) (by omega)
  have b5:=lP (s:=s) (i:=5) (by omega)
  have b6:=lP (s:=s) (i:=6) (by omega)
  have b7:=lP (s:=s) (i:=7) (by omega)
  have b8:=lP (s:=s) (i:=8) (by omega)
  have b9:=lP (s:=s) (i:=9) (by omega)
  have w5:=gQ s 5
  have w6:=gQ s 6
  have w7:=gQ s 7
  have w9:=gQ s 9
  rw [show ((4:Nat):Int)=4 from rfl] at t4 b4
  rw [show ((5:Nat):Int)=5 from rfl] at b5 w5
  rw [show ((6:Nat):Int)=6 from rfl] at b6 w6
  rw [show ((7:Nat):Int)=7 from rfl] at b7 w7
  rw [show ((8:Nat):Int)=8 from rfl] at b8 t8
  rw [show ((9:Nat):Int)=9 from rfl] at b9 w9
  rw [Pl (by omega),t4,t8,b4,w5,b5,w6,b6,w7,b7,b8,w9,b9,mz (by omega) (by omega),mz (by omega) (by omega),mz (by omega) (by omega),mz (by omega) (by omega),mz (by omega) (by omega),mz (by omega) (by omega)]
  exact PE (n:=10) h
 unfold sj lX
 cases fq (bY s) (bF s 4) (bG s 4) (wI (aa s 5)) (wI (aa s 6)) (wI (aa s 7)) (bF s 8) (bG s 8) (wI (aa s 9)) with
 | false=>exact MW (by omega)
 | true=>exact (ic _ _).2 hb
def ΓT1:Orc:=ΓRa
theorem OkT1:ΓT1.Ok prog:=qkC
def ΓT2:Orc:=ΓT1
theorem OkT2:ΓT2.Ok prog:=OkT1
def ΓT3:Orc:=ΓT2
theorem OkT3:ΓT3.Ok prog:=OkT2
theorem XN (s:ByteArray):runG ΓT3 L0 prog f141 [.v (S s)] M0 =
 (bif true&&s.size.ble (1000000) then (bif cu s (4:Int) != (0:Int) then some (.v (.tuple #[(I 0),(I (cu s (4:Int)))]),M0) else (bif true&&decide ((0:Int)<↑s.size) then (bif !(comT (wI (aa s (0:Int)))).toList==s.toList then some (.v (.tuple #[(I 0),(I 3)]),M0) else some (.v (.tuple #[(I (wI (aa s (0:Int)))),(I 0)]),M0)) else none)) else none):=by kernel_rfl
def xR (vs:List Value):Option (Bool×Value) :=
 match vs with
 | [.string s]=>some (Nat.ble s.size 1000000,.tuple #[I (bz (oo s==0) (wI (aa s 0))),I (oo s)])
 | _=>none
theorem Oe:am 141 xR:=by
 intro vs r h
 unfold xR at h
 split at h
 ·rename_i s
  obtain ⟨h1,rfl⟩:=ab h
  refine ak (vs:=[S s]) (Λ:=L0) (m':=M0) OkT3 func141 rfl (fun z _ _=>bX _ z) ?_
  exact (XN s).trans (by
   rw [h1]
   unfold oo
   rcases y6 s 4 with he|he|he|he
   ·rw [he];rfl
   ·rw [he];rfl
   ·rw [he];rfl
   ·have hs:=qF he
    rw [he,decide_eq_true (show (0:Int)<(s.size:Int) by omega)]
    unfold PM
    rw [<- mN]
    cases (comT (wI (aa s 0))).toList==s.toList<;>rfl)
 ·cases h
def ΓT4:Orc:=ah 141 xR ΓT3
theorem OkT4:ΓT4.Ok prog:=af OkT3 Oe
def ΓT5:Orc:=ΓT4
theorem OkT5:ΓT5.Ok prog:=OkT4
def ΓTa:Orc:=ΓT5
theorem qkr:ΓTa.Ok prog:=OkT5
end Go.Proofs.YtainfdcfkgemhaaGreat.Pe
namespace Go.Proofs.YtainfdcfkgemhaaGreat.So
open Go Go.Proofs Go.Sx
set_option linter.unusedVariables false
def Tj (f:FuncId):Bool:=Nat.beq f 175||Nat.beq f 176||Nat.beq f 217||Nat.beq f 137||false||Nat.beq f 206||Nat.beq f 273||false||Nat.beq f 193||Nat.beq f 60||sJ f
def Γs0:Orc:={ ah 185 xY ΓTl0 with wr:=Tj,sb:=true,bs:=true,av:=true }
theorem QO:Γs0.Ok prog:=⟨(af Ir xX).call,(af Ir xX).rd,(af Ir xX).eqv⟩
def dP (n m:Int):Bool:=bif decide (n<wI (0 - m)) then true else decide (n>m)
theorem WL (n:Int) (m:Int):runG Γs0 L0 prog f326 [.v (I n),.v (I m)] M0 =
 (bif decide (n<wI ((0:Int) - m)) then some (.v (Bo true),M0) else some (.v (Bo (decide (n>m))),M0)):=by kernel_rfl
def D6 (vs:List Value):Option (Bool×Value) :=
 match vs with
 | [.int .i64 n,.int .i64 m]=>some (true,Bo (dP n m))
 | _=>none
theorem qeX:am 326 D6:=by
 intro vs r h
 unfold D6 at h
 split at h
 ·rename_i n m
  obtain ⟨h1,rfl⟩:=ab h
  refine ak (vs:=[I n,I m]) (Λ:=L0) (m':=M0) QO func326 rfl ai ?_
  exact (WL n m).trans (by unfold dP;cases decide (n<wI (0 - m))<;>rfl)
 ·cases h
def Γs1:Orc:=ah 326 D6 Γs0
theorem QN:Γs1.Ok prog:=af QO qeX
theorem Wr (p:Int) (q:Int) (x:Int) (y:Int) (z:Int) (vx:Int) (vy:Int) (vz:Int):runG Γs1 L0 prog f327 [.v (.agg #[I p,I q,I x,I y,I z,I vx,I vy,I vz])] M0 =
 some (.v (.agg #[(I vx),(I vy),(I vz)]),M0):=by kernel_rfl
def DN (vs:List Value):Option (Bool×Value) :=
 match vs with
 | [.agg ⟨[.int .i64 p,.int .i64 q,.int .i64 x,.int .i64 y,.int .i64 z,.int .i64 vx,.int .i64 vy,.int .i64 vz]⟩]=>some (true,.agg #[I vx,I vy,I vz])
 | _=>none
theorem qeG:am 327 DN:=by
 intro vs r h
 unfold DN at h
 split at h
 ·rename_i p q x y z vx vy vz
  obtain ⟨h1,rfl⟩:=ab h
  refine ak (vs:=[.agg #[I p,I q,I x,I y,I z,I vx,I vy,I vz]]) (Λ:=L0) (m':=M0) QN func327 rfl ai ?_
  exact (Wr p q x y z vx vy vz).trans (rfl)
 ·cases h
def Γs2:Orc:=ah 327 DN Γs1
theorem QK:Γs2.Ok prog:=af QN qeG
def fH (x y z vx vy vz:Int):Bool:=dP x 1073741824||(dP y 1073741824||(dP z 1073741824||(dP vx 65536||(dP vy 65536||dP vz 65536))))
theorem WE (p:Int) (q:Int) (x:Int) (y:Int) (z:Int) (vx:Int) (vy:Int) (vz:Int):runG Γs2 L0 prog f274 [.v (.agg #[I p,I q,I x,I y,I z,I vx,I vy,I vz])] M0 =
 (bif dP x (1073741824:Int) then some (.v (Bo true),M0) else (bif dP y (1073741824:Int) then some (.v (Bo true),M0) else (bif dP z (1073741824:Int) then some (.v (Bo true),M0) else (bif dP vx (65536:Int) then some (.v (Bo true),M0) else (bif dP vy (65536:Int) then some (.v (Bo true),M0) else (bif dP vz (65536:Int) then some (.v (Bo true),M0) else some (.v (Bo false),M0))))))):=by kernel_rfl
def D0 (vs:List Value):Option (Bool×Value) :=
 match vs with
 | [.agg ⟨[.int .i64 p,.int .i64 q,.int .i64 x,.int .i64 y,.int .i64 z,.int .i64 vx,.int .i64 vy,.int .i64 vz]⟩]=>some (true,Bo (fH x y z vx vy vz))
 | _=>none
theorem qeS:am 274 D0:=by
 intro vs r h
 unfold D0 at h
 split at h
 ·rename_i p q x y z vx vy vz
  obtain ⟨h1,rfl⟩:=ab h
  refine ak (vs:=[.agg #[I p,I q,I x,I y,I z,I vx,I vy,I vz]]) (Λ:=L0) (m':=M0) QK func274 rfl ai ?_
  exact (WE p q x y z vx vy vz).trans (by unfold fH;cases dP x 1073741824<;>cases dP y 1073741824<;>cases dP z 1073741824<;>cases dP vx 65536<;>cases dP vy 65536<;>cases dP vz 65536<;>rfl)
 ·cases h
def Γs3:Orc:=ah 274 D0 Γs2
theorem QJ:Γs3.Ok prog:=af QK qeS
def jc (a b P:Int):Bool:=decide (a - b>P)||decide (b - a>P)
def aE (a:Int):Bool:=decide (-9223372036854775808<=a/\a<9223372036854775808)
theorem Wv (a:Int) (b:Int) (s:Int) (c:Int):runG Γs3 L0 prog f328 [.v (I a),.v (I b),.v (I s),.v (I c)] M0 =
 (bif a7 (IntKind.u64.wrap s)&&a7 (IntKind.u64.wrap c) then (bif IntKind.u64.wrap s*IntKind.u64.wrap c / (18446744073709551616:Int)==(0:Int) then some (.v (Bo (decide (IntKind.u64.wrap (IntKind.u64.wrap (if b>a then b else a) - IntKind.u64.wrap (if b<a then b else a))>IntKind.u64.wrap s*IntKind.u64.wrap c % (18446744073709551616:Int)))),M0) else some (.v (Bo false),M0)) else none):=by kernel_rfl
def DR (vs:List Value):Option (Bool×Value) :=
 match vs with
 | [.int .i64 a,.int .i64 b,.int .i64 s,.int .i64 c]=>some (aE a&&(aE b&&(decide (0<=s/\s<9223372036854775808)&&decide (0<=c/\c<9223372036854775808))),Bo (jc a b (s*c)))
 | _=>none
theorem qeK:am 328 DR:=by
 intro vs r h
 unfold DR at h
 split at h
 ·rename_i a b s c
  obtain ⟨h1,rfl⟩:=ab h
  refine ak (vs:=[I a,I b,I s,I c]) (Λ:=L0) (m':=M0) QJ func328 rfl ai ?_
  exact (Wv a b s c).trans (by
   simp only [Bool.and_eq_true,decide_eq_true_eq,aE] at h1
   obtain ⟨h1,h2,h3,h4⟩:=h1
   rw [kr (n:=s) (by omega),kr (n:=c) (by omega),fy.2 (by omega),fy.2 (by omega)]
   have hp:0<=s*c:=Int.mul_nonneg h3.1 h4.1
   generalize s*c=P at *
   have hd:IntKind.u64.wrap (IntKind.u64.wrap (if b>a then b else a) - IntKind.u64.wrap (if b<a then b else a))=(if b>a then b - a else a - b):=by
    rw [wrU,wrU,wrU]
    split<;>split<;>omega
   rw [hd]
   unfold jc
   by_cases h:P / 18446744073709551616=0
   ·rw [h]
    have e:(decide ((if b>a then b - a else a - b)>P % 18446744073709551616))=(decide (a - b>P)||decide (b - a>P)):=by
     rw [<- Bool.decide_or,decide_eq_decide]
     split<;>omega
    show some (SV.v (Bo (decide _)),M0)=_
    rw [e]
   ·rw [beq_eq_false_iff_ne.2 h,decide_eq_false (show ¬ a - b>P by omega),decide_eq_false (show ¬ b - a>P by omega)]
    rfl)
 ·cases h
def Γs4:Orc:=ah 328 DR Γs3
theorem QI:Γs4.Ok prog:=af QJ qeK
def fa (vx vy vz l6 l7 l8 P:Int):Bool:=jc vx l6 P||(jc vy l7 P||jc vz l8 P)
theorem Wx (p:Int) (q:Int) (x:Int) (y:Int) (z:Int) (vx:Int) (vy:Int) (vz:Int) (s:Int) (ma:Int) (l1:Int) (l2:Int) (l3:Int) (l4:Int) (l5:Int) (l6:Int) (l7:Int) (l8:Int) (hs:Bool) (ct:Int) (t:Int):runG Γs4 L0 prog f275 [.ptr 0 0,.v (.agg #[I p,I q,I x,I y,I z,I vx,I vy,I vz])] ⟨[[.v (I s),.v (I ma),.ptr 1 0,.v (I l1),.v (I l2),.v (I l3),.v (I l4),.v (I l5),.v (I l6),.v (I l7),.v (I l8),.v (Bo hs)],[.v (I ct),.v (I t)]],[true,true],[]⟩ =
 (bif aE vx&&(aE l6&&(decide ((0:Int)<=s/\s<(9223372036854775808:Int))&&decide ((0:Int)<=wI (t+(1:Int))/\wI (t+(1:Int))<(9223372036854775808:Int)))) then (bif jc vx l6 (s*wI (t+(1:Int))) then some (.v (Bo true),⟨[[.v (I s),.v (I ma),.ptr 1 0,.v (I l1),.v (I l2),.v (I l3),.v (I l4),.v (I l5),.v (I l6),.v (I l7),.v (I l8),.v (Bo hs)],[.v (I ct),.v (I t)]],[true,true],[]⟩) else (bif aE vy&&(aE l7&&(decide ((0:Int)<=s/\s<(9223372036854775808:Int))&&decide ((0:Int)<=wI (t+(1:Int))/\wI (t+(1:Int))<(9223372036854775808:Int)))) then (bif jc vy l7 (s*wI (t+(1:Int))) then some (.v (Bo true),⟨[[.v (I s),.v (I ma),.ptr 1 0,.v (I l1),.v (I l2),.v (I l3),.v (I l4),.v (I l5),.v (I l6),.v (I l7),.v (I l8),.v (Bo hs)],[.v (I ct),.v (I t)]],[true,true],[]⟩) else (bif aE vz&&(aE l8&&(decide ((0:Int)<=s/\s<(9223372036854775808:Int))&&decide ((0:Int)<=wI (t+(1:Int))/\wI (t+(1:Int))<(9223372036854775808:Int)))) then (bif jc vz l8 (s*wI (t+(1:Int))) then some (.v (Bo true),⟨[[.v (I s),.v (I ma),.ptr 1 0,.v (I l1),.v (I l2),.v (I l3),.v (I l4),.v (I l5),.v (I l6),.v (I l7),.v (I l8),.v (Bo hs)],[.v (I ct),.v (I t)]],[true,true],[]⟩) else some (.v (Bo false),⟨[[.v (I s),.v (I ma),.ptr 1 0,.v (I l1),.v (I l2),.v (I l3),.v (I l4),.v (I l5),.v (I l6),.v (I l7),.v (I l8),.v (Bo hs)],[.v (I ct),.v (I t)]],[true,true],[]⟩)) else none)) else none)) else none):=by kernel_rfl
def DU (xs:List SV) (m:Mem):Option (Bool×Value) :=
 match xs,m with
 | [.ptr 0 0,.v (.agg ⟨[.int .i64 p,.int .i64 q,.int .i64 x,.int .i64 y,.int .i64 z,.int .i64 vx,.int .i64 vy,.int .i64 vz]⟩)],⟨[[.v (.int .i64 s),.v (.int .i64 ma),.ptr 1 0,.v (.int .i64 l1),.v (.int .i64 l2),.v (.int .i64 l3),.v (.int .i64 l4),.v (.int .i64 l5),.v (.int .i64 l6),.v (.int .i64 l7),.v (.int .i64 l8),.v (.bool hs)],[.v (.int .i64 ct),.v (.int .i64 t)]],[true,true],[]⟩=>some ((aE vx&&(aE vy&&(aE vz&&(aE l6&&(aE l7&&(aE l8&&(decide (0<=s/\s<9223372036854775808)&&decide (0<=t/\t<=1000000)))))))),Bo (fa vx vy vz l6 l7 l8 (s*(t+1))))
 | _,_=>none
theorem qeM:bk 275 DU:=by
 intro xs m r h
 unfold DU at h
 split at h
 ·rename_i p q x y z vx vy vz s ma l1 l2 l3 l4 l5 l6 l7 l8 hs ct t
  obtain ⟨h1,rfl⟩:=ab h
  refine aj (Λ:=L0) QI func275 rfl ai ?_
  refine (Wx p q x y z vx vy vz s ma l1 l2 l3 l4 l5 l6 l7 l8 hs ct t).trans ?_
  simp only [Bool.and_eq_true] at h1
  obtain ⟨h1,h2,h3,h4,h5,h6,h7,h8⟩:=h1
  have h9:=of_decide_eq_true h8
  rw [az (n:=t+1) (by omega),h1,h2,h3,h4,h5,h6,h7,decide_eq_true (show 0<=t+1/\t+1<9223372036854775808 by omega)]
  unfold fa
  cases jc vx l6 (s*(t+1))<;>cases jc vy l7 (s*(t+1))<;>cases jc vz l8 (s*(t+1))<;>rfl
 ·cases h
def Γs5:Orc:=aU 275 DU Γs4
theorem QH:Γs5.Ok prog:=aO QI qeM
def tx (st fl fr jm:Bool):Int:=(bif st then 2 else 0)+((bif fl then 4 else 0)+((bif fr then 8 else 0)+(bif jm then 16 else 0)))
def BA (q:Int) (x:Int) (y:Int) (z:Int) (vx:Int) (vy:Int) (vz:Int) (s:Int) (ma:Int) (l1:Int) (l2:Int) (l3:Int) (l4:Int) (l5:Int) (l6:Int) (l7:Int) (l8:Int) (hs:Bool) (ct:Int) (t:Int):Option (SV×Mem):=bif q != (0:Int) then (bif fH x y z vx vy vz then (bif hs then (bif aE vx&&(aE vy&&(aE vz&&(aE l6&&(aE l7&&(aE l8&&(decide ((0:Int)<=s/\s<(9223372036854775808:Int))&&decide ((0:Int)<=t/\t<=(1000000:Int)))))))) then (bif fa vx vy vz l6 l7 l8 (s*(t+(1:Int))) then some (.v (I 28),⟨[[.v (I s),.v (I ma),.ptr 1 0,.v (I l1),.v (I l2),.v (I l3),.v (I l4),.v (I l5),.v (I l6),.v (I l7),.v (I l8),.v (Bo hs)],[.v (I ct),.v (I t)]],[true,true],[]⟩) else some (.v (I 12),⟨[[.v (I s),.v (I ma),.ptr 1 0,.v (I l1),.v (I l2),.v (I l3),.v (I l4),.v (I l5),.v (I l6),.v (I l7),.v (I l8),.v (Bo hs)],[.v (I ct),.v (I t)]],[true,true],[]⟩)) else none) else some (.v (I 12),⟨[[.v (I s),.v (I ma),.ptr 1 0,.v (I l1),.v (I l2),.v (I l3),.v (I l4),.v (I l5),.v (I l6),.v (I l7),.v (I l8),.v (Bo hs)],[.v (I ct),.v (I t)]],[true,true],[]⟩)) else (bif hs then (bif aE vx&&(aE vy&&(aE vz&&(aE l6&&(aE l7&&(aE l8&&(decide ((0:Int)<=s/\s<(9223372036854775808:Int))&&decide ((0:Int)<=t/\t<=(1000000:Int)))))))) then (bif fa vx vy vz l6 l7 l8 (s*(t+(1:Int))) then some (.v (I 20),⟨[[.v (I s),.v (I ma),.ptr 1 0,.v (I l1),.v (I l2),.v (I l3),.v (I l4),.v (I l5),.v (I l6),.v (I l7),.v (I l8),.v (Bo hs)],[.v (I ct),.v (I t)]],[true,true],[]⟩) else some (.v (I 4),⟨[[.v (I s),.v (I ma),.ptr 1 0,.v (I l1),.v (I l2),.v (I l3),.v (I l4),.v (I l5),.v (I l6),.v (I l7),.v (I l8),.v (Bo hs)],[.v (I ct),.v (I t)]],[true,true],[]⟩)) else none) else some (.v (I 4),⟨[[.v (I s),.v (I ma),.ptr 1 0,.v (I l1),.v (I l2),.v (I l3),.v (I l4),.v (I l5),.v (I l6),.v (I l7),.v (I l8),.v (Bo hs)],[.v (I ct),.v (I t)]],[true,true],[]⟩))) else (bif fH x y z vx vy vz then (bif hs then (bif aE vx&&(aE vy&&(aE vz&&(aE l6&&(aE l7&&(aE l8&&(decide ((0:Int)<=s/\s<(9223372036854775808:Int))&&decide ((0:Int)<=t/\t<=(1000000:Int)))))))) then (bif fa vx vy vz l6 l7 l8 (s*(t+(1:Int))) then some (.v (I 24),⟨[[.v (I s),.v (I ma),.ptr 1 0,.v (I l1),.v (I l2),.v (I l3),.v (I l4),.v (I l5),.v (I l6),.v (I l7),.v (I l8),.v (Bo hs)],[.v (I ct),.v (I t)]],[true,true],[]⟩) else some (.v (I 8),⟨[[.v (I s),.v (I ma),.ptr 1 0,.v (I l1),.v (I l2),.v (I l3),.v (I l4),.v (I l5),.v (I l6),.v (I l7),.v (I l8),.v (Bo hs)],[.v (I ct),.v (I t)]],[true,true],[]⟩)) else none) else some (.v (I 8),⟨[[.v (I s),.v (I ma),.ptr 1 0,.v (I l1),.v (I l2),.v (I l3),.v (I l4),.v (I l5),.v (I l6),.v (I l7),.v (I l8),.v (Bo hs)],[.v (I ct),.v (I t)]],[true,true],[]⟩)) else (bif hs then (bif aE vx&&(aE vy&&(aE vz&&(aE l6&&(aE l7&&(aE l8&&(decide ((0:Int)<=s/\s<(9223372036854775808:Int))&&decide ((0:Int)<=t/\t<=(1000000:Int)))))))) then (bif fa vx vy vz l6 l7 l8 (s*(t+(1:Int))) then some (.v (I 16),⟨[[.v (I s),.v (I ma),.ptr 1 0,.v (I l1),.v (I l2),.v (I l3),.v (I l4),.v (I l5),.v (I l6),.v (I l7),.v (I l8),.v (Bo hs)],[.v (I ct),.v (I t)]],[true,true],[]⟩) else some (.v (I 0),⟨[[.v (I s),.v (I ma),.ptr 1 0,.v (I l1),.v (I l2),.v (I l3),.v (I l4),.v (I l5),.v (I l6),.v (I l7),.v (I l8),.v (Bo hs)],[.v (I ct),.v (I t)]],[true,true],[]⟩)) else none) else some (.v (I 0),⟨[[.v (I s),.v (I ma),.ptr 1 0,.v (I l1),.v (I l2),.v (I l3),.v (I l4),.v (I l5),.v (I l6),.v (I l7),.v (I l8),.v (Bo hs)],[.v (I ct),.v (I t)]],[true,true],[]⟩)))
theorem WC (p:Int) (q:Int) (x:Int) (y:Int) (z:Int) (vx:Int) (vy:Int) (vz:Int) (s:Int) (ma:Int) (l1:Int) (l2:Int) (l3:Int) (l4:Int) (l5:Int) (l6:Int) (l7:Int) (l8:Int) (hs:Bool) (ct:Int) (t:Int):runG Γs5 L0 prog f207 [.ptr 0 0,.v (.agg #[I p,I q,I x,I y,I z,I vx,I vy,I vz])] ⟨[[.v (I s),.v (I ma),.ptr 1 0,.v (I l1),.v (I l2),.v (I l3),.v (I l4),.v (I l5),.v (I l6),.v (I l7),.v (I l8),.v (Bo hs)],[.v (I ct),.v (I t)]],[true,true],[]⟩ =
 (bif hs then (bif p==l1 then (bif q != (0:Int) then (bif fH x y z vx vy vz then (bif hs then (bif aE vx&&(aE vy&&(aE vz&&(aE l6&&(aE l7&&(aE l8&&(decide ((0:Int)<=s/\s<(9223372036854775808:Int))&&decide ((0:Int)<=t/\t<=(1000000:Int)))))))) then (bif fa vx vy vz l6 l7 l8 (s*(t+(1:Int))) then some (.v (I 30),⟨[[.v (I s),.v (I ma),.ptr 1 0,.v (I l1),.v (I l2),.v (I l3),.v (I l4),.v (I l5),.v (I l6),.v (I l7),.v (I l8),.v (Bo hs)],[.v (I ct),.v (I t)]],[true,true],[]⟩) else some (.v (I 14),⟨[[.v (I s),.v (I ma),.ptr 1 0,.v (I l1),.v (I l2),.v (I l3),.v (I l4),.v (I l5),.v (I l6),.v (I l7),.v (I l8),.v (Bo hs)],[.v (I ct),.v (I t)]],[true,true],[]⟩)) else none) else some (.v (I 14),⟨[[.v (I s),.v (I ma),.ptr 1 0,.v (I l1),.v (I l2),.v (I l3),.v (I l4),.v (I l5),.v (I l6),.v (I l7),.v (I l8),.v (Bo hs)],[.v (I ct),.v (I t)]],[true,true],[]⟩)) else (bif hs then (bif aE vx&&(aE vy&&(aE vz&&(aE l6&&(aE l7&&(aE l8&&(decide ((0:Int)<=s/\s<(9223372036854775808:Int))&&decide ((0:Int)<=t/\t<=(1000000:Int)))))))) then (bif fa vx vy vz l6 l7 l8 (s*(t+(1:Int))) then some (.v (I 22),⟨[[.v (I s),.v (I ma),.ptr 1 0,.v (I l1),.v (I l2),.v (I l3),.v (I l4),.v (I l5),.v (I l6),.v (I l7),.v (I l8),.v (Bo hs)],[.v (I ct),.v (I t)]],[true,true],[]⟩) else some (.v (I 6),⟨[[.v (I s),.v (I ma),.ptr 1 0,.v (I l1),.v (I l2),.v (I l3),.v (I l4),.v (I l5),.v (I l6),.v (I l7),.v (I l8),.v (Bo hs)],[.v (I ct),.v (I t)]],[true,true],[]⟩)) else none) else some (.v (I 6),⟨[[.v (I s),.v (I ma),.ptr 1 0,.v (I l1),.v (I l2),.v (I l3),.v (I l4),.v (I l5),.v (I l6),.v (I l7),.v (I l8),.v (Bo hs)],[.v (I ct),.v (I t)]],[true,true],[]⟩))) else (bif fH x y z vx vy vz then (bif hs then (bif aE vx&&(aE vy&&(aE vz&&(aE l6&&(aE l7&&(aE l8&&(decide ((0:Int)<=s/\s<(9223372036854775808:Int))&&decide ((0:Int)<=t/\t<=(1000000:Int)))))))) then (bif fa vx vy vz l6 l7 l8 (s*(t+(1:Int))) then some (.v (I 26),⟨[[.v (I s),.v (I ma),.ptr 1 0,.v (I l1),.v (I l2),.v (I l3),.v (I l4),.v (I l5),.v (I l6),.v (I l7),.v (I l8),.v (Bo hs)],[.v (I ct),.v (I t)]],[true,true],[]⟩) else some (.v (I 10),⟨[[.v (I s),.v (I ma),.ptr 1 0,.v (I l1),.v (I l2),.v (I l3),.v (I l4),.v (I l5),.v (I l6),.v (I l7),.v (I l8),.v (Bo hs)],[.v (I ct),.v (I t)]],[true,true],[]⟩)) else none) else some (.v (I 10),⟨[[.v (I s),.v (I ma),.ptr 1 0,.v (I l1),.v (I l2),.v (I l3),.v (I l4),.v (I l5),.v (I l6),.v (I l7),.v (I l8),.v (Bo hs)],[.v (I ct),.v (I t)]],[true,true],[]⟩)) else (bif hs then (bif aE vx&&(aE vy&&(aE vz&&(aE l6&&(aE l7&&(aE l8&&(decide ((0:Int)<=s/\s<(9223372036854775808:Int))&&decide ((0:Int)<=t/\t<=(1000000:Int)))))))) then (bif fa vx vy vz l6 l7 l8 (s*(t+(1:Int))) then some (.v (I 18),⟨[[.v (I s),.v (I ma),.ptr 1 0,.v (I l1),.v (I l2),.v (I l3),.v (I l4),.v (I l5),.v (I l6),.v (I l7),.v (I l8),.v (Bo hs)],[.v (I ct),.v (I t)]],[true,true],[]⟩) else some (.v (I 2),⟨[[.v (I s),.v (I ma),.ptr 1 0,.v (I l1),.v (I l2),.v (I l3),.v (I l4),.v (I l5),.v (I l6),.v (I l7),.v (I l8),.v (Bo hs)],[.v (I ct),.v (I t)]],[true,true],[]⟩)) else none) else some (.v (I 2),⟨[[.v (I s),.v (I ma),.ptr 1 0,.v (I l1),.v (I l2),.v (I l3),.v (I l4),.v (I l5),.v (I l6),.v (I l7),.v (I l8),.v (Bo hs)],[.v (I ct),.v (I t)]],[true,true],[]⟩)))) else (BA q x y z vx vy vz s ma l1 l2 l3 l4 l5 l6 l7 l8 hs ct t)) else (BA q x y z vx vy vz s ma l1 l2 l3 l4 l5 l6 l7 l8 hs ct t)):=by kernel_rfl
def DY (xs:List SV) (m:Mem):Option (Bool×Value) :=
 match xs,m with
 | [.ptr 0 0,.v (.agg ⟨[.int .i64 p,.int .i64 q,.int .i64 x,.int .i64 y,.int .i64 z,.int .i64 vx,.int .i64 vy,.int .i64 vz]⟩)],⟨[[.v (.int .i64 s),.v (.int .i64 ma),.ptr 1 0,.v (.int .i64 l1),.v (.int .i64 l2),.v (.int .i64 l3),.v (.int .i64 l4),.v (.int .i64 l5),.v (.int .i64 l6),.v (.int .i64 l7),.v (.int .i64 l8),.v (.bool hs)],[.v (.int .i64 ct),.v (.int .i64 t)]],[true,true],[]⟩=>some ((aE vx&&(aE vy&&(aE vz&&(aE l6&&(aE l7&&(aE l8&&(decide (0<=s/\s<9223372036854775808)&&decide (0<=t/\t<=1000000)))))))),I (tx (hs&&p==l1) (q != 0) (fH x y z vx vy vz) (hs&&fa vx vy vz l6 l7 l8 (s*(t+1)))))
 | _,_=>none
theorem qeQ:bk 207 DY:=by
 intro xs m r h
 unfold DY at h
 split at h
 ·rename_i p q x y z vx vy vz s ma l1 l2 l3 l4 l5 l6 l7 l8 hs ct t
  obtain ⟨h1,rfl⟩:=ab h
  refine aj (Λ:=L0) QH func207 rfl ai ?_
  refine (WC p q x y z vx vy vz s ma l1 l2 l3 l4 l5 l6 l7 l8 hs ct t).trans ?_
  unfold BA
  rw [h1]
  cases hs<;>cases p==l1<;>cases q != 0<;>cases fH x y z vx vy vz<;>cases fa vx vy vz l6 l7 l8 (s*(t+1))<;>rfl
 ·cases h
def Γs6:Orc:=aU 207 DY Γs5
theorem QG:Γs6.Ok prog:=aO QH qeQ
def gN (b:Bool) (x:Int):Int:=bif b then 0 else x
def mw (b x:Bool):Bool:=bif b then false else x
theorem WD (s:Int) (ma:Int) (l1:Int) (l2:Int) (l3:Int) (l4:Int) (l5:Int) (l6:Int) (l7:Int) (l8:Int) (hs:Bool) (ct:Int) (t:Int):runG Γs6 L0 prog f273 [.ptr 0 0] ⟨[[.v (I s),.v (I ma),.ptr 1 0,.v (I l1),.v (I l2),.v (I l3),.v (I l4),.v (I l5),.v (I l6),.v (I l7),.v (I l8),.v (Bo hs)],[.v (I ct),.v (I t)]],[true,true],[]⟩ =
 some (.v (.tuple #[]),⟨[[.v (I s),.v (I ma),.ptr 1 0,.v (I 0),.v (I 0),.v (I 0),.v (I 0),.v (I 0),.v (I 0),.v (I 0),.v (I 0),.v (Bo false)],[.v (I ct),.v (I t)]],[true,true],[]⟩):=by kernel_rfl
def DZ (xs:List SV) (m:Mem):Option (Bool×SV×Mem) :=
 match xs,m with
 | [.ptr 0 0],⟨[[.v (.int .i64 s),.v (.int .i64 ma),.ptr 1 0,.v (.int .i64 l1),.v (.int .i64 l2),.v (.int .i64 l3),.v (.int .i64 l4),.v (.int .i64 l5),.v (.int .i64 l6),.v (.int .i64 l7),.v (.int .i64 l8),.v (.bool hs)],[.v (.int .i64 ct),.v (.int .i64 t)]],[true,true],[]⟩=>some (true,.v (.tuple #[]),⟨[[.v (I s),.v (I ma),.ptr 1 0,.v (I 0),.v (I 0),.v (I 0),.v (I 0),.v (I 0),.v (I 0),.v (I 0),.v (I 0),.v (Bo false)],[.v (I ct),.v (I t)]],[true,true],[]⟩)
 | _,_=>none
theorem qeR:aQ 273 DZ:=by
 intro xs m r m' h
 unfold DZ at h
 split at h
 ·rename_i s ma l1 l2 l3 l4 l5 l6 l7 l8 hs ct t
  obtain ⟨h1,rfl,rfl⟩:=aw h
  refine aj (Λ:=L0) QG func273 rfl ai ?_
  refine (WD s ma l1 l2 l3 l4 l5 l6 l7 l8 hs ct t).trans ?_
  rfl
 ·cases h
def Γs7:Orc:=aC 273 DZ Γs6
theorem QF:Γs7.Ok prog:=aA QG qeR
theorem WB (s:Int) (ma:Int) (l1:Int) (l2:Int) (l3:Int) (l4:Int) (l5:Int) (l6:Int) (l7:Int) (l8:Int) (hs:Bool) (ct:Int) (t:Int):runG Γs7 L0 prog f206 [.ptr 0 0] ⟨[[.v (I s),.v (I ma),.ptr 1 0,.v (I l1),.v (I l2),.v (I l3),.v (I l4),.v (I l5),.v (I l6),.v (I l7),.v (I l8),.v (Bo hs)],[.v (I ct),.v (I t)]],[true,true],[]⟩ =
 (bif decide (au ct t (1:Int)>ma) then some (.v (.tuple #[]),⟨[[.v (I s),.v (I ma),.ptr 1 0,.v (I 0),.v (I 0),.v (I 0),.v (I 0),.v (I 0),.v (I 0),.v (I 0),.v (I 0),.v (Bo false)],[.v (I ct),.v (I (au ct t (1:Int)))]],[true,true],[]⟩) else some (.v (.tuple #[]),⟨[[.v (I s),.v (I ma),.ptr 1 0,.v (I l1),.v (I l2),.v (I l3),.v (I l4),.v (I l5),.v (I l6),.v (I l7),.v (I l8),.v (Bo hs)],[.v (I ct),.v (I (au ct t (1:Int)))]],[true,true],[]⟩)):=by kernel_rfl
def DX (xs:List SV) (m:Mem):Option (Bool×SV×Mem) :=
 match xs,m with
 | [.ptr 0 0],⟨[[.v (.int .i64 s),.v (.int .i64 ma),.ptr 1 0,.v (.int .i64 l1),.v (.int .i64 l2),.v (.int .i64 l3),.v (.int .i64 l4),.v (.int .i64 l5),.v (.int .i64 l6),.v (.int .i64 l7),.v (.int .i64 l8),.v (.bool hs)],[.v (.int .i64 ct),.v (.int .i64 t)]],[true,true],[]⟩=>some (true,.v (.tuple #[]),⟨[[.v (I s),.v (I ma),.ptr 1 0,.v (I (gN (decide (au ct t 1>ma)) l1)),.v (I (gN (decide (au ct t 1>ma)) l2)),.v (I (gN (decide (au ct t 1>ma)) l3)),.v (I (gN (decide (au ct t 1>ma)) l4)),.v (I (gN (decide (au ct t 1>ma)) l5)),.v (I (gN (decide (au ct t 1>ma)) l6)),.v (I (gN (decide (au ct t 1>ma)) l7)),.v (I (gN (decide (au ct t 1>ma)) l8)),.v (Bo (mw (decide (au ct t 1>ma)) hs))],[.v (I ct),.v (I (au ct t 1))]],[true,true],[]⟩)
 | _,_=>none
theorem qeP:aQ 206 DX:=by
 intro xs m r m' h
 unfold DX at h
 split at h
 ·rename_i s ma l1 l2 l3 l4 l5 l6 l7 l8 hs ct t
  obtain ⟨h1,rfl,rfl⟩:=aw h
  refine aj (Λ:=L0) QF func206 rfl ai ?_
  refine (WB s ma l1 l2 l3 l4 l5 l6 l7 l8 hs ct t).trans ?_
  unfold gN mw
  cases decide (au ct t 1>ma)<;>rfl
 ·cases h
def Γs8:Orc:=aC 206 DX Γs7
theorem qjR:Γs8.Ok prog:=aA QF qeP
def Γs9:Orc:=Γs8
theorem qjQ:Γs9.Ok prog:=qjR
def Γs10:Orc:=Γs9
theorem qjT:Γs10.Ok prog:=qjQ
def Γs11:Orc:=Γs10
theorem QM:Γs11.Ok prog:=qjT
def iC (L:List (List Dat)):Int:=((L.getD (wI ((L.length:Int) - 1)).toNat []).headD (.n 0)).toI
def iB (L:List (List Dat)):Int:=((L.getD (wI ((L.length:Int) - 1)).toNat []).tail.headD (.n 0)).toI
def gA (L:List (List Dat)):Int:=((L.getD (wI ((L.length:Int) - 1)).toNat []).tail.tail.headD (.n 0)).toI
def gy (L:List (List Dat)):Int:=((L.getD (wI ((L.length:Int) - 1)).toNat []).tail.tail.tail.headD (.n 0)).toI
def gw (L:List (List Dat)):Int:=((L.getD (wI ((L.length:Int) - 1)).toNat []).tail.tail.tail.tail.headD (.n 0)).toI
def dr (L:List (List Dat)):Int:=((L.getD (wI ((L.length:Int) - 1)).toNat []).tail.tail.tail.tail.tail.headD (.n 0)).toI
def dq (L:List (List Dat)):Int:=((L.getD (wI ((L.length:Int) - 1)).toNat []).tail.tail.tail.tail.tail.tail.headD (.n 0)).toI
def dp (L:List (List Dat)):Int:=((L.getD (wI ((L.length:Int) - 1)).toNat []).tail.tail.tail.tail.tail.tail.tail.headD (.n 0)).toI
abbrev kNv:List CK:=[.num .i64,.num .i64,.num .i64,.num .i64,.num .i64,.num .i64,.num .i64,.num .i64]
abbrev rN (L:List (List Dat)) (own mark:Bool):RowS:=.live ⟨56,kNv,L,own,mark⟩
theorem WJ (s:Int) (ma:Int) (l1:Int) (l2:Int) (l3:Int) (l4:Int) (l5:Int) (l6:Int) (l7:Int) (l8:Int) (hs:Bool) (ct:Int) (t:Int):runG Γs11 L0 prog f137 [.ptr 0 0,.v (.slice none 0 0)] ⟨[[.v (I s),.v (I ma),.ptr 1 0,.v (I l1),.v (I l2),.v (I l3),.v (I l4),.v (I l5),.v (I l6),.v (I l7),.v (I l8),.v (Bo hs)],[.v (I ct),.v (I t)]],[true,true],[]⟩ =
 some (.v (.tuple #[(.agg #[(I 0),(I 0),(I 0),(I 0),(I 0),(I 0),(I 0),(I 0)]),(I 1)]),⟨[[.v (I s),.v (I ma),.ptr 1 0,.v (I (gN (decide (au ct t (1:Int)>ma)) l1)),.v (I (gN (decide (au ct t (1:Int)>ma)) l2)),.v (I (gN (decide (au ct t (1:Int)>ma)) l3)),.v (I (gN (decide (au ct t (1:Int)>ma)) l4)),.v (I (gN (decide (au ct t (1:Int)>ma)) l5)),.v (I (gN (decide (au ct t (1:Int)>ma)) l6)),.v (I (gN (decide (au ct t (1:Int)>ma)) l7)),.v (I (gN (decide (au ct t (1:Int)>ma)) l8)),.v (Bo (mw (decide (au ct t (1:Int)>ma)) hs))],[.v (I ct),.v (I (au ct t (1:Int)))]],[true,true],[]⟩):=by kernel_rfl
def D3 (xs:List SV) (m:Mem):Option (Bool×SV×Mem) :=
 match xs,m with
 | [.ptr 0 0,.v (.slice none 0 0)],⟨[[.v (.int .i64 s),.v (.int .i64 ma),.ptr 1 0,.v (.int .i64 l1),.v (.int .i64 l2),.v (.int .i64 l3),.v (.int .i64 l4),.v (.int .i64 l5),.v (.int .i64 l6),.v (.int .i64 l7),.v (.int .i64 l8),.v (.bool hs)],[.v (.int .i64 ct),.v (.int .i64 t)]],[true,true],[]⟩=>some (true,.v (.tuple #[.agg #[I 0,I 0,I 0,I 0,I 0,I 0,I 0,I 0],I 1]),⟨[[.v (I s),.v (I ma),.ptr 1 0,.v (I (gN (decide (au ct t 1>ma)) l1)),.v (I (gN (decide (au ct t 1>ma)) l2)),.v (I (gN (decide (au ct t 1>ma)) l3)),.v (I (gN (decide (au ct t 1>ma)) l4)),.v (I (gN (decide (au ct t 1>ma)) l5)),.v (I (gN (decide (au ct t 1>ma)) l6)),.v (I (gN (decide (au ct t 1>ma)) l7)),.v (I (gN (decide (au ct t 1>ma)) l8)),.v (Bo (mw (decide (au ct t 1>ma)) hs))],[.v (I ct),.v (I (au ct t 1))]],[true,true],[]⟩)
 | _,_=>none
theorem qeV:aQ 137 D3:=by
 intro xs m r m' h
 unfold D3 at h
 split at h
 ·rename_i s ma l1 l2 l3 l4 l5 l6 l7 l8 hs ct t
  obtain ⟨h1,rfl,rfl⟩:=aw h
  refine aj (Λ:=L0) QM func137 rfl ai ?_
  refine (WJ s ma l1 l2 l3 l4 l5 l6 l7 l8 hs ct t).trans ?_
  rfl
 ·cases h
def Γs12:Orc:=aC 137 D3 Γs11
theorem QL:Γs12.Ok prog:=aA QM qeV
def dG (L:List (List Dat)) (hs:Bool) (l1 l6 l7 l8 P:Int):Int:=bif (L.length:Int)==0 then 1 else tx (hs&&iC L==l1) (iB L != 0) (fH (gA L) (gy L) (gw L) (dr L) (dq L) (dp L)) (hs&&fa (dr L) (dq L) (dp L) l6 l7 l8 P)
def pk (b:Bool) (x y:Int):Int:=bif b then x else y
theorem WI (s:Int) (ma:Int) (l1:Int) (l2:Int) (l3:Int) (l4:Int) (l5:Int) (l6:Int) (l7:Int) (l8:Int) (hs:Bool) (ct:Int) (t:Int) (L:List (List Dat)) (own:Bool) (mark:Bool):runG Γs12 L0 prog f137 [.ptr 0 0,.row 0] ⟨[[.v (I s),.v (I ma),.ptr 1 0,.v (I l1),.v (I l2),.v (I l3),.v (I l4),.v (I l5),.v (I l6),.v (I l7),.v (I l8),.v (Bo hs)],[.v (I ct),.v (I t)]],[true,true],[rN L own mark]⟩ =
 (bif (L.length:Int)==(0:Int) then some (.v (.tuple #[(.agg #[(I 0),(I 0),(I 0),(I 0),(I 0),(I 0),(I 0),(I 0)]),(I 1)]),⟨[[.v (I s),.v (I ma),.ptr 1 0,.v (I (gN (decide (au ct t (1:Int)>ma)) l1)),.v (I (gN (decide (au ct t (1:Int)>ma)) l2)),.v (I (gN (decide (au ct t (1:Int)>ma)) l3)),.v (I (gN (decide (au ct t (1:Int)>ma)) l4)),.v (I (gN (decide (au ct t (1:Int)>ma)) l5)),.v (I (gN (decide (au ct t (1:Int)>ma)) l6)),.v (I (gN (decide (au ct t (1:Int)>ma)) l7)),.v (I (gN (decide (au ct t (1:Int)>ma)) l8)),.v (Bo (mw (decide (au ct t (1:Int)>ma)) hs))],[.v (I ct),.v (I (au ct t (1:Int)))]],[true,true],[rN L own mark]⟩) else (bif decide ((0:Int)<=wI ((L.length:Int) - (1:Int)))&&decide (wI ((L.length:Int) - (1:Int))<(L.length:Int)) then (bif aE (dr L)&&(aE (dq L)&&(aE (dp L)&&(aE l6&&(aE l7&&(aE l8&&(decide ((0:Int)<=s/\s<(9223372036854775808:Int))&&decide ((0:Int)<=t/\t<=(1000000:Int)))))))) then (bif tx (hs&&(iC L)==l1) ((iB L) != (0:Int)) (fH (gA L) (gy L) (gw L) (dr L) (dq L) (dp L)) (hs&&fa (dr L) (dq L) (dp L) l6 l7 l8 (s*(t+(1:Int)))) != (0:Int) then some (.v (.tuple #[(.agg #[(I 0),(I 0),(I 0),(I 0),(I 0),(I 0),(I 0),(I 0)]),(I (tx (hs&&(iC L)==l1) ((iB L) != (0:Int)) (fH (gA L) (gy L) (gw L) (dr L) (dq L) (dp L)) (hs&&fa (dr L) (dq L) (dp L) l6 l7 l8 (s*(t+(1:Int))))))]),⟨[[.v (I s),.v (I ma),.ptr 1 0,.v (I (gN (decide (au ct t (1:Int)>ma)) l1)),.v (I (gN (decide (au ct t (1:Int)>ma)) l2)),.v (I (gN (decide (au ct t (1:Int)>ma)) l3)),.v (I (gN (decide (au ct t (1:Int)>ma)) l4)),.v (I (gN (decide (au ct t (1:Int)>ma)) l5)),.v (I (gN (decide (au ct t (1:Int)>ma)) l6)),.v (I (gN (decide (au ct t (1:Int)>ma)) l7)),.v (I (gN (decide (au ct t (1:Int)>ma)) l8)),.v (Bo (mw (decide (au ct t (1:Int)>ma)) hs))],[.v (I ct),.v (I (au ct t (1:Int)))]],[true,true],[rN L own mark]⟩) else some (.v (.tuple #[(.agg #[(I (iC L)),(I (iB L)),(I (gA L)),(I (gy L)),(I (gw L)),(I (dr L)),(I (dq L)),(I (dp L))]),(I 0)]),⟨[[.v (I s),.v (I ma),.ptr 1 0,.v (I (iC L)),.v (I (iB L)),.v (I (gA L)),.v (I (gy L)),.v (I (gw L)),.v (I (dr L)),.v (I (dq L)),.v (I (dp L)),.v (Bo true)],[.v (I ct),.v (I (aR (0:Int) ct))]],[true,true],[rN L own mark]⟩)) else none) else none)):=by kernel_rfl
def xK (xs:List SV) (m:Mem):Option (Bool×SV×Mem) :=
 match xs,m with
 | [.ptr 0 0,.row 0],⟨[[.v (.int .i64 s),.v (.int .i64 ma),.ptr 1 0,.v (.int .i64 l1),.v (.int .i64 l2),.v (.int .i64 l3),.v (.int .i64 l4),.v (.int .i64 l5),.v (.int .i64 l6),.v (.int .i64 l7),.v (.int .i64 l8),.v (.bool hs)],[.v (.int .i64 ct),.v (.int .i64 t)]],[true,true],[.live ⟨56,[.num .i64,.num .i64,.num .i64,.num .i64,.num .i64,.num .i64,.num .i64,.num .i64],L,own,mark⟩]⟩=>some (Nat.ble L.length 1000000&&(aE (dr L)&&(aE (dq L)&&(aE (dp L)&&(aE l6&&(aE l7&&(aE l8&&(decide (0<=s/\s<9223372036854775808)&&decide (0<=t/\t<=1000000)))))))),.v (.tuple #[.agg #[I (pk (dG L hs l1 l6 l7 l8 (s*(t+1))==0) (iC L) 0),I (pk (dG L hs l1 l6 l7 l8 (s*(t+1))==0) (iB L) 0),I (pk (dG L hs l1 l6 l7 l8 (s*(t+1))==0) (gA L) 0),I (pk (dG L hs l1 l6 l7 l8 (s*(t+1))==0) (gy L) 0),I (pk (dG L hs l1 l6 l7 l8 (s*(t+1))==0) (gw L) 0),I (pk (dG L hs l1 l6 l7 l8 (s*(t+1))==0) (dr L) 0),I (pk (dG L hs l1 l6 l7 l8 (s*(t+1))==0) (dq L) 0),I (pk (dG L hs l1 l6 l7 l8 (s*(t+1))==0) (dp L) 0)],I (dG L hs l1 l6 l7 l8 (s*(t+1)))]),⟨[[.v (I s),.v (I ma),.ptr 1 0,.v (I (pk (dG L hs l1 l6 l7 l8 (s*(t+1))==0) (iC L) (gN (decide (au ct t 1>ma)) l1))),.v (I (pk (dG L hs l1 l6 l7 l8 (s*(t+1))==0) (iB L) (gN (decide (au ct t 1>ma)) l2))),.v (I (pk (dG L hs l1 l6 l7 l8 (s*(t+1))==0) (gA L) (gN (decide (au ct t 1>ma)) l3))),.v (I (pk (dG L hs l1 l6 l7 l8 (s*(t+1))==0) (gy L) (gN (decide (au ct t 1>ma)) l4))),.v (I (pk (dG L hs l1 l6 l7 l8 (s*(t+1))==0) (gw L) (gN (decide (au ct t 1>ma)) l5))),.v (I (pk (dG L hs l1 l6 l7 l8 (s*(t+1))==0) (dr L) (gN (decide (au ct t 1>ma)) l6))),.v (I (pk (dG L hs l1 l6 l7 l8 (s*(t+1))==0) (dq L) (gN (decide (au ct t 1>ma)) l7))),.v (I (pk (dG L hs l1 l6 l7 l8 (s*(t+1))==0) (dp L) (gN (decide (au ct t 1>ma)) l8))),.v (Bo (bif (dG L hs l1 l6 l7 l8 (s*(t+1))==0) then true else mw (decide (au ct t 1>ma)) hs))],[.v (I ct),.v (I (pk (dG L hs l1 l6 l7 l8 (s*(t+1))==0) (aR 0 ct) (au ct t 1)))]],[true,true],[rN L own mark]⟩)
 | _,_=>none
theorem xJ:aQ 137 xK:=by
 intro xs m r m' h
 unfold xK at h
 split at h
 ·rename_i s ma l1 l2 l3 l4 l5 l6 l7 l8 hs ct t L own mark
  obtain ⟨h1,rfl,rfl⟩:=aw h
  refine aj (Λ:=L0) QL func137 rfl ai ?_
  refine (WI s ma l1 l2 l3 l4 l5 l6 l7 l8 hs ct t L own mark).trans ?_
  rw [Bool.and_eq_true] at h1
  obtain ⟨h1,h2⟩:=h1
  have h3:=Nat.le_of_ble_eq_true h1
  rw [h2]
  unfold dG pk
  by_cases hl:(L.length:Int)=0
  ·rw [hl]
   rfl
  rw [beq_eq_false_iff_ne.2 hl,az (n:=(L.length:Int) - 1) (by omega),decide_eq_true (show (0:Int)<=(L.length:Int) - 1 by omega),decide_eq_true (show (L.length:Int) - 1<(L.length:Int) by omega)]
  generalize tx (hs&&iC L==l1) (iB L != 0) (fH (gA L) (gy L) (gw L) (dr L) (dq L) (dp L)) (hs&&fa (dr L) (dq L) (dp L) l6 l7 l8 (s*(t+1)))=f
  simp only [cond_false,cond_true,Bool.and_self]
  by_cases hf:f=0
  ·subst hf;rfl
  ·rw [bne_iff_ne.2 hf,beq_eq_false_iff_ne.2 hf]
   rfl
 ·cases h
def Γs13:Orc:=aC 137 xK Γs12
theorem qjS:Γs13.Ok prog:=aA QL xJ
theorem Wu (r1:Int) (r2:Int) (r3:Int) (r4:Int) (r5:Int) (r6:Int) (r7:Int) (r8:Int) (e1:TypeId) (k1:List CK) (L:List (List Dat)) (own:Bool) (mark:Bool):runG Γs13 L0 prog f193 [.ag [.row 0,.v (I r1),.v (I r2),.v (I r3),.v (I r4),.v (I r5),.v (I r6),.v (I r7),.v (I r8)]] ⟨[],[],[.live ⟨e1,k1,L,own,mark⟩]⟩ =
 (bif decide (r5<(1:Int)) then some (.v (Value.pointer none),⟨[],[],[.live ⟨e1,k1,L,own,mark⟩]⟩) else (bif decide (r6<(1:Int)) then some (.v (Value.pointer none),⟨[],[],[.live ⟨e1,k1,L,own,mark⟩]⟩) else some (.ptr 0 0,⟨[[.v (I r5),.v (I r6),.ptr 1 0,.v (I 0),.v (I 0),.v (I 0),.v (I 0),.v (I 0),.v (I 0),.v (I 0),.v (I 0),.v (Bo false)],[.v (I 1000000),.v (I 0)]],[true,true],[.live ⟨e1,k1,L,own,mark⟩]⟩))):=by kernel_rfl
def DQ (xs:List SV) (m:Mem):Option (Bool×SV×Mem) :=
 match xs,m with
 | [.ag [.row 0,.v (.int .i64 r1),.v (.int .i64 r2),.v (.int .i64 r3),.v (.int .i64 r4),.v (.int .i64 r5),.v (.int .i64 r6),.v (.int .i64 r7),.v (.int .i64 r8)]],⟨[],[],[.live ⟨e1,k1,L,own,mark⟩]⟩=>some (decide (1<=r5)&&decide (1<=r6),.ptr 0 0,⟨[[.v (I r5),.v (I r6),.ptr 1 0,.v (I 0),.v (I 0),.v (I 0),.v (I 0),.v (I 0),.v (I 0),.v (I 0),.v (I 0),.v (Bo false)],[.v (I 1000000),.v (I 0)]],[true,true],[.live ⟨e1,k1,L,own,mark⟩]⟩)
 | _,_=>none
theorem qeJ:aQ 193 DQ:=by
 intro xs m r m' h
 unfold DQ at h
 split at h
 ·rename_i r1 r2 r3 r4 r5 r6 r7 r8 e1 k1 L own mark
  obtain ⟨h1,rfl,rfl⟩:=aw h
  refine aj (Λ:=L0) qjS func193 rfl ai ?_
  refine (Wu r1 r2 r3 r4 r5 r6 r7 r8 e1 k1 L own mark).trans ?_
  rw [Bool.and_eq_true,decide_eq_true_eq,decide_eq_true_eq] at h1
  rw [decide_eq_false (show ¬ r5<1 by omega),decide_eq_false (show ¬ r6<1 by omega)]
  rfl
 ·cases h
end Go.Proofs.YtainfdcfkgemhaaGreat.So
namespace Go.Proofs.YtainfdcfkgemhaaGreat.Se
open Go Go.Proofs Go.Sx
set_option linter.unusedVariables false
def SM (s:Int) (l:Bool) (t w:Int):Mem:=⟨[[.v (I s),.v (Bo l),.v (I t),.v (I w)]],[true],[]⟩
def qM (p m:Int):Bool:=wI ((BitVec.ofInt 64 p &&& BitVec.ofInt 64 m).toNat:Int) != 0
def armB (h:Bool) (ps pw:Int):Bool:=h&&(qM pw 1||(ps==1||ps==2))
def safB (h:Bool) (ps pw:Int):Bool:=h&&(qM pw 2||ps==0)
def dropW (w d:Int):Int:=bif w==d then 0 else w
def wsT (w t:Int) (a:Bool):Int:=bif dropW w 2==1&&a then 1 else t
def wsW (w:Int) (a:Bool):Int:=bif dropW w 2==1&&a then 0 else dropW w 2
def ku (s t w c ph:Int) (fl fi f:Bool):Int:=bif c==3||fi then 2 else bif fl&&decide (ph<s) then t else bif dropW w 1==2&&f then 0 else t
def waW (s w c ph:Int) (fl fi f:Bool):Int:=bif c==3||fi then 0 else bif fl&&decide (ph<s) then dropW (dropW w 1) 2 else bif dropW w 1==2&&f then 0 else dropW w 1
def w1N (c w:Int):Int:=bif c==1 then 1 else bif c==2 then 2 else w
def cyT (s:Int) (l:Bool) (t w c ph:Int) (fl fi a f:Bool):Int:=bif l then t else bif t==0 then wsT (w1N c w) t a else bif t==1 then ku s t (w1N c w) c ph fl fi f else t
def cyW (s:Int) (l:Bool) (t w c ph:Int) (fl fi a f:Bool):Int:=bif l then w else bif t==0 then wsW (w1N c w) a else bif t==1 then waW s (w1N c w) c ph fl fi f else bif t==2 then 0 else w1N c w
def setB (l:Bool) (n:Int):Bool:=!l&&(!decide (n<0)&&!decide (n>2))
theorem W2 (d:Int) (s:Int) (l:Bool) (t w:Int):runG ΓC L0 prog f281 [.ptr 0 0,.v (I d)] (SM s l t w) =
 (bif w==d then some (.v (.tuple #[]),⟨[[.v (I s),.v (Bo l),.v (I t),.v (I 0)]],[true],[]⟩) else some (.v (.tuple #[]),⟨[[.v (I s),.v (Bo l),.v (I t),.v (I w)]],[true],[]⟩)):=by kernel_rfl
def Eb (xs:List SV) (m:Mem):Option (Bool×SV×Mem) :=
 match xs,m with
 | [.ptr 0 0,.v (.int .i64 d)],⟨[[.v (.int .i64 s),.v (.bool l),.v (.int .i64 t),.v (.int .i64 w)]],[true],[]⟩=>some (true,.v (.tuple #[]),SM s l t (dropW w d))
 | _,_=>none
theorem qe2:aQ 281 Eb:=by
 intro xs m r m' h
 unfold Eb at h
 split at h
 ·rename_i d s l t w
  obtain ⟨h1,rfl,rfl⟩:=aw h
  refine aj (Λ:=L0) zT func281 rfl (fun z _ _=>bg (by kernel_rfl) z) ?_
  exact (W2 d s l t w).trans (by unfold dropW;cases w==d<;>rfl)
 ·cases h
def ΓG1:Orc:=aC 281 Eb ΓC
theorem OkG1:ΓG1.Ok prog:=aA zT qe2
theorem W5 (d:Int) (s:Int) (l:Bool) (t w:Int):runG ΓG1 L0 prog f264 [.ptr 0 0,.v (I d)] (SM s l t w)=some (.v (.tuple #[]),SM s l d 0):=by kernel_rfl
def Ec (xs:List SV) (m:Mem):Option (Bool×SV×Mem) :=
 match xs,m with
 | [.ptr 0 0,.v (.int .i64 d)],⟨[[.v (.int .i64 s),.v (.bool l),.v (.int .i64 t),.v (.int .i64 w)]],[true],[]⟩=>some (true,.v (.tuple #[]),SM s l d 0)
 | _,_=>none
theorem qe3:aQ 264 Ec:=by
 intro xs m r m' h
 unfold Ec at h
 split at h
 ·rename_i d s l t w
  obtain ⟨h1,rfl,rfl⟩:=aw h
  refine aj (Λ:=L0) OkG1 func264 rfl (fun z _ _=>bg (by kernel_rfl) z) ?_
  exact (W5 d s l t w).trans (rfl)
 ·cases h
def ΓG2:Orc:=aC 264 Ec ΓG1
theorem OkG2:ΓG2.Ok prog:=aA OkG1 qe3
theorem W6 (c:Int) (he:Bool) (pc pp ps pw:Int) (fl fi:Bool) (ph:Int):runG ΓG2 L0 prog f282 [.v (.agg #[I c,Bo he,I pc,I pp,I ps,I pw,Bo fl,Bo fi,I ph])] M0 =
 (bif he then (bif wI ((BitVec.ofInt (64:Nat) pw &&& BitVec.ofInt (64:Nat) (1:Int)).toNat:Int) != (0:Int) then some (.v (Bo true),M0) else (bif ps==(1:Int) then some (.v (Bo true),M0) else some (.v (Bo (ps==(2:Int))),M0))) else some (.v (Bo false),M0)):=by kernel_rfl
def Ed (vs:List Value):Option (Bool×Value) :=
 match vs with
 | [.agg ⟨[.int .i64 c,.bool he,.int .i64 pc,.int .i64 pp,.int .i64 ps,.int .i64 pw,.bool fl,.bool fi,.int .i64 ph]⟩]=>some (true,Bo (armB he ps pw))
 | _=>none
theorem qe4:am 282 Ed:=by
 intro vs r h
 unfold Ed at h
 split at h
 ·rename_i c he pc pp ps pw fl fi ph
  obtain ⟨h1,rfl⟩:=ab h
  refine ak (vs:=[.agg #[I c,Bo he,I pc,I pp,I ps,I pw,Bo fl,Bo fi,I ph]]) (Λ:=L0) (m':=M0) OkG2 func282 rfl (fun z _ _=>bg (by kernel_rfl) z) ?_
  exact (W6 c he pc pp ps pw fl fi ph).trans (by rw [show (wI ((BitVec.ofInt 64 pw &&& BitVec.ofInt 64 1).toNat:Int) != 0)=qM pw 1 from rfl];unfold armB;cases he<;>cases qM pw 1<;>cases ps==1<;>cases ps==2<;>rfl)
 ·cases h
def ΓG3:Orc:=ah 282 Ed ΓG2
theorem OkG3:ΓG3.Ok prog:=af OkG2 qe4
theorem WX (c:Int) (he:Bool) (pc pp ps pw:Int) (fl fi:Bool) (ph:Int):runG ΓG3 L0 prog f283 [.v (.agg #[I c,Bo he,I pc,I pp,I ps,I pw,Bo fl,Bo fi,I ph])] M0 =
 (bif he then (bif wI ((BitVec.ofInt (64:Nat) pw &&& BitVec.ofInt (64:Nat) (2:Int)).toNat:Int) != (0:Int) then some (.v (Bo true),M0) else some (.v (Bo (ps==(0:Int))),M0)) else some (.v (Bo false),M0)):=by kernel_rfl
def D9 (vs:List Value):Option (Bool×Value) :=
 match vs with
 | [.agg ⟨[.int .i64 c,.bool he,.int .i64 pc,.int .i64 pp,.int .i64 ps,.int .i64 pw,.bool fl,.bool fi,.int .i64 ph]⟩]=>some (true,Bo (safB he ps pw))
 | _=>none
theorem qe0:am 283 D9:=by
 intro vs r h
 unfold D9 at h
 split at h
 ·rename_i c he pc pp ps pw fl fi ph
  obtain ⟨h1,rfl⟩:=ab h
  refine ak (vs:=[.agg #[I c,Bo he,I pc,I pp,I ps,I pw,Bo fl,Bo fi,I ph]]) (Λ:=L0) (m':=M0) OkG3 func283 rfl (fun z _ _=>bg (by kernel_rfl) z) ?_
  exact (WX c he pc pp ps pw fl fi ph).trans (by rw [show (wI ((BitVec.ofInt 64 pw &&& BitVec.ofInt 64 2).toNat:Int) != 0)=qM pw 2 from rfl];unfold safB;cases he<;>cases qM pw 2<;>cases ps==0<;>rfl)
 ·cases h
def ΓG4:Orc:=ah 283 D9 ΓG3
theorem Sc:ΓG4.Ok prog:=af OkG3 qe0
theorem WP (c:Int) (he:Bool) (pc pp ps pw:Int) (fl fi:Bool) (ph:Int) (s:Int) (l:Bool) (t w:Int):runG ΓG4 L0 prog f218 [.ptr 0 0,.v (.agg #[I c,Bo he,I pc,I pp,I ps,I pw,Bo fl,Bo fi,I ph])] (SM s l t w) =
 (bif dropW w (2:Int)==(1:Int) then (bif armB he ps pw then some (.v (.tuple #[]),⟨[[.v (I s),.v (Bo l),.v (I 1),.v (I 0)]],[true],[]⟩) else some (.v (.tuple #[]),⟨[[.v (I s),.v (Bo l),.v (I t),.v (I (dropW w (2:Int)))]],[true],[]⟩)) else some (.v (.tuple #[]),⟨[[.v (I s),.v (Bo l),.v (I t),.v (I (dropW w (2:Int)))]],[true],[]⟩)):=by kernel_rfl
def D7 (xs:List SV) (m:Mem):Option (Bool×SV×Mem) :=
 match xs,m with
 | [.ptr 0 0,.v (.agg ⟨[.int .i64 c,.bool he,.int .i64 pc,.int .i64 pp,.int .i64 ps,.int .i64 pw,.bool fl,.bool fi,.int .i64 ph]⟩)],⟨[[.v (.int .i64 s),.v (.bool l),.v (.int .i64 t),.v (.int .i64 w)]],[true],[]⟩=>some (true,.v (.tuple #[]),SM s l (wsT w t (armB he ps pw)) (wsW w (armB he ps pw)))
 | _,_=>none
theorem qeY:aQ 218 D7:=by
 intro xs m r m' h
 unfold D7 at h
 split at h
 ·rename_i c he pc pp ps pw fl fi ph s l t w
  obtain ⟨h1,rfl,rfl⟩:=aw h
  refine aj (Λ:=L0) Sc func218 rfl (fun z _ _=>bg (by kernel_rfl) z) ?_
  exact (WP c he pc pp ps pw fl fi ph s l t w).trans (by unfold wsT wsW;cases dropW w 2==1<;>cases armB he ps pw<;>rfl)
 ·cases h
def ΓG5:Orc:=aC 218 D7 ΓG4
theorem Sb:ΓG5.Ok prog:=aA Sc qeY
theorem WS (c:Int) (he:Bool) (pc pp ps pw:Int) (fl fi:Bool) (ph:Int) (s:Int) (l:Bool) (t w:Int):runG ΓG5 L0 prog f219 [.ptr 0 0,.v (.agg #[I c,Bo he,I pc,I pp,I ps,I pw,Bo fl,Bo fi,I ph])] (SM s l t w) =
 (bif c==(3:Int) then some (.v (.tuple #[]),⟨[[.v (I s),.v (Bo l),.v (I 2),.v (I 0)]],[true],[]⟩) else (bif fi then some (.v (.tuple #[]),⟨[[.v (I s),.v (Bo l),.v (I 2),.v (I 0)]],[true],[]⟩) else (bif fl then (bif decide (ph<s) then some (.v (.tuple #[]),⟨[[.v (I s),.v (Bo l),.v (I t),.v (I (dropW (dropW w (1:Int)) (2:Int)))]],[true],[]⟩) else (bif dropW w (1:Int)==(2:Int) then (bif safB he ps pw then some (.v (.tuple #[]),⟨[[.v (I s),.v (Bo l),.v (I 0),.v (I 0)]],[true],[]⟩) else some (.v (.tuple #[]),⟨[[.v (I s),.v (Bo l),.v (I t),.v (I (dropW w (1:Int)))]],[true],[]⟩)) else some (.v (.tuple #[]),⟨[[.v (I s),.v (Bo l),.v (I t),.v (I (dropW w (1:Int)))]],[true],[]⟩))) else (bif dropW w (1:Int)==(2:Int) then (bif safB he ps pw then some (.v (.tuple #[]),⟨[[.v (I s),.v (Bo l),.v (I 0),.v (I 0)]],[true],[]⟩) else some (.v (.tuple #[]),⟨[[.v (I s),.v (Bo l),.v (I t),.v (I (dropW w (1:Int)))]],[true],[]⟩)) else some (.v (.tuple #[]),⟨[[.v (I s),.v (Bo l),.v (I t),.v (I (dropW w (1:Int)))]],[true],[]⟩))))):=by kernel_rfl
def D8 (xs:List SV) (m:Mem):Option (Bool×SV×Mem) :=
 match xs,m with
 | [.ptr 0 0,.v (.agg ⟨[.int .i64 c,.bool he,.int .i64 pc,.int .i64 pp,.int .i64 ps,.int .i64 pw,.bool fl,.bool fi,.int .i64 ph]⟩)],⟨[[.v (.int .i64 s),.v (.bool l),.v (.int .i64 t),.v (.int .i64 w)]],[true],[]⟩=>some (true,.v (.tuple #[]),SM s l (ku s t w c ph fl fi (safB he ps pw)) (waW s w c ph fl fi (safB he ps pw)))
 | _,_=>none
theorem qeZ:aQ 219 D8:=by
 intro xs m r m' h
 unfold D8 at h
 split at h
 ·rename_i c he pc pp ps pw fl fi ph s l t w
  obtain ⟨h1,rfl,rfl⟩:=aw h
  refine aj (Λ:=L0) Sb func219 rfl (fun z _ _=>bg (by kernel_rfl) z) ?_
  exact (WS c he pc pp ps pw fl fi ph s l t w).trans (by unfold ku waW;cases c==3<;>cases fi<;>cases fl<;>cases decide (ph<s)<;>cases dropW w 1==2<;>cases safB he ps pw<;>rfl)
 ·cases h
def ΓG6:Orc:=aC 219 D8 ΓG5
theorem IT:ΓG6.Ok prog:=aA Sb qeZ
theorem W4 (c:Int) (he:Bool) (pc pp ps pw:Int) (fl fi:Bool) (ph:Int) (s:Int) (l:Bool) (t w:Int):runG ΓG6 L0 prog f149 [.ptr 0 0,.v (.agg #[I c,Bo he,I pc,I pp,I ps,I pw,Bo fl,Bo fi,I ph])] (SM s l t w) =
 (bif l then some (.v (I 0),⟨[[.v (I s),.v (Bo l),.v (I t),.v (I w)]],[true],[]⟩) else (bif c==(1:Int) then (bif t==(0:Int) then some (.v (I (wsT (1:Int) t (armB he ps pw))),⟨[[.v (I s),.v (Bo l),.v (I (wsT (1:Int) t (armB he ps pw))),.v (I (wsW (1:Int) (armB he ps pw)))]],[true],[]⟩) else (bif t==(1:Int) then some (.v (I (ku s t (1:Int) c ph fl fi (safB he ps pw))),⟨[[.v (I s),.v (Bo l),.v (I (ku s t (1:Int) c ph fl fi (safB he ps pw))),.v (I (waW s (1:Int) c ph fl fi (safB he ps pw)))]],[true],[]⟩) else (bif t==(2:Int) then some (.v (I t),⟨[[.v (I s),.v (Bo l),.v (I t),.v (I 0)]],[true],[]⟩) else some (.v (I t),⟨[[.v (I s),.v (Bo l),.v (I t),.v (I 1)]],[true],[]⟩)))) else (bif c==(2:Int) then (bif t==(0:Int) then some (.v (I (wsT (2:Int) t (armB he ps pw))),⟨[[.v (I s),.v (Bo l),.v (I (wsT (2:Int) t (armB he ps pw))),.v (I (wsW (2:Int) (armB he ps pw)))]],[true],[]⟩) else (bif t==(1:Int) then some (.v (I (ku s t (2:Int) c ph fl fi (safB he ps pw))),⟨[[.v (I s),.v (Bo l),.v (I (ku s t (2:Int) c ph fl fi (safB he ps pw))),.v (I (waW s (2:Int) c ph fl fi (safB he ps pw)))]],[true],[]⟩) else (bif t==(2:Int) then some (.v (I t),⟨[[.v (I s),.v (Bo l),.v (I t),.v (I 0)]],[true],[]⟩) else some (.v (I t),⟨[[.v (I s),.v (Bo l),.v (I t),.v (I 2)]],[true],[]⟩)))) else (bif t==(0:Int) then some (.v (I (wsT w t (armB he ps pw))),⟨[[.v (I s),.v (Bo l),.v (I (wsT w t (armB he ps pw))),.v (I (wsW w (armB he ps pw)))]],[true],[]⟩) else (bif t==(1:Int) then some (.v (I (ku s t w c ph fl fi (safB he ps pw))),⟨[[.v (I s),.v (Bo l),.v (I (ku s t w c ph fl fi (safB he ps pw))),.v (I (waW s w c ph fl fi (safB he ps pw)))]],[true],[]⟩) else (bif t==(2:Int) then some (.v (I t),⟨[[.v (I s),.v (Bo l),.v (I t),.v (I 0)]],[true],[]⟩) else some (.v (I t),⟨[[.v (I s),.v (Bo l),.v (I t),.v (I w)]],[true],[]⟩))))))):=by kernel_rfl
theorem W3 (c:Int) (he:Bool) (pc pp ps pw:Int) (fl fi:Bool) (ph:Int):runG ΓG6 L0 prog f149 [.v (.pointer none),.v (.agg #[I c,Bo he,I pc,I pp,I ps,I pw,Bo fl,Bo fi,I ph])] M0=some (.v (I 0),M0):=by kernel_rfl
def gSCyc (xs:List SV) (m:Mem):Option (Bool×SV×Mem) :=
 match xs,m with
 | [.ptr 0 0,.v (.agg ⟨[.int .i64 c,.bool he,.int .i64 pc,.int .i64 pp,.int .i64 ps,.int .i64 pw,.bool fl,.bool fi,.int .i64 ph]⟩)],⟨[[.v (.int .i64 s),.v (.bool l),.v (.int .i64 t),.v (.int .i64 w)]],[true],[]⟩=>some (true,.v (I (bif l then 0 else cyT s l t w c ph fl fi (armB he ps pw) (safB he ps pw))),SM s l (cyT s l t w c ph fl fi (armB he ps pw) (safB he ps pw)) (cyW s l t w c ph fl fi (armB he ps pw) (safB he ps pw)))
 | [.v (.pointer none),.v (.agg ⟨[.int .i64 c,.bool he,.int .i64 pc,.int .i64 pp,.int .i64 ps,.int .i64 pw,.bool fl,.bool fi,.int .i64 ph]⟩)],⟨[],[],[]⟩=>some (true,.v (I 0),M0)
 | _,_=>none
theorem gSCyc_ok:aQ 149 gSCyc:=by
 intro xs m r m' h
 unfold gSCyc at h
 split at h
 ·rename_i c he pc pp ps pw fl fi ph s l t w
  obtain ⟨h1,rfl,rfl⟩:=aw h
  refine aj (Λ:=L0) IT func149 rfl (fun z _ _=>bg (by kernel_rfl) z) ?_
  exact (W4 c he pc pp ps pw fl fi ph s l t w).trans (by unfold cyT cyW w1N;cases l<;>cases c==1<;>cases c==2<;>cases t==0<;>cases t==1<;>cases t==2<;>rfl)
 ·rename_i c he pc pp ps pw fl fi ph
  obtain ⟨h1,rfl,rfl⟩:=aw h
  refine aj (Λ:=L0) IT func149 rfl (fun z _ _=>bg (by kernel_rfl) z) ?_
  exact (W3 c he pc pp ps pw fl fi ph).trans (rfl)
 ·cases h
def ΓG7:Orc:=aC 149 gSCyc ΓG6
theorem IS:ΓG7.Ok prog:=aA IT gSCyc_ok
theorem WU (s:Int) (l:Bool) (t w:Int):runG ΓG7 L0 prog f147 [.ptr 0 0] (SM s l t w)=some (.v (I t),SM s l t w):=by kernel_rfl
theorem WT:runG ΓG7 L0 prog f147 [.v (.pointer none)] M0=some (.v (I 0),M0):=by kernel_rfl
def gSSta (xs:List SV) (m:Mem):Option (Bool×Value) :=
 match xs,m with
 | [.ptr 0 0],⟨[[.v (.int .i64 s),.v (.bool l),.v (.int .i64 t),.v (.int .i64 w)]],[true],[]⟩=>some (true,I t)
 | [.v (.pointer none)],⟨[],[],[]⟩=>some (true,I 0)
 | _,_=>none
theorem gSSta_ok:bk 147 gSSta:=by
 intro xs m r h
 unfold gSSta at h
 split at h
 ·rename_i s l t w
  obtain ⟨h1,rfl⟩:=ab h
  refine aj (Λ:=L0) IS func147 rfl (fun z _ _=>bg (by kernel_rfl) z) ?_
  exact (WU s l t w).trans (rfl)
 ·obtain ⟨h1,rfl⟩:=ab h
  refine aj (Λ:=L0) IS func147 rfl (fun z _ _=>bg (by kernel_rfl) z) ?_
  exact (WT ).trans (rfl)
 ·cases h
def ΓG8:Orc:=aU 147 gSSta ΓG7
theorem IR:ΓG8.Ok prog:=aO IS gSSta_ok
theorem WR (s:Int) (l:Bool) (t w:Int):runG ΓG8 L0 prog f157 [.ptr 0 0] (SM s l t w)=some (.v (I w),SM s l t w):=by kernel_rfl
theorem WQ:runG ΓG8 L0 prog f157 [.v (.pointer none)] M0=some (.v (I 0),M0):=by kernel_rfl
def gSWis (xs:List SV) (m:Mem):Option (Bool×Value) :=
 match xs,m with
 | [.ptr 0 0],⟨[[.v (.int .i64 s),.v (.bool l),.v (.int .i64 t),.v (.int .i64 w)]],[true],[]⟩=>some (true,I w)
 | [.v (.pointer none)],⟨[],[],[]⟩=>some (true,I 0)
 | _,_=>none
theorem gSWis_ok:bk 157 gSWis:=by
 intro xs m r h
 unfold gSWis at h
 split at h
 ·rename_i s l t w
  obtain ⟨h1,rfl⟩:=ab h
  refine aj (Λ:=L0) IR func157 rfl (fun z _ _=>bg (by kernel_rfl) z) ?_
  exact (WR s l t w).trans (rfl)
 ·obtain ⟨h1,rfl⟩:=ab h
  refine aj (Λ:=L0) IR func157 rfl (fun z _ _=>bg (by kernel_rfl) z) ?_
  exact (WQ ).trans (rfl)
 ·cases h
def ΓG9:Orc:=aU 157 gSWis ΓG8
theorem IQ:ΓG9.Ok prog:=aO IR gSWis_ok
theorem W1 (s:Int) (l:Bool) (t w:Int):runG ΓG9 L0 prog f263 [.ptr 0 0] (SM s l t w)=some (.v (Bo l),SM s l t w):=by kernel_rfl
theorem WZ:runG ΓG9 L0 prog f263 [.v (.pointer none)] M0=some (.v (Bo true),M0):=by kernel_rfl
def Ea (xs:List SV) (m:Mem):Option (Bool×Value) :=
 match xs,m with
 | [.ptr 0 0],⟨[[.v (.int .i64 s),.v (.bool l),.v (.int .i64 t),.v (.int .i64 w)]],[true],[]⟩=>some (true,Bo l)
 | [.v (.pointer none)],⟨[],[],[]⟩=>some (true,Bo true)
 | _,_=>none
theorem qe1:bk 263 Ea:=by
 intro xs m r h
 unfold Ea at h
 split at h
 ·rename_i s l t w
  obtain ⟨h1,rfl⟩:=ab h
  refine aj (Λ:=L0) IQ func263 rfl (fun z _ _=>bg (by kernel_rfl) z) ?_
  exact (W1 s l t w).trans (rfl)
 ·obtain ⟨h1,rfl⟩:=ab h
  refine aj (Λ:=L0) IQ func263 rfl (fun z _ _=>bg (by kernel_rfl) z) ?_
  exact (WZ ).trans (rfl)
 ·cases h
def ΓG10:Orc:=aU 263 Ea ΓG9
theorem IU:ΓG10.Ok prog:=aO IQ qe1
theorem WW (n:Int) (s:Int) (l:Bool) (t w:Int):runG ΓG10 L0 prog f196 [.ptr 0 0,.v (I n)] (SM s l t w) =
 (bif l then some (.v (Bo false),⟨[[.v (I s),.v (Bo l),.v (I t),.v (I w)]],[true],[]⟩) else (bif decide (n<(0:Int)) then some (.v (Bo false),⟨[[.v (I s),.v (Bo l),.v (I t),.v (I w)]],[true],[]⟩) else (bif decide (n>(2:Int)) then some (.v (Bo false),⟨[[.v (I s),.v (Bo l),.v (I t),.v (I w)]],[true],[]⟩) else some (.v (Bo true),⟨[[.v (I s),.v (Bo l),.v (I n),.v (I 0)]],[true],[]⟩)))):=by kernel_rfl
theorem WV (n:Int):runG ΓG10 L0 prog f196 [.v (.pointer none),.v (I n)] M0=some (.v (Bo false),M0):=by kernel_rfl
def gSSet (xs:List SV) (m:Mem):Option (Bool×SV×Mem) :=
 match xs,m with
 | [.ptr 0 0,.v (.int .i64 n)],⟨[[.v (.int .i64 s),.v (.bool l),.v (.int .i64 t),.v (.int .i64 w)]],[true],[]⟩=>some (true,.v (Bo (setB l n)),SM s l (bif setB l n then n else t) (bif setB l n then 0 else w))
 | [.v (.pointer none),.v (.int .i64 n)],⟨[],[],[]⟩=>some (true,.v (Bo false),M0)
 | _,_=>none
theorem gSSet_ok:aQ 196 gSSet:=by
 intro xs m r m' h
 unfold gSSet at h
 split at h
 ·rename_i n s l t w
  obtain ⟨h1,rfl,rfl⟩:=aw h
  refine aj (Λ:=L0) IU func196 rfl (fun z _ _=>bg (by kernel_rfl) z) ?_
  exact (WW n s l t w).trans (by unfold setB;cases l<;>cases decide (n<0)<;>cases decide (n>2)<;>rfl)
 ·rename_i n
  obtain ⟨h1,rfl,rfl⟩:=aw h
  refine aj (Λ:=L0) IU func196 rfl (fun z _ _=>bg (by kernel_rfl) z) ?_
  exact (WV n).trans (rfl)
 ·cases h
def ΓG11:Orc:=aC 196 gSSet ΓG10
theorem qla:ΓG11.Ok prog:=aA IU gSSet_ok
theorem WY (s:Int) (l:Bool):runG ΓG11 L0 prog f121 [.v (I s),.v (Bo l)] M0=some (.ptr 0 0,SM s l 0 0):=by kernel_rfl
def gSNew (xs:List SV) (m:Mem):Option (Bool×SV×Mem) :=
 match xs,m with
 | [.v (.int .i64 s),.v (.bool l)],⟨[],[],[]⟩=>some (true,.ptr 0 0,SM s l 0 0)
 | _,_=>none
theorem gSNew_ok:aQ 121 gSNew:=by
 intro xs m r m' h
 unfold gSNew at h
 split at h
 ·rename_i s l
  obtain ⟨h1,rfl,rfl⟩:=aw h
  refine aj (Λ:=L0) qla func121 rfl (fun z _ _=>bg (by kernel_rfl) z) ?_
  exact (WY s l).trans (rfl)
 ·cases h
end Go.Proofs.YtainfdcfkgemhaaGreat.Se
