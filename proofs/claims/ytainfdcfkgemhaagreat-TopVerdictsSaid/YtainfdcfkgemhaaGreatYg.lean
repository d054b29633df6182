/-
  What is known of this program: navs,words,reports,commands;sources,sequencers.
-/
import Derived.Test.YtainfdcfkgemhaaGreatYf
import Derived.Test.YtainfdcfkgemhaaGreatYe
import Derived.Test.YtainfdcfkgemhaaGreatYa
set_option maxRecDepth 100000
noncomputable section
open Go.Proofs.Tryz
namespace Go.Proofs.YtainfdcfkgemhaaGreat.Nw
open Go Go.Proofs Go.Sx
set_option linter.unusedVariables false
theorem qdy (x y b:Int):decide (iU x y>b)=!decide (iU x y<=b):=by
 rw [Bool.eq_iff_iff]
 simp only [decide_eq_true_eq,Bool.not_eq_true',decide_eq_false_iff_not]
 omega
def pJ (w x y:Int):Bool:=decide (iU x y<=IntKind.u64.wrap w)
def pI (w c c' d d' e e' f f' g g' q q':Int):Bool:=!decide (w<0)&&(pJ w c c'&&(pJ w d d'&&(pJ w e e'&&(pJ w f f'&&(pJ w g g'&&pJ w q q')))))
def lE (s:ByteArray) (i j:Nat):Int:=IntKind.i64.wrap (IntKind.i32.wrap ((numN (s.extract i j):Nat):Int))
def rd27 (s:ByteArray) (x:Int):Int:=if s.size=27 then x else 0
def rdA (s:ByteArray):Int:=rd27 s (wI ((numN (s.extract 0 2):Nat):Int))
def rdB (s:ByteArray):Int:=rd27 s (wI (aw s 2))
def rdC (s:ByteArray) (i j:Nat):Int:=rd27 s (lE s i j)
def navE (s:ByteArray):Int:=if s.size<27 then 5 else if s.size>27 then 3 else 0
theorem Yg (a b c d e f g q a' b' c' d' e' f' g' q' w:Int):runG ΓNa L0 prog f215 [.v (.agg #[I a,I b,I c,I d,I e,I f,I g,I q]),.v (.agg #[I a',I b',I c',I d',I e',I f',I g',I q']),.v (I w)] M0=bif decide (w<0) then some (.v (Bo false),M0) else (bif decide (iU c c'>IntKind.u64.wrap w) then some (.v (Bo false),M0) else (bif decide (iU d d'>IntKind.u64.wrap w) then some (.v (Bo false),M0) else (bif decide (iU e e'>IntKind.u64.wrap w) then some (.v (Bo false),M0) else (bif decide (iU f f'>IntKind.u64.wrap w) then some (.v (Bo false),M0) else (bif decide (iU g g'>IntKind.u64.wrap w) then some (.v (Bo false),M0) else (bif decide (iU q q'>IntKind.u64.wrap w) then some (.v (Bo false),M0) else (some (.v (Bo true),M0)))))))):=by kernel_rfl
def Fw (vs:List Value):Option (Bool×Value) :=
 match vs with
 | [.agg ⟨[.int .i64 a,.int .i64 b,.int .i64 c,.int .i64 d,.int .i64 e,.int .i64 f,.int .i64 g,.int .i64 q]⟩,.agg ⟨[.int .i64 a',.int .i64 b',.int .i64 c',.int .i64 d',.int .i64 e',.int .i64 f',.int .i64 g',.int .i64 q']⟩,.int .i64 w]=>some (true,Bo (pI w c c' d d' e e' f f' g g' q q'))
 | _=>none
theorem qfq:an 215 Fw:=by
 intro vs r h
 unfold Fw at h
 split at h
 ·rename_i a b c d e f g q a' b' c' d' e' f' g' q' w
  obtain ⟨h1,rfl⟩:=aa h
  refine am (vs:=[.agg #[I a,I b,I c,I d,I e,I f,I g,I q],.agg #[I a',I b',I c',I d',I e',I f',I g',I q'],I w]) (Λ:=L0) (m':=M0) IL func215 rfl (fun z _ _=>cq _ z) ?_
  exact (Yg a b c d e f g q a' b' c' d' e' f' g' q' w).trans (by
   simp only [qdy,zr,Bool.not_not,Bool.and_true]
   rfl)
 ·cases h
def ΓP1:Orc:=ah 215 Fw ΓNa
theorem OkP1:ΓP1.Ok prog:=ac IL qfq
def ΓP2:Orc:=ΓP1
theorem OkP2:ΓP2.Ok prog:=OkP1
theorem szS_ext (s:ByteArray) (i j:Nat) (h:s.size=27):bL (s.extract i j)=true:=mZ (by rw [ByteArray.size_extract];omega)
theorem Ye (s:ByteArray):runG ΓP2 L0 prog f208 [.v (S s)] M0=bif decide ((s.size:Int)<27) then some (.v (.tuple #[.agg #[I 0,I 0,I 0,I 0,I 0,I 0,I 0,I 0],I 5]),M0) else (bif decide ((s.size:Int)>27) then some (.v (.tuple #[.agg #[I 0,I 0,I 0,I 0,I 0,I 0,I 0,I 0],I 3]),M0) else (bif decide ((0:Int)<=0)&&(decide ((0:Int)<=2)&&decide (2<=(s.size:Int))) then (bif bL (s.extract (Int.toNat 0) (Int.toNat 2)) then (bif decide ((0:Int)<=2)&&decide (2<(s.size:Int)) then (bif decide ((0:Int)<=3)&&(decide ((3:Int)<=7)&&decide (7<=(s.size:Int))) then (bif bL (s.extract (Int.toNat 3) (Int.toNat 7)) then (bif decide ((0:Int)<=7)&&(decide ((7:Int)<=11)&&decide (11<=(s.size:Int))) then (bif bL (s.extract (Int.toNat 7) (Int.toNat 11)) then (bif decide ((0:Int)<=11)&&(decide ((11:Int)<=15)&&decide (15<=(s.size:Int))) then (bif bL (s.extract (Int.toNat 11) (Int.toNat 15)) then (bif decide ((0:Int)<=15)&&(decide ((15:Int)<=19)&&decide (19<=(s.size:Int))) then (bif bL (s.extract (Int.toNat 15) (Int.toNat 19)) then (bif decide ((0:Int)<=19)&&(decide ((19:Int)<=23)&&decide (23<=(s.size:Int))) then (bif bL (s.extract (Int.toNat 19) (Int.toNat 23)) then (bif decide ((0:Int)<=23)&&(decide ((23:Int)<=27)&&decide (27<=(s.size:Int))) then (bif bL (s.extract (Int.toNat 23) (Int.toNat 27)) then some (.v (.tuple #[.agg #[I (wI ((numN (s.extract (Int.toNat 0) (Int.toNat 2)):Nat):Int)),I (wI (aw s 2)),I (lE s (Int.toNat 3) (Int.toNat 7)),I (lE s (Int.toNat 7) (Int.toNat 11)),I (lE s (Int.toNat 11) (Int.toNat 15)),I (lE s (Int.toNat 15) (Int.toNat 19)),I (lE s (Int.toNat 19) (Int.toNat 23)),I (lE s (Int.toNat 23) (Int.toNat 27))],I 0]),M0) else none) else none) else none) else none) else none) else none) else none) else none) else none) else none) else none) else none) else none) else none) else none)):=by kernel_rfl
def yc (vs:List Value):Option (Bool×Value) :=
 match vs with
 | [.string s]=>some (true,.tuple #[.agg #[I (rdA s),I (rdB s),I (rdC s 3 7),I (rdC s 7 11),I (rdC s 11 15),I (rdC s 15 19),I (rdC s 19 23),I (rdC s 23 27)],I (navE s)])
 | _=>none
theorem Oz:an 208 yc:=by
 intro vs r h
 unfold yc at h
 split at h
 ·rename_i s
  obtain ⟨h1,rfl⟩:=aa h
  refine am (vs:=[S s]) (Λ:=L0) (m':=M0) OkP2 func208 rfl (fun z _ _=>cq _ z) ?_
  exact (Ye s).trans (by
   unfold rdA rdB rdC rd27 navE
   by_cases c1:s.size<27
   ·simp only [decide_eq_true (show (s.size:Int)<27 by omega),if_neg (show ¬ s.size=27 by omega),if_pos c1]
    rfl
   by_cases c2:s.size>27
   ·simp only [decide_eq_false (show ¬ (s.size:Int)<27 by omega),decide_eq_true (show (s.size:Int)>27 by omega),if_neg (show ¬ s.size=27 by omega),if_neg c1,if_pos c2]
    rfl
   have c3:s.size=27:=by omega
   simp only [szS_ext s _ _ c3,if_pos c3,if_neg c1,if_neg c2]
   rw [c3]
   rfl)
 ·cases h
def ΓP3:Orc:=ah 208 yc ΓP2
theorem OkP3:ΓP3.Ok prog:=ac OkP2 Oz
def ΓP4:Orc:=ΓP3
theorem OkP4:ΓP4.Ok prog:=OkP3
def ΓNb:Orc:=ΓP4
theorem z0:ΓNb.Ok prog:=OkP4
end Go.Proofs.YtainfdcfkgemhaaGreat.Nw
namespace Go.Proofs.YtainfdcfkgemhaaGreat.Pe
open Go Go.Proofs Go.Sx Nw
set_option linter.unusedVariables false
def inB (n m:Int):Bool:=decide (n>=0)&&decide (n<=m)
def two (p s:Int):Int:=wI (p+wI (16*s))
def gQ (s:ByteArray):ByteArray:=s++be 4 (ip s)
def ew (s:ByteArray) (n:Int):Int:=if (s.size:Int)<n+4 then 5 else if (s.size:Int)>n+4 then 3 else if gQ (s.extract 0 n.toNat)==s then 0 else 4
def lC (c p s:Int):Bool:=inB c 1000000&&(inB p 3&&inB s 2)
def Ku (c p s w:Int):Bool:=lC c p s&&inB w 15
def Tn (c p s w:Int):ByteArray:=gQ ((be 4 c++be 1 (two p s))++be 1 w)
def oL (c p s w:Int):ByteArray:=bif Ku c p s w then Tn c p s w else ⟨#[]⟩
def sz (c p s x y z u v f:Int):Bool:=(inB x 255&&(inB y 255&&(inB z 255&&inB f 255)))&&((inB u 4&&inB v 4)&&lC c p s)
def Mc (c p s x y z u v f:Int):ByteArray:=gQ ((((be 4 c++be 1 (two p s))++((be 1 x++be 1 y)++be 1 z))++be 1 (two u v))++be 1 f)
def B9 (c p s x y z u v f:Int):ByteArray:=bif sz c p s x y z u v f then Mc c p s x y z u v f else ⟨#[]⟩
def AG (x y:Int):Int:=IntKind.i64.wrap (((BitVec.ofInt 64 x ^^^ BitVec.ofInt 64 y).toNat:Nat):Int)
def HD (c:Int):ByteArray:=gQ (((be 1 c++be 1 (AG c 85))++be 1 (AG c 170))++be 1 (AG c 255))
def comR (c:Int):Bool:=decide (1<=c)&&decide (c<=3)
def comT (c:Int):ByteArray:=bif comR c then HD c else ⟨#[]⟩
theorem runUpTo (n m:Int):runG ΓNb L0 prog f269 [.v (I n),.v (I m)] M0 =
 (bif decide (n>=(0:Int)) then some (.v (.bool (decide (n<=m))),⟨[],[],[]⟩) else some (.v (.bool false),⟨[],[],[]⟩)):=by kernel_rfl
def gUpTo (vs:List Value):Option (Bool×Value) :=
 match vs with
 | [.int .i64 n,.int .i64 m]=>some (true,Bo (inB n m))
 | _=>none
theorem gUpTo_ok:an 269 gUpTo:=by
 intro vs r h
 unfold gUpTo at h
 split at h
 ·rename_i n m
  obtain ⟨h1,rfl⟩:=aa h
  refine am (vs:=[I n,I m]) (Λ:=L0) (m':=M0) z0 func269 rfl (fun z _ _=>cq _ z) ?_
  exact (runUpTo n m).trans (by unfold inB;cases decide (n>=0)<;>rfl)
 ·cases h
def ΓQ1:Orc:=ah 269 gUpTo ΓNb
theorem OkQ1:ΓQ1.Ok prog:=ac z0 gUpTo_ok
def ΓQ2:Orc:=ΓQ1
theorem OkQ2:ΓQ2.Ok prog:=OkQ1
theorem Xq (c p s:Int):runG ΓQ2 L0 prog f268 [.v (I c),.v (I p),.v (I s)] M0 =
 (bif inB c (1000000:Int) then (bif inB p (3:Int) then some (.v (.bool (inB s (2:Int))),⟨[],[],[]⟩) else some (.v (.bool false),⟨[],[],[]⟩)) else some (.v (.bool false),⟨[],[],[]⟩)):=by kernel_rfl
def ET (vs:List Value):Option (Bool×Value) :=
 match vs with
 | [.int .i64 c,.int .i64 p,.int .i64 s]=>some (true,Bo (lC c p s))
 | _=>none
theorem qeT:an 268 ET:=by
 intro vs r h
 unfold ET at h
 split at h
 ·rename_i c p s
  obtain ⟨h1,rfl⟩:=aa h
  refine am (vs:=[I c,I p,I s]) (Λ:=L0) (m':=M0) OkQ2 func268 rfl (fun z _ _=>cq _ z) ?_
  exact (Xq c p s).trans (by unfold lC;cases inB c 1000000<;>cases inB p 3<;>rfl)
 ·cases h
def ΓQ3:Orc:=ah 268 ET ΓQ2
theorem OkQ3:ΓQ3.Ok prog:=ac OkQ2 qeT
theorem Zn (n:Int):runG ΓQ3 L0 prog f270 [.v (I n)] M0 =
 some (.v (Value.string (be (4:Nat) (IntKind.u64.wrap n))),⟨[],[],[]⟩):=by kernel_rfl
def Gs (vs:List Value):Option (Bool×Value) :=
 match vs with
 | [.int .i64 n]=>some (true,S (be 4 n))
 | _=>none
theorem qgl:an 270 Gs:=by
 intro vs r h
 unfold Gs at h
 split at h
 ·rename_i n
  obtain ⟨h1,rfl⟩:=aa h
  refine am (vs:=[I n]) (Λ:=L0) (m':=M0) OkQ3 func270 rfl (fun z _ _=>cq _ z) ?_
  exact (Zn n).trans (by rw [zu];rfl)
 ·cases h
def ΓQ4:Orc:=ah 270 Gs ΓQ3
theorem OkQ4:ΓQ4.Ok prog:=ac OkQ3 qgl
theorem X2 (n:Int):runG ΓQ4 L0 prog f183 [.v (I n)] M0 =
 some (.v (Value.string (be (1:Nat) (IntKind.u64.wrap n))),⟨[],[],[]⟩):=by kernel_rfl
def Ff (vs:List Value):Option (Bool×Value) :=
 match vs with
 | [.int .i64 n]=>some (true,S (be 1 n))
 | _=>none
theorem qff:an 183 Ff:=by
 intro vs r h
 unfold Ff at h
 split at h
 ·rename_i n
  obtain ⟨h1,rfl⟩:=aa h
  refine am (vs:=[I n]) (Λ:=L0) (m':=M0) OkQ4 func183 rfl (fun z _ _=>cq _ z) ?_
  exact (X2 n).trans (by rw [HT];rfl)
 ·cases h
def ΓQ5:Orc:=ah 183 Ff ΓQ4
theorem OkQ5:ΓQ5.Ok prog:=ac OkQ4 qff
theorem VP (p s:Int):runG ΓQ5 L0 prog f271 [.v (I p),.v (I s)] M0 =
 some (.v (Value.string (be (1:Nat) (wI (p+wI ((16:Int)*s))))),⟨[],[],[]⟩):=by kernel_rfl
def DO (vs:List Value):Option (Bool×Value) :=
 match vs with
 | [.int .i64 p,.int .i64 s]=>some (true,S (be 1 (two p s)))
 | _=>none
theorem qd0:an 271 DO:=by
 intro vs r h
 unfold DO at h
 split at h
 ·rename_i p s
  obtain ⟨h1,rfl⟩:=aa h
  refine am (vs:=[I p,I s]) (Λ:=L0) (m':=M0) OkQ5 func271 rfl (fun z _ _=>cq _ z) ?_
  exact (VP p s).trans (rfl)
 ·cases h
def ΓQ6:Orc:=ah 271 DO ΓQ5
theorem RK:ΓQ6.Ok prog:=ac OkQ5 qd0
theorem VO (b:Int):runG ΓQ6 L0 prog f213 [.v (U8 b)] M0 =
 some (.v (.tuple #[(.int .i64 (wI (b.tmod (16:Int)))),(.int .i64 (wI (IntKind.u8.wrap (b.tdiv (16:Int)))))]),⟨[],[],[]⟩):=by kernel_rfl
def DN (vs:List Value):Option (Bool×Value) :=
 match vs with
 | [.int .u8 b]=>some (true,.tuple #[I (wI (b.tmod 16)),I (wI (IntKind.u8.wrap (b.tdiv 16)))])
 | _=>none
theorem qdZ:an 213 DN:=by
 intro vs r h
 unfold DN at h
 split at h
 ·rename_i b
  obtain ⟨h1,rfl⟩:=aa h
  refine am (vs:=[U8 b]) (Λ:=L0) (m':=M0) RK func213 rfl (fun z _ _=>cq _ z) ?_
  exact (VO b).trans (rfl)
 ·cases h
def ΓQ7:Orc:=ah 213 DN ΓQ6
theorem RJ:ΓQ7.Ok prog:=ac RK qdZ
theorem Wg (s:ByteArray):runG ΓQ7 L0 prog f182 [.v (S s)] M0 =
 (bif bL s then (bif (s.size+(be (4:Nat) (IntKind.u64.wrap (ip s))).size).ble (9223372036854775807) then some (.v (Value.string (s++be (4:Nat) (IntKind.u64.wrap (ip s)))),⟨[],[],[]⟩) else none) else none):=by kernel_rfl
def D2 (vs:List Value):Option (Bool×Value) :=
 match vs with
 | [.string s]=>some (Nat.ble s.size 1000000,S (gQ s))
 | _=>none
theorem qea:an 182 D2:=by
 intro vs r h
 unfold D2 at h
 split at h
 ·rename_i s
  obtain ⟨h1,rfl⟩:=aa h
  refine am (vs:=[S s]) (Λ:=L0) (m':=M0) RJ func182 rfl (fun z _ _=>cq _ z) ?_
  exact (Wg s).trans (by
   have hz:=Nat.le_of_ble_eq_true h1
   rw [mZ (show s.size<=9223372036854775807 by omega),zu,zv,Nat.ble_eq_true_of_le (show s.size+4<=9223372036854775807 by omega)]
   rfl)
 ·cases h
def ΓQ8:Orc:=ah 182 D2 ΓQ7
theorem RI:ΓQ8.Ok prog:=ac RJ qea
theorem Zz (s:ByteArray) (n:Int):runG ΓQ8 L0 prog f211 [.v (S s),.v (I n)] M0 =
 (bif decide (↑s.size<wI (n+(4:Int))) then some (.v (.int .i64 5),⟨[],[],[]⟩) else (bif decide (↑s.size>wI (n+(4:Int))) then some (.v (.int .i64 3),⟨[],[],[]⟩) else (bif true&&(decide ((0:Int)<=n)&&decide (n<=↑s.size)) then (bif (s.extract (0:Nat) n.toNat).size.ble (1000000) then (bif !(gQ (s.extract (0:Nat) n.toNat)).toList==s.toList then some (.v (.int .i64 4),⟨[],[],[]⟩) else some (.v (.int .i64 0),⟨[],[],[]⟩)) else none) else none))):=by kernel_rfl
def GF (vs:List Value):Option (Bool×Value) :=
 match vs with
 | [.string s,.int .i64 n]=>some ((n==4||(n==6||n==10))&&Nat.ble s.size 1000000,I (ew s n))
 | _=>none
theorem qgy:an 211 GF:=by
 intro vs r h
 unfold GF at h
 split at h
 ·rename_i s n
  obtain ⟨h1,rfl⟩:=aa h
  refine am (vs:=[S s,I n]) (Λ:=L0) (m':=M0) RI func211 rfl (fun z _ _=>cq _ z) ?_
  exact (Zz s n).trans (by
   simp only [Bool.and_eq_true,Bool.or_eq_true,beq_iff_eq] at h1
   obtain ⟨h0,h1⟩:=h1
   have hz:=Nat.le_of_ble_eq_true h1
   have hw:wI (n+4)=n+4:=aM (by omega)
   rw [hw]
   unfold ew
   by_cases c1:(s.size:Int)<n+4
   ·rw [decide_eq_true c1,if_pos c1];rfl
   by_cases c2:(s.size:Int)>n+4
   ·rw [decide_eq_false c1,decide_eq_true c2,if_neg c1,if_pos c2];rfl
   rw [decide_eq_false c1,decide_eq_false c2,if_neg c1,if_neg c2,decide_eq_true (show 0<=n by omega),decide_eq_true (show n<=(s.size:Int) by omega),Nat.ble_eq_true_of_le (show (s.extract 0 n.toNat).size<=1000000 by rw [ByteArray.size_extract];omega),zt]
   cases gQ (s.extract 0 n.toNat)==s<;>rfl)
 ·cases h
def ΓQ9:Orc:=ah 211 GF ΓQ8
theorem RH:ΓQ9.Ok prog:=ac RI qgy
theorem Zm (s:ByteArray):runG ΓQ9 L0 prog f212 [.v (S s)] M0 =
 (bif true&&(true&&decide ((4:Int)<=↑s.size)) then (bif bL (s.extract (0:Nat) (4:Nat)) then some (.v (.int .i64 (wI ↑(numN (s.extract (0:Nat) (4:Nat))))),⟨[],[],[]⟩) else none) else none):=by kernel_rfl
def Gr (vs:List Value):Option (Bool×Value) :=
 match vs with
 | [.string s]=>some (Nat.ble 4 s.size&&Nat.ble s.size 1000000,I (wI ((numN (s.extract 0 4):Nat):Int)))
 | _=>none
theorem qgk:an 212 Gr:=by
 intro vs r h
 unfold Gr at h
 split at h
 ·rename_i s
  obtain ⟨h1,rfl⟩:=aa h
  refine am (vs:=[S s]) (Λ:=L0) (m':=M0) RH func212 rfl (fun z _ _=>cq _ z) ?_
  exact (Zm s).trans (by
   simp only [Bool.and_eq_true] at h1
   have h2:=Nat.le_of_ble_eq_true h1.1
   rw [decide_eq_true (show (4:Int)<=(s.size:Int) by omega),mZ (show (s.extract 0 4).size<=9223372036854775807 by rw [ByteArray.size_extract];omega)]
   rfl)
 ·cases h
def ΓQ10:Orc:=ah 212 Gr ΓQ9
theorem RM:ΓQ10.Ok prog:=ac RH qgk
theorem XR (c p s w:Int):runG ΓQ10 L0 prog f204 [.v (.agg #[I c,I p,I s,I w])] M0 =
 (bif !lC c p s then some (.v (Value.string { data:=#[]:ByteArray }),⟨[],[],[]⟩) else (bif !inB w (15:Int) then some (.v (Value.string { data:=#[]:ByteArray }),⟨[],[],[]⟩) else some (.v (Value.string (gQ (be (4:Nat) c++be (1:Nat) (two p s)++be (1:Nat) w))),⟨[],[],[]⟩))):=by kernel_rfl
def xY (vs:List Value):Option (Bool×Value) :=
 match vs with
 | [.agg ⟨[.int .i64 c,.int .i64 p,.int .i64 s,.int .i64 w]⟩]=>some (true,S (oL c p s w))
 | _=>none
theorem Ov:an 204 xY:=by
 intro vs r h
 unfold xY at h
 split at h
 ·rename_i c p s w
  obtain ⟨h1,rfl⟩:=aa h
  refine am (vs:=[.agg #[I c,I p,I s,I w]]) (Λ:=L0) (m':=M0) RM func204 rfl (fun z _ _=>cq _ z) ?_
  exact (XR c p s w).trans (by
   unfold oL Ku
   cases lC c p s<;>cases inB w 15<;>first|rfl|(simp only [ByteArray.size_append,zv];rfl))
 ·cases h
def ΓQ11:Orc:=ah 204 xY ΓQ10
theorem RL:ΓQ11.Ok prog:=ac RM Ov
def yY (s:ByteArray):Int:=wI ((numN (s.extract 0 4):Nat):Int)
def xc (s:ByteArray) (i:Int):Int:=wI ((aw s i).tmod 16)
def xG (s:ByteArray) (i:Int):Int:=wI (IntKind.u8.wrap ((aw s i).tdiv 16))
def js (b:Bool) (x:Int):Int:=bif b then x else 0
def Kx (s:ByteArray):Bool:=oL (yY s) (xc s 4) (xG s 4) (wI (aw s 5))==s
def gp (s:ByteArray):Int:=bif ew s 6 != 0 then ew s 6 else bif Kx s then 0 else 3
theorem PD {s:ByteArray} {n:Int} (h:ew s n=0):(s.size:Int)=n+4:=by
 unfold ew at h
 split at h
 ·cases h
 ·split at h
  ·cases h
  ·omega
theorem PC (s:ByteArray) (n:Int):ew s n=5\/ew s n=3\/ew s n=4\/ew s n=0:=by
 unfold ew
 split
 ·exact .inl rfl
 ·split
  ·exact .inr (.inl rfl)
  ·split
   ·exact .inr (.inr (.inr rfl))
   ·exact .inr (.inr (.inl rfl))
theorem Xn (s:ByteArray):runG ΓQ11 L0 prog f143 [.v (S s)] M0 =
 (bif true&&s.size.ble (1000000) then (bif ew s (6:Int) != (0:Int) then some (.v (.tuple #[(.agg #[(.int .i64 0),(.int .i64 0),(.int .i64 0),(.int .i64 0)]),(.int .i64 (ew s (6:Int)))]),⟨[],[],[]⟩) else (bif Nat.ble (4) s.size&&s.size.ble (1000000) then (bif true&&decide ((5:Int)<↑s.size) then (bif true&&decide ((4:Int)<↑s.size) then (bif !(oL (wI ↑(numN (s.extract (0:Nat) (4:Nat)))) (wI ((aw s (4:Int)).tmod (16))) (wI (IntKind.u8.wrap ((aw s (4:Int)).tdiv (16)))) (wI (aw s (5:Int)))).toList==s.toList then some (.v (.tuple #[(.agg #[(.int .i64 0),(.int .i64 0),(.int .i64 0),(.int .i64 0)]),(.int .i64 3)]),⟨[],[],[]⟩) else some (.v (.tuple #[(.agg #[(.int .i64 (wI ↑(numN (s.extract (0:Nat) (4:Nat))))),(.int .i64 (wI ((aw s (4:Int)).tmod (16)))),(.int .i64 (wI (IntKind.u8.wrap ((aw s (4:Int)).tdiv (16))))),(.int .i64 (wI (aw s (5:Int))))]),(.int .i64 0)]),⟨[],[],[]⟩)) else none) else none) else none)) else none):=by kernel_rfl
def xV (vs:List Value):Option (Bool×Value) :=
 match vs with
 | [.string s]=>some (Nat.ble s.size 1000000,.tuple #[.agg #[I (js (gp s==0) (yY s)),I (js (gp s==0) (xc s 4)),I (js (gp s==0) (xG s 4)),I (js (gp s==0) (wI (aw s 5)))],I (gp s)])
 | _=>none
theorem On:an 143 xV:=by
 intro vs r h
 unfold xV at h
 split at h
 ·rename_i s
  obtain ⟨h1,rfl⟩:=aa h
  refine am (vs:=[S s]) (Λ:=L0) (m':=M0) RL func143 rfl (fun z _ _=>cq _ z) ?_
  exact (Xn s).trans (by
   rw [h1]
   unfold gp
   rcases PC s 6 with he|he|he|he
   ·rw [he];rfl
   ·rw [he];rfl
   ·rw [he];rfl
   ·have hs:=PD he
    rw [he,Nat.ble_eq_true_of_le (show 4<=s.size by omega),decide_eq_true (show (5:Int)<(s.size:Int) by omega),decide_eq_true (show (4:Int)<(s.size:Int) by omega)]
    unfold Kx yY xc xG
    rw [<- zt]
    cases (oL (wI ((numN (s.extract 0 4):Nat):Int)) (wI ((aw s 4).tmod 16)) (wI (IntKind.u8.wrap ((aw s 4).tdiv 16))) (wI (aw s 5))).toList==s.toList<;>rfl)
 ·cases h
def ΓQ12:Orc:=ah 143 xV ΓQ11
theorem qjR:ΓQ12.Ok prog:=ac RL On
def ΓQa:Orc:=ΓQ12
theorem qjQ:ΓQa.Ok prog:=qjR
end Go.Proofs.YtainfdcfkgemhaaGreat.Pe
namespace Go.Proofs.YtainfdcfkgemhaaGreat.Pe
open Go Go.Proofs Go.Sx Nw
set_option linter.unusedVariables false
theorem HM (x:Int) (j k:Nat) (h:(2:Int) ^ min (Int.toNat (8*k:Nat)) 32=256 ^ k) (hj:j=8*k):IntKind.u8.wrap (x.fdiv (2 ^ min (Int.toNat (j:Nat)) 32))=x / 256 ^ k % 256:=by
 subst hj
 rw [h,Int.fdiv_eq_ediv_of_nonneg _ (Int.le_of_lt (Int.pow_pos (by decide))),<- cA true]
 rfl
theorem qik (x:Int):strOfNums [IntKind.u8.wrap (x.fdiv (2 ^ min (Int.toNat 24) 32)),IntKind.u8.wrap (x.fdiv (2 ^ min (Int.toNat 16) 32)),IntKind.u8.wrap (x.fdiv (2 ^ min (Int.toNat 8) 32)),IntKind.u8.wrap x]=be 4 x:=by
 have e1:=HM x 8 1 (by decide) rfl
 have e2:=HM x 16 2 (by decide) rfl
 have e3:=HM x 24 3 (by decide) rfl
 rw [show ((8:Nat):Int)=8 from rfl] at e1
 rw [show ((16:Nat):Int)=16 from rfl] at e2
 rw [show ((24:Nat):Int)=24 from rfl] at e3
 have e0:IntKind.u8.wrap x=x / 256 ^ 0 % 256:=by
  rw [<- cA true]
  simp only [wr]
  omega
 rw [e0,e1,e2,e3];rfl
def ΓR1:Orc:=ΓQa
theorem OkR1:ΓR1.Ok prog:=qjQ
def ΓR2:Orc:=ΓR1
theorem OkR2:ΓR2.Ok prog:=OkR1
theorem XU (c p s x y z u v f:Int):runG ΓR2 L0 prog f272 [.v (.agg #[I c,I p,I s,I x,I y,I z,I u,I v,I f])] M0 =
 (bif !inB x (255:Int) then some (.v (Bo false),M0) else (bif !inB y (255:Int) then some (.v (Bo false),M0) else (bif !inB z (255:Int) then some (.v (Bo false),M0) else (bif !inB f (255:Int) then some (.v (Bo false),M0) else (bif !inB u (4:Int) then some (.v (Bo false),M0) else (bif !inB v (4:Int) then some (.v (Bo false),M0) else some (.v (Bo (lC c p s)),M0))))))):=by kernel_rfl
def Fa (vs:List Value):Option (Bool×Value) :=
 match vs with
 | [.agg ⟨[.int .i64 c,.int .i64 p,.int .i64 s,.int .i64 x,.int .i64 y,.int .i64 z,.int .i64 u,.int .i64 v,.int .i64 f]⟩]=>some (true,Bo (sz c p s x y z u v f))
 | _=>none
theorem qfa:an 272 Fa:=by
 intro vs r h
 unfold Fa at h
 split at h
 ·rename_i c p s x y z u v f
  obtain ⟨h1,rfl⟩:=aa h
  refine am (vs:=[.agg #[I c,I p,I s,I x,I y,I z,I u,I v,I f]]) (Λ:=L0) (m':=M0) OkR2 func272 rfl (fun z _ _=>cq _ z) ?_
  exact (XU c p s x y z u v f).trans (by
   simp only [zr,Bool.not_not]
   unfold sz lC
   congr 4
   ac_rfl)
 ·cases h
def ΓR3:Orc:=ah 272 Fa ΓR2
theorem OkR3:ΓR3.Ok prog:=ac OkR2 qfa
theorem YV (n:Int):runG ΓR3 L0 prog f244 [.v (bV n)] M0 =
 some (.v (S (strOfNums (bY [[Dat.n (IntKind.u8.wrap (n.fdiv (16777216:Int)))],[Dat.n (IntKind.u8.wrap (n.fdiv (65536:Int)))],[Dat.n (IntKind.u8.wrap (n.fdiv (256:Int)))],[Dat.n (IntKind.u8.wrap n)]]))),M0):=by kernel_rfl
def F5 (vs:List Value):Option (Bool×Value) :=
 match vs with
 | [.int .u32 n]=>some (true,S (be 4 n))
 | _=>none
theorem qfY:an 244 F5:=by
 intro vs r h
 unfold F5 at h
 split at h
 ·rename_i n
  obtain ⟨h1,rfl⟩:=aa h
  refine am (vs:=[bV n]) (Λ:=L0) (m':=M0) OkR3 func244 rfl (fun z _ _=>cq _ z) ?_
  exact (YV n).trans (by rw [<- qik n];rfl)
 ·cases h
def ΓR4:Orc:=ah 244 F5 ΓR3
theorem RD:ΓR4.Ok prog:=ac OkR3 qfY
theorem WB (s:ByteArray):runG ΓR4 L0 prog f197 [.v (S s)] M0 =
 (bif bL s then (bif (s.size+(be (4:Nat) (ip s)).size).ble (9223372036854775807) then some (.v (S (s++be (4:Nat) (ip s))),M0) else none) else none):=by kernel_rfl
def El (vs:List Value):Option (Bool×Value) :=
 match vs with
 | [.string s]=>some (Nat.ble s.size 1000000,S (gQ s))
 | _=>none
theorem qes:an 197 El:=by
 intro vs r h
 unfold El at h
 split at h
 ·rename_i s
  obtain ⟨h1,rfl⟩:=aa h
  refine am (vs:=[S s]) (Λ:=L0) (m':=M0) RD func197 rfl (fun z _ _=>cq _ z) ?_
  exact (WB s).trans (by
   have hz:=Nat.le_of_ble_eq_true h1
   rw [mZ (show s.size<=9223372036854775807 by omega),zv,Nat.ble_eq_true_of_le (show s.size+4<=9223372036854775807 by omega)]
   rfl)
 ·cases h
def ΓR5:Orc:=ah 197 El ΓR4
theorem qjN:ΓR5.Ok prog:=ac RD qes
def ΓR6:Orc:=ΓR5
theorem qjM:ΓR6.Ok prog:=qjN
def ΓR7:Orc:=ΓR6
theorem qjL:ΓR7.Ok prog:=qjM
def ΓR8:Orc:=ΓR7
theorem qjK:ΓR8.Ok prog:=qjL
def ΓR9:Orc:=ΓR8
theorem qjJ:ΓR9.Ok prog:=qjK
def ΓR10:Orc:=ΓR9
theorem RG:ΓR10.Ok prog:=qjJ
theorem XT (c p s x y z u v f:Int):runG ΓR10 L0 prog f205 [.v (.agg #[I c,I p,I s,I x,I y,I z,I u,I v,I f])] M0 =
 (bif !sz c p s x y z u v f then some (.v (S { data:=#[]:ByteArray }),M0) else some (.v (S (gQ (be (4:Nat) c++be (1:Nat) (two p s)++(be (1:Nat) x++be (1:Nat) y++be (1:Nat) z)++be (1:Nat) (two u v)++be (1:Nat) f))),M0)):=by kernel_rfl
def xZ (vs:List Value):Option (Bool×Value) :=
 match vs with
 | [.agg ⟨[.int .i64 c,.int .i64 p,.int .i64 s,.int .i64 x,.int .i64 y,.int .i64 z,.int .i64 u,.int .i64 v,.int .i64 f]⟩]=>some (true,S (B9 c p s x y z u v f))
 | _=>none
theorem Ow:an 205 xZ:=by
 intro vs r h
 unfold xZ at h
 split at h
 ·rename_i c p s x y z u v f
  obtain ⟨h1,rfl⟩:=aa h
  refine am (vs:=[.agg #[I c,I p,I s,I x,I y,I z,I u,I v,I f]]) (Λ:=L0) (m':=M0) RG func205 rfl (fun z _ _=>cq _ z) ?_
  exact (XT c p s x y z u v f).trans (by
   unfold B9 Mc
   cases sz c p s x y z u v f with
   | false=>rfl
   | true =>
    rfl)
 ·cases h
def ΓR11:Orc:=ah 205 xZ ΓR10
theorem qjP:ΓR11.Ok prog:=ac RG Ow
def ΓR12:Orc:=ΓR11
theorem RF:ΓR12.Ok prog:=qjP
theorem XX (c:Int):runG ΓR12 L0 prog f115 [.v (I c)] M0 =
 (bif decide (c<(1:Int)) then some (.v (S { data:=#[]:ByteArray }),M0) else (bif decide (c>(3:Int)) then some (.v (S { data:=#[]:ByteArray }),M0) else some (.v (S (gQ (be (1:Nat) c++be (1:Nat) (wI ↑(BitVec.ofInt (64:Nat) c ^^^ BitVec.ofInt (64:Nat) (85:Int)).toNat)++be (1:Nat) (wI ↑(BitVec.ofInt (64:Nat) c ^^^ BitVec.ofInt (64:Nat) (170:Int)).toNat)++be (1:Nat) (wI ↑(BitVec.ofInt (64:Nat) c ^^^ BitVec.ofInt (64:Nat) (255:Int)).toNat)))),M0))):=by kernel_rfl
def Fc (vs:List Value):Option (Bool×Value) :=
 match vs with
 | [.int .i64 c]=>some (true,S (comT c))
 | _=>none
theorem qfc:an 115 Fc:=by
 intro vs r h
 unfold Fc at h
 split at h
 ·rename_i c
  obtain ⟨h1,rfl⟩:=aa h
  refine am (vs:=[I c]) (Λ:=L0) (m':=M0) RF func115 rfl (fun z _ _=>cq _ z) ?_
  exact (XX c).trans (by
   unfold comT comR
   by_cases c1:c<1
   ·rw [decide_eq_true c1,decide_eq_false (show ¬ 1<=c by omega)];rfl
   by_cases c2:c>3
   ·rw [decide_eq_false c1,decide_eq_true c2,decide_eq_true (show 1<=c by omega),decide_eq_false (show ¬ c<=3 by omega)];rfl
   have hc:c=1\/c=2\/c=3:=by omega
   unfold HD
   rcases hc with rfl|rfl|rfl
   ·rfl
   ·rfl
   ·rfl)
 ·cases h
def ΓR13:Orc:=ah 115 Fc ΓR12
theorem RE:ΓR13.Ok prog:=ac RF qfc
theorem Xu (c:Int):runG ΓR13 L0 prog f133 [.v (I c)] M0 =
 (bif decide (c<(1:Int)) then some (.v (S { data:=#[]:ByteArray }),M0) else (bif decide (c>(3:Int)) then some (.v (S { data:=#[]:ByteArray }),M0) else some (.v (S (gQ (strOfNums (bY [[Dat.n (IntKind.u8.wrap c)],[Dat.n (IntKind.u8.wrap ↑(BitVec.ofInt (8:Nat) (IntKind.u8.wrap c) ^^^ BitVec.ofInt (8:Nat) (85:Int)).toNat)],[Dat.n (IntKind.u8.wrap ↑(BitVec.ofInt (8:Nat) (IntKind.u8.wrap c) ^^^ BitVec.ofInt (8:Nat) (170:Int)).toNat)],[Dat.n (IntKind.u8.wrap ↑(BitVec.ofInt (8:Nat) (IntKind.u8.wrap c) ^^^ BitVec.ofInt (8:Nat) (255:Int)).toNat)]])))),M0))):=by kernel_rfl
def gRPCom (vs:List Value):Option (Bool×Value) :=
 match vs with
 | [.int .i64 c]=>some (true,S (comT c))
 | _=>none
theorem gRPCom_ok:an 133 gRPCom:=by
 intro vs r h
 unfold gRPCom at h
 split at h
 ·rename_i c
  obtain ⟨h1,rfl⟩:=aa h
  refine am (vs:=[I c]) (Λ:=L0) (m':=M0) RE func133 rfl (fun z _ _=>cq _ z) ?_
  exact (Xu c).trans (by
   unfold comT comR
   by_cases c1:c<1
   ·rw [decide_eq_true c1,decide_eq_false (show ¬ 1<=c by omega)];rfl
   by_cases c2:c>3
   ·rw [decide_eq_false c1,decide_eq_true c2,decide_eq_true (show 1<=c by omega),decide_eq_false (show ¬ c<=3 by omega)];rfl
   have hc:c=1\/c=2\/c=3:=by omega
   unfold HD
   rcases hc with rfl|rfl|rfl
   ·simp only [HZ]
    rfl
   ·simp only [HZ]
    rfl
   ·simp only [HZ]
    rfl)
 ·cases h
def ΓR14:Orc:=ah 133 gRPCom ΓR13
theorem qjO:ΓR14.Ok prog:=ac RE gRPCom_ok
def ΓRa:Orc:=ΓR14
theorem qjI:ΓRa.Ok prog:=qjO
end Go.Proofs.YtainfdcfkgemhaaGreat.Pe
namespace Go.Proofs.YtainfdcfkgemhaaGreat.Pe
open Go Go.Proofs Go.Sx Nw
set_option linter.unusedVariables false
def PK (s:ByteArray):Bool:=comT (wI (aw s 0))==s
def nZ (s:ByteArray):Int:=bif ew s 4 != 0 then ew s 4 else bif PK s then 0 else 3
def ΓT1:Orc:=ΓRa
theorem OkT1:ΓT1.Ok prog:=qjI
def ΓT2:Orc:=ΓT1
theorem OkT2:ΓT2.Ok prog:=OkT1
def ΓT3:Orc:=ΓT2
theorem OkT3:ΓT3.Ok prog:=OkT2
theorem XD (s:ByteArray):runG ΓT3 L0 prog f141 [.v (S s)] M0 =
 (bif true&&s.size.ble (1000000) then (bif ew s (4:Int) != (0:Int) then some (.v (.tuple #[(I 0),(I (ew s (4:Int)))]),M0) else (bif true&&decide ((0:Int)<↑s.size) then (bif !(comT (wI (aw s (0:Int)))).toList==s.toList then some (.v (.tuple #[(I 0),(I 3)]),M0) else some (.v (.tuple #[(I (wI (aw s (0:Int)))),(I 0)]),M0)) else none)) else none):=by kernel_rfl
def E3 (vs:List Value):Option (Bool×Value) :=
 match vs with
 | [.string s]=>some (Nat.ble s.size 1000000,.tuple #[I (js (nZ s==0) (wI (aw s 0))),I (nZ s)])
 | _=>none
theorem qe3:an 141 E3:=by
 intro vs r h
 unfold E3 at h
 split at h
 ·rename_i s
  obtain ⟨h1,rfl⟩:=aa h
  refine am (vs:=[S s]) (Λ:=L0) (m':=M0) OkT3 func141 rfl (fun z _ _=>cq _ z) ?_
  exact (XD s).trans (by
   rw [h1]
   unfold nZ
   rcases PC s 4 with he|he|he|he
   ·rw [he];rfl
   ·rw [he];rfl
   ·rw [he];rfl
   ·have hs:=PD he
    rw [he,decide_eq_true (show (0:Int)<(s.size:Int) by omega)]
    unfold PK
    rw [<- zt]
    cases (comT (wI (aw s 0))).toList==s.toList<;>rfl)
 ·cases h
end Go.Proofs.YtainfdcfkgemhaaGreat.Pe
namespace Go.Proofs.YtainfdcfkgemhaaGreat.So
open Go Go.Proofs Go.Sx
set_option linter.unusedVariables false
def Ti (f:FuncId):Bool:=Nat.beq f 175||Nat.beq f 176||Nat.beq f 217||Nat.beq f 137||false||Nat.beq f 206||Nat.beq f 273||false||Nat.beq f 193||Nat.beq f 60||sS f
def Γs0:Orc:={ ah 185 ye ΓTl0 with wr:=Ti,sb:=true,bs:=true,av:=true }
theorem QX:Γs0.Ok prog:=⟨(ac mB yd).call,(ac mB yd).rd,(ac mB yd).eqv⟩
def dO (n m:Int):Bool:=bif decide (n<wI (0 - m)) then true else decide (n>m)
theorem WG (n:Int) (m:Int):runG Γs0 L0 prog f326 [.v (I n),.v (I m)] M0 =
 (bif decide (n<wI ((0:Int) - m)) then some (.v (Bo true),M0) else some (.v (Bo (decide (n>m))),M0)):=by kernel_rfl
def Eo (vs:List Value):Option (Bool×Value) :=
 match vs with
 | [.int .i64 n,.int .i64 m]=>some (true,Bo (dO n m))
 | _=>none
theorem qev:an 326 Eo:=by
 intro vs r h
 unfold Eo at h
 split at h
 ·rename_i n m
  obtain ⟨h1,rfl⟩:=aa h
  refine am (vs:=[I n,I m]) (Λ:=L0) (m':=M0) QX func326 rfl af ?_
  exact (WG n m).trans (by unfold dO;cases decide (n<wI (0 - m))<;>rfl)
 ·cases h
def Γs1:Orc:=ah 326 Eo Γs0
theorem QW:Γs1.Ok prog:=ac QX qev
theorem Wp (p:Int) (q:Int) (x:Int) (y:Int) (z:Int) (vx:Int) (vy:Int) (vz:Int):runG Γs1 L0 prog f327 [.v (.agg #[I p,I q,I x,I y,I z,I vx,I vy,I vz])] M0 =
 some (.v (.agg #[(I vx),(I vy),(I vz)]),M0):=by kernel_rfl
def Ea (vs:List Value):Option (Bool×Value) :=
 match vs with
 | [.agg ⟨[.int .i64 p,.int .i64 q,.int .i64 x,.int .i64 y,.int .i64 z,.int .i64 vx,.int .i64 vy,.int .i64 vz]⟩]=>some (true,.agg #[I vx,I vy,I vz])
 | _=>none
theorem qeh:an 327 Ea:=by
 intro vs r h
 unfold Ea at h
 split at h
 ·rename_i p q x y z vx vy vz
  obtain ⟨h1,rfl⟩:=aa h
  refine am (vs:=[.agg #[I p,I q,I x,I y,I z,I vx,I vy,I vz]]) (Λ:=L0) (m':=M0) QW func327 rfl af ?_
  exact (Wp p q x y z vx vy vz).trans (rfl)
 ·cases h
def Γs2:Orc:=ah 327 Ea Γs1
theorem QT:Γs2.Ok prog:=ac QW qeh
def hH (x y z vx vy vz:Int):Bool:=dO x 1073741824||(dO y 1073741824||(dO z 1073741824||(dO vx 65536||(dO vy 65536||dO vz 65536))))
theorem WA (p:Int) (q:Int) (x:Int) (y:Int) (z:Int) (vx:Int) (vy:Int) (vz:Int):runG Γs2 L0 prog f274 [.v (.agg #[I p,I q,I x,I y,I z,I vx,I vy,I vz])] M0 =
 (bif dO x (1073741824:Int) then some (.v (Bo true),M0) else (bif dO y (1073741824:Int) then some (.v (Bo true),M0) else (bif dO z (1073741824:Int) then some (.v (Bo true),M0) else (bif dO vx (65536:Int) then some (.v (Bo true),M0) else (bif dO vy (65536:Int) then some (.v (Bo true),M0) else (bif dO vz (65536:Int) then some (.v (Bo true),M0) else some (.v (Bo false),M0))))))):=by kernel_rfl
def Ek (vs:List Value):Option (Bool×Value) :=
 match vs with
 | [.agg ⟨[.int .i64 p,.int .i64 q,.int .i64 x,.int .i64 y,.int .i64 z,.int .i64 vx,.int .i64 vy,.int .i64 vz]⟩]=>some (true,Bo (hH x y z vx vy vz))
 | _=>none
theorem qer:an 274 Ek:=by
 intro vs r h
 unfold Ek at h
 split at h
 ·rename_i p q x y z vx vy vz
  obtain ⟨h1,rfl⟩:=aa h
  refine am (vs:=[.agg #[I p,I q,I x,I y,I z,I vx,I vy,I vz]]) (Λ:=L0) (m':=M0) QT func274 rfl af ?_
  exact (WA p q x y z vx vy vz).trans (by unfold hH;cases dO x 1073741824<;>cases dO y 1073741824<;>cases dO z 1073741824<;>cases dO vx 65536<;>cases dO vy 65536<;>cases dO vz 65536<;>rfl)
 ·cases h
def Γs3:Orc:=ah 274 Ek Γs2
theorem QS:Γs3.Ok prog:=ac QT qer
def iC (a b P:Int):Bool:=decide (a - b>P)||decide (b - a>P)
def aF (a:Int):Bool:=decide (-9223372036854775808<=a/\a<9223372036854775808)
theorem Ws (a:Int) (b:Int) (s:Int) (c:Int):runG Γs3 L0 prog f328 [.v (I a),.v (I b),.v (I s),.v (I c)] M0 =
 (bif a8 (IntKind.u64.wrap s)&&a8 (IntKind.u64.wrap c) then (bif IntKind.u64.wrap s*IntKind.u64.wrap c / (18446744073709551616:Int)==(0:Int) then some (.v (Bo (decide (IntKind.u64.wrap (IntKind.u64.wrap (if b>a then b else a) - IntKind.u64.wrap (if b<a then b else a))>IntKind.u64.wrap s*IntKind.u64.wrap c % (18446744073709551616:Int)))),M0) else some (.v (Bo false),M0)) else none):=by kernel_rfl
def Ed (vs:List Value):Option (Bool×Value) :=
 match vs with
 | [.int .i64 a,.int .i64 b,.int .i64 s,.int .i64 c]=>some (aF a&&(aF b&&(decide (0<=s/\s<9223372036854775808)&&decide (0<=c/\c<9223372036854775808))),Bo (iC a b (s*c)))
 | _=>none
theorem qek:an 328 Ed:=by
 intro vs r h
 unfold Ed at h
 split at h
 ·rename_i a b s c
  obtain ⟨h1,rfl⟩:=aa h
  refine am (vs:=[I a,I b,I s,I c]) (Λ:=L0) (m':=M0) QS func328 rfl af ?_
  exact (Ws a b s c).trans (by
   simp only [Bool.and_eq_true,decide_eq_true_eq,aF] at h1
   obtain ⟨h1,h2,h3,h4⟩:=h1
   rw [j7 (n:=s) (by omega),j7 (n:=c) (by omega),eV.2 (by omega),eV.2 (by omega)]
   have hp:0<=s*c:=Int.mul_nonneg h3.1 h4.1
   generalize s*c=P at *
   have hd:IntKind.u64.wrap (IntKind.u64.wrap (if b>a then b else a) - IntKind.u64.wrap (if b<a then b else a))=(if b>a then b - a else a - b):=by
    rw [wrU,wrU,wrU]
    split<;>split<;>omega
   rw [hd]
   unfold iC
   by_cases h:P / 18446744073709551616=0
   ·rw [h]
    have e:(decide ((if b>a then b - a else a - b)>P % 18446744073709551616))=(decide (a - b>P)||decide (b - a>P)):=by
     rw [<- Bool.decide_or,decide_eq_decide]
     split<;>omega
    show some (SV.v (Bo (decide _)),M0)=_
    rw [e]
   ·rw [beq_eq_false_iff_ne.2 h,decide_eq_false (show ¬ a - b>P by omega),decide_eq_false (show ¬ b - a>P by omega)]
    rfl)
 ·cases h
def Γs4:Orc:=ah 328 Ed Γs3
theorem QR:Γs4.Ok prog:=ac QS qek
def eP (vx vy vz l6 l7 l8 P:Int):Bool:=iC vx l6 P||(iC vy l7 P||iC vz l8 P)
theorem Wt (p:Int) (q:Int) (x:Int) (y:Int) (z:Int) (vx:Int) (vy:Int) (vz:Int) (s:Int) (ma:Int) (l1:Int) (l2:Int) (l3:Int) (l4:Int) (l5:Int) (l6:Int) (l7:Int) (l8:Int) (hs:Bool) (ct:Int) (t:Int):runG Γs4 L0 prog f275 [.ptr 0 0,.v (.agg #[I p,I q,I x,I y,I z,I vx,I vy,I vz])] ⟨[[.v (I s),.v (I ma),.ptr 1 0,.v (I l1),.v (I l2),.v (I l3),.v (I l4),.v (I l5),.v (I l6),.v (I l7),.v (I l8),.v (Bo hs)],[.v (I ct),.v (I t)]],[true,true],[]⟩ =
 (bif aF vx&&(aF l6&&(decide ((0:Int)<=s/\s<(9223372036854775808:Int))&&decide ((0:Int)<=wI (t+(1:Int))/\wI (t+(1:Int))<(9223372036854775808:Int)))) then (bif iC vx l6 (s*wI (t+(1:Int))) then some (.v (Bo true),⟨[[.v (I s),.v (I ma),.ptr 1 0,.v (I l1),.v (I l2),.v (I l3),.v (I l4),.v (I l5),.v (I l6),.v (I l7),.v (I l8),.v (Bo hs)],[.v (I ct),.v (I t)]],[true,true],[]⟩) else (bif aF vy&&(aF l7&&(decide ((0:Int)<=s/\s<(9223372036854775808:Int))&&decide ((0:Int)<=wI (t+(1:Int))/\wI (t+(1:Int))<(9223372036854775808:Int)))) then (bif iC vy l7 (s*wI (t+(1:Int))) then some (.v (Bo true),⟨[[.v (I s),.v (I ma),.ptr 1 0,.v (I l1),.v (I l2),.v (I l3),.v (I l4),.v (I l5),.v (I l6),.v (I l7),.v (I l8),.v (Bo hs)],[.v (I ct),.v (I t)]],[true,true],[]⟩) else (bif aF vz&&(aF l8&&(decide ((0:Int)<=s/\s<(9223372036854775808:Int))&&decide ((0:Int)<=wI (t+(1:Int))/\wI (t+(1:Int))<(9223372036854775808:Int)))) then (bif iC vz l8 (s*wI (t+(1:Int))) then some (.v (Bo true),⟨[[.v (I s),.v (I ma),.ptr 1 0,.v (I l1),.v (I l2),.v (I l3),.v (I l4),.v (I l5),.v (I l6),.v (I l7),.v (I l8),.v (Bo hs)],[.v (I ct),.v (I t)]],[true,true],[]⟩) else some (.v (Bo false),⟨[[.v (I s),.v (I ma),.ptr 1 0,.v (I l1),.v (I l2),.v (I l3),.v (I l4),.v (I l5),.v (I l6),.v (I l7),.v (I l8),.v (Bo hs)],[.v (I ct),.v (I t)]],[true,true],[]⟩)) else none)) else none)) else none):=by kernel_rfl
def Ee (xs:List SV) (m:Mem):Option (Bool×Value) :=
 match xs,m with
 | [.ptr 0 0,.v (.agg ⟨[.int .i64 p,.int .i64 q,.int .i64 x,.int .i64 y,.int .i64 z,.int .i64 vx,.int .i64 vy,.int .i64 vz]⟩)],⟨[[.v (.int .i64 s),.v (.int .i64 ma),.ptr 1 0,.v (.int .i64 l1),.v (.int .i64 l2),.v (.int .i64 l3),.v (.int .i64 l4),.v (.int .i64 l5),.v (.int .i64 l6),.v (.int .i64 l7),.v (.int .i64 l8),.v (.bool hs)],[.v (.int .i64 ct),.v (.int .i64 t)]],[true,true],[]⟩=>some ((aF vx&&(aF vy&&(aF vz&&(aF l6&&(aF l7&&(aF l8&&(decide (0<=s/\s<9223372036854775808)&&decide (0<=t/\t<=1000000)))))))),Bo (eP vx vy vz l6 l7 l8 (s*(t+1))))
 | _,_=>none
theorem qel:bi 275 Ee:=by
 intro xs m r h
 unfold Ee at h
 split at h
 ·rename_i p q x y z vx vy vz s ma l1 l2 l3 l4 l5 l6 l7 l8 hs ct t
  obtain ⟨h1,rfl⟩:=aa h
  refine aj (Λ:=L0) QR func275 rfl af ?_
  refine (Wt p q x y z vx vy vz s ma l1 l2 l3 l4 l5 l6 l7 l8 hs ct t).trans ?_
  simp only [Bool.and_eq_true] at h1
  obtain ⟨h1,h2,h3,h4,h5,h6,h7,h8⟩:=h1
  have h9:=of_decide_eq_true h8
  rw [aM (n:=t+1) (by omega),h1,h2,h3,h4,h5,h6,h7,decide_eq_true (show 0<=t+1/\t+1<9223372036854775808 by omega)]
  unfold eP
  cases iC vx l6 (s*(t+1))<;>cases iC vy l7 (s*(t+1))<;>cases iC vz l8 (s*(t+1))<;>rfl
 ·cases h
def Γs5:Orc:=aR 275 Ee Γs4
theorem QQ:Γs5.Ok prog:=aL QR qel
def tA (st fl fr jm:Bool):Int:=(bif st then 2 else 0)+((bif fl then 4 else 0)+((bif fr then 8 else 0)+(bif jm then 16 else 0)))
def BS (q:Int) (x:Int) (y:Int) (z:Int) (vx:Int) (vy:Int) (vz:Int) (s:Int) (ma:Int) (l1:Int) (l2:Int) (l3:Int) (l4:Int) (l5:Int) (l6:Int) (l7:Int) (l8:Int) (hs:Bool) (ct:Int) (t:Int):Option (SV×Mem):=bif q != (0:Int) then (bif hH x y z vx vy vz then (bif hs then (bif aF vx&&(aF vy&&(aF vz&&(aF l6&&(aF l7&&(aF l8&&(decide ((0:Int)<=s/\s<(9223372036854775808:Int))&&decide ((0:Int)<=t/\t<=(1000000:Int)))))))) then (bif eP vx vy vz l6 l7 l8 (s*(t+(1:Int))) then some (.v (I 28),⟨[[.v (I s),.v (I ma),.ptr 1 0,.v (I l1),.v (I l2),.v (I l3),.v (I l4),.v (I l5),.v (I l6),.v (I l7),.v (I l8),.v (Bo hs)],[.v (I ct),.v (I t)]],[true,true],[]⟩) else some (.v (I 12),⟨[[.v (I s),.v (I ma),.ptr 1 0,.v (I l1),.v (I l2),.v (I l3),.v (I l4),.v (I l5),.v (I l6),.v (I l7),.v (I l8),.v (Bo hs)],[.v (I ct),.v (I t)]],[true,true],[]⟩)) else none) else some (.v (I 12),⟨[[.v (I s),.v (I ma),.ptr 1 0,.v (I l1),.v (I l2),.v (I l3),.v (I l4),.v (I l5),.v (I l6),.v (I l7),.v (I l8),.v (Bo hs)],[.v (I ct),.v (I t)]],[true,true],[]⟩)) else (bif hs then (bif aF vx&&(aF vy&&(aF vz&&(aF l6&&(aF l7&&(aF l8&&(decide ((0:Int)<=s/\s<(9223372036854775808:Int))&&decide ((0:Int)<=t/\t<=(1000000:Int)))))))) then (bif eP vx vy vz l6 l7 l8 (s*(t+(1:Int))) then some (.v (I 20),⟨[[.v (I s),.v (I ma),.ptr 1 0,.v (I l1),.v (I l2),.v (I l3),.v (I l4),.v (I l5),.v (I l6),.v (I l7),.v (I l8),.v (Bo hs)],[.v (I ct),.v (I t)]],[true,true],[]⟩) else some (.v (I 4),⟨[[.v (I s),.v (I ma),.ptr 1 0,.v (I l1),.v (I l2),.v (I l3),.v (I l4),.v (I l5),.v (I l6),.v (I l7),.v (I l8),.v (Bo hs)],[.v (I ct),.v (I t)]],[true,true],[]⟩)) else none) else some (.v (I 4),⟨[[.v (I s),.v (I ma),.ptr 1 0,.v (I l1),.v (I l2),.v (I l3),.v (I l4),.v (I l5),.v (I l6),.v (I l7),.v (I l8),.v (Bo hs)],[.v (I ct),.v (I t)]],[true,true],[]⟩))) else (bif hH x y z vx vy vz then (bif hs then (bif aF vx&&(aF vy&&(aF vz&&(aF l6&&(aF l7&&(aF l8&&(decide ((0:Int)<=s/\s<(9223372036854775808:Int))&&decide ((0:Int)<=t/\t<=(1000000:Int)))))))) then (bif eP vx vy vz l6 l7 l8 (s*(t+(1:Int))) then some (.v (I 24),⟨[[.v (I s),.v (I ma),.ptr 1 0,.v (I l1),.v (I l2),.v (I l3),.v (I l4),.v (I l5),.v (I l6),.v (I l7),.v (I l8),.v (Bo hs)],[.v (I ct),.v (I t)]],[true,true],[]⟩) else some (.v (I 8),⟨[[.v (I s),.v (I ma),.ptr 1 0,.v (I l1),.v (I l2),.v (I l3),.v (I l4),.v (I l5),.v (I l6),.v (I l7),.v (I l8),.v (Bo hs)],[.v (I ct),.v (I t)]],[true,true],[]⟩)) else none) else some (.v (I 8),⟨[[.v (I s),.v (I ma),.ptr 1 0,.v (I l1),.v (I l2),.v (I l3),.v (I l4),.v (I l5),.v (I l6),.v (I l7),.v (I l8),.v (Bo hs)],[.v (I ct),.v (I t)]],[true,true],[]⟩)) else (bif hs then (bif aF vx&&(aF vy&&(aF vz&&(aF l6&&(aF l7&&(aF l8&&(decide ((0:Int)<=s/\s<(9223372036854775808:Int))&&decide ((0:Int)<=t/\t<=(1000000:Int)))))))) then (bif eP vx vy vz l6 l7 l8 (s*(t+(1:Int))) then some (.v (I 16),⟨[[.v (I s),.v (I ma),.ptr 1 0,.v (I l1),.v (I l2),.v (I l3),.v (I l4),.v (I l5),.v (I l6),.v (I l7),.v (I l8),.v (Bo hs)],[.v (I ct),.v (I t)]],[true,true],[]⟩) else some (.v (I 0),⟨[[.v (I s),.v (I ma),.ptr 1 0,.v (I l1),.v (I l2),.v (I l3),.v (I l4),.v (I l5),.v (I l6),.v (I l7),.v (I l8),.v (Bo hs)],[.v (I ct),.v (I t)]],[true,true],[]⟩)) else none) else some (.v (I 0),⟨[[.v (I s),.v (I ma),.ptr 1 0,.v (I l1),.v (I l2),.v (I l3),.v (I l4),.v (I l5),.v (I l6),.v (I l7),.v (I l8),.v (Bo hs)],[.v (I ct),.v (I t)]],[true,true],[]⟩)))
theorem Wy (p:Int) (q:Int) (x:Int) (y:Int) (z:Int) (vx:Int) (vy:Int) (vz:Int) (s:Int) (ma:Int) (l1:Int) (l2:Int) (l3:Int) (l4:Int) (l5:Int) (l6:Int) (l7:Int) (l8:Int) (hs:Bool) (ct:Int) (t:Int):runG Γs5 L0 prog f207 [.ptr 0 0,.v (.agg #[I p,I q,I x,I y,I z,I vx,I vy,I vz])] ⟨[[.v (I s),.v (I ma),.ptr 1 0,.v (I l1),.v (I l2),.v (I l3),.v (I l4),.v (I l5),.v (I l6),.v (I l7),.v (I l8),.v (Bo hs)],[.v (I ct),.v (I t)]],[true,true],[]⟩ =
 (bif hs then (bif p==l1 then (bif q != (0:Int) then (bif hH x y z vx vy vz then (bif hs then (bif aF vx&&(aF vy&&(aF vz&&(aF l6&&(aF l7&&(aF l8&&(decide ((0:Int)<=s/\s<(9223372036854775808:Int))&&decide ((0:Int)<=t/\t<=(1000000:Int)))))))) then (bif eP vx vy vz l6 l7 l8 (s*(t+(1:Int))) then some (.v (I 30),⟨[[.v (I s),.v (I ma),.ptr 1 0,.v (I l1),.v (I l2),.v (I l3),.v (I l4),.v (I l5),.v (I l6),.v (I l7),.v (I l8),.v (Bo hs)],[.v (I ct),.v (I t)]],[true,true],[]⟩) else some (.v (I 14),⟨[[.v (I s),.v (I ma),.ptr 1 0,.v (I l1),.v (I l2),.v (I l3),.v (I l4),.v (I l5),.v (I l6),.v (I l7),.v (I l8),.v (Bo hs)],[.v (I ct),.v (I t)]],[true,true],[]⟩)) else none) else some (.v (I 14),⟨[[.v (I s),.v (I ma),.ptr 1 0,.v (I l1),.v (I l2),.v (I l3),.v (I l4),.v (I l5),.v (I l6),.v (I l7),.v (I l8),.v (Bo hs)],[.v (I ct),.v (I t)]],[true,true],[]⟩)) else (bif hs then (bif aF vx&&(aF vy&&(aF vz&&(aF l6&&(aF l7&&(aF l8&&(decide ((0:Int)<=s/\s<(9223372036854775808:Int))&&decide ((0:Int)<=t/\t<=(1000000:Int)))))))) then (bif eP vx vy vz l6 l7 l8 (s*(t+(1:Int))) then some (.v (I 22),⟨[[.v (I s),.v (I ma),.ptr 1 0,.v (I l1),.v (I l2),.v (I l3),.v (I l4),.v (I l5),.v (I l6),.v (I l7),.v (I l8),.v (Bo hs)],[.v (I ct),.v (I t)]],[true,true],[]⟩) else some (.v (I 6),⟨[[.v (I s),.v (I ma),.ptr 1 0,.v (I l1),.v (I l2),.v (I l3),.v (I l4),.v (I l5),.v (I l6),.v (I l7),.v (I l8),.v (Bo hs)],[.v (I ct),.v (I t)]],[true,true],[]⟩)) else none) else some (.v (I 6),⟨[[.v (I s),.v (I ma),.ptr 1 0,.v (I l1),.v (I l2),.v (I l3),.v (I l4),.v (I l5),.v (I l6),.v (I l7),.v (I l8),.v (Bo hs)],[.v (I ct),.v (I t)]],[true,true],[]⟩))) else (bif hH x y z vx vy vz then (bif hs then (bif aF vx&&(aF vy&&(aF vz&&(aF l6&&(aF l7&&(aF l8&&(decide ((0:Int)<=s/\s<(9223372036854775808:Int))&&decide ((0:Int)<=t/\t<=(1000000:Int)))))))) then (bif eP vx vy vz l6 l7 l8 (s*(t+(1:Int))) then some (.v (I 26),⟨[[.v (I s),.v (I ma),.ptr 1 0,.v (I l1),.v (I l2),.v (I l3),.v (I l4),.v (I l5),.v (I l6),.v (I l7),.v (I l8),.v (Bo hs)],[.v (I ct),.v (I t)]],[true,true],[]⟩) else some (.v (I 10),⟨[[.v (I s),.v (I ma),.ptr 1 0,.v (I l1),.v (I l2),.v (I l3),.v (I l4),.v (I l5),.v (I l6),.v (I l7),.v (I l8),.v (Bo hs)],[.v (I ct),.v (I t)]],[true,true],[]⟩)) else none) else some (.v (I 10),⟨[[.v (I s),.v (I ma),.ptr 1 0,.v (I l1),.v (I l2),.v (I l3),.v (I l4),.v (I l5),.v (I l6),.v (I l7),.v (I l8),.v (Bo hs)],[.v (I ct),.v (I t)]],[true,true],[]⟩)) else (bif hs then (bif aF vx&&(aF vy&&(aF vz&&(aF l6&&(aF l7&&(aF l8&&(decide ((0:Int)<=s/\s<(9223372036854775808:Int))&&decide ((0:Int)<=t/\t<=(1000000:Int)))))))) then (bif eP vx vy vz l6 l7 l8 (s*(t+(1:Int))) then some (.v (I 18),⟨[[.v (I s),.v (I ma),.ptr 1 0,.v (I l1),.v (I l2),.v (I l3),.v (I l4),.v (I l5),.v (I l6),.v (I l7),.v (I l8),.v (Bo hs)],[.v (I ct),.v (I t)]],[true,true],[]⟩) else some (.v (I 2),⟨[[.v (I s),.v (I ma),.ptr 1 0,.v (I l1),.v (I l2),.v (I l3),.v (I l4),.v (I l5),.v (I l6),.v (I l7),.v (I l8),.v (Bo hs)],[.v (I ct),.v (I t)]],[true,true],[]⟩)) else none) else some (.v (I 2),⟨[[.v (I s),.v (I ma),.ptr 1 0,.v (I l1),.v (I l2),.v (I l3),.v (I l4),.v (I l5),.v (I l6),.v (I l7),.v (I l8),.v (Bo hs)],[.v (I ct),.v (I t)]],[true,true],[]⟩)))) else (BS q x y z vx vy vz s ma l1 l2 l3 l4 l5 l6 l7 l8 hs ct t)) else (BS q x y z vx vy vz s ma l1 l2 l3 l4 l5 l6 l7 l8 hs ct t)):=by kernel_rfl
def Ei (xs:List SV) (m:Mem):Option (Bool×Value) :=
 match xs,m with
 | [.ptr 0 0,.v (.agg ⟨[.int .i64 p,.int .i64 q,.int .i64 x,.int .i64 y,.int .i64 z,.int .i64 vx,.int .i64 vy,.int .i64 vz]⟩)],⟨[[.v (.int .i64 s),.v (.int .i64 ma),.ptr 1 0,.v (.int .i64 l1),.v (.int .i64 l2),.v (.int .i64 l3),.v (.int .i64 l4),.v (.int .i64 l5),.v (.int .i64 l6),.v (.int .i64 l7),.v (.int .i64 l8),.v (.bool hs)],[.v (.int .i64 ct),.v (.int .i64 t)]],[true,true],[]⟩=>some ((aF vx&&(aF vy&&(aF vz&&(aF l6&&(aF l7&&(aF l8&&(decide (0<=s/\s<9223372036854775808)&&decide (0<=t/\t<=1000000)))))))),I (tA (hs&&p==l1) (q != 0) (hH x y z vx vy vz) (hs&&eP vx vy vz l6 l7 l8 (s*(t+1)))))
 | _,_=>none
theorem qep:bi 207 Ei:=by
 intro xs m r h
 unfold Ei at h
 split at h
 ·rename_i p q x y z vx vy vz s ma l1 l2 l3 l4 l5 l6 l7 l8 hs ct t
  obtain ⟨h1,rfl⟩:=aa h
  refine aj (Λ:=L0) QQ func207 rfl af ?_
  refine (Wy p q x y z vx vy vz s ma l1 l2 l3 l4 l5 l6 l7 l8 hs ct t).trans ?_
  unfold BS
  rw [h1]
  cases hs<;>cases p==l1<;>cases q != 0<;>cases hH x y z vx vy vz<;>cases eP vx vy vz l6 l7 l8 (s*(t+1))<;>rfl
 ·cases h
def Γs6:Orc:=aR 207 Ei Γs5
theorem QP:Γs6.Ok prog:=aL QQ qep
def gN (b:Bool) (x:Int):Int:=bif b then 0 else x
def lX (b x:Bool):Bool:=bif b then false else x
theorem Wz (s:Int) (ma:Int) (l1:Int) (l2:Int) (l3:Int) (l4:Int) (l5:Int) (l6:Int) (l7:Int) (l8:Int) (hs:Bool) (ct:Int) (t:Int):runG Γs6 L0 prog f273 [.ptr 0 0] ⟨[[.v (I s),.v (I ma),.ptr 1 0,.v (I l1),.v (I l2),.v (I l3),.v (I l4),.v (I l5),.v (I l6),.v (I l7),.v (I l8),.v (Bo hs)],[.v (I ct),.v (I t)]],[true,true],[]⟩ =
 some (.v (.tuple #[]),⟨[[.v (I s),.v (I ma),.ptr 1 0,.v (I 0),.v (I 0),.v (I 0),.v (I 0),.v (I 0),.v (I 0),.v (I 0),.v (I 0),.v (Bo false)],[.v (I ct),.v (I t)]],[true,true],[]⟩):=by kernel_rfl
def Ej (xs:List SV) (m:Mem):Option (Bool×SV×Mem) :=
 match xs,m with
 | [.ptr 0 0],⟨[[.v (.int .i64 s),.v (.int .i64 ma),.ptr 1 0,.v (.int .i64 l1),.v (.int .i64 l2),.v (.int .i64 l3),.v (.int .i64 l4),.v (.int .i64 l5),.v (.int .i64 l6),.v (.int .i64 l7),.v (.int .i64 l8),.v (.bool hs)],[.v (.int .i64 ct),.v (.int .i64 t)]],[true,true],[]⟩=>some (true,.v (.tuple #[]),⟨[[.v (I s),.v (I ma),.ptr 1 0,.v (I 0),.v (I 0),.v (I 0),.v (I 0),.v (I 0),.v (I 0),.v (I 0),.v (I 0),.v (Bo false)],[.v (I ct),.v (I t)]],[true,true],[]⟩)
 | _,_=>none
theorem qeq:aT 273 Ej:=by
 intro xs m r m' h
 unfold Ej at h
 split at h
 ·rename_i s ma l1 l2 l3 l4 l5 l6 l7 l8 hs ct t
  obtain ⟨h1,rfl,rfl⟩:=az h
  refine aj (Λ:=L0) QP func273 rfl af ?_
  refine (Wz s ma l1 l2 l3 l4 l5 l6 l7 l8 hs ct t).trans ?_
  rfl
 ·cases h
def Γs7:Orc:=aE 273 Ej Γs6
theorem QO:Γs7.Ok prog:=aA QP qeq
theorem Wx (s:Int) (ma:Int) (l1:Int) (l2:Int) (l3:Int) (l4:Int) (l5:Int) (l6:Int) (l7:Int) (l8:Int) (hs:Bool) (ct:Int) (t:Int):runG Γs7 L0 prog f206 [.ptr 0 0] ⟨[[.v (I s),.v (I ma),.ptr 1 0,.v (I l1),.v (I l2),.v (I l3),.v (I l4),.v (I l5),.v (I l6),.v (I l7),.v (I l8),.v (Bo hs)],[.v (I ct),.v (I t)]],[true,true],[]⟩ =
 (bif decide (au ct t (1:Int)>ma) then some (.v (.tuple #[]),⟨[[.v (I s),.v (I ma),.ptr 1 0,.v (I 0),.v (I 0),.v (I 0),.v (I 0),.v (I 0),.v (I 0),.v (I 0),.v (I 0),.v (Bo false)],[.v (I ct),.v (I (au ct t (1:Int)))]],[true,true],[]⟩) else some (.v (.tuple #[]),⟨[[.v (I s),.v (I ma),.ptr 1 0,.v (I l1),.v (I l2),.v (I l3),.v (I l4),.v (I l5),.v (I l6),.v (I l7),.v (I l8),.v (Bo hs)],[.v (I ct),.v (I (au ct t (1:Int)))]],[true,true],[]⟩)):=by kernel_rfl
def Eh (xs:List SV) (m:Mem):Option (Bool×SV×Mem) :=
 match xs,m with
 | [.ptr 0 0],⟨[[.v (.int .i64 s),.v (.int .i64 ma),.ptr 1 0,.v (.int .i64 l1),.v (.int .i64 l2),.v (.int .i64 l3),.v (.int .i64 l4),.v (.int .i64 l5),.v (.int .i64 l6),.v (.int .i64 l7),.v (.int .i64 l8),.v (.bool hs)],[.v (.int .i64 ct),.v (.int .i64 t)]],[true,true],[]⟩=>some (true,.v (.tuple #[]),⟨[[.v (I s),.v (I ma),.ptr 1 0,.v (I (gN (decide (au ct t 1>ma)) l1)),.v (I (gN (decide (au ct t 1>ma)) l2)),.v (I (gN (decide (au ct t 1>ma)) l3)),.v (I (gN (decide (au ct t 1>ma)) l4)),.v (I (gN (decide (au ct t 1>ma)) l5)),.v (I (gN (decide (au ct t 1>ma)) l6)),.v (I (gN (decide (au ct t 1>ma)) l7)),.v (I (gN (decide (au ct t 1>ma)) l8)),.v (Bo (lX (decide (au ct t 1>ma)) hs))],[.v (I ct),.v (I (au ct t 1))]],[true,true],[]⟩)
 | _,_=>none
theorem qeo:aT 206 Eh:=by
 intro xs m r m' h
 unfold Eh at h
 split at h
 ·rename_i s ma l1 l2 l3 l4 l5 l6 l7 l8 hs ct t
  obtain ⟨h1,rfl,rfl⟩:=az h
  refine aj (Λ:=L0) QO func206 rfl af ?_
  refine (Wx s ma l1 l2 l3 l4 l5 l6 l7 l8 hs ct t).trans ?_
  unfold gN lX
  cases decide (au ct t 1>ma)<;>rfl
 ·cases h
def Γs8:Orc:=aE 206 Eh Γs7
theorem qiZ:Γs8.Ok prog:=aA QO qeo
def Γs9:Orc:=Γs8
theorem qiY:Γs9.Ok prog:=qiZ
def Γs10:Orc:=Γs9
theorem qi1:Γs10.Ok prog:=qiY
def Γs11:Orc:=Γs10
theorem QV:Γs11.Ok prog:=qi1
def jA (L:List (List Dat)):Int:=((L.getD (wI ((L.length:Int) - 1)).toNat []).headD (.n 0)).toI
def jz (L:List (List Dat)):Int:=((L.getD (wI ((L.length:Int) - 1)).toNat []).tail.headD (.n 0)).toI
def jy (L:List (List Dat)):Int:=((L.getD (wI ((L.length:Int) - 1)).toNat []).tail.tail.headD (.n 0)).toI
def jv (L:List (List Dat)):Int:=((L.getD (wI ((L.length:Int) - 1)).toNat []).tail.tail.tail.headD (.n 0)).toI
def ju (L:List (List Dat)):Int:=((L.getD (wI ((L.length:Int) - 1)).toNat []).tail.tail.tail.tail.headD (.n 0)).toI
def dV (L:List (List Dat)):Int:=((L.getD (wI ((L.length:Int) - 1)).toNat []).tail.tail.tail.tail.tail.headD (.n 0)).toI
def dU (L:List (List Dat)):Int:=((L.getD (wI ((L.length:Int) - 1)).toNat []).tail.tail.tail.tail.tail.tail.headD (.n 0)).toI
def dS (L:List (List Dat)):Int:=((L.getD (wI ((L.length:Int) - 1)).toNat []).tail.tail.tail.tail.tail.tail.tail.headD (.n 0)).toI
abbrev kNv:List CK:=[.num .i64,.num .i64,.num .i64,.num .i64,.num .i64,.num .i64,.num .i64,.num .i64]
abbrev rN (L:List (List Dat)) (own mark:Bool):RowS:=.live ⟨56,kNv,L,own,mark⟩
theorem WF (s:Int) (ma:Int) (l1:Int) (l2:Int) (l3:Int) (l4:Int) (l5:Int) (l6:Int) (l7:Int) (l8:Int) (hs:Bool) (ct:Int) (t:Int):runG Γs11 L0 prog f137 [.ptr 0 0,.v (.slice none 0 0)] ⟨[[.v (I s),.v (I ma),.ptr 1 0,.v (I l1),.v (I l2),.v (I l3),.v (I l4),.v (I l5),.v (I l6),.v (I l7),.v (I l8),.v (Bo hs)],[.v (I ct),.v (I t)]],[true,true],[]⟩ =
 some (.v (.tuple #[(.agg #[(I 0),(I 0),(I 0),(I 0),(I 0),(I 0),(I 0),(I 0)]),(I 1)]),⟨[[.v (I s),.v (I ma),.ptr 1 0,.v (I (gN (decide (au ct t (1:Int)>ma)) l1)),.v (I (gN (decide (au ct t (1:Int)>ma)) l2)),.v (I (gN (decide (au ct t (1:Int)>ma)) l3)),.v (I (gN (decide (au ct t (1:Int)>ma)) l4)),.v (I (gN (decide (au ct t (1:Int)>ma)) l5)),.v (I (gN (decide (au ct t (1:Int)>ma)) l6)),.v (I (gN (decide (au ct t (1:Int)>ma)) l7)),.v (I (gN (decide (au ct t (1:Int)>ma)) l8)),.v (Bo (lX (decide (au ct t (1:Int)>ma)) hs))],[.v (I ct),.v (I (au ct t (1:Int)))]],[true,true],[]⟩):=by kernel_rfl
def En (xs:List SV) (m:Mem):Option (Bool×SV×Mem) :=
 match xs,m with
 | [.ptr 0 0,.v (.slice none 0 0)],⟨[[.v (.int .i64 s),.v (.int .i64 ma),.ptr 1 0,.v (.int .i64 l1),.v (.int .i64 l2),.v (.int .i64 l3),.v (.int .i64 l4),.v (.int .i64 l5),.v (.int .i64 l6),.v (.int .i64 l7),.v (.int .i64 l8),.v (.bool hs)],[.v (.int .i64 ct),.v (.int .i64 t)]],[true,true],[]⟩=>some (true,.v (.tuple #[.agg #[I 0,I 0,I 0,I 0,I 0,I 0,I 0,I 0],I 1]),⟨[[.v (I s),.v (I ma),.ptr 1 0,.v (I (gN (decide (au ct t 1>ma)) l1)),.v (I (gN (decide (au ct t 1>ma)) l2)),.v (I (gN (decide (au ct t 1>ma)) l3)),.v (I (gN (decide (au ct t 1>ma)) l4)),.v (I (gN (decide (au ct t 1>ma)) l5)),.v (I (gN (decide (au ct t 1>ma)) l6)),.v (I (gN (decide (au ct t 1>ma)) l7)),.v (I (gN (decide (au ct t 1>ma)) l8)),.v (Bo (lX (decide (au ct t 1>ma)) hs))],[.v (I ct),.v (I (au ct t 1))]],[true,true],[]⟩)
 | _,_=>none
theorem qeu:aT 137 En:=by
 intro xs m r m' h
 unfold En at h
 split at h
 ·rename_i s ma l1 l2 l3 l4 l5 l6 l7 l8 hs ct t
  obtain ⟨h1,rfl,rfl⟩:=az h
  refine aj (Λ:=L0) QV func137 rfl af ?_
  refine (WF s ma l1 l2 l3 l4 l5 l6 l7 l8 hs ct t).trans ?_
  rfl
 ·cases h
def Γs12:Orc:=aE 137 En Γs11
theorem QU:Γs12.Ok prog:=aA QV qeu
def dE (L:List (List Dat)) (hs:Bool) (l1 l6 l7 l8 P:Int):Int:=bif (L.length:Int)==0 then 1 else tA (hs&&jA L==l1) (jz L != 0) (hH (jy L) (jv L) (ju L) (dV L) (dU L) (dS L)) (hs&&eP (dV L) (dU L) (dS L) l6 l7 l8 P)
def pk (b:Bool) (x y:Int):Int:=bif b then x else y
theorem WE (s:Int) (ma:Int) (l1:Int) (l2:Int) (l3:Int) (l4:Int) (l5:Int) (l6:Int) (l7:Int) (l8:Int) (hs:Bool) (ct:Int) (t:Int) (L:List (List Dat)) (own:Bool) (mark:Bool):runG Γs12 L0 prog f137 [.ptr 0 0,.row 0] ⟨[[.v (I s),.v (I ma),.ptr 1 0,.v (I l1),.v (I l2),.v (I l3),.v (I l4),.v (I l5),.v (I l6),.v (I l7),.v (I l8),.v (Bo hs)],[.v (I ct),.v (I t)]],[true,true],[rN L own mark]⟩ =
 (bif (L.length:Int)==(0:Int) then some (.v (.tuple #[(.agg #[(I 0),(I 0),(I 0),(I 0),(I 0),(I 0),(I 0),(I 0)]),(I 1)]),⟨[[.v (I s),.v (I ma),.ptr 1 0,.v (I (gN (decide (au ct t (1:Int)>ma)) l1)),.v (I (gN (decide (au ct t (1:Int)>ma)) l2)),.v (I (gN (decide (au ct t (1:Int)>ma)) l3)),.v (I (gN (decide (au ct t (1:Int)>ma)) l4)),.v (I (gN (decide (au ct t (1:Int)>ma)) l5)),.v (I (gN (decide (au ct t (1:Int)>ma)) l6)),.v (I (gN (decide (au ct t (1:Int)>ma)) l7)),.v (I (gN (decide (au ct t (1:Int)>ma)) l8)),.v (Bo (lX (decide (au ct t (1:Int)>ma)) hs))],[.v (I ct),.v (I (au ct t (1:Int)))]],[true,true],[rN L own mark]⟩) else (bif decide ((0:Int)<=wI ((L.length:Int) - (1:Int)))&&decide (wI ((L.length:Int) - (1:Int))<(L.length:Int)) then (bif aF (dV L)&&(aF (dU L)&&(aF (dS L)&&(aF l6&&(aF l7&&(aF l8&&(decide ((0:Int)<=s/\s<(9223372036854775808:Int))&&decide ((0:Int)<=t/\t<=(1000000:Int)))))))) then (bif tA (hs&&(jA L)==l1) ((jz L) != (0:Int)) (hH (jy L) (jv L) (ju L) (dV L) (dU L) (dS L)) (hs&&eP (dV L) (dU L) (dS L) l6 l7 l8 (s*(t+(1:Int)))) != (0:Int) then some (.v (.tuple #[(.agg #[(I 0),(I 0),(I 0),(I 0),(I 0),(I 0),(I 0),(I 0)]),(I (tA (hs&&(jA L)==l1) ((jz L) != (0:Int)) (hH (jy L) (jv L) (ju L) (dV L) (dU L) (dS L)) (hs&&eP (dV L) (dU L) (dS L) l6 l7 l8 (s*(t+(1:Int))))))]),⟨[[.v (I s),.v (I ma),.ptr 1 0,.v (I (gN (decide (au ct t (1:Int)>ma)) l1)),.v (I (gN (decide (au ct t (1:Int)>ma)) l2)),.v (I (gN (decide (au ct t (1:Int)>ma)) l3)),.v (I (gN (decide (au ct t (1:Int)>ma)) l4)),.v (I (gN (decide (au ct t (1:Int)>ma)) l5)),.v (I (gN (decide (au ct t (1:Int)>ma)) l6)),.v (I (gN (decide (au ct t (1:Int)>ma)) l7)),.v (I (gN (decide (au ct t (1:Int)>ma)) l8)),.v (Bo (lX (decide (au ct t (1:Int)>ma)) hs))],[.v (I ct),.v (I (au ct t (1:Int)))]],[true,true],[rN L own mark]⟩) else some (.v (.tuple #[(.agg #[(I (jA L)),(I (jz L)),(I (jy L)),(I (jv L)),(I (ju L)),(I (dV L)),(I (dU L)),(I (dS L))]),(I 0)]),⟨[[.v (I s),.v (I ma),.ptr 1 0,.v (I (jA L)),.v (I (jz L)),.v (I (jy L)),.v (I (jv L)),.v (I (ju L)),.v (I (dV L)),.v (I (dU L)),.v (I (dS L)),.v (Bo true)],[.v (I ct),.v (I (aK (0:Int) ct))]],[true,true],[rN L own mark]⟩)) else none) else none)):=by kernel_rfl
def xS (xs:List SV) (m:Mem):Option (Bool×SV×Mem) :=
 match xs,m with
 | [.ptr 0 0,.row 0],⟨[[.v (.int .i64 s),.v (.int .i64 ma),.ptr 1 0,.v (.int .i64 l1),.v (.int .i64 l2),.v (.int .i64 l3),.v (.int .i64 l4),.v (.int .i64 l5),.v (.int .i64 l6),.v (.int .i64 l7),.v (.int .i64 l8),.v (.bool hs)],[.v (.int .i64 ct),.v (.int .i64 t)]],[true,true],[.live ⟨56,[.num .i64,.num .i64,.num .i64,.num .i64,.num .i64,.num .i64,.num .i64,.num .i64],L,own,mark⟩]⟩=>some (Nat.ble L.length 1000000&&(aF (dV L)&&(aF (dU L)&&(aF (dS L)&&(aF l6&&(aF l7&&(aF l8&&(decide (0<=s/\s<9223372036854775808)&&decide (0<=t/\t<=1000000)))))))),.v (.tuple #[.agg #[I (pk (dE L hs l1 l6 l7 l8 (s*(t+1))==0) (jA L) 0),I (pk (dE L hs l1 l6 l7 l8 (s*(t+1))==0) (jz L) 0),I (pk (dE L hs l1 l6 l7 l8 (s*(t+1))==0) (jy L) 0),I (pk (dE L hs l1 l6 l7 l8 (s*(t+1))==0) (jv L) 0),I (pk (dE L hs l1 l6 l7 l8 (s*(t+1))==0) (ju L) 0),I (pk (dE L hs l1 l6 l7 l8 (s*(t+1))==0) (dV L) 0),I (pk (dE L hs l1 l6 l7 l8 (s*(t+1))==0) (dU L) 0),I (pk (dE L hs l1 l6 l7 l8 (s*(t+1))==0) (dS L) 0)],I (dE L hs l1 l6 l7 l8 (s*(t+1)))]),⟨[[.v (I s),.v (I ma),.ptr 1 0,.v (I (pk (dE L hs l1 l6 l7 l8 (s*(t+1))==0) (jA L) (gN (decide (au ct t 1>ma)) l1))),.v (I (pk (dE L hs l1 l6 l7 l8 (s*(t+1))==0) (jz L) (gN (decide (au ct t 1>ma)) l2))),.v (I (pk (dE L hs l1 l6 l7 l8 (s*(t+1))==0) (jy L) (gN (decide (au ct t 1>ma)) l3))),.v (I (pk (dE L hs l1 l6 l7 l8 (s*(t+1))==0) (jv L) (gN (decide (au ct t 1>ma)) l4))),.v (I (pk (dE L hs l1 l6 l7 l8 (s*(t+1))==0) (ju L) (gN (decide (au ct t 1>ma)) l5))),.v (I (pk (dE L hs l1 l6 l7 l8 (s*(t+1))==0) (dV L) (gN (decide (au ct t 1>ma)) l6))),.v (I (pk (dE L hs l1 l6 l7 l8 (s*(t+1))==0) (dU L) (gN (decide (au ct t 1>ma)) l7))),.v (I (pk (dE L hs l1 l6 l7 l8 (s*(t+1))==0) (dS L) (gN (decide (au ct t 1>ma)) l8))),.v (Bo (bif (dE L hs l1 l6 l7 l8 (s*(t+1))==0) then true else lX (decide (au ct t 1>ma)) hs))],[.v (I ct),.v (I (pk (dE L hs l1 l6 l7 l8 (s*(t+1))==0) (aK 0 ct) (au ct t 1)))]],[true,true],[rN L own mark]⟩)
 | _,_=>none
theorem xR:aT 137 xS:=by
 intro xs m r m' h
 unfold xS at h
 split at h
 ·rename_i s ma l1 l2 l3 l4 l5 l6 l7 l8 hs ct t L own mark
  obtain ⟨h1,rfl,rfl⟩:=az h
  refine aj (Λ:=L0) QU func137 rfl af ?_
  refine (WE s ma l1 l2 l3 l4 l5 l6 l7 l8 hs ct t L own mark).trans ?_
  rw [Bool.and_eq_true] at h1
  obtain ⟨h1,h2⟩:=h1
  have h3:=Nat.le_of_ble_eq_true h1
  rw [h2]
  unfold dE pk
  by_cases hl:(L.length:Int)=0
  ·rw [hl]
   rfl
  rw [beq_eq_false_iff_ne.2 hl,aM (n:=(L.length:Int) - 1) (by omega),decide_eq_true (show (0:Int)<=(L.length:Int) - 1 by omega),decide_eq_true (show (L.length:Int) - 1<(L.length:Int) by omega)]
  generalize tA (hs&&jA L==l1) (jz L != 0) (hH (jy L) (jv L) (ju L) (dV L) (dU L) (dS L)) (hs&&eP (dV L) (dU L) (dS L) l6 l7 l8 (s*(t+1)))=f
  simp only [cond_false,cond_true,Bool.and_self]
  by_cases hf:f=0
  ·subst hf;rfl
  ·rw [bne_iff_ne.2 hf,beq_eq_false_iff_ne.2 hf]
   rfl
 ·cases h
def Γs13:Orc:=aE 137 xS Γs12
theorem qi0:Γs13.Ok prog:=aA QU xR
theorem Wr (r1:Int) (r2:Int) (r3:Int) (r4:Int) (r5:Int) (r6:Int) (r7:Int) (r8:Int) (e1:TypeId) (k1:List CK) (L:List (List Dat)) (own:Bool) (mark:Bool):runG Γs13 L0 prog f193 [.ag [.row 0,.v (I r1),.v (I r2),.v (I r3),.v (I r4),.v (I r5),.v (I r6),.v (I r7),.v (I r8)]] ⟨[],[],[.live ⟨e1,k1,L,own,mark⟩]⟩ =
 (bif decide (r5<(1:Int)) then some (.v (Value.pointer none),⟨[],[],[.live ⟨e1,k1,L,own,mark⟩]⟩) else (bif decide (r6<(1:Int)) then some (.v (Value.pointer none),⟨[],[],[.live ⟨e1,k1,L,own,mark⟩]⟩) else some (.ptr 0 0,⟨[[.v (I r5),.v (I r6),.ptr 1 0,.v (I 0),.v (I 0),.v (I 0),.v (I 0),.v (I 0),.v (I 0),.v (I 0),.v (I 0),.v (Bo false)],[.v (I 1000000),.v (I 0)]],[true,true],[.live ⟨e1,k1,L,own,mark⟩]⟩))):=by kernel_rfl
def Ec (xs:List SV) (m:Mem):Option (Bool×SV×Mem) :=
 match xs,m with
 | [.ag [.row 0,.v (.int .i64 r1),.v (.int .i64 r2),.v (.int .i64 r3),.v (.int .i64 r4),.v (.int .i64 r5),.v (.int .i64 r6),.v (.int .i64 r7),.v (.int .i64 r8)]],⟨[],[],[.live ⟨e1,k1,L,own,mark⟩]⟩=>some (decide (1<=r5)&&decide (1<=r6),.ptr 0 0,⟨[[.v (I r5),.v (I r6),.ptr 1 0,.v (I 0),.v (I 0),.v (I 0),.v (I 0),.v (I 0),.v (I 0),.v (I 0),.v (I 0),.v (Bo false)],[.v (I 1000000),.v (I 0)]],[true,true],[.live ⟨e1,k1,L,own,mark⟩]⟩)
 | _,_=>none
theorem qej:aT 193 Ec:=by
 intro xs m r m' h
 unfold Ec at h
 split at h
 ·rename_i r1 r2 r3 r4 r5 r6 r7 r8 e1 k1 L own mark
  obtain ⟨h1,rfl,rfl⟩:=az h
  refine aj (Λ:=L0) qi0 func193 rfl af ?_
  refine (Wr r1 r2 r3 r4 r5 r6 r7 r8 e1 k1 L own mark).trans ?_
  rw [Bool.and_eq_true,decide_eq_true_eq,decide_eq_true_eq] at h1
  rw [decide_eq_false (show ¬ r5<1 by omega),decide_eq_false (show ¬ r6<1 by omega)]
  rfl
 ·cases h
end Go.Proofs.YtainfdcfkgemhaaGreat.So
namespace Go.Proofs.YtainfdcfkgemhaaGreat.Se
open Go Go.Proofs Go.Sx
set_option linter.unusedVariables false
def SM (s:Int) (l:Bool) (t w:Int):Mem:=⟨[[.v (I s),.v (Bo l),.v (I t),.v (I w)]],[true],[]⟩
def qH (p m:Int):Bool:=wI ((BitVec.ofInt 64 p &&& BitVec.ofInt 64 m).toNat:Int) != 0
def armB (h:Bool) (ps pw:Int):Bool:=h&&(qH pw 1||(ps==1||ps==2))
def safB (h:Bool) (ps pw:Int):Bool:=h&&(qH pw 2||ps==0)
def dk (w d:Int):Int:=bif w==d then 0 else w
def j6 (w t:Int) (a:Bool):Int:=bif dk w 2==1&&a then 1 else t
def oK (w:Int) (a:Bool):Int:=bif dk w 2==1&&a then 0 else dk w 2
def j9 (s t w c ph:Int) (fl fi f:Bool):Int:=bif c==3||fi then 2 else bif fl&&decide (ph<s) then t else bif dk w 1==2&&f then 0 else t
def oM (s w c ph:Int) (fl fi f:Bool):Int:=bif c==3||fi then 0 else bif fl&&decide (ph<s) then dk (dk w 1) 2 else bif dk w 1==2&&f then 0 else dk w 1
def oN (c w:Int):Int:=bif c==1 then 1 else bif c==2 then 2 else w
def cyT (s:Int) (l:Bool) (t w c ph:Int) (fl fi a f:Bool):Int:=bif l then t else bif t==0 then j6 (oN c w) t a else bif t==1 then j9 s t (oN c w) c ph fl fi f else t
def cyW (s:Int) (l:Bool) (t w c ph:Int) (fl fi a f:Bool):Int:=bif l then w else bif t==0 then oK (oN c w) a else bif t==1 then oM s (oN c w) c ph fl fi f else bif t==2 then 0 else oN c w
def setB (l:Bool) (n:Int):Bool:=!l&&(!decide (n<0)&&!decide (n>2))
theorem WW (d:Int) (s:Int) (l:Bool) (t w:Int):runG ΓC L0 prog f281 [.ptr 0 0,.v (I d)] (SM s l t w) =
 (bif w==d then some (.v (.tuple #[]),⟨[[.v (I s),.v (Bo l),.v (I t),.v (I 0)]],[true],[]⟩) else some (.v (.tuple #[]),⟨[[.v (I s),.v (Bo l),.v (I t),.v (I w)]],[true],[]⟩)):=by kernel_rfl
def Eu (xs:List SV) (m:Mem):Option (Bool×SV×Mem) :=
 match xs,m with
 | [.ptr 0 0,.v (.int .i64 d)],⟨[[.v (.int .i64 s),.v (.bool l),.v (.int .i64 t),.v (.int .i64 w)]],[true],[]⟩=>some (true,.v (.tuple #[]),SM s l t (dk w d))
 | _,_=>none
theorem qeA:aT 281 Eu:=by
 intro xs m r m' h
 unfold Eu at h
 split at h
 ·rename_i d s l t w
  obtain ⟨h1,rfl,rfl⟩:=az h
  refine aj (Λ:=L0) Ad func281 rfl (fun z _ _=>noLoops (by kernel_rfl) z) ?_
  exact (WW d s l t w).trans (by unfold dk;cases w==d<;>rfl)
 ·cases h
def ΓG1:Orc:=aE 281 Eu ΓC
theorem OkG1:ΓG1.Ok prog:=aA Ad qeA
theorem WZ (d:Int) (s:Int) (l:Bool) (t w:Int):runG ΓG1 L0 prog f264 [.ptr 0 0,.v (I d)] (SM s l t w)=some (.v (.tuple #[]),SM s l d 0):=by kernel_rfl
def Ev (xs:List SV) (m:Mem):Option (Bool×SV×Mem) :=
 match xs,m with
 | [.ptr 0 0,.v (.int .i64 d)],⟨[[.v (.int .i64 s),.v (.bool l),.v (.int .i64 t),.v (.int .i64 w)]],[true],[]⟩=>some (true,.v (.tuple #[]),SM s l d 0)
 | _,_=>none
theorem qeB:aT 264 Ev:=by
 intro xs m r m' h
 unfold Ev at h
 split at h
 ·rename_i d s l t w
  obtain ⟨h1,rfl,rfl⟩:=az h
  refine aj (Λ:=L0) OkG1 func264 rfl (fun z _ _=>noLoops (by kernel_rfl) z) ?_
  exact (WZ d s l t w).trans (rfl)
 ·cases h
def ΓG2:Orc:=aE 264 Ev ΓG1
theorem OkG2:ΓG2.Ok prog:=aA OkG1 qeB
theorem W1 (c:Int) (he:Bool) (pc pp ps pw:Int) (fl fi:Bool) (ph:Int):runG ΓG2 L0 prog f282 [.v (.agg #[I c,Bo he,I pc,I pp,I ps,I pw,Bo fl,Bo fi,I ph])] M0 =
 (bif he then (bif wI ((BitVec.ofInt (64:Nat) pw &&& BitVec.ofInt (64:Nat) (1:Int)).toNat:Int) != (0:Int) then some (.v (Bo true),M0) else (bif ps==(1:Int) then some (.v (Bo true),M0) else some (.v (Bo (ps==(2:Int))),M0))) else some (.v (Bo false),M0)):=by kernel_rfl
def Ew (vs:List Value):Option (Bool×Value) :=
 match vs with
 | [.agg ⟨[.int .i64 c,.bool he,.int .i64 pc,.int .i64 pp,.int .i64 ps,.int .i64 pw,.bool fl,.bool fi,.int .i64 ph]⟩]=>some (true,Bo (armB he ps pw))
 | _=>none
theorem qeC:an 282 Ew:=by
 intro vs r h
 unfold Ew at h
 split at h
 ·rename_i c he pc pp ps pw fl fi ph
  obtain ⟨h1,rfl⟩:=aa h
  refine am (vs:=[.agg #[I c,Bo he,I pc,I pp,I ps,I pw,Bo fl,Bo fi,I ph]]) (Λ:=L0) (m':=M0) OkG2 func282 rfl (fun z _ _=>noLoops (by kernel_rfl) z) ?_
  exact (W1 c he pc pp ps pw fl fi ph).trans (by rw [show (wI ((BitVec.ofInt 64 pw &&& BitVec.ofInt 64 1).toNat:Int) != 0)=qH pw 1 from rfl];unfold armB;cases he<;>cases qH pw 1<;>cases ps==1<;>cases ps==2<;>rfl)
 ·cases h
def ΓG3:Orc:=ah 282 Ew ΓG2
theorem OkG3:ΓG3.Ok prog:=ac OkG2 qeC
theorem WS (c:Int) (he:Bool) (pc pp ps pw:Int) (fl fi:Bool) (ph:Int):runG ΓG3 L0 prog f283 [.v (.agg #[I c,Bo he,I pc,I pp,I ps,I pw,Bo fl,Bo fi,I ph])] M0 =
 (bif he then (bif wI ((BitVec.ofInt (64:Nat) pw &&& BitVec.ofInt (64:Nat) (2:Int)).toNat:Int) != (0:Int) then some (.v (Bo true),M0) else some (.v (Bo (ps==(0:Int))),M0)) else some (.v (Bo false),M0)):=by kernel_rfl
def Es (vs:List Value):Option (Bool×Value) :=
 match vs with
 | [.agg ⟨[.int .i64 c,.bool he,.int .i64 pc,.int .i64 pp,.int .i64 ps,.int .i64 pw,.bool fl,.bool fi,.int .i64 ph]⟩]=>some (true,Bo (safB he ps pw))
 | _=>none
theorem qey:an 283 Es:=by
 intro vs r h
 unfold Es at h
 split at h
 ·rename_i c he pc pp ps pw fl fi ph
  obtain ⟨h1,rfl⟩:=aa h
  refine am (vs:=[.agg #[I c,Bo he,I pc,I pp,I ps,I pw,Bo fl,Bo fi,I ph]]) (Λ:=L0) (m':=M0) OkG3 func283 rfl (fun z _ _=>noLoops (by kernel_rfl) z) ?_
  exact (WS c he pc pp ps pw fl fi ph).trans (by rw [show (wI ((BitVec.ofInt 64 pw &&& BitVec.ofInt 64 2).toNat:Int) != 0)=qH pw 2 from rfl];unfold safB;cases he<;>cases qH pw 2<;>cases ps==0<;>rfl)
 ·cases h
def ΓG4:Orc:=ah 283 Es ΓG3
theorem Sf:ΓG4.Ok prog:=ac OkG3 qey
theorem WK (c:Int) (he:Bool) (pc pp ps pw:Int) (fl fi:Bool) (ph:Int) (s:Int) (l:Bool) (t w:Int):runG ΓG4 L0 prog f218 [.ptr 0 0,.v (.agg #[I c,Bo he,I pc,I pp,I ps,I pw,Bo fl,Bo fi,I ph])] (SM s l t w) =
 (bif dk w (2:Int)==(1:Int) then (bif armB he ps pw then some (.v (.tuple #[]),⟨[[.v (I s),.v (Bo l),.v (I 1),.v (I 0)]],[true],[]⟩) else some (.v (.tuple #[]),⟨[[.v (I s),.v (Bo l),.v (I t),.v (I (dk w (2:Int)))]],[true],[]⟩)) else some (.v (.tuple #[]),⟨[[.v (I s),.v (Bo l),.v (I t),.v (I (dk w (2:Int)))]],[true],[]⟩)):=by kernel_rfl
def Ep (xs:List SV) (m:Mem):Option (Bool×SV×Mem) :=
 match xs,m with
 | [.ptr 0 0,.v (.agg ⟨[.int .i64 c,.bool he,.int .i64 pc,.int .i64 pp,.int .i64 ps,.int .i64 pw,.bool fl,.bool fi,.int .i64 ph]⟩)],⟨[[.v (.int .i64 s),.v (.bool l),.v (.int .i64 t),.v (.int .i64 w)]],[true],[]⟩=>some (true,.v (.tuple #[]),SM s l (j6 w t (armB he ps pw)) (oK w (armB he ps pw)))
 | _,_=>none
theorem qew:aT 218 Ep:=by
 intro xs m r m' h
 unfold Ep at h
 split at h
 ·rename_i c he pc pp ps pw fl fi ph s l t w
  obtain ⟨h1,rfl,rfl⟩:=az h
  refine aj (Λ:=L0) Sf func218 rfl (fun z _ _=>noLoops (by kernel_rfl) z) ?_
  exact (WK c he pc pp ps pw fl fi ph s l t w).trans (by unfold j6 oK;cases dk w 2==1<;>cases armB he ps pw<;>rfl)
 ·cases h
def ΓG5:Orc:=aE 218 Ep ΓG4
theorem Sd:ΓG5.Ok prog:=aA Sf qew
theorem WN (c:Int) (he:Bool) (pc pp ps pw:Int) (fl fi:Bool) (ph:Int) (s:Int) (l:Bool) (t w:Int):runG ΓG5 L0 prog f219 [.ptr 0 0,.v (.agg #[I c,Bo he,I pc,I pp,I ps,I pw,Bo fl,Bo fi,I ph])] (SM s l t w) =
 (bif c==(3:Int) then some (.v (.tuple #[]),⟨[[.v (I s),.v (Bo l),.v (I 2),.v (I 0)]],[true],[]⟩) else (bif fi then some (.v (.tuple #[]),⟨[[.v (I s),.v (Bo l),.v (I 2),.v (I 0)]],[true],[]⟩) else (bif fl then (bif decide (ph<s) then some (.v (.tuple #[]),⟨[[.v (I s),.v (Bo l),.v (I t),.v (I (dk (dk w (1:Int)) (2:Int)))]],[true],[]⟩) else (bif dk w (1:Int)==(2:Int) then (bif safB he ps pw then some (.v (.tuple #[]),⟨[[.v (I s),.v (Bo l),.v (I 0),.v (I 0)]],[true],[]⟩) else some (.v (.tuple #[]),⟨[[.v (I s),.v (Bo l),.v (I t),.v (I (dk w (1:Int)))]],[true],[]⟩)) else some (.v (.tuple #[]),⟨[[.v (I s),.v (Bo l),.v (I t),.v (I (dk w (1:Int)))]],[true],[]⟩))) else (bif dk w (1:Int)==(2:Int) then (bif safB he ps pw then some (.v (.tuple #[]),⟨[[.v (I s),.v (Bo l),.v (I 0),.v (I 0)]],[true],[]⟩) else some (.v (.tuple #[]),⟨[[.v (I s),.v (Bo l),.v (I t),.v (I (dk w (1:Int)))]],[true],[]⟩)) else some (.v (.tuple #[]),⟨[[.v (I s),.v (Bo l),.v (I t),.v (I (dk w (1:Int)))]],[true],[]⟩))))):=by kernel_rfl
def Er (xs:List SV) (m:Mem):Option (Bool×SV×Mem) :=
 match xs,m with
 | [.ptr 0 0,.v (.agg ⟨[.int .i64 c,.bool he,.int .i64 pc,.int .i64 pp,.int .i64 ps,.int .i64 pw,.bool fl,.bool fi,.int .i64 ph]⟩)],⟨[[.v (.int .i64 s),.v (.bool l),.v (.int .i64 t),.v (.int .i64 w)]],[true],[]⟩=>some (true,.v (.tuple #[]),SM s l (j9 s t w c ph fl fi (safB he ps pw)) (oM s w c ph fl fi (safB he ps pw)))
 | _,_=>none
theorem qex:aT 219 Er:=by
 intro xs m r m' h
 unfold Er at h
 split at h
 ·rename_i c he pc pp ps pw fl fi ph s l t w
  obtain ⟨h1,rfl,rfl⟩:=az h
  refine aj (Λ:=L0) Sd func219 rfl (fun z _ _=>noLoops (by kernel_rfl) z) ?_
  exact (WN c he pc pp ps pw fl fi ph s l t w).trans (by unfold j9 oM;cases c==3<;>cases fi<;>cases fl<;>cases decide (ph<s)<;>cases dk w 1==2<;>cases safB he ps pw<;>rfl)
 ·cases h
def ΓG6:Orc:=aE 219 Er ΓG5
theorem I2:ΓG6.Ok prog:=aA Sd qex
theorem WY (c:Int) (he:Bool) (pc pp ps pw:Int) (fl fi:Bool) (ph:Int) (s:Int) (l:Bool) (t w:Int):runG ΓG6 L0 prog f149 [.ptr 0 0,.v (.agg #[I c,Bo he,I pc,I pp,I ps,I pw,Bo fl,Bo fi,I ph])] (SM s l t w) =
 (bif l then some (.v (I 0),⟨[[.v (I s),.v (Bo l),.v (I t),.v (I w)]],[true],[]⟩) else (bif c==(1:Int) then (bif t==(0:Int) then some (.v (I (j6 (1:Int) t (armB he ps pw))),⟨[[.v (I s),.v (Bo l),.v (I (j6 (1:Int) t (armB he ps pw))),.v (I (oK (1:Int) (armB he ps pw)))]],[true],[]⟩) else (bif t==(1:Int) then some (.v (I (j9 s t (1:Int) c ph fl fi (safB he ps pw))),⟨[[.v (I s),.v (Bo l),.v (I (j9 s t (1:Int) c ph fl fi (safB he ps pw))),.v (I (oM s (1:Int) c ph fl fi (safB he ps pw)))]],[true],[]⟩) else (bif t==(2:Int) then some (.v (I t),⟨[[.v (I s),.v (Bo l),.v (I t),.v (I 0)]],[true],[]⟩) else some (.v (I t),⟨[[.v (I s),.v (Bo l),.v (I t),.v (I 1)]],[true],[]⟩)))) else (bif c==(2:Int) then (bif t==(0:Int) then some (.v (I (j6 (2:Int) t (armB he ps pw))),⟨[[.v (I s),.v (Bo l),.v (I (j6 (2:Int) t (armB he ps pw))),.v (I (oK (2:Int) (armB he ps pw)))]],[true],[]⟩) else (bif t==(1:Int) then some (.v (I (j9 s t (2:Int) c ph fl fi (safB he ps pw))),⟨[[.v (I s),.v (Bo l),.v (I (j9 s t (2:Int) c ph fl fi (safB he ps pw))),.v (I (oM s (2:Int) c ph fl fi (safB he ps pw)))]],[true],[]⟩) else (bif t==(2:Int) then some (.v (I t),⟨[[.v (I s),.v (Bo l),.v (I t),.v (I 0)]],[true],[]⟩) else some (.v (I t),⟨[[.v (I s),.v (Bo l),.v (I t),.v (I 2)]],[true],[]⟩)))) else (bif t==(0:Int) then some (.v (I (j6 w t (armB he ps pw))),⟨[[.v (I s),.v (Bo l),.v (I (j6 w t (armB he ps pw))),.v (I (oK w (armB he ps pw)))]],[true],[]⟩) else (bif t==(1:Int) then some (.v (I (j9 s t w c ph fl fi (safB he ps pw))),⟨[[.v (I s),.v (Bo l),.v (I (j9 s t w c ph fl fi (safB he ps pw))),.v (I (oM s w c ph fl fi (safB he ps pw)))]],[true],[]⟩) else (bif t==(2:Int) then some (.v (I t),⟨[[.v (I s),.v (Bo l),.v (I t),.v (I 0)]],[true],[]⟩) else some (.v (I t),⟨[[.v (I s),.v (Bo l),.v (I t),.v (I w)]],[true],[]⟩))))))):=by kernel_rfl
theorem WX (c:Int) (he:Bool) (pc pp ps pw:Int) (fl fi:Bool) (ph:Int):runG ΓG6 L0 prog f149 [.v (.pointer none),.v (.agg #[I c,Bo he,I pc,I pp,I ps,I pw,Bo fl,Bo fi,I ph])] M0=some (.v (I 0),M0):=by kernel_rfl
def gSCyc (xs:List SV) (m:Mem):Option (Bool×SV×Mem) :=
 match xs,m with
 | [.ptr 0 0,.v (.agg ⟨[.int .i64 c,.bool he,.int .i64 pc,.int .i64 pp,.int .i64 ps,.int .i64 pw,.bool fl,.bool fi,.int .i64 ph]⟩)],⟨[[.v (.int .i64 s),.v (.bool l),.v (.int .i64 t),.v (.int .i64 w)]],[true],[]⟩=>some (true,.v (I (bif l then 0 else cyT s l t w c ph fl fi (armB he ps pw) (safB he ps pw))),SM s l (cyT s l t w c ph fl fi (armB he ps pw) (safB he ps pw)) (cyW s l t w c ph fl fi (armB he ps pw) (safB he ps pw)))
 | [.v (.pointer none),.v (.agg ⟨[.int .i64 c,.bool he,.int .i64 pc,.int .i64 pp,.int .i64 ps,.int .i64 pw,.bool fl,.bool fi,.int .i64 ph]⟩)],⟨[],[],[]⟩=>some (true,.v (I 0),M0)
 | _,_=>none
theorem gSCyc_ok:aT 149 gSCyc:=by
 intro xs m r m' h
 unfold gSCyc at h
 split at h
 ·rename_i c he pc pp ps pw fl fi ph s l t w
  obtain ⟨h1,rfl,rfl⟩:=az h
  refine aj (Λ:=L0) I2 func149 rfl (fun z _ _=>noLoops (by kernel_rfl) z) ?_
  exact (WY c he pc pp ps pw fl fi ph s l t w).trans (by unfold cyT cyW oN;cases l<;>cases c==1<;>cases c==2<;>cases t==0<;>cases t==1<;>cases t==2<;>rfl)
 ·rename_i c he pc pp ps pw fl fi ph
  obtain ⟨h1,rfl,rfl⟩:=az h
  refine aj (Λ:=L0) I2 func149 rfl (fun z _ _=>noLoops (by kernel_rfl) z) ?_
  exact (WX c he pc pp ps pw fl fi ph).trans (rfl)
 ·cases h
def ΓG7:Orc:=aE 149 gSCyc ΓG6
theorem I1:ΓG7.Ok prog:=aA I2 gSCyc_ok
theorem WP (s:Int) (l:Bool) (t w:Int):runG ΓG7 L0 prog f147 [.ptr 0 0] (SM s l t w)=some (.v (I t),SM s l t w):=by kernel_rfl
theorem WO:runG ΓG7 L0 prog f147 [.v (.pointer none)] M0=some (.v (I 0),M0):=by kernel_rfl
def gSSta (xs:List SV) (m:Mem):Option (Bool×Value) :=
 match xs,m with
 | [.ptr 0 0],⟨[[.v (.int .i64 s),.v (.bool l),.v (.int .i64 t),.v (.int .i64 w)]],[true],[]⟩=>some (true,I t)
 | [.v (.pointer none)],⟨[],[],[]⟩=>some (true,I 0)
 | _,_=>none
theorem gSSta_ok:bi 147 gSSta:=by
 intro xs m r h
 unfold gSSta at h
 split at h
 ·rename_i s l t w
  obtain ⟨h1,rfl⟩:=aa h
  refine aj (Λ:=L0) I1 func147 rfl (fun z _ _=>noLoops (by kernel_rfl) z) ?_
  exact (WP s l t w).trans (rfl)
 ·obtain ⟨h1,rfl⟩:=aa h
  refine aj (Λ:=L0) I1 func147 rfl (fun z _ _=>noLoops (by kernel_rfl) z) ?_
  exact (WO ).trans (rfl)
 ·cases h
def ΓG8:Orc:=aR 147 gSSta ΓG7
theorem I0:ΓG8.Ok prog:=aL I1 gSSta_ok
theorem WM (s:Int) (l:Bool) (t w:Int):runG ΓG8 L0 prog f157 [.ptr 0 0] (SM s l t w)=some (.v (I w),SM s l t w):=by kernel_rfl
theorem WL:runG ΓG8 L0 prog f157 [.v (.pointer none)] M0=some (.v (I 0),M0):=by kernel_rfl
def gSWis (xs:List SV) (m:Mem):Option (Bool×Value) :=
 match xs,m with
 | [.ptr 0 0],⟨[[.v (.int .i64 s),.v (.bool l),.v (.int .i64 t),.v (.int .i64 w)]],[true],[]⟩=>some (true,I w)
 | [.v (.pointer none)],⟨[],[],[]⟩=>some (true,I 0)
 | _,_=>none
theorem gSWis_ok:bi 157 gSWis:=by
 intro xs m r h
 unfold gSWis at h
 split at h
 ·rename_i s l t w
  obtain ⟨h1,rfl⟩:=aa h
  refine aj (Λ:=L0) I0 func157 rfl (fun z _ _=>noLoops (by kernel_rfl) z) ?_
  exact (WM s l t w).trans (rfl)
 ·obtain ⟨h1,rfl⟩:=aa h
  refine aj (Λ:=L0) I0 func157 rfl (fun z _ _=>noLoops (by kernel_rfl) z) ?_
  exact (WL ).trans (rfl)
 ·cases h
def ΓG9:Orc:=aR 157 gSWis ΓG8
theorem IZ:ΓG9.Ok prog:=aL I0 gSWis_ok
theorem WV (s:Int) (l:Bool) (t w:Int):runG ΓG9 L0 prog f263 [.ptr 0 0] (SM s l t w)=some (.v (Bo l),SM s l t w):=by kernel_rfl
theorem WU:runG ΓG9 L0 prog f263 [.v (.pointer none)] M0=some (.v (Bo true),M0):=by kernel_rfl
def Et (xs:List SV) (m:Mem):Option (Bool×Value) :=
 match xs,m with
 | [.ptr 0 0],⟨[[.v (.int .i64 s),.v (.bool l),.v (.int .i64 t),.v (.int .i64 w)]],[true],[]⟩=>some (true,Bo l)
 | [.v (.pointer none)],⟨[],[],[]⟩=>some (true,Bo true)
 | _,_=>none
theorem qez:bi 263 Et:=by
 intro xs m r h
 unfold Et at h
 split at h
 ·rename_i s l t w
  obtain ⟨h1,rfl⟩:=aa h
  refine aj (Λ:=L0) IZ func263 rfl (fun z _ _=>noLoops (by kernel_rfl) z) ?_
  exact (WV s l t w).trans (rfl)
 ·obtain ⟨h1,rfl⟩:=aa h
  refine aj (Λ:=L0) IZ func263 rfl (fun z _ _=>noLoops (by kernel_rfl) z) ?_
  exact (WU ).trans (rfl)
 ·cases h
def ΓG10:Orc:=aR 263 Et ΓG9
theorem I3:ΓG10.Ok prog:=aL IZ qez
theorem WR (n:Int) (s:Int) (l:Bool) (t w:Int):runG ΓG10 L0 prog f196 [.ptr 0 0,.v (I n)] (SM s l t w) =
 (bif l then some (.v (Bo false),⟨[[.v (I s),.v (Bo l),.v (I t),.v (I w)]],[true],[]⟩) else (bif decide (n<(0:Int)) then some (.v (Bo false),⟨[[.v (I s),.v (Bo l),.v (I t),.v (I w)]],[true],[]⟩) else (bif decide (n>(2:Int)) then some (.v (Bo false),⟨[[.v (I s),.v (Bo l),.v (I t),.v (I w)]],[true],[]⟩) else some (.v (Bo true),⟨[[.v (I s),.v (Bo l),.v (I n),.v (I 0)]],[true],[]⟩)))):=by kernel_rfl
theorem WQ (n:Int):runG ΓG10 L0 prog f196 [.v (.pointer none),.v (I n)] M0=some (.v (Bo false),M0):=by kernel_rfl
def gSSet (xs:List SV) (m:Mem):Option (Bool×SV×Mem) :=
 match xs,m with
 | [.ptr 0 0,.v (.int .i64 n)],⟨[[.v (.int .i64 s),.v (.bool l),.v (.int .i64 t),.v (.int .i64 w)]],[true],[]⟩=>some (true,.v (Bo (setB l n)),SM s l (bif setB l n then n else t) (bif setB l n then 0 else w))
 | [.v (.pointer none),.v (.int .i64 n)],⟨[],[],[]⟩=>some (true,.v (Bo false),M0)
 | _,_=>none
theorem gSSet_ok:aT 196 gSSet:=by
 intro xs m r m' h
 unfold gSSet at h
 split at h
 ·rename_i n s l t w
  obtain ⟨h1,rfl,rfl⟩:=az h
  refine aj (Λ:=L0) I3 func196 rfl (fun z _ _=>noLoops (by kernel_rfl) z) ?_
  exact (WR n s l t w).trans (by unfold setB;cases l<;>cases decide (n<0)<;>cases decide (n>2)<;>rfl)
 ·rename_i n
  obtain ⟨h1,rfl,rfl⟩:=az h
  refine aj (Λ:=L0) I3 func196 rfl (fun z _ _=>noLoops (by kernel_rfl) z) ?_
  exact (WQ n).trans (rfl)
 ·cases h
def ΓG11:Orc:=aE 196 gSSet ΓG10
theorem qkj:ΓG11.Ok prog:=aA I3 gSSet_ok
theorem WT (s:Int) (l:Bool):runG ΓG11 L0 prog f121 [.v (I s),.v (Bo l)] M0=some (.ptr 0 0,SM s l 0 0):=by kernel_rfl
def gSNew (xs:List SV) (m:Mem):Option (Bool×SV×Mem) :=
 match xs,m with
 | [.v (.int .i64 s),.v (.bool l)],⟨[],[],[]⟩=>some (true,.ptr 0 0,SM s l 0 0)
 | _,_=>none
theorem gSNew_ok:aT 121 gSNew:=by
 intro xs m r m' h
 unfold gSNew at h
 split at h
 ·rename_i s l
  obtain ⟨h1,rfl,rfl⟩:=az h
  refine aj (Λ:=L0) qkj func121 rfl (fun z _ _=>noLoops (by kernel_rfl) z) ?_
  exact (WT s l).trans (rfl)
 ·cases h
end Go.Proofs.YtainfdcfkgemhaaGreat.Se
