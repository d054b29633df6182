/-
  What is known of this program: navs,words,reports,commands;sources,sequencers.
-/
import Derived.Test.YtainfdcfkgemhaaGreatYf
import Derived.Test.YtainfdcfkgemhaaGreatYe
import Derived.Test.YtainfdcfkgemhaaGreatYa
set_option maxRecDepth 100000
noncomputable section
open Go.Proofs.Tryz
namespace Go.Proofs.YtainfdcfkgemhaaGreat.Nw
open Go Go.Proofs Go.Sx
set_option linter.unusedVariables false
theorem qc0 (x y b:Int):decide (jo x y>b)=!decide (jo x y<=b):=by
 rw [Bool.eq_iff_iff]
 simp only [decide_eq_true_eq,Bool.not_eq_true',decide_eq_false_iff_not]
 omega
def pI (w x y:Int):Bool:=decide (jo x y<=IntKind.u64.wrap w)
def pH (w c c' d d' e e' f f' g g' q q':Int):Bool:=!decide (w<0)&&(pI w c c'&&(pI w d d'&&(pI w e e'&&(pI w f f'&&(pI w g g'&&pI w q q')))))
def lO (s:ByteArray) (i j:Nat):Int:=IntKind.i64.wrap (IntKind.i32.wrap ((numN (s.extract i j):Nat):Int))
def rd27 (s:ByteArray) (x:Int):Int:=if s.size=27 then x else 0
def rdA (s:ByteArray):Int:=rd27 s (wI ((numN (s.extract 0 2):Nat):Int))
def rdB (s:ByteArray):Int:=rd27 s (wI (aa s 2))
def rdC (s:ByteArray) (i j:Nat):Int:=rd27 s (lO s i j)
def navE (s:ByteArray):Int:=if s.size<27 then 5 else if s.size>27 then 3 else 0
theorem XQ (a b c d e f g q a' b' c' d' e' f' g' q' w:Int):runG ΓNa L0 prog f215 [.v (.agg #[I a,I b,I c,I d,I e,I f,I g,I q]),.v (.agg #[I a',I b',I c',I d',I e',I f',I g',I q']),.v (I w)] M0=bif decide (w<0) then some (.v (Bo false),M0) else (bif decide (jo c c'>IntKind.u64.wrap w) then some (.v (Bo false),M0) else (bif decide (jo d d'>IntKind.u64.wrap w) then some (.v (Bo false),M0) else (bif decide (jo e e'>IntKind.u64.wrap w) then some (.v (Bo false),M0) else (bif decide (jo f f'>IntKind.u64.wrap w) then some (.v (Bo false),M0) else (bif decide (jo g g'>IntKind.u64.wrap w) then some (.v (Bo false),M0) else (bif decide (jo q q'>IntKind.u64.wrap w) then some (.v (Bo false),M0) else (some (.v (Bo true),M0)))))))):=by kernel_rfl
def Ff (vs:List Value):Option (Bool×Value) :=
 match vs with
 | [.agg ⟨[.int .i64 a,.int .i64 b,.int .i64 c,.int .i64 d,.int .i64 e,.int .i64 f,.int .i64 g,.int .i64 q]⟩,.agg ⟨[.int .i64 a',.int .i64 b',.int .i64 c',.int .i64 d',.int .i64 e',.int .i64 f',.int .i64 g',.int .i64 q']⟩,.int .i64 w]=>some (true,Bo (pH w c c' d d' e e' f f' g g' q q'))
 | _=>none
theorem qeK:am 215 Ff:=by
 intro vs r h
 unfold Ff at h
 split at h
 ·rename_i a b c d e f g q a' b' c' d' e' f' g' q' w
  obtain ⟨h1,rfl⟩:=ab h
  refine ak (vs:=[.agg #[I a,I b,I c,I d,I e,I f,I g,I q],.agg #[I a',I b',I c',I d',I e',I f',I g',I q'],I w]) (Λ:=L0) (m':=M0) IG func215 rfl (fun z _ _=>bV _ z) ?_
  exact (XQ a b c d e f g q a' b' c' d' e' f' g' q' w).trans (by
   simp only [qc0,zw,Bool.not_not,Bool.and_true]
   rfl)
 ·cases h
def ΓP1:Orc:=ah 215 Ff ΓNa
theorem OkP1:ΓP1.Ok prog:=ac IG qeK
def ΓP2:Orc:=ΓP1
theorem OkP2:ΓP2.Ok prog:=OkP1
theorem szS_ext (s:ByteArray) (i j:Nat) (h:s.size=27):bm (s.extract i j)=true:=nc (by rw [ByteArray.size_extract];omega)
theorem XO (s:ByteArray):runG ΓP2 L0 prog f208 [.v (S s)] M0=bif decide ((s.size:Int)<27) then some (.v (.tuple #[.agg #[I 0,I 0,I 0,I 0,I 0,I 0,I 0,I 0],I 5]),M0) else (bif decide ((s.size:Int)>27) then some (.v (.tuple #[.agg #[I 0,I 0,I 0,I 0,I 0,I 0,I 0,I 0],I 3]),M0) else (bif decide ((0:Int)<=0)&&(decide ((0:Int)<=2)&&decide (2<=(s.size:Int))) then (bif bm (s.extract (Int.toNat 0) (Int.toNat 2)) then (bif decide ((0:Int)<=2)&&decide (2<(s.size:Int)) then (bif decide ((0:Int)<=3)&&(decide ((3:Int)<=7)&&decide (7<=(s.size:Int))) then (bif bm (s.extract (Int.toNat 3) (Int.toNat 7)) then (bif decide ((0:Int)<=7)&&(decide ((7:Int)<=11)&&decide (11<=(s.size:Int))) then (bif bm (s.extract (Int.toNat 7) (Int.toNat 11)) then (bif decide ((0:Int)<=11)&&(decide ((11:Int)<=15)&&decide (15<=(s.size:Int))) then (bif bm (s.extract (Int.toNat 11) (Int.toNat 15)) then (bif decide ((0:Int)<=15)&&(decide ((15:Int)<=19)&&decide (19<=(s.size:Int))) then (bif bm (s.extract (Int.toNat 15) (Int.toNat 19)) then (bif decide ((0:Int)<=19)&&(decide ((19:Int)<=23)&&decide (23<=(s.size:Int))) then (bif bm (s.extract (Int.toNat 19) (Int.toNat 23)) then (bif decide ((0:Int)<=23)&&(decide ((23:Int)<=27)&&decide (27<=(s.size:Int))) then (bif bm (s.extract (Int.toNat 23) (Int.toNat 27)) then some (.v (.tuple #[.agg #[I (wI ((numN (s.extract (Int.toNat 0) (Int.toNat 2)):Nat):Int)),I (wI (aa s 2)),I (lO s (Int.toNat 3) (Int.toNat 7)),I (lO s (Int.toNat 7) (Int.toNat 11)),I (lO s (Int.toNat 11) (Int.toNat 15)),I (lO s (Int.toNat 15) (Int.toNat 19)),I (lO s (Int.toNat 19) (Int.toNat 23)),I (lO s (Int.toNat 23) (Int.toNat 27))],I 0]),M0) else none) else none) else none) else none) else none) else none) else none) else none) else none) else none) else none) else none) else none) else none) else none)):=by kernel_rfl
def yo (vs:List Value):Option (Bool×Value) :=
 match vs with
 | [.string s]=>some (true,.tuple #[.agg #[I (rdA s),I (rdB s),I (rdC s 3 7),I (rdC s 7 11),I (rdC s 11 15),I (rdC s 15 19),I (rdC s 19 23),I (rdC s 23 27)],I (navE s)])
 | _=>none
theorem Oe:am 208 yo:=by
 intro vs r h
 unfold yo at h
 split at h
 ·rename_i s
  obtain ⟨h1,rfl⟩:=ab h
  refine ak (vs:=[S s]) (Λ:=L0) (m':=M0) OkP2 func208 rfl (fun z _ _=>bV _ z) ?_
  exact (XO s).trans (by
   unfold rdA rdB rdC rd27 navE
   by_cases c1:s.size<27
   ·simp only [decide_eq_true (show (s.size:Int)<27 by omega),if_neg (show ¬ s.size=27 by omega),if_pos c1]
    rfl
   by_cases c2:s.size>27
   ·simp only [decide_eq_false (show ¬ (s.size:Int)<27 by omega),decide_eq_true (show (s.size:Int)>27 by omega),if_neg (show ¬ s.size=27 by omega),if_neg c1,if_pos c2]
    rfl
   have c3:s.size=27:=by omega
   simp only [szS_ext s _ _ c3,if_pos c3,if_neg c1,if_neg c2]
   rw [c3]
   rfl)
 ·cases h
def ΓP3:Orc:=ah 208 yo ΓP2
theorem OkP3:ΓP3.Ok prog:=ac OkP2 Oe
def ΓP4:Orc:=ΓP3
theorem OkP4:ΓP4.Ok prog:=OkP3
def ΓNb:Orc:=ΓP4
theorem zX:ΓNb.Ok prog:=OkP4
end Go.Proofs.YtainfdcfkgemhaaGreat.Nw
namespace Go.Proofs.YtainfdcfkgemhaaGreat.Pe
open Go Go.Proofs Go.Sx Nw
set_option linter.unusedVariables false
def inB (n m:Int):Bool:=decide (n>=0)&&decide (n<=m)
def cZ (p s:Int):Int:=wI (p+wI (16*s))
def di (s:ByteArray):ByteArray:=s++be 4 (hZ s)
def cq (s:ByteArray) (n:Int):Int:=if (s.size:Int)<n+4 then 5 else if (s.size:Int)>n+4 then 3 else if di (s.extract 0 n.toNat)==s then 0 else 4
def gg (c p s:Int):Bool:=inB c 1000000&&(inB p 3&&inB s 2)
def gE (c p s w:Int):Bool:=gg c p s&&inB w 15
def df (c p s w:Int):ByteArray:=di ((be 4 c++be 1 (cZ p s))++be 1 w)
def js (c p s w:Int):ByteArray:=bif gE c p s w then df c p s w else ⟨#[]⟩
def fc (c p s x y z u v f:Int):Bool:=(inB x 255&&(inB y 255&&(inB z 255&&inB f 255)))&&((inB u 4&&inB v 4)&&gg c p s)
def dF (c p s x y z u v f:Int):ByteArray:=di ((((be 4 c++be 1 (cZ p s))++((be 1 x++be 1 y)++be 1 z))++be 1 (cZ u v))++be 1 f)
def lS (c p s x y z u v f:Int):ByteArray:=bif fc c p s x y z u v f then dF c p s x y z u v f else ⟨#[]⟩
def AA (x y:Int):Int:=IntKind.i64.wrap (((BitVec.ofInt 64 x ^^^ BitVec.ofInt 64 y).toNat:Nat):Int)
def Hm (c:Int):ByteArray:=di (((be 1 c++be 1 (AA c 85))++be 1 (AA c 170))++be 1 (AA c 255))
def comR (c:Int):Bool:=decide (1<=c)&&decide (c<=3)
def comT (c:Int):ByteArray:=bif comR c then Hm c else ⟨#[]⟩
theorem UA (s:ByteArray):(di s).size=s.size+4:=by unfold di;rw [ByteArray.size_append,ot]
theorem runUpTo (n m:Int):runG ΓNb L0 prog f269 [.v (I n),.v (I m)] M0 =
 (bif decide (n>=(0:Int)) then some (.v (.bool (decide (n<=m))),⟨[],[],[]⟩) else some (.v (.bool false),⟨[],[],[]⟩)):=by kernel_rfl
def gUpTo (vs:List Value):Option (Bool×Value) :=
 match vs with
 | [.int .i64 n,.int .i64 m]=>some (true,Bo (inB n m))
 | _=>none
theorem gUpTo_ok:am 269 gUpTo:=by
 intro vs r h
 unfold gUpTo at h
 split at h
 ·rename_i n m
  obtain ⟨h1,rfl⟩:=ab h
  refine ak (vs:=[I n,I m]) (Λ:=L0) (m':=M0) zX func269 rfl (fun z _ _=>bV _ z) ?_
  exact (runUpTo n m).trans (by unfold inB;cases decide (n>=0)<;>rfl)
 ·cases h
def ΓQ1:Orc:=ah 269 gUpTo ΓNb
theorem OkQ1:ΓQ1.Ok prog:=ac zX gUpTo_ok
def ΓQ2:Orc:=ΓQ1
theorem OkQ2:ΓQ2.Ok prog:=OkQ1
theorem W3 (c p s:Int):runG ΓQ2 L0 prog f268 [.v (I c),.v (I p),.v (I s)] M0 =
 (bif inB c (1000000:Int) then (bif inB p (3:Int) then some (.v (.bool (inB s (2:Int))),⟨[],[],[]⟩) else some (.v (.bool false),⟨[],[],[]⟩)) else some (.v (.bool false),⟨[],[],[]⟩)):=by kernel_rfl
def EJ (vs:List Value):Option (Bool×Value) :=
 match vs with
 | [.int .i64 c,.int .i64 p,.int .i64 s]=>some (true,Bo (gg c p s))
 | _=>none
theorem qei:am 268 EJ:=by
 intro vs r h
 unfold EJ at h
 split at h
 ·rename_i c p s
  obtain ⟨h1,rfl⟩:=ab h
  refine ak (vs:=[I c,I p,I s]) (Λ:=L0) (m':=M0) OkQ2 func268 rfl (fun z _ _=>bV _ z) ?_
  exact (W3 c p s).trans (by unfold gg;cases inB c 1000000<;>cases inB p 3<;>rfl)
 ·cases h
def ΓQ3:Orc:=ah 268 EJ ΓQ2
theorem OkQ3:ΓQ3.Ok prog:=ac OkQ2 qei
theorem Y1 (n:Int):runG ΓQ3 L0 prog f270 [.v (I n)] M0 =
 some (.v (Value.string (be (4:Nat) (IntKind.u64.wrap n))),⟨[],[],[]⟩):=by kernel_rfl
def Gf (vs:List Value):Option (Bool×Value) :=
 match vs with
 | [.int .i64 n]=>some (true,S (be 4 n))
 | _=>none
theorem qfF:am 270 Gf:=by
 intro vs r h
 unfold Gf at h
 split at h
 ·rename_i n
  obtain ⟨h1,rfl⟩:=ab h
  refine ak (vs:=[I n]) (Λ:=L0) (m':=M0) OkQ3 func270 rfl (fun z _ _=>bV _ z) ?_
  exact (Y1 n).trans (by rw [zx];rfl)
 ·cases h
def ΓQ4:Orc:=ah 270 Gf ΓQ3
theorem OkQ4:ΓQ4.Ok prog:=ac OkQ3 qfF
theorem XC (n:Int):runG ΓQ4 L0 prog f183 [.v (I n)] M0 =
 some (.v (Value.string (be (1:Nat) (IntKind.u64.wrap n))),⟨[],[],[]⟩):=by kernel_rfl
def E0 (vs:List Value):Option (Bool×Value) :=
 match vs with
 | [.int .i64 n]=>some (true,S (be 1 n))
 | _=>none
theorem qez:am 183 E0:=by
 intro vs r h
 unfold E0 at h
 split at h
 ·rename_i n
  obtain ⟨h1,rfl⟩:=ab h
  refine ak (vs:=[I n]) (Λ:=L0) (m':=M0) OkQ4 func183 rfl (fun z _ _=>bV _ z) ?_
  exact (XC n).trans (by rw [HM];rfl)
 ·cases h
def ΓQ5:Orc:=ah 183 E0 ΓQ4
theorem OkQ5:ΓQ5.Ok prog:=ac OkQ4 qez
theorem Vt (p s:Int):runG ΓQ5 L0 prog f271 [.v (I p),.v (I s)] M0 =
 some (.v (Value.string (be (1:Nat) (wI (p+wI ((16:Int)*s))))),⟨[],[],[]⟩):=by kernel_rfl
def DG (vs:List Value):Option (Bool×Value) :=
 match vs with
 | [.int .i64 p,.int .i64 s]=>some (true,S (be 1 (cZ p s)))
 | _=>none
theorem qdt:am 271 DG:=by
 intro vs r h
 unfold DG at h
 split at h
 ·rename_i p s
  obtain ⟨h1,rfl⟩:=ab h
  refine ak (vs:=[I p,I s]) (Λ:=L0) (m':=M0) OkQ5 func271 rfl (fun z _ _=>bV _ z) ?_
  exact (Vt p s).trans (rfl)
 ·cases h
def ΓQ6:Orc:=ah 271 DG ΓQ5
theorem Rk:ΓQ6.Ok prog:=ac OkQ5 qdt
theorem Vs (b:Int):runG ΓQ6 L0 prog f213 [.v (U8 b)] M0 =
 some (.v (.tuple #[(.int .i64 (wI (b.tmod (16:Int)))),(.int .i64 (wI (IntKind.u8.wrap (b.tdiv (16:Int)))))]),⟨[],[],[]⟩):=by kernel_rfl
def DF (vs:List Value):Option (Bool×Value) :=
 match vs with
 | [.int .u8 b]=>some (true,.tuple #[I (wI (b.tmod 16)),I (wI (IntKind.u8.wrap (b.tdiv 16)))])
 | _=>none
theorem qds:am 213 DF:=by
 intro vs r h
 unfold DF at h
 split at h
 ·rename_i b
  obtain ⟨h1,rfl⟩:=ab h
  refine ak (vs:=[U8 b]) (Λ:=L0) (m':=M0) Rk func213 rfl (fun z _ _=>bV _ z) ?_
  exact (Vs b).trans (rfl)
 ·cases h
def ΓQ7:Orc:=ah 213 DF ΓQ6
theorem Rj:ΓQ7.Ok prog:=ac Rk qds
theorem VS (s:ByteArray):runG ΓQ7 L0 prog f182 [.v (S s)] M0 =
 (bif bm s then (bif (s.size+(be (4:Nat) (IntKind.u64.wrap (hZ s))).size).ble (9223372036854775807) then some (.v (Value.string (s++be (4:Nat) (IntKind.u64.wrap (hZ s)))),⟨[],[],[]⟩) else none) else none):=by kernel_rfl
def DS (vs:List Value):Option (Bool×Value) :=
 match vs with
 | [.string s]=>some (Nat.ble s.size 1000000,S (di s))
 | _=>none
theorem qdB:am 182 DS:=by
 intro vs r h
 unfold DS at h
 split at h
 ·rename_i s
  obtain ⟨h1,rfl⟩:=ab h
  refine ak (vs:=[S s]) (Λ:=L0) (m':=M0) Rj func182 rfl (fun z _ _=>bV _ z) ?_
  exact (VS s).trans (by
   have hz:=Nat.le_of_ble_eq_true h1
   rw [nc (show s.size<=9223372036854775807 by omega),zx,ot,Nat.ble_eq_true_of_le (show s.size+4<=9223372036854775807 by omega)]
   rfl)
 ·cases h
def ΓQ8:Orc:=ah 182 DS ΓQ7
theorem Ri:ΓQ8.Ok prog:=ac Rj qdB
theorem Zd (s:ByteArray) (n:Int):runG ΓQ8 L0 prog f211 [.v (S s),.v (I n)] M0 =
 (bif decide (↑s.size<wI (n+(4:Int))) then some (.v (.int .i64 5),⟨[],[],[]⟩) else (bif decide (↑s.size>wI (n+(4:Int))) then some (.v (.int .i64 3),⟨[],[],[]⟩) else (bif true&&(decide ((0:Int)<=n)&&decide (n<=↑s.size)) then (bif (s.extract (0:Nat) n.toNat).size.ble (1000000) then (bif !(di (s.extract (0:Nat) n.toNat)).toList==s.toList then some (.v (.int .i64 4),⟨[],[],[]⟩) else some (.v (.int .i64 0),⟨[],[],[]⟩)) else none) else none))):=by kernel_rfl
def Gt (vs:List Value):Option (Bool×Value) :=
 match vs with
 | [.string s,.int .i64 n]=>some ((n==4||(n==6||n==10))&&Nat.ble s.size 1000000,I (cq s n))
 | _=>none
theorem qfS:am 211 Gt:=by
 intro vs r h
 unfold Gt at h
 split at h
 ·rename_i s n
  obtain ⟨h1,rfl⟩:=ab h
  refine ak (vs:=[S s,I n]) (Λ:=L0) (m':=M0) Ri func211 rfl (fun z _ _=>bV _ z) ?_
  exact (Zd s n).trans (by
   simp only [Bool.and_eq_true,Bool.or_eq_true,beq_iff_eq] at h1
   obtain ⟨h0,h1⟩:=h1
   have hz:=Nat.le_of_ble_eq_true h1
   have hw:wI (n+4)=n+4:=aC (by omega)
   rw [hw]
   unfold cq
   by_cases c1:(s.size:Int)<n+4
   ·rw [decide_eq_true c1,if_pos c1];rfl
   by_cases c2:(s.size:Int)>n+4
   ·rw [decide_eq_false c1,decide_eq_true c2,if_neg c1,if_pos c2];rfl
   rw [decide_eq_false c1,decide_eq_false c2,if_neg c1,if_neg c2,decide_eq_true (show 0<=n by omega),decide_eq_true (show n<=(s.size:Int) by omega),Nat.ble_eq_true_of_le (show (s.extract 0 n.toNat).size<=1000000 by rw [ByteArray.size_extract];omega),oq]
   cases di (s.extract 0 n.toNat)==s<;>rfl)
 ·cases h
def ΓQ9:Orc:=ah 211 Gt ΓQ8
theorem Rh:ΓQ9.Ok prog:=ac Ri qfS
theorem Y0 (s:ByteArray):runG ΓQ9 L0 prog f212 [.v (S s)] M0 =
 (bif true&&(true&&decide ((4:Int)<=↑s.size)) then (bif bm (s.extract (0:Nat) (4:Nat)) then some (.v (.int .i64 (wI ↑(numN (s.extract (0:Nat) (4:Nat))))),⟨[],[],[]⟩) else none) else none):=by kernel_rfl
def Ge (vs:List Value):Option (Bool×Value) :=
 match vs with
 | [.string s]=>some (Nat.ble 4 s.size&&Nat.ble s.size 1000000,I (wI ((numN (s.extract 0 4):Nat):Int)))
 | _=>none
theorem qfE:am 212 Ge:=by
 intro vs r h
 unfold Ge at h
 split at h
 ·rename_i s
  obtain ⟨h1,rfl⟩:=ab h
  refine ak (vs:=[S s]) (Λ:=L0) (m':=M0) Rh func212 rfl (fun z _ _=>bV _ z) ?_
  exact (Y0 s).trans (by
   simp only [Bool.and_eq_true] at h1
   have h2:=Nat.le_of_ble_eq_true h1.1
   rw [decide_eq_true (show (4:Int)<=(s.size:Int) by omega),nc (show (s.extract 0 4).size<=9223372036854775807 by rw [ByteArray.size_extract];omega)]
   rfl)
 ·cases h
def ΓQ10:Orc:=ah 212 Ge ΓQ9
theorem Rn:ΓQ10.Ok prog:=ac Rh qfE
theorem Xs (c p s w:Int):runG ΓQ10 L0 prog f204 [.v (.agg #[I c,I p,I s,I w])] M0 =
 (bif !gg c p s then some (.v (Value.string { data:=#[]:ByteArray }),⟨[],[],[]⟩) else (bif !inB w (15:Int) then some (.v (Value.string { data:=#[]:ByteArray }),⟨[],[],[]⟩) else some (.v (Value.string (di (be (4:Nat) c++be (1:Nat) (cZ p s)++be (1:Nat) w))),⟨[],[],[]⟩))):=by kernel_rfl
def yk (vs:List Value):Option (Bool×Value) :=
 match vs with
 | [.agg ⟨[.int .i64 c,.int .i64 p,.int .i64 s,.int .i64 w]⟩]=>some (true,S (js c p s w))
 | _=>none
theorem Oa:am 204 yk:=by
 intro vs r h
 unfold yk at h
 split at h
 ·rename_i c p s w
  obtain ⟨h1,rfl⟩:=ab h
  refine ak (vs:=[.agg #[I c,I p,I s,I w]]) (Λ:=L0) (m':=M0) Rn func204 rfl (fun z _ _=>bV _ z) ?_
  exact (Xs c p s w).trans (by
   unfold js gE
   cases gg c p s<;>cases inB w 15<;>first|rfl|(simp only [ByteArray.size_append,ot];rfl))
 ·cases h
def ΓQ11:Orc:=ah 204 yk ΓQ10
theorem Rm:ΓQ11.Ok prog:=ac Rn Oa
def bU (s:ByteArray):Int:=wI ((numN (s.extract 0 4):Nat):Int)
def bp (s:ByteArray) (i:Int):Int:=wI ((aa s i).tmod 16)
def bq (s:ByteArray) (i:Int):Int:=wI (IntKind.u8.wrap ((aa s i).tdiv 16))
def bn (b:Bool) (x:Int):Int:=bif b then x else 0
def oO (s:ByteArray):Bool:=js (bU s) (bp s 4) (bq s 4) (wI (aa s 5))==s
def cP (s:ByteArray):Int:=bif cq s 6 != 0 then cq s 6 else bif oO s then 0 else 3
theorem qu {s:ByteArray} {n:Int} (h:cq s n=0):(s.size:Int)=n+4:=by
 unfold cq at h
 split at h
 ·cases h
 ·split at h
  ·cases h
  ·omega
theorem zi (s:ByteArray) (n:Int):cq s n=5\/cq s n=3\/cq s n=4\/cq s n=0:=by
 unfold cq
 split
 ·exact .inl rfl
 ·split
  ·exact .inr (.inl rfl)
  ·split
   ·exact .inr (.inr (.inr rfl))
   ·exact .inr (.inr (.inl rfl))
theorem W1 (s:ByteArray):runG ΓQ11 L0 prog f143 [.v (S s)] M0 =
 (bif true&&s.size.ble (1000000) then (bif cq s (6:Int) != (0:Int) then some (.v (.tuple #[(.agg #[(.int .i64 0),(.int .i64 0),(.int .i64 0),(.int .i64 0)]),(.int .i64 (cq s (6:Int)))]),⟨[],[],[]⟩) else (bif Nat.ble (4) s.size&&s.size.ble (1000000) then (bif true&&decide ((5:Int)<↑s.size) then (bif true&&decide ((4:Int)<↑s.size) then (bif !(js (wI ↑(numN (s.extract (0:Nat) (4:Nat)))) (wI ((aa s (4:Int)).tmod (16))) (wI (IntKind.u8.wrap ((aa s (4:Int)).tdiv (16)))) (wI (aa s (5:Int)))).toList==s.toList then some (.v (.tuple #[(.agg #[(.int .i64 0),(.int .i64 0),(.int .i64 0),(.int .i64 0)]),(.int .i64 3)]),⟨[],[],[]⟩) else some (.v (.tuple #[(.agg #[(.int .i64 (wI ↑(numN (s.extract (0:Nat) (4:Nat))))),(.int .i64 (wI ((aa s (4:Int)).tmod (16)))),(.int .i64 (wI (IntKind.u8.wrap ((aa s (4:Int)).tdiv (16))))),(.int .i64 (wI (aa s (5:Int))))]),(.int .i64 0)]),⟨[],[],[]⟩)) else none) else none) else none)) else none):=by kernel_rfl
def ya (vs:List Value):Option (Bool×Value) :=
 match vs with
 | [.string s]=>some (Nat.ble s.size 1000000,.tuple #[.agg #[I (bn (cP s==0) (bU s)),I (bn (cP s==0) (bp s 4)),I (bn (cP s==0) (bq s 4)),I (bn (cP s==0) (wI (aa s 5)))],I (cP s)])
 | _=>none
theorem N2:am 143 ya:=by
 intro vs r h
 unfold ya at h
 split at h
 ·rename_i s
  obtain ⟨h1,rfl⟩:=ab h
  refine ak (vs:=[S s]) (Λ:=L0) (m':=M0) Rm func143 rfl (fun z _ _=>bV _ z) ?_
  exact (W1 s).trans (by
   rw [h1]
   unfold cP
   rcases zi s 6 with he|he|he|he
   ·rw [he];rfl
   ·rw [he];rfl
   ·rw [he];rfl
   ·have hs:=qu he
    rw [he,Nat.ble_eq_true_of_le (show 4<=s.size by omega),decide_eq_true (show (5:Int)<(s.size:Int) by omega),decide_eq_true (show (4:Int)<(s.size:Int) by omega)]
    unfold oO bU bp bq
    rw [<- oq]
    cases (js (wI ((numN (s.extract 0 4):Nat):Int)) (wI ((aa s 4).tmod 16)) (wI (IntKind.u8.wrap ((aa s 4).tdiv 16))) (wI (aa s 5))).toList==s.toList<;>rfl)
 ·cases h
def ΓQ12:Orc:=ah 143 ya ΓQ11
theorem qjq:ΓQ12.Ok prog:=ac Rm N2
def ΓQa:Orc:=ΓQ12
theorem qjp:ΓQa.Ok prog:=qjq
end Go.Proofs.YtainfdcfkgemhaaGreat.Pe
namespace Go.Proofs.YtainfdcfkgemhaaGreat.Pe
open Go Go.Proofs Go.Sx Nw
set_option linter.unusedVariables false
theorem Hz (x:Int) (j k:Nat) (h:(2:Int) ^ min (Int.toNat (8*k:Nat)) 32=256 ^ k) (hj:j=8*k):IntKind.u8.wrap (x.fdiv (2 ^ min (Int.toNat (j:Nat)) 32))=x / 256 ^ k % 256:=by
 subst hj
 rw [h,Int.fdiv_eq_ediv_of_nonneg _ (Int.le_of_lt (Int.pow_pos (by decide))),<- cE true]
 rfl
theorem qhL (x:Int):strOfNums [IntKind.u8.wrap (x.fdiv (2 ^ min (Int.toNat 24) 32)),IntKind.u8.wrap (x.fdiv (2 ^ min (Int.toNat 16) 32)),IntKind.u8.wrap (x.fdiv (2 ^ min (Int.toNat 8) 32)),IntKind.u8.wrap x]=be 4 x:=by
 have e1:=Hz x 8 1 (by decide) rfl
 have e2:=Hz x 16 2 (by decide) rfl
 have e3:=Hz x 24 3 (by decide) rfl
 rw [show ((8:Nat):Int)=8 from rfl] at e1
 rw [show ((16:Nat):Int)=16 from rfl] at e2
 rw [show ((24:Nat):Int)=24 from rfl] at e3
 have e0:IntKind.u8.wrap x=x / 256 ^ 0 % 256:=by
  rw [<- cE true]
  simp only [wr]
  omega
 rw [e0,e1,e2,e3];rfl
def ΓR1:Orc:=ΓQa
theorem OkR1:ΓR1.Ok prog:=qjp
def ΓR2:Orc:=ΓR1
theorem OkR2:ΓR2.Ok prog:=OkR1
theorem Xv (c p s x y z u v f:Int):runG ΓR2 L0 prog f272 [.v (.agg #[I c,I p,I s,I x,I y,I z,I u,I v,I f])] M0 =
 (bif !inB x (255:Int) then some (.v (Bo false),M0) else (bif !inB y (255:Int) then some (.v (Bo false),M0) else (bif !inB z (255:Int) then some (.v (Bo false),M0) else (bif !inB f (255:Int) then some (.v (Bo false),M0) else (bif !inB u (4:Int) then some (.v (Bo false),M0) else (bif !inB v (4:Int) then some (.v (Bo false),M0) else some (.v (Bo (gg c p s)),M0))))))):=by kernel_rfl
def EU (vs:List Value):Option (Bool×Value) :=
 match vs with
 | [.agg ⟨[.int .i64 c,.int .i64 p,.int .i64 s,.int .i64 x,.int .i64 y,.int .i64 z,.int .i64 u,.int .i64 v,.int .i64 f]⟩]=>some (true,Bo (fc c p s x y z u v f))
 | _=>none
theorem qet:am 272 EU:=by
 intro vs r h
 unfold EU at h
 split at h
 ·rename_i c p s x y z u v f
  obtain ⟨h1,rfl⟩:=ab h
  refine ak (vs:=[.agg #[I c,I p,I s,I x,I y,I z,I u,I v,I f]]) (Λ:=L0) (m':=M0) OkR2 func272 rfl (fun z _ _=>bV _ z) ?_
  exact (Xv c p s x y z u v f).trans (by
   simp only [zw,Bool.not_not]
   unfold fc gg
   congr 4
   ac_rfl)
 ·cases h
def ΓR3:Orc:=ah 272 EU ΓR2
theorem OkR3:ΓR3.Ok prog:=ac OkR2 qet
theorem Yy (n:Int):runG ΓR3 L0 prog f244 [.v (ci n)] M0 =
 some (.v (S (strOfNums (cD [[Dat.n (IntKind.u8.wrap (n.fdiv (16777216:Int)))],[Dat.n (IntKind.u8.wrap (n.fdiv (65536:Int)))],[Dat.n (IntKind.u8.wrap (n.fdiv (256:Int)))],[Dat.n (IntKind.u8.wrap n)]]))),M0):=by kernel_rfl
def FR (vs:List Value):Option (Bool×Value) :=
 match vs with
 | [.int .u32 n]=>some (true,S (be 4 n))
 | _=>none
theorem qfi:am 244 FR:=by
 intro vs r h
 unfold FR at h
 split at h
 ·rename_i n
  obtain ⟨h1,rfl⟩:=ab h
  refine ak (vs:=[ci n]) (Λ:=L0) (m':=M0) OkR3 func244 rfl (fun z _ _=>bV _ z) ?_
  exact (Yy n).trans (by rw [<- qhL n];rfl)
 ·cases h
def ΓR4:Orc:=ah 244 FR ΓR3
theorem Rd:ΓR4.Ok prog:=ac OkR3 qfi
theorem Wg (s:ByteArray):runG ΓR4 L0 prog f197 [.v (S s)] M0 =
 (bif bm s then (bif (s.size+(be (4:Nat) (hZ s)).size).ble (9223372036854775807) then some (.v (S (s++be (4:Nat) (hZ s))),M0) else none) else none):=by kernel_rfl
def Ec (vs:List Value):Option (Bool×Value) :=
 match vs with
 | [.string s]=>some (Nat.ble s.size 1000000,S (di s))
 | _=>none
theorem qdT:am 197 Ec:=by
 intro vs r h
 unfold Ec at h
 split at h
 ·rename_i s
  obtain ⟨h1,rfl⟩:=ab h
  refine ak (vs:=[S s]) (Λ:=L0) (m':=M0) Rd func197 rfl (fun z _ _=>bV _ z) ?_
  exact (Wg s).trans (by
   have hz:=Nat.le_of_ble_eq_true h1
   rw [nc (show s.size<=9223372036854775807 by omega),ot,Nat.ble_eq_true_of_le (show s.size+4<=9223372036854775807 by omega)]
   rfl)
 ·cases h
def ΓR5:Orc:=ah 197 Ec ΓR4
theorem qjm:ΓR5.Ok prog:=ac Rd qdT
def ΓR6:Orc:=ΓR5
theorem qjl:ΓR6.Ok prog:=qjm
def ΓR7:Orc:=ΓR6
theorem qjk:ΓR7.Ok prog:=qjl
def ΓR8:Orc:=ΓR7
theorem qjj:ΓR8.Ok prog:=qjk
def ΓR9:Orc:=ΓR8
theorem qji:ΓR9.Ok prog:=qjj
def ΓR10:Orc:=ΓR9
theorem Rg:ΓR10.Ok prog:=qji
theorem Xu (c p s x y z u v f:Int):runG ΓR10 L0 prog f205 [.v (.agg #[I c,I p,I s,I x,I y,I z,I u,I v,I f])] M0 =
 (bif !fc c p s x y z u v f then some (.v (S { data:=#[]:ByteArray }),M0) else some (.v (S (di (be (4:Nat) c++be (1:Nat) (cZ p s)++(be (1:Nat) x++be (1:Nat) y++be (1:Nat) z)++be (1:Nat) (cZ u v)++be (1:Nat) f))),M0)):=by kernel_rfl
def yl (vs:List Value):Option (Bool×Value) :=
 match vs with
 | [.agg ⟨[.int .i64 c,.int .i64 p,.int .i64 s,.int .i64 x,.int .i64 y,.int .i64 z,.int .i64 u,.int .i64 v,.int .i64 f]⟩]=>some (true,S (lS c p s x y z u v f))
 | _=>none
theorem Ob:am 205 yl:=by
 intro vs r h
 unfold yl at h
 split at h
 ·rename_i c p s x y z u v f
  obtain ⟨h1,rfl⟩:=ab h
  refine ak (vs:=[.agg #[I c,I p,I s,I x,I y,I z,I u,I v,I f]]) (Λ:=L0) (m':=M0) Rg func205 rfl (fun z _ _=>bV _ z) ?_
  exact (Xu c p s x y z u v f).trans (by
   unfold lS dF
   cases fc c p s x y z u v f with
   | false=>rfl
   | true =>
    rfl)
 ·cases h
def ΓR11:Orc:=ah 205 yl ΓR10
theorem qjo:ΓR11.Ok prog:=ac Rg Ob
def ΓR12:Orc:=ΓR11
theorem Rf:ΓR12.Ok prog:=qjo
theorem Xy (c:Int):runG ΓR12 L0 prog f115 [.v (I c)] M0 =
 (bif decide (c<(1:Int)) then some (.v (S { data:=#[]:ByteArray }),M0) else (bif decide (c>(3:Int)) then some (.v (S { data:=#[]:ByteArray }),M0) else some (.v (S (di (be (1:Nat) c++be (1:Nat) (wI ↑(BitVec.ofInt (64:Nat) c ^^^ BitVec.ofInt (64:Nat) (85:Int)).toNat)++be (1:Nat) (wI ↑(BitVec.ofInt (64:Nat) c ^^^ BitVec.ofInt (64:Nat) (170:Int)).toNat)++be (1:Nat) (wI ↑(BitVec.ofInt (64:Nat) c ^^^ BitVec.ofInt (64:Nat) (255:Int)).toNat)))),M0))):=by kernel_rfl
def EW (vs:List Value):Option (Bool×Value) :=
 match vs with
 | [.int .i64 c]=>some (true,S (comT c))
 | _=>none
theorem qev:am 115 EW:=by
 intro vs r h
 unfold EW at h
 split at h
 ·rename_i c
  obtain ⟨h1,rfl⟩:=ab h
  refine ak (vs:=[I c]) (Λ:=L0) (m':=M0) Rf func115 rfl (fun z _ _=>bV _ z) ?_
  exact (Xy c).trans (by
   unfold comT comR
   by_cases c1:c<1
   ·rw [decide_eq_true c1,decide_eq_false (show ¬ 1<=c by omega)];rfl
   by_cases c2:c>3
   ·rw [decide_eq_false c1,decide_eq_true c2,decide_eq_true (show 1<=c by omega),decide_eq_false (show ¬ c<=3 by omega)];rfl
   have hc:c=1\/c=2\/c=3:=by omega
   unfold Hm
   rcases hc with rfl|rfl|rfl
   ·rfl
   ·rfl
   ·rfl)
 ·cases h
def ΓR13:Orc:=ah 115 EW ΓR12
theorem Re:ΓR13.Ok prog:=ac Rf qev
theorem Xb (c:Int):runG ΓR13 L0 prog f133 [.v (I c)] M0 =
 (bif decide (c<(1:Int)) then some (.v (S { data:=#[]:ByteArray }),M0) else (bif decide (c>(3:Int)) then some (.v (S { data:=#[]:ByteArray }),M0) else some (.v (S (di (strOfNums (cD [[Dat.n (IntKind.u8.wrap c)],[Dat.n (IntKind.u8.wrap ↑(BitVec.ofInt (8:Nat) (IntKind.u8.wrap c) ^^^ BitVec.ofInt (8:Nat) (85:Int)).toNat)],[Dat.n (IntKind.u8.wrap ↑(BitVec.ofInt (8:Nat) (IntKind.u8.wrap c) ^^^ BitVec.ofInt (8:Nat) (170:Int)).toNat)],[Dat.n (IntKind.u8.wrap ↑(BitVec.ofInt (8:Nat) (IntKind.u8.wrap c) ^^^ BitVec.ofInt (8:Nat) (255:Int)).toNat)]])))),M0))):=by kernel_rfl
def gRPCom (vs:List Value):Option (Bool×Value) :=
 match vs with
 | [.int .i64 c]=>some (true,S (comT c))
 | _=>none
theorem gRPCom_ok:am 133 gRPCom:=by
 intro vs r h
 unfold gRPCom at h
 split at h
 ·rename_i c
  obtain ⟨h1,rfl⟩:=ab h
  refine ak (vs:=[I c]) (Λ:=L0) (m':=M0) Re func133 rfl (fun z _ _=>bV _ z) ?_
  exact (Xb c).trans (by
   unfold comT comR
   by_cases c1:c<1
   ·rw [decide_eq_true c1,decide_eq_false (show ¬ 1<=c by omega)];rfl
   by_cases c2:c>3
   ·rw [decide_eq_false c1,decide_eq_true c2,decide_eq_true (show 1<=c by omega),decide_eq_false (show ¬ c<=3 by omega)];rfl
   have hc:c=1\/c=2\/c=3:=by omega
   unfold Hm
   rcases hc with rfl|rfl|rfl
   ·simp only [HU]
    rfl
   ·simp only [HU]
    rfl
   ·simp only [HU]
    rfl)
 ·cases h
def ΓR14:Orc:=ah 133 gRPCom ΓR13
theorem qjn:ΓR14.Ok prog:=ac Re gRPCom_ok
def ΓRa:Orc:=ΓR14
theorem qjh:ΓRa.Ok prog:=qjn
end Go.Proofs.YtainfdcfkgemhaaGreat.Pe
namespace Go.Proofs.YtainfdcfkgemhaaGreat.Pe
open Go Go.Proofs Go.Sx Nw
set_option linter.unusedVariables false
theorem mq {s:ByteArray} {a b c:Nat} (h1:a<=b) (h2:b<=c):s.extract a b++s.extract b c=s.extract a c:=by
 rw [<- f9,dC,ga,ga,ga]
 rw [show (L s).drop b=((L s).drop a).drop (b - a) by rw [List.drop_drop];congr 1;omega]
 rw [show c - a=(b - a)+(c - b) by omega,List.take_add]
def rR (s:ByteArray):Bool:=lS (bU s) (bp s 4) (bq s 4) (wI (aa s 5)) (wI (aa s 6)) (wI (aa s 7)) (bp s 8) (bq s 8) (wI (aa s 9))==s
def dj (s:ByteArray):Int:=bif cq s 10 != 0 then cq s 10 else bif rR s then 0 else 3
def PE (s:ByteArray):Bool:=comT (wI (aa s 0))==s
def n6 (s:ByteArray):Int:=bif cq s 4 != 0 then cq s 4 else bif PE s then 0 else 3
theorem lK {s:ByteArray} {i:Nat} (h:i+1<=s.size):be 1 (aa s (i:Int))=s.extract i (i+1):=by
 have h2:∃ x r,(L s).drop i=x::r:=by
  have:1<=((L s).drop i).length:=by rw [List.length_drop,fw];omega
  match hq:(L s).drop i,this with
  | x::r,_=>exact ⟨x,r,rfl⟩
 obtain ⟨x,r,h2⟩:=h2
 have hx:aa s (i:Int)=(x.toNat:Int):=by
  rw [ek,show (L s)[i]?=((L s).drop i)[0]? by rw [List.getElem?_drop];rfl,h2]
  rfl
 have:=dM x
 rw [<- f9,ga,h2,qj9,hx,tM x _ (by omega),show i+1 - i=1 by omega]
 rfl
theorem gF (s:ByteArray) (i:Nat):wI (aa s (i:Int))=aa s (i:Int):=by
 have:=dV s i
 exact aC (by omega)
theorem si (s:ByteArray) (i:Nat):bp s (i:Int)=aa s (i:Int) % 16:=by
 have:=dV s i
 unfold bp
 rw [Int.tmod_eq_emod_of_nonneg this.1,aC (by omega)]
theorem sN (s:ByteArray) (i:Nat):bq s (i:Int)=aa s (i:Int) / 16:=by
 have:=dV s i
 have e:∀ j:Int,IntKind.u8.wrap j=j % 256:=fun j=>by rw [<- cE true];rfl
 unfold bq
 rw [Int.tdiv_eq_ediv_of_nonneg this.1,e,aC (by omega)]
 omega
theorem Bf (s:ByteArray) (i:Nat):cZ (bp s (i:Int)) (bq s (i:Int))=aa s (i:Int):=by
 have:=dV s i
 rw [si,sN]
 unfold cZ
 rw [aC (n:=16*(aa s (i:Int) / 16)) (by omega),aC (by omega)]
 omega
theorem O8 {s:ByteArray} (h:4<=s.size):be 4 (bU s)=s.extract 0 4:=by
 have hn:=Mx (s:=s) (i:=0) (by omega)
 have r0:=dV s 0
 have r1:=dV s 1
 have r2:=dV s 2
 have r3:=dV s 3
 rw [show (0+4:Nat)=4 from rfl,show (0+1:Nat)=1 from rfl,show (0+2:Nat)=2 from rfl,show (0+3:Nat)=3 from rfl] at hn
 unfold bU
 rw [aC (by rw [hn];omega)]
 exact qhK (by rw [ByteArray.size_extract];omega) _ (by rw [hn];omega)
theorem Ps {s:ByteArray} {n:Nat} (h:cq s (n:Int)=0):di (s.extract 0 n)=s:=by
 unfold cq at h
 split at h
 ·cases h
 ·split at h
  ·cases h
  ·split at h
   ·rename_i hb
    rw [Int.toNat_natCast] at hb
    exact (ji _ _).1 hb
   ·cases h
theorem MB {s:ByteArray} (h:0<s.size):((⟨#[]⟩:ByteArray)==s)=false:=by
 rw [<- Bool.not_eq_true,ji]
 rintro rfl
 exact absurd h (Nat.lt_irrefl 0)
theorem S1 {s:ByteArray} (h:cq s 6=0):oO s=gE (bU s) (bp s 4) (bq s 4) (wI (aa s 5)):=by
 have hs:=qu h
 have hb:df (bU s) (bp s 4) (bq s 4) (wI (aa s 5))=s:=by
  unfold df
  have t4:=Bf s 4
  have b4:=lK (s:=s) (i:=4) (by omega)
  have b5:=lK (s:=s) (i:=5) (by omega)
  have w5:=gF s 5
  rw [show ((4:Nat):Int)=4 from rfl] at t4 b4
  rw [show ((5:Nat):Int)=5 from rfl] at b5 w5
  rw [O8 (by omega),t4,b4,w5,b5,mq (by omega) (by omega),mq (by omega) (by omega)]
  exact Ps (n:=6) h
 unfold oO js
 cases gE (bU s) (bp s 4) (bq s 4) (wI (aa s 5)) with
 | false=>exact MB (by omega)
 | true=>exact (ji _ _).2 hb
theorem Z9 {s:ByteArray} (h:cq s 10=0):rR s=fc (bU s) (bp s 4) (bq s 4) (wI (aa s 5)) (wI (aa s 6)) (wI (aa s 7)) (bp s 8) (bq s 8) (wI (aa s 9)):=by
 have hs:=qu h
 have hb:dF (bU s) (bp s 4) (bq s 4) (wI (aa s 5)) (wI (aa s 6)) (wI (aa s 7)) (bp s 8) (bq s 8) (wI (aa s 9))=s:=by
  unfold dF
  have t4:=Bf s 4
  have t8:=Bf s 8
  have b4:=lK (s:=s) (i:=4) (by omega)
  have b5:=lK (s:=s) (i:=5) (by omega)
  have b6:=lK (s:=s) (i:=6) (by omega)
  have b7:=lK (s:=s) (i:=7) (by omega)
  have b8:=lK (s:=s) (i:=8) (by omega)
  have b9:=lK (s:=s) (i:=9) (by omega)
  have w5:=gF s 5
  have w6:=gF s 6
  have w7:=gF s 7
  have w9:=gF s 9
  rw [show ((4:Nat):Int)=4 from rfl] at t4 b4
  rw [show ((5:Nat):Int)=5 from rfl] at b5 w5
  rw [show ((6:Nat):Int)=6 from rfl] at b6 w6
  rw [show ((7:Nat):Int)=7 from rfl] at b7 w7
  rw [show ((8:Nat):Int)=8 from rfl] at b8 t8
  rw [show ((9:Nat):Int)=9 from rfl] at b9 w9
  rw [O8 (by omega),t4,t8,b4,w5,b5,w6,b6,w7,b7,b8,w9,b9,mq (by omega) (by omega),mq (by omega) (by omega),mq (by omega) (by omega),mq (by omega) (by omega),mq (by omega) (by omega),mq (by omega) (by omega)]
  exact Ps (n:=10) h
 unfold rR lS
 cases fc (bU s) (bp s 4) (bq s 4) (wI (aa s 5)) (wI (aa s 6)) (wI (aa s 7)) (bp s 8) (bq s 8) (wI (aa s 9)) with
 | false=>exact MB (by omega)
 | true=>exact (ji _ _).2 hb
def ΓT1:Orc:=ΓRa
theorem OkT1:ΓT1.Ok prog:=qjh
def ΓT2:Orc:=ΓT1
theorem OkT2:ΓT2.Ok prog:=OkT1
def ΓT3:Orc:=ΓT2
theorem OkT3:ΓT3.Ok prog:=OkT2
theorem Xg (s:ByteArray):runG ΓT3 L0 prog f141 [.v (S s)] M0 =
 (bif true&&s.size.ble (1000000) then (bif cq s (4:Int) != (0:Int) then some (.v (.tuple #[(I 0),(I (cq s (4:Int)))]),M0) else (bif true&&decide ((0:Int)<↑s.size) then (bif !(comT (wI (aa s (0:Int)))).toList==s.toList then some (.v (.tuple #[(I 0),(I 3)]),M0) else some (.v (.tuple #[(I (wI (aa s (0:Int)))),(I 0)]),M0)) else none)) else none):=by kernel_rfl
def yg (vs:List Value):Option (Bool×Value) :=
 match vs with
 | [.string s]=>some (Nat.ble s.size 1000000,.tuple #[I (bn (n6 s==0) (wI (aa s 0))),I (n6 s)])
 | _=>none
theorem N8:am 141 yg:=by
 intro vs r h
 unfold yg at h
 split at h
 ·rename_i s
  obtain ⟨h1,rfl⟩:=ab h
  refine ak (vs:=[S s]) (Λ:=L0) (m':=M0) OkT3 func141 rfl (fun z _ _=>bV _ z) ?_
  exact (Xg s).trans (by
   rw [h1]
   unfold n6
   rcases zi s 4 with he|he|he|he
   ·rw [he];rfl
   ·rw [he];rfl
   ·rw [he];rfl
   ·have hs:=qu he
    rw [he,decide_eq_true (show (0:Int)<(s.size:Int) by omega)]
    unfold PE
    rw [<- oq]
    cases (comT (wI (aa s 0))).toList==s.toList<;>rfl)
 ·cases h
def ΓT4:Orc:=ah 141 yg ΓT3
theorem OkT4:ΓT4.Ok prog:=ac OkT3 N8
def ΓT5:Orc:=ΓT4
theorem OkT5:ΓT5.Ok prog:=OkT4
def ΓTa:Orc:=ΓT5
theorem qi5:ΓTa.Ok prog:=OkT5
end Go.Proofs.YtainfdcfkgemhaaGreat.Pe
namespace Go.Proofs.YtainfdcfkgemhaaGreat.So
open Go Go.Proofs Go.Sx
set_option linter.unusedVariables false
def SU (f:FuncId):Bool:=Nat.beq f 175||Nat.beq f 176||Nat.beq f 217||Nat.beq f 137||false||Nat.beq f 206||Nat.beq f 273||false||Nat.beq f 193||Nat.beq f 60||sh f
def Γs0:Orc:={ ah 185 yq ΓTl0 with wr:=SU,sb:=true,bs:=true,av:=true }
theorem QB:Γs0.Ok prog:=⟨(ac Iz yp).call,(ac Iz yp).rd,(ac Iz yp).eqv⟩
def dN (n m:Int):Bool:=bif decide (n<wI (0 - m)) then true else decide (n>m)
theorem Wm (n:Int) (m:Int):runG Γs0 L0 prog f326 [.v (I n),.v (I m)] M0 =
 (bif decide (n<wI ((0:Int) - m)) then some (.v (Bo true),M0) else some (.v (Bo (decide (n>m))),M0)):=by kernel_rfl
def Eh (vs:List Value):Option (Bool×Value) :=
 match vs with
 | [.int .i64 n,.int .i64 m]=>some (true,Bo (dN n m))
 | _=>none
theorem qdX:am 326 Eh:=by
 intro vs r h
 unfold Eh at h
 split at h
 ·rename_i n m
  obtain ⟨h1,rfl⟩:=ab h
  refine ak (vs:=[I n,I m]) (Λ:=L0) (m':=M0) QB func326 rfl ai ?_
  exact (Wm n m).trans (by unfold dN;cases decide (n<wI (0 - m))<;>rfl)
 ·cases h
def Γs1:Orc:=ah 326 Eh Γs0
theorem QA:Γs1.Ok prog:=ac QB qdX
theorem V0 (p:Int) (q:Int) (x:Int) (y:Int) (z:Int) (vx:Int) (vy:Int) (vz:Int):runG Γs1 L0 prog f327 [.v (.agg #[I p,I q,I x,I y,I z,I vx,I vy,I vz])] M0 =
 some (.v (.agg #[(I vx),(I vy),(I vz)]),M0):=by kernel_rfl
def DZ (vs:List Value):Option (Bool×Value) :=
 match vs with
 | [.agg ⟨[.int .i64 p,.int .i64 q,.int .i64 x,.int .i64 y,.int .i64 z,.int .i64 vx,.int .i64 vy,.int .i64 vz]⟩]=>some (true,.agg #[I vx,I vy,I vz])
 | _=>none
theorem qdH:am 327 DZ:=by
 intro vs r h
 unfold DZ at h
 split at h
 ·rename_i p q x y z vx vy vz
  obtain ⟨h1,rfl⟩:=ab h
  refine ak (vs:=[.agg #[I p,I q,I x,I y,I z,I vx,I vy,I vz]]) (Λ:=L0) (m':=M0) QA func327 rfl ai ?_
  exact (V0 p q x y z vx vy vz).trans (rfl)
 ·cases h
def Γs2:Orc:=ah 327 DZ Γs1
theorem Qx:Γs2.Ok prog:=ac QA qdH
def fk (x y z vx vy vz:Int):Bool:=dN x 1073741824||(dN y 1073741824||(dN z 1073741824||(dN vx 65536||(dN vy 65536||dN vz 65536))))
theorem Wf (p:Int) (q:Int) (x:Int) (y:Int) (z:Int) (vx:Int) (vy:Int) (vz:Int):runG Γs2 L0 prog f274 [.v (.agg #[I p,I q,I x,I y,I z,I vx,I vy,I vz])] M0 =
 (bif dN x (1073741824:Int) then some (.v (Bo true),M0) else (bif dN y (1073741824:Int) then some (.v (Bo true),M0) else (bif dN z (1073741824:Int) then some (.v (Bo true),M0) else (bif dN vx (65536:Int) then some (.v (Bo true),M0) else (bif dN vy (65536:Int) then some (.v (Bo true),M0) else (bif dN vz (65536:Int) then some (.v (Bo true),M0) else some (.v (Bo false),M0))))))):=by kernel_rfl
def Eb (vs:List Value):Option (Bool×Value) :=
 match vs with
 | [.agg ⟨[.int .i64 p,.int .i64 q,.int .i64 x,.int .i64 y,.int .i64 z,.int .i64 vx,.int .i64 vy,.int .i64 vz]⟩]=>some (true,Bo (fk x y z vx vy vz))
 | _=>none
theorem qdS:am 274 Eb:=by
 intro vs r h
 unfold Eb at h
 split at h
 ·rename_i p q x y z vx vy vz
  obtain ⟨h1,rfl⟩:=ab h
  refine ak (vs:=[.agg #[I p,I q,I x,I y,I z,I vx,I vy,I vz]]) (Λ:=L0) (m':=M0) Qx func274 rfl ai ?_
  exact (Wf p q x y z vx vy vz).trans (by unfold fk;cases dN x 1073741824<;>cases dN y 1073741824<;>cases dN z 1073741824<;>cases dN vx 65536<;>cases dN vy 65536<;>cases dN vz 65536<;>rfl)
 ·cases h
def Γs3:Orc:=ah 274 Eb Γs2
theorem Qw:Γs3.Ok prog:=ac Qx qdS
def iM (a b P:Int):Bool:=decide (a - b>P)||decide (b - a>P)
def aB (a:Int):Bool:=decide (-9223372036854775808<=a/\a<9223372036854775808)
theorem V5 (a:Int) (b:Int) (s:Int) (c:Int):runG Γs3 L0 prog f328 [.v (I a),.v (I b),.v (I s),.v (I c)] M0 =
 (bif c6 (IntKind.u64.wrap s)&&c6 (IntKind.u64.wrap c) then (bif IntKind.u64.wrap s*IntKind.u64.wrap c / (18446744073709551616:Int)==(0:Int) then some (.v (Bo (decide (IntKind.u64.wrap (IntKind.u64.wrap (if b>a then b else a) - IntKind.u64.wrap (if b<a then b else a))>IntKind.u64.wrap s*IntKind.u64.wrap c % (18446744073709551616:Int)))),M0) else some (.v (Bo false),M0)) else none):=by kernel_rfl
def D2 (vs:List Value):Option (Bool×Value) :=
 match vs with
 | [.int .i64 a,.int .i64 b,.int .i64 s,.int .i64 c]=>some (aB a&&(aB b&&(decide (0<=s/\s<9223372036854775808)&&decide (0<=c/\c<9223372036854775808))),Bo (iM a b (s*c)))
 | _=>none
theorem qdK:am 328 D2:=by
 intro vs r h
 unfold D2 at h
 split at h
 ·rename_i a b s c
  obtain ⟨h1,rfl⟩:=ab h
  refine ak (vs:=[I a,I b,I s,I c]) (Λ:=L0) (m':=M0) Qw func328 rfl ai ?_
  exact (V5 a b s c).trans (by
   simp only [Bool.and_eq_true,decide_eq_true_eq,aB] at h1
   obtain ⟨h1,h2,h3,h4⟩:=h1
   rw [ka (n:=s) (by omega),ka (n:=c) (by omega),jO.2 (by omega),jO.2 (by omega)]
   have hp:0<=s*c:=Int.mul_nonneg h3.1 h4.1
   generalize s*c=P at *
   have hd:IntKind.u64.wrap (IntKind.u64.wrap (if b>a then b else a) - IntKind.u64.wrap (if b<a then b else a))=(if b>a then b - a else a - b):=by
    rw [wrU,wrU,wrU]
    split<;>split<;>omega
   rw [hd]
   unfold iM
   by_cases h:P / 18446744073709551616=0
   ·rw [h]
    have e:(decide ((if b>a then b - a else a - b)>P % 18446744073709551616))=(decide (a - b>P)||decide (b - a>P)):=by
     rw [<- Bool.decide_or,decide_eq_decide]
     split<;>omega
    show some (SV.v (Bo (decide _)),M0)=_
    rw [e]
   ·rw [beq_eq_false_iff_ne.2 h,decide_eq_false (show ¬ a - b>P by omega),decide_eq_false (show ¬ b - a>P by omega)]
    rfl)
 ·cases h
def Γs4:Orc:=ah 328 D2 Γs3
theorem Qu:Γs4.Ok prog:=ac Qw qdK
def eO (vx vy vz l6 l7 l8 P:Int):Bool:=iM vx l6 P||(iM vy l7 P||iM vz l8 P)
theorem V7 (p:Int) (q:Int) (x:Int) (y:Int) (z:Int) (vx:Int) (vy:Int) (vz:Int) (s:Int) (ma:Int) (l1:Int) (l2:Int) (l3:Int) (l4:Int) (l5:Int) (l6:Int) (l7:Int) (l8:Int) (hs:Bool) (ct:Int) (t:Int):runG Γs4 L0 prog f275 [.ptr 0 0,.v (.agg #[I p,I q,I x,I y,I z,I vx,I vy,I vz])] ⟨[[.v (I s),.v (I ma),.ptr 1 0,.v (I l1),.v (I l2),.v (I l3),.v (I l4),.v (I l5),.v (I l6),.v (I l7),.v (I l8),.v (Bo hs)],[.v (I ct),.v (I t)]],[true,true],[]⟩ =
 (bif aB vx&&(aB l6&&(decide ((0:Int)<=s/\s<(9223372036854775808:Int))&&decide ((0:Int)<=wI (t+(1:Int))/\wI (t+(1:Int))<(9223372036854775808:Int)))) then (bif iM vx l6 (s*wI (t+(1:Int))) then some (.v (Bo true),⟨[[.v (I s),.v (I ma),.ptr 1 0,.v (I l1),.v (I l2),.v (I l3),.v (I l4),.v (I l5),.v (I l6),.v (I l7),.v (I l8),.v (Bo hs)],[.v (I ct),.v (I t)]],[true,true],[]⟩) else (bif aB vy&&(aB l7&&(decide ((0:Int)<=s/\s<(9223372036854775808:Int))&&decide ((0:Int)<=wI (t+(1:Int))/\wI (t+(1:Int))<(9223372036854775808:Int)))) then (bif iM vy l7 (s*wI (t+(1:Int))) then some (.v (Bo true),⟨[[.v (I s),.v (I ma),.ptr 1 0,.v (I l1),.v (I l2),.v (I l3),.v (I l4),.v (I l5),.v (I l6),.v (I l7),.v (I l8),.v (Bo hs)],[.v (I ct),.v (I t)]],[true,true],[]⟩) else (bif aB vz&&(aB l8&&(decide ((0:Int)<=s/\s<(9223372036854775808:Int))&&decide ((0:Int)<=wI (t+(1:Int))/\wI (t+(1:Int))<(9223372036854775808:Int)))) then (bif iM vz l8 (s*wI (t+(1:Int))) then some (.v (Bo true),⟨[[.v (I s),.v (I ma),.ptr 1 0,.v (I l1),.v (I l2),.v (I l3),.v (I l4),.v (I l5),.v (I l6),.v (I l7),.v (I l8),.v (Bo hs)],[.v (I ct),.v (I t)]],[true,true],[]⟩) else some (.v (Bo false),⟨[[.v (I s),.v (I ma),.ptr 1 0,.v (I l1),.v (I l2),.v (I l3),.v (I l4),.v (I l5),.v (I l6),.v (I l7),.v (I l8),.v (Bo hs)],[.v (I ct),.v (I t)]],[true,true],[]⟩)) else none)) else none)) else none):=by kernel_rfl
def D5 (xs:List SV) (m:Mem):Option (Bool×Value) :=
 match xs,m with
 | [.ptr 0 0,.v (.agg ⟨[.int .i64 p,.int .i64 q,.int .i64 x,.int .i64 y,.int .i64 z,.int .i64 vx,.int .i64 vy,.int .i64 vz]⟩)],⟨[[.v (.int .i64 s),.v (.int .i64 ma),.ptr 1 0,.v (.int .i64 l1),.v (.int .i64 l2),.v (.int .i64 l3),.v (.int .i64 l4),.v (.int .i64 l5),.v (.int .i64 l6),.v (.int .i64 l7),.v (.int .i64 l8),.v (.bool hs)],[.v (.int .i64 ct),.v (.int .i64 t)]],[true,true],[]⟩=>some ((aB vx&&(aB vy&&(aB vz&&(aB l6&&(aB l7&&(aB l8&&(decide (0<=s/\s<9223372036854775808)&&decide (0<=t/\t<=1000000)))))))),Bo (eO vx vy vz l6 l7 l8 (s*(t+1))))
 | _,_=>none
theorem qdM:bi 275 D5:=by
 intro xs m r h
 unfold D5 at h
 split at h
 ·rename_i p q x y z vx vy vz s ma l1 l2 l3 l4 l5 l6 l7 l8 hs ct t
  obtain ⟨h1,rfl⟩:=ab h
  refine af (Λ:=L0) Qu func275 rfl ai ?_
  refine (V7 p q x y z vx vy vz s ma l1 l2 l3 l4 l5 l6 l7 l8 hs ct t).trans ?_
  simp only [Bool.and_eq_true] at h1
  obtain ⟨h1,h2,h3,h4,h5,h6,h7,h8⟩:=h1
  have h9:=of_decide_eq_true h8
  rw [aC (n:=t+1) (by omega),h1,h2,h3,h4,h5,h6,h7,decide_eq_true (show 0<=t+1/\t+1<9223372036854775808 by omega)]
  unfold eO
  cases iM vx l6 (s*(t+1))<;>cases iM vy l7 (s*(t+1))<;>cases iM vz l8 (s*(t+1))<;>rfl
 ·cases h
def Γs5:Orc:=aQ 275 D5 Γs4
theorem Qt:Γs5.Ok prog:=aJ Qu qdM
def tg (st fl fr jm:Bool):Int:=(bif st then 2 else 0)+((bif fl then 4 else 0)+((bif fr then 8 else 0)+(bif jm then 16 else 0)))
def BI (q:Int) (x:Int) (y:Int) (z:Int) (vx:Int) (vy:Int) (vz:Int) (s:Int) (ma:Int) (l1:Int) (l2:Int) (l3:Int) (l4:Int) (l5:Int) (l6:Int) (l7:Int) (l8:Int) (hs:Bool) (ct:Int) (t:Int):Option (SV×Mem):=bif q != (0:Int) then (bif fk x y z vx vy vz then (bif hs then (bif aB vx&&(aB vy&&(aB vz&&(aB l6&&(aB l7&&(aB l8&&(decide ((0:Int)<=s/\s<(9223372036854775808:Int))&&decide ((0:Int)<=t/\t<=(1000000:Int)))))))) then (bif eO vx vy vz l6 l7 l8 (s*(t+(1:Int))) then some (.v (I 28),⟨[[.v (I s),.v (I ma),.ptr 1 0,.v (I l1),.v (I l2),.v (I l3),.v (I l4),.v (I l5),.v (I l6),.v (I l7),.v (I l8),.v (Bo hs)],[.v (I ct),.v (I t)]],[true,true],[]⟩) else some (.v (I 12),⟨[[.v (I s),.v (I ma),.ptr 1 0,.v (I l1),.v (I l2),.v (I l3),.v (I l4),.v (I l5),.v (I l6),.v (I l7),.v (I l8),.v (Bo hs)],[.v (I ct),.v (I t)]],[true,true],[]⟩)) else none) else some (.v (I 12),⟨[[.v (I s),.v (I ma),.ptr 1 0,.v (I l1),.v (I l2),.v (I l3),.v (I l4),.v (I l5),.v (I l6),.v (I l7),.v (I l8),.v (Bo hs)],[.v (I ct),.v (I t)]],[true,true],[]⟩)) else (bif hs then (bif aB vx&&(aB vy&&(aB vz&&(aB l6&&(aB l7&&(aB l8&&(decide ((0:Int)<=s/\s<(9223372036854775808:Int))&&decide ((0:Int)<=t/\t<=(1000000:Int)))))))) then (bif eO vx vy vz l6 l7 l8 (s*(t+(1:Int))) then some (.v (I 20),⟨[[.v (I s),.v (I ma),.ptr 1 0,.v (I l1),.v (I l2),.v (I l3),.v (I l4),.v (I l5),.v (I l6),.v (I l7),.v (I l8),.v (Bo hs)],[.v (I ct),.v (I t)]],[true,true],[]⟩) else some (.v (I 4),⟨[[.v (I s),.v (I ma),.ptr 1 0,.v (I l1),.v (I l2),.v (I l3),.v (I l4),.v (I l5),.v (I l6),.v (I l7),.v (I l8),.v (Bo hs)],[.v (I ct),.v (I t)]],[true,true],[]⟩)) else none) else some (.v (I 4),⟨[[.v (I s),.v (I ma),.ptr 1 0,.v (I l1),.v (I l2),.v (I l3),.v (I l4),.v (I l5),.v (I l6),.v (I l7),.v (I l8),.v (Bo hs)],[.v (I ct),.v (I t)]],[true,true],[]⟩))) else (bif fk x y z vx vy vz then (bif hs then (bif aB vx&&(aB vy&&(aB vz&&(aB l6&&(aB l7&&(aB l8&&(decide ((0:Int)<=s/\s<(9223372036854775808:Int))&&decide ((0:Int)<=t/\t<=(1000000:Int)))))))) then (bif eO vx vy vz l6 l7 l8 (s*(t+(1:Int))) then some (.v (I 24),⟨[[.v (I s),.v (I ma),.ptr 1 0,.v (I l1),.v (I l2),.v (I l3),.v (I l4),.v (I l5),.v (I l6),.v (I l7),.v (I l8),.v (Bo hs)],[.v (I ct),.v (I t)]],[true,true],[]⟩) else some (.v (I 8),⟨[[.v (I s),.v (I ma),.ptr 1 0,.v (I l1),.v (I l2),.v (I l3),.v (I l4),.v (I l5),.v (I l6),.v (I l7),.v (I l8),.v (Bo hs)],[.v (I ct),.v (I t)]],[true,true],[]⟩)) else none) else some (.v (I 8),⟨[[.v (I s),.v (I ma),.ptr 1 0,.v (I l1),.v (I l2),.v (I l3),.v (I l4),.v (I l5),.v (I l6),.v (I l7),.v (I l8),.v (Bo hs)],[.v (I ct),.v (I t)]],[true,true],[]⟩)) else (bif hs then (bif aB vx&&(aB vy&&(aB vz&&(aB l6&&(aB l7&&(aB l8&&(decide ((0:Int)<=s/\s<(9223372036854775808:Int))&&decide ((0:Int)<=t/\t<=(1000000:Int)))))))) then (bif eO vx vy vz l6 l7 l8 (s*(t+(1:Int))) then some (.v (I 16),⟨[[.v (I s),.v (I ma),.ptr 1 0,.v (I l1),.v (I l2),.v (I l3),.v (I l4),.v (I l5),.v (I l6),.v (I l7),.v (I l8),.v (Bo hs)],[.v (I ct),.v (I t)]],[true,true],[]⟩) else some (.v (I 0),⟨[[.v (I s),.v (I ma),.ptr 1 0,.v (I l1),.v (I l2),.v (I l3),.v (I l4),.v (I l5),.v (I l6),.v (I l7),.v (I l8),.v (Bo hs)],[.v (I ct),.v (I t)]],[true,true],[]⟩)) else none) else some (.v (I 0),⟨[[.v (I s),.v (I ma),.ptr 1 0,.v (I l1),.v (I l2),.v (I l3),.v (I l4),.v (I l5),.v (I l6),.v (I l7),.v (I l8),.v (Bo hs)],[.v (I ct),.v (I t)]],[true,true],[]⟩)))
theorem Wc (p:Int) (q:Int) (x:Int) (y:Int) (z:Int) (vx:Int) (vy:Int) (vz:Int) (s:Int) (ma:Int) (l1:Int) (l2:Int) (l3:Int) (l4:Int) (l5:Int) (l6:Int) (l7:Int) (l8:Int) (hs:Bool) (ct:Int) (t:Int):runG Γs5 L0 prog f207 [.ptr 0 0,.v (.agg #[I p,I q,I x,I y,I z,I vx,I vy,I vz])] ⟨[[.v (I s),.v (I ma),.ptr 1 0,.v (I l1),.v (I l2),.v (I l3),.v (I l4),.v (I l5),.v (I l6),.v (I l7),.v (I l8),.v (Bo hs)],[.v (I ct),.v (I t)]],[true,true],[]⟩ =
 (bif hs then (bif p==l1 then (bif q != (0:Int) then (bif fk x y z vx vy vz then (bif hs then (bif aB vx&&(aB vy&&(aB vz&&(aB l6&&(aB l7&&(aB l8&&(decide ((0:Int)<=s/\s<(9223372036854775808:Int))&&decide ((0:Int)<=t/\t<=(1000000:Int)))))))) then (bif eO vx vy vz l6 l7 l8 (s*(t+(1:Int))) then some (.v (I 30),⟨[[.v (I s),.v (I ma),.ptr 1 0,.v (I l1),.v (I l2),.v (I l3),.v (I l4),.v (I l5),.v (I l6),.v (I l7),.v (I l8),.v (Bo hs)],[.v (I ct),.v (I t)]],[true,true],[]⟩) else some (.v (I 14),⟨[[.v (I s),.v (I ma),.ptr 1 0,.v (I l1),.v (I l2),.v (I l3),.v (I l4),.v (I l5),.v (I l6),.v (I l7),.v (I l8),.v (Bo hs)],[.v (I ct),.v (I t)]],[true,true],[]⟩)) else none) else some (.v (I 14),⟨[[.v (I s),.v (I ma),.ptr 1 0,.v (I l1),.v (I l2),.v (I l3),.v (I l4),.v (I l5),.v (I l6),.v (I l7),.v (I l8),.v (Bo hs)],[.v (I ct),.v (I t)]],[true,true],[]⟩)) else (bif hs then (bif aB vx&&(aB vy&&(aB vz&&(aB l6&&(aB l7&&(aB l8&&(decide ((0:Int)<=s/\s<(9223372036854775808:Int))&&decide ((0:Int)<=t/\t<=(1000000:Int)))))))) then (bif eO vx vy vz l6 l7 l8 (s*(t+(1:Int))) then some (.v (I 22),⟨[[.v (I s),.v (I ma),.ptr 1 0,.v (I l1),.v (I l2),.v (I l3),.v (I l4),.v (I l5),.v (I l6),.v (I l7),.v (I l8),.v (Bo hs)],[.v (I ct),.v (I t)]],[true,true],[]⟩) else some (.v (I 6),⟨[[.v (I s),.v (I ma),.ptr 1 0,.v (I l1),.v (I l2),.v (I l3),.v (I l4),.v (I l5),.v (I l6),.v (I l7),.v (I l8),.v (Bo hs)],[.v (I ct),.v (I t)]],[true,true],[]⟩)) else none) else some (.v (I 6),⟨[[.v (I s),.v (I ma),.ptr 1 0,.v (I l1),.v (I l2),.v (I l3),.v (I l4),.v (I l5),.v (I l6),.v (I l7),.v (I l8),.v (Bo hs)],[.v (I ct),.v (I t)]],[true,true],[]⟩))) else (bif fk x y z vx vy vz then (bif hs then (bif aB vx&&(aB vy&&(aB vz&&(aB l6&&(aB l7&&(aB l8&&(decide ((0:Int)<=s/\s<(9223372036854775808:Int))&&decide ((0:Int)<=t/\t<=(1000000:Int)))))))) then (bif eO vx vy vz l6 l7 l8 (s*(t+(1:Int))) then some (.v (I 26),⟨[[.v (I s),.v (I ma),.ptr 1 0,.v (I l1),.v (I l2),.v (I l3),.v (I l4),.v (I l5),.v (I l6),.v (I l7),.v (I l8),.v (Bo hs)],[.v (I ct),.v (I t)]],[true,true],[]⟩) else some (.v (I 10),⟨[[.v (I s),.v (I ma),.ptr 1 0,.v (I l1),.v (I l2),.v (I l3),.v (I l4),.v (I l5),.v (I l6),.v (I l7),.v (I l8),.v (Bo hs)],[.v (I ct),.v (I t)]],[true,true],[]⟩)) else none) else some (.v (I 10),⟨[[.v (I s),.v (I ma),.ptr 1 0,.v (I l1),.v (I l2),.v (I l3),.v (I l4),.v (I l5),.v (I l6),.v (I l7),.v (I l8),.v (Bo hs)],[.v (I ct),.v (I t)]],[true,true],[]⟩)) else (bif hs then (bif aB vx&&(aB vy&&(aB vz&&(aB l6&&(aB l7&&(aB l8&&(decide ((0:Int)<=s/\s<(9223372036854775808:Int))&&decide ((0:Int)<=t/\t<=(1000000:Int)))))))) then (bif eO vx vy vz l6 l7 l8 (s*(t+(1:Int))) then some (.v (I 18),⟨[[.v (I s),.v (I ma),.ptr 1 0,.v (I l1),.v (I l2),.v (I l3),.v (I l4),.v (I l5),.v (I l6),.v (I l7),.v (I l8),.v (Bo hs)],[.v (I ct),.v (I t)]],[true,true],[]⟩) else some (.v (I 2),⟨[[.v (I s),.v (I ma),.ptr 1 0,.v (I l1),.v (I l2),.v (I l3),.v (I l4),.v (I l5),.v (I l6),.v (I l7),.v (I l8),.v (Bo hs)],[.v (I ct),.v (I t)]],[true,true],[]⟩)) else none) else some (.v (I 2),⟨[[.v (I s),.v (I ma),.ptr 1 0,.v (I l1),.v (I l2),.v (I l3),.v (I l4),.v (I l5),.v (I l6),.v (I l7),.v (I l8),.v (Bo hs)],[.v (I ct),.v (I t)]],[true,true],[]⟩)))) else (BI q x y z vx vy vz s ma l1 l2 l3 l4 l5 l6 l7 l8 hs ct t)) else (BI q x y z vx vy vz s ma l1 l2 l3 l4 l5 l6 l7 l8 hs ct t)):=by kernel_rfl
def D9 (xs:List SV) (m:Mem):Option (Bool×Value) :=
 match xs,m with
 | [.ptr 0 0,.v (.agg ⟨[.int .i64 p,.int .i64 q,.int .i64 x,.int .i64 y,.int .i64 z,.int .i64 vx,.int .i64 vy,.int .i64 vz]⟩)],⟨[[.v (.int .i64 s),.v (.int .i64 ma),.ptr 1 0,.v (.int .i64 l1),.v (.int .i64 l2),.v (.int .i64 l3),.v (.int .i64 l4),.v (.int .i64 l5),.v (.int .i64 l6),.v (.int .i64 l7),.v (.int .i64 l8),.v (.bool hs)],[.v (.int .i64 ct),.v (.int .i64 t)]],[true,true],[]⟩=>some ((aB vx&&(aB vy&&(aB vz&&(aB l6&&(aB l7&&(aB l8&&(decide (0<=s/\s<9223372036854775808)&&decide (0<=t/\t<=1000000)))))))),I (tg (hs&&p==l1) (q != 0) (fk x y z vx vy vz) (hs&&eO vx vy vz l6 l7 l8 (s*(t+1)))))
 | _,_=>none
theorem qdQ:bi 207 D9:=by
 intro xs m r h
 unfold D9 at h
 split at h
 ·rename_i p q x y z vx vy vz s ma l1 l2 l3 l4 l5 l6 l7 l8 hs ct t
  obtain ⟨h1,rfl⟩:=ab h
  refine af (Λ:=L0) Qt func207 rfl ai ?_
  refine (Wc p q x y z vx vy vz s ma l1 l2 l3 l4 l5 l6 l7 l8 hs ct t).trans ?_
  unfold BI
  rw [h1]
  cases hs<;>cases p==l1<;>cases q != 0<;>cases fk x y z vx vy vz<;>cases eO vx vy vz l6 l7 l8 (s*(t+1))<;>rfl
 ·cases h
def Γs6:Orc:=aQ 207 D9 Γs5
theorem Qs:Γs6.Ok prog:=aJ Qt qdQ
def gN (b:Bool) (x:Int):Int:=bif b then 0 else x
def mh (b x:Bool):Bool:=bif b then false else x
theorem We (s:Int) (ma:Int) (l1:Int) (l2:Int) (l3:Int) (l4:Int) (l5:Int) (l6:Int) (l7:Int) (l8:Int) (hs:Bool) (ct:Int) (t:Int):runG Γs6 L0 prog f273 [.ptr 0 0] ⟨[[.v (I s),.v (I ma),.ptr 1 0,.v (I l1),.v (I l2),.v (I l3),.v (I l4),.v (I l5),.v (I l6),.v (I l7),.v (I l8),.v (Bo hs)],[.v (I ct),.v (I t)]],[true,true],[]⟩ =
 some (.v (.tuple #[]),⟨[[.v (I s),.v (I ma),.ptr 1 0,.v (I 0),.v (I 0),.v (I 0),.v (I 0),.v (I 0),.v (I 0),.v (I 0),.v (I 0),.v (Bo false)],[.v (I ct),.v (I t)]],[true,true],[]⟩):=by kernel_rfl
def Ea (xs:List SV) (m:Mem):Option (Bool×SV×Mem) :=
 match xs,m with
 | [.ptr 0 0],⟨[[.v (.int .i64 s),.v (.int .i64 ma),.ptr 1 0,.v (.int .i64 l1),.v (.int .i64 l2),.v (.int .i64 l3),.v (.int .i64 l4),.v (.int .i64 l5),.v (.int .i64 l6),.v (.int .i64 l7),.v (.int .i64 l8),.v (.bool hs)],[.v (.int .i64 ct),.v (.int .i64 t)]],[true,true],[]⟩=>some (true,.v (.tuple #[]),⟨[[.v (I s),.v (I ma),.ptr 1 0,.v (I 0),.v (I 0),.v (I 0),.v (I 0),.v (I 0),.v (I 0),.v (I 0),.v (I 0),.v (Bo false)],[.v (I ct),.v (I t)]],[true,true],[]⟩)
 | _,_=>none
theorem qdR:aM 273 Ea:=by
 intro xs m r m' h
 unfold Ea at h
 split at h
 ·rename_i s ma l1 l2 l3 l4 l5 l6 l7 l8 hs ct t
  obtain ⟨h1,rfl,rfl⟩:=an h
  refine af (Λ:=L0) Qs func273 rfl ai ?_
  refine (We s ma l1 l2 l3 l4 l5 l6 l7 l8 hs ct t).trans ?_
  rfl
 ·cases h
def Γs7:Orc:=aw 273 Ea Γs6
theorem Qr:Γs7.Ok prog:=aq Qs qdR
theorem Wb (s:Int) (ma:Int) (l1:Int) (l2:Int) (l3:Int) (l4:Int) (l5:Int) (l6:Int) (l7:Int) (l8:Int) (hs:Bool) (ct:Int) (t:Int):runG Γs7 L0 prog f206 [.ptr 0 0] ⟨[[.v (I s),.v (I ma),.ptr 1 0,.v (I l1),.v (I l2),.v (I l3),.v (I l4),.v (I l5),.v (I l6),.v (I l7),.v (I l8),.v (Bo hs)],[.v (I ct),.v (I t)]],[true,true],[]⟩ =
 (bif decide (ao ct t (1:Int)>ma) then some (.v (.tuple #[]),⟨[[.v (I s),.v (I ma),.ptr 1 0,.v (I 0),.v (I 0),.v (I 0),.v (I 0),.v (I 0),.v (I 0),.v (I 0),.v (I 0),.v (Bo false)],[.v (I ct),.v (I (ao ct t (1:Int)))]],[true,true],[]⟩) else some (.v (.tuple #[]),⟨[[.v (I s),.v (I ma),.ptr 1 0,.v (I l1),.v (I l2),.v (I l3),.v (I l4),.v (I l5),.v (I l6),.v (I l7),.v (I l8),.v (Bo hs)],[.v (I ct),.v (I (ao ct t (1:Int)))]],[true,true],[]⟩)):=by kernel_rfl
def D8 (xs:List SV) (m:Mem):Option (Bool×SV×Mem) :=
 match xs,m with
 | [.ptr 0 0],⟨[[.v (.int .i64 s),.v (.int .i64 ma),.ptr 1 0,.v (.int .i64 l1),.v (.int .i64 l2),.v (.int .i64 l3),.v (.int .i64 l4),.v (.int .i64 l5),.v (.int .i64 l6),.v (.int .i64 l7),.v (.int .i64 l8),.v (.bool hs)],[.v (.int .i64 ct),.v (.int .i64 t)]],[true,true],[]⟩=>some (true,.v (.tuple #[]),⟨[[.v (I s),.v (I ma),.ptr 1 0,.v (I (gN (decide (ao ct t 1>ma)) l1)),.v (I (gN (decide (ao ct t 1>ma)) l2)),.v (I (gN (decide (ao ct t 1>ma)) l3)),.v (I (gN (decide (ao ct t 1>ma)) l4)),.v (I (gN (decide (ao ct t 1>ma)) l5)),.v (I (gN (decide (ao ct t 1>ma)) l6)),.v (I (gN (decide (ao ct t 1>ma)) l7)),.v (I (gN (decide (ao ct t 1>ma)) l8)),.v (Bo (mh (decide (ao ct t 1>ma)) hs))],[.v (I ct),.v (I (ao ct t 1))]],[true,true],[]⟩)
 | _,_=>none
theorem qdP:aM 206 D8:=by
 intro xs m r m' h
 unfold D8 at h
 split at h
 ·rename_i s ma l1 l2 l3 l4 l5 l6 l7 l8 hs ct t
  obtain ⟨h1,rfl,rfl⟩:=an h
  refine af (Λ:=L0) Qr func206 rfl ai ?_
  refine (Wb s ma l1 l2 l3 l4 l5 l6 l7 l8 hs ct t).trans ?_
  unfold gN mh
  cases decide (ao ct t 1>ma)<;>rfl
 ·cases h
def Γs8:Orc:=aw 206 D8 Γs7
theorem qiv:Γs8.Ok prog:=aq Qr qdP
def Γs9:Orc:=Γs8
theorem qiu:Γs9.Ok prog:=qiv
def Γs10:Orc:=Γs9
theorem qix:Γs10.Ok prog:=qiu
def Γs11:Orc:=Γs10
theorem Qz:Γs11.Ok prog:=qix
def iq (L:List (List Dat)):Int:=((L.getD (wI ((L.length:Int) - 1)).toNat []).headD (.n 0)).toI
def ip (L:List (List Dat)):Int:=((L.getD (wI ((L.length:Int) - 1)).toNat []).tail.headD (.n 0)).toI
def gn (L:List (List Dat)):Int:=((L.getD (wI ((L.length:Int) - 1)).toNat []).tail.tail.headD (.n 0)).toI
def gm (L:List (List Dat)):Int:=((L.getD (wI ((L.length:Int) - 1)).toNat []).tail.tail.tail.headD (.n 0)).toI
def gl (L:List (List Dat)):Int:=((L.getD (wI ((L.length:Int) - 1)).toNat []).tail.tail.tail.tail.headD (.n 0)).toI
def dr (L:List (List Dat)):Int:=((L.getD (wI ((L.length:Int) - 1)).toNat []).tail.tail.tail.tail.tail.headD (.n 0)).toI
def dq (L:List (List Dat)):Int:=((L.getD (wI ((L.length:Int) - 1)).toNat []).tail.tail.tail.tail.tail.tail.headD (.n 0)).toI
def dp (L:List (List Dat)):Int:=((L.getD (wI ((L.length:Int) - 1)).toNat []).tail.tail.tail.tail.tail.tail.tail.headD (.n 0)).toI
abbrev kNv:List CK:=[.num .i64,.num .i64,.num .i64,.num .i64,.num .i64,.num .i64,.num .i64,.num .i64]
abbrev rN (L:List (List Dat)) (own mark:Bool):RowS:=.live ⟨56,kNv,L,own,mark⟩
theorem Wk (s:Int) (ma:Int) (l1:Int) (l2:Int) (l3:Int) (l4:Int) (l5:Int) (l6:Int) (l7:Int) (l8:Int) (hs:Bool) (ct:Int) (t:Int):runG Γs11 L0 prog f137 [.ptr 0 0,.v (.slice none 0 0)] ⟨[[.v (I s),.v (I ma),.ptr 1 0,.v (I l1),.v (I l2),.v (I l3),.v (I l4),.v (I l5),.v (I l6),.v (I l7),.v (I l8),.v (Bo hs)],[.v (I ct),.v (I t)]],[true,true],[]⟩ =
 some (.v (.tuple #[(.agg #[(I 0),(I 0),(I 0),(I 0),(I 0),(I 0),(I 0),(I 0)]),(I 1)]),⟨[[.v (I s),.v (I ma),.ptr 1 0,.v (I (gN (decide (ao ct t (1:Int)>ma)) l1)),.v (I (gN (decide (ao ct t (1:Int)>ma)) l2)),.v (I (gN (decide (ao ct t (1:Int)>ma)) l3)),.v (I (gN (decide (ao ct t (1:Int)>ma)) l4)),.v (I (gN (decide (ao ct t (1:Int)>ma)) l5)),.v (I (gN (decide (ao ct t (1:Int)>ma)) l6)),.v (I (gN (decide (ao ct t (1:Int)>ma)) l7)),.v (I (gN (decide (ao ct t (1:Int)>ma)) l8)),.v (Bo (mh (decide (ao ct t (1:Int)>ma)) hs))],[.v (I ct),.v (I (ao ct t (1:Int)))]],[true,true],[]⟩):=by kernel_rfl
def Ee (xs:List SV) (m:Mem):Option (Bool×SV×Mem) :=
 match xs,m with
 | [.ptr 0 0,.v (.slice none 0 0)],⟨[[.v (.int .i64 s),.v (.int .i64 ma),.ptr 1 0,.v (.int .i64 l1),.v (.int .i64 l2),.v (.int .i64 l3),.v (.int .i64 l4),.v (.int .i64 l5),.v (.int .i64 l6),.v (.int .i64 l7),.v (.int .i64 l8),.v (.bool hs)],[.v (.int .i64 ct),.v (.int .i64 t)]],[true,true],[]⟩=>some (true,.v (.tuple #[.agg #[I 0,I 0,I 0,I 0,I 0,I 0,I 0,I 0],I 1]),⟨[[.v (I s),.v (I ma),.ptr 1 0,.v (I (gN (decide (ao ct t 1>ma)) l1)),.v (I (gN (decide (ao ct t 1>ma)) l2)),.v (I (gN (decide (ao ct t 1>ma)) l3)),.v (I (gN (decide (ao ct t 1>ma)) l4)),.v (I (gN (decide (ao ct t 1>ma)) l5)),.v (I (gN (decide (ao ct t 1>ma)) l6)),.v (I (gN (decide (ao ct t 1>ma)) l7)),.v (I (gN (decide (ao ct t 1>ma)) l8)),.v (Bo (mh (decide (ao ct t 1>ma)) hs))],[.v (I ct),.v (I (ao ct t 1))]],[true,true],[]⟩)
 | _,_=>none
theorem qdV:aM 137 Ee:=by
 intro xs m r m' h
 unfold Ee at h
 split at h
 ·rename_i s ma l1 l2 l3 l4 l5 l6 l7 l8 hs ct t
  obtain ⟨h1,rfl,rfl⟩:=an h
  refine af (Λ:=L0) Qz func137 rfl ai ?_
  refine (Wk s ma l1 l2 l3 l4 l5 l6 l7 l8 hs ct t).trans ?_
  rfl
 ·cases h
def Γs12:Orc:=aw 137 Ee Γs11
theorem Qy:Γs12.Ok prog:=aq Qz qdV
def dG (L:List (List Dat)) (hs:Bool) (l1 l6 l7 l8 P:Int):Int:=bif (L.length:Int)==0 then 1 else tg (hs&&iq L==l1) (ip L != 0) (fk (gn L) (gm L) (gl L) (dr L) (dq L) (dp L)) (hs&&eO (dr L) (dq L) (dp L) l6 l7 l8 P)
def pk (b:Bool) (x y:Int):Int:=bif b then x else y
theorem Wj (s:Int) (ma:Int) (l1:Int) (l2:Int) (l3:Int) (l4:Int) (l5:Int) (l6:Int) (l7:Int) (l8:Int) (hs:Bool) (ct:Int) (t:Int) (L:List (List Dat)) (own:Bool) (mark:Bool):runG Γs12 L0 prog f137 [.ptr 0 0,.row 0] ⟨[[.v (I s),.v (I ma),.ptr 1 0,.v (I l1),.v (I l2),.v (I l3),.v (I l4),.v (I l5),.v (I l6),.v (I l7),.v (I l8),.v (Bo hs)],[.v (I ct),.v (I t)]],[true,true],[rN L own mark]⟩ =
 (bif (L.length:Int)==(0:Int) then some (.v (.tuple #[(.agg #[(I 0),(I 0),(I 0),(I 0),(I 0),(I 0),(I 0),(I 0)]),(I 1)]),⟨[[.v (I s),.v (I ma),.ptr 1 0,.v (I (gN (decide (ao ct t (1:Int)>ma)) l1)),.v (I (gN (decide (ao ct t (1:Int)>ma)) l2)),.v (I (gN (decide (ao ct t (1:Int)>ma)) l3)),.v (I (gN (decide (ao ct t (1:Int)>ma)) l4)),.v (I (gN (decide (ao ct t (1:Int)>ma)) l5)),.v (I (gN (decide (ao ct t (1:Int)>ma)) l6)),.v (I (gN (decide (ao ct t (1:Int)>ma)) l7)),.v (I (gN (decide (ao ct t (1:Int)>ma)) l8)),.v (Bo (mh (decide (ao ct t (1:Int)>ma)) hs))],[.v (I ct),.v (I (ao ct t (1:Int)))]],[true,true],[rN L own mark]⟩) else (bif decide ((0:Int)<=wI ((L.length:Int) - (1:Int)))&&decide (wI ((L.length:Int) - (1:Int))<(L.length:Int)) then (bif aB (dr L)&&(aB (dq L)&&(aB (dp L)&&(aB l6&&(aB l7&&(aB l8&&(decide ((0:Int)<=s/\s<(9223372036854775808:Int))&&decide ((0:Int)<=t/\t<=(1000000:Int)))))))) then (bif tg (hs&&(iq L)==l1) ((ip L) != (0:Int)) (fk (gn L) (gm L) (gl L) (dr L) (dq L) (dp L)) (hs&&eO (dr L) (dq L) (dp L) l6 l7 l8 (s*(t+(1:Int)))) != (0:Int) then some (.v (.tuple #[(.agg #[(I 0),(I 0),(I 0),(I 0),(I 0),(I 0),(I 0),(I 0)]),(I (tg (hs&&(iq L)==l1) ((ip L) != (0:Int)) (fk (gn L) (gm L) (gl L) (dr L) (dq L) (dp L)) (hs&&eO (dr L) (dq L) (dp L) l6 l7 l8 (s*(t+(1:Int))))))]),⟨[[.v (I s),.v (I ma),.ptr 1 0,.v (I (gN (decide (ao ct t (1:Int)>ma)) l1)),.v (I (gN (decide (ao ct t (1:Int)>ma)) l2)),.v (I (gN (decide (ao ct t (1:Int)>ma)) l3)),.v (I (gN (decide (ao ct t (1:Int)>ma)) l4)),.v (I (gN (decide (ao ct t (1:Int)>ma)) l5)),.v (I (gN (decide (ao ct t (1:Int)>ma)) l6)),.v (I (gN (decide (ao ct t (1:Int)>ma)) l7)),.v (I (gN (decide (ao ct t (1:Int)>ma)) l8)),.v (Bo (mh (decide (ao ct t (1:Int)>ma)) hs))],[.v (I ct),.v (I (ao ct t (1:Int)))]],[true,true],[rN L own mark]⟩) else some (.v (.tuple #[(.agg #[(I (iq L)),(I (ip L)),(I (gn L)),(I (gm L)),(I (gl L)),(I (dr L)),(I (dq L)),(I (dp L))]),(I 0)]),⟨[[.v (I s),.v (I ma),.ptr 1 0,.v (I (iq L)),.v (I (ip L)),.v (I (gn L)),.v (I (gm L)),.v (I (gl L)),.v (I (dr L)),.v (I (dq L)),.v (I (dp L)),.v (Bo true)],[.v (I ct),.v (I (aR (0:Int) ct))]],[true,true],[rN L own mark]⟩)) else none) else none)):=by kernel_rfl
def xZ (xs:List SV) (m:Mem):Option (Bool×SV×Mem) :=
 match xs,m with
 | [.ptr 0 0,.row 0],⟨[[.v (.int .i64 s),.v (.int .i64 ma),.ptr 1 0,.v (.int .i64 l1),.v (.int .i64 l2),.v (.int .i64 l3),.v (.int .i64 l4),.v (.int .i64 l5),.v (.int .i64 l6),.v (.int .i64 l7),.v (.int .i64 l8),.v (.bool hs)],[.v (.int .i64 ct),.v (.int .i64 t)]],[true,true],[.live ⟨56,[.num .i64,.num .i64,.num .i64,.num .i64,.num .i64,.num .i64,.num .i64,.num .i64],L,own,mark⟩]⟩=>some (Nat.ble L.length 1000000&&(aB (dr L)&&(aB (dq L)&&(aB (dp L)&&(aB l6&&(aB l7&&(aB l8&&(decide (0<=s/\s<9223372036854775808)&&decide (0<=t/\t<=1000000)))))))),.v (.tuple #[.agg #[I (pk (dG L hs l1 l6 l7 l8 (s*(t+1))==0) (iq L) 0),I (pk (dG L hs l1 l6 l7 l8 (s*(t+1))==0) (ip L) 0),I (pk (dG L hs l1 l6 l7 l8 (s*(t+1))==0) (gn L) 0),I (pk (dG L hs l1 l6 l7 l8 (s*(t+1))==0) (gm L) 0),I (pk (dG L hs l1 l6 l7 l8 (s*(t+1))==0) (gl L) 0),I (pk (dG L hs l1 l6 l7 l8 (s*(t+1))==0) (dr L) 0),I (pk (dG L hs l1 l6 l7 l8 (s*(t+1))==0) (dq L) 0),I (pk (dG L hs l1 l6 l7 l8 (s*(t+1))==0) (dp L) 0)],I (dG L hs l1 l6 l7 l8 (s*(t+1)))]),⟨[[.v (I s),.v (I ma),.ptr 1 0,.v (I (pk (dG L hs l1 l6 l7 l8 (s*(t+1))==0) (iq L) (gN (decide (ao ct t 1>ma)) l1))),.v (I (pk (dG L hs l1 l6 l7 l8 (s*(t+1))==0) (ip L) (gN (decide (ao ct t 1>ma)) l2))),.v (I (pk (dG L hs l1 l6 l7 l8 (s*(t+1))==0) (gn L) (gN (decide (ao ct t 1>ma)) l3))),.v (I (pk (dG L hs l1 l6 l7 l8 (s*(t+1))==0) (gm L) (gN (decide (ao ct t 1>ma)) l4))),.v (I (pk (dG L hs l1 l6 l7 l8 (s*(t+1))==0) (gl L) (gN (decide (ao ct t 1>ma)) l5))),.v (I (pk (dG L hs l1 l6 l7 l8 (s*(t+1))==0) (dr L) (gN (decide (ao ct t 1>ma)) l6))),.v (I (pk (dG L hs l1 l6 l7 l8 (s*(t+1))==0) (dq L) (gN (decide (ao ct t 1>ma)) l7))),.v (I (pk (dG L hs l1 l6 l7 l8 (s*(t+1))==0) (dp L) (gN (decide (ao ct t 1>ma)) l8))),.v (Bo (bif (dG L hs l1 l6 l7 l8 (s*(t+1))==0) then true else mh (decide (ao ct t 1>ma)) hs))],[.v (I ct),.v (I (pk (dG L hs l1 l6 l7 l8 (s*(t+1))==0) (aR 0 ct) (ao ct t 1)))]],[true,true],[rN L own mark]⟩)
 | _,_=>none
theorem xY:aM 137 xZ:=by
 intro xs m r m' h
 unfold xZ at h
 split at h
 ·rename_i s ma l1 l2 l3 l4 l5 l6 l7 l8 hs ct t L own mark
  obtain ⟨h1,rfl,rfl⟩:=an h
  refine af (Λ:=L0) Qy func137 rfl ai ?_
  refine (Wj s ma l1 l2 l3 l4 l5 l6 l7 l8 hs ct t L own mark).trans ?_
  rw [Bool.and_eq_true] at h1
  obtain ⟨h1,h2⟩:=h1
  have h3:=Nat.le_of_ble_eq_true h1
  rw [h2]
  unfold dG pk
  by_cases hl:(L.length:Int)=0
  ·rw [hl]
   rfl
  rw [beq_eq_false_iff_ne.2 hl,aC (n:=(L.length:Int) - 1) (by omega),decide_eq_true (show (0:Int)<=(L.length:Int) - 1 by omega),decide_eq_true (show (L.length:Int) - 1<(L.length:Int) by omega)]
  generalize tg (hs&&iq L==l1) (ip L != 0) (fk (gn L) (gm L) (gl L) (dr L) (dq L) (dp L)) (hs&&eO (dr L) (dq L) (dp L) l6 l7 l8 (s*(t+1)))=f
  simp only [cond_false,cond_true,Bool.and_self]
  by_cases hf:f=0
  ·subst hf;rfl
  ·rw [bne_iff_ne.2 hf,beq_eq_false_iff_ne.2 hf]
   rfl
 ·cases h
def Γs13:Orc:=aw 137 xZ Γs12
theorem qiw:Γs13.Ok prog:=aq Qy xY
theorem V4 (r1:Int) (r2:Int) (r3:Int) (r4:Int) (r5:Int) (r6:Int) (r7:Int) (r8:Int) (e1:TypeId) (k1:List CK) (L:List (List Dat)) (own:Bool) (mark:Bool):runG Γs13 L0 prog f193 [.ag [.row 0,.v (I r1),.v (I r2),.v (I r3),.v (I r4),.v (I r5),.v (I r6),.v (I r7),.v (I r8)]] ⟨[],[],[.live ⟨e1,k1,L,own,mark⟩]⟩ =
 (bif decide (r5<(1:Int)) then some (.v (Value.pointer none),⟨[],[],[.live ⟨e1,k1,L,own,mark⟩]⟩) else (bif decide (r6<(1:Int)) then some (.v (Value.pointer none),⟨[],[],[.live ⟨e1,k1,L,own,mark⟩]⟩) else some (.ptr 0 0,⟨[[.v (I r5),.v (I r6),.ptr 1 0,.v (I 0),.v (I 0),.v (I 0),.v (I 0),.v (I 0),.v (I 0),.v (I 0),.v (I 0),.v (Bo false)],[.v (I 1000000),.v (I 0)]],[true,true],[.live ⟨e1,k1,L,own,mark⟩]⟩))):=by kernel_rfl
def D1 (xs:List SV) (m:Mem):Option (Bool×SV×Mem) :=
 match xs,m with
 | [.ag [.row 0,.v (.int .i64 r1),.v (.int .i64 r2),.v (.int .i64 r3),.v (.int .i64 r4),.v (.int .i64 r5),.v (.int .i64 r6),.v (.int .i64 r7),.v (.int .i64 r8)]],⟨[],[],[.live ⟨e1,k1,L,own,mark⟩]⟩=>some (decide (1<=r5)&&decide (1<=r6),.ptr 0 0,⟨[[.v (I r5),.v (I r6),.ptr 1 0,.v (I 0),.v (I 0),.v (I 0),.v (I 0),.v (I 0),.v (I 0),.v (I 0),.v (I 0),.v (Bo false)],[.v (I 1000000),.v (I 0)]],[true,true],[.live ⟨e1,k1,L,own,mark⟩]⟩)
 | _,_=>none
theorem qdJ:aM 193 D1:=by
 intro xs m r m' h
 unfold D1 at h
 split at h
 ·rename_i r1 r2 r3 r4 r5 r6 r7 r8 e1 k1 L own mark
  obtain ⟨h1,rfl,rfl⟩:=an h
  refine af (Λ:=L0) qiw func193 rfl ai ?_
  refine (V4 r1 r2 r3 r4 r5 r6 r7 r8 e1 k1 L own mark).trans ?_
  rw [Bool.and_eq_true,decide_eq_true_eq,decide_eq_true_eq] at h1
  rw [decide_eq_false (show ¬ r5<1 by omega),decide_eq_false (show ¬ r6<1 by omega)]
  rfl
 ·cases h
end Go.Proofs.YtainfdcfkgemhaaGreat.So
namespace Go.Proofs.YtainfdcfkgemhaaGreat.Se
open Go Go.Proofs Go.Sx
set_option linter.unusedVariables false
def SM (s:Int) (l:Bool) (t w:Int):Mem:=⟨[[.v (I s),.v (Bo l),.v (I t),.v (I w)]],[true],[]⟩
def qC (p m:Int):Bool:=wI ((BitVec.ofInt 64 p &&& BitVec.ofInt 64 m).toNat:Int) != 0
def armB (h:Bool) (ps pw:Int):Bool:=h&&(qC pw 1||(ps==1||ps==2))
def safB (h:Bool) (ps pw:Int):Bool:=h&&(qC pw 2||ps==0)
def dropW (w d:Int):Int:=bif w==d then 0 else w
def j9 (w t:Int) (a:Bool):Int:=bif dropW w 2==1&&a then 1 else t
def wsW (w:Int) (a:Bool):Int:=bif dropW w 2==1&&a then 0 else dropW w 2
def kb (s t w c ph:Int) (fl fi f:Bool):Int:=bif c==3||fi then 2 else bif fl&&decide (ph<s) then t else bif dropW w 1==2&&f then 0 else t
def waW (s w c ph:Int) (fl fi f:Bool):Int:=bif c==3||fi then 0 else bif fl&&decide (ph<s) then dropW (dropW w 1) 2 else bif dropW w 1==2&&f then 0 else dropW w 1
def w1N (c w:Int):Int:=bif c==1 then 1 else bif c==2 then 2 else w
def cyT (s:Int) (l:Bool) (t w c ph:Int) (fl fi a f:Bool):Int:=bif l then t else bif t==0 then j9 (w1N c w) t a else bif t==1 then kb s t (w1N c w) c ph fl fi f else t
def cyW (s:Int) (l:Bool) (t w c ph:Int) (fl fi a f:Bool):Int:=bif l then w else bif t==0 then wsW (w1N c w) a else bif t==1 then waW s (w1N c w) c ph fl fi f else bif t==2 then 0 else w1N c w
def setB (l:Bool) (n:Int):Bool:=!l&&(!decide (n<0)&&!decide (n>2))
theorem WD (d:Int) (s:Int) (l:Bool) (t w:Int):runG ΓC L0 prog f281 [.ptr 0 0,.v (I d)] (SM s l t w) =
 (bif w==d then some (.v (.tuple #[]),⟨[[.v (I s),.v (Bo l),.v (I t),.v (I 0)]],[true],[]⟩) else some (.v (.tuple #[]),⟨[[.v (I s),.v (Bo l),.v (I t),.v (I w)]],[true],[]⟩)):=by kernel_rfl
def Em (xs:List SV) (m:Mem):Option (Bool×SV×Mem) :=
 match xs,m with
 | [.ptr 0 0,.v (.int .i64 d)],⟨[[.v (.int .i64 s),.v (.bool l),.v (.int .i64 t),.v (.int .i64 w)]],[true],[]⟩=>some (true,.v (.tuple #[]),SM s l t (dropW w d))
 | _,_=>none
theorem qd2:aM 281 Em:=by
 intro xs m r m' h
 unfold Em at h
 split at h
 ·rename_i d s l t w
  obtain ⟨h1,rfl,rfl⟩:=an h
  refine af (Λ:=L0) Aa func281 rfl (fun z _ _=>aV (by kernel_rfl) z) ?_
  exact (WD d s l t w).trans (by unfold dropW;cases w==d<;>rfl)
 ·cases h
def ΓG1:Orc:=aw 281 Em ΓC
theorem OkG1:ΓG1.Ok prog:=aq Aa qd2
theorem WG (d:Int) (s:Int) (l:Bool) (t w:Int):runG ΓG1 L0 prog f264 [.ptr 0 0,.v (I d)] (SM s l t w)=some (.v (.tuple #[]),SM s l d 0):=by kernel_rfl
def En (xs:List SV) (m:Mem):Option (Bool×SV×Mem) :=
 match xs,m with
 | [.ptr 0 0,.v (.int .i64 d)],⟨[[.v (.int .i64 s),.v (.bool l),.v (.int .i64 t),.v (.int .i64 w)]],[true],[]⟩=>some (true,.v (.tuple #[]),SM s l d 0)
 | _,_=>none
theorem qd3:aM 264 En:=by
 intro xs m r m' h
 unfold En at h
 split at h
 ·rename_i d s l t w
  obtain ⟨h1,rfl,rfl⟩:=an h
  refine af (Λ:=L0) OkG1 func264 rfl (fun z _ _=>aV (by kernel_rfl) z) ?_
  exact (WG d s l t w).trans (rfl)
 ·cases h
def ΓG2:Orc:=aw 264 En ΓG1
theorem OkG2:ΓG2.Ok prog:=aq OkG1 qd3
theorem WH (c:Int) (he:Bool) (pc pp ps pw:Int) (fl fi:Bool) (ph:Int):runG ΓG2 L0 prog f282 [.v (.agg #[I c,Bo he,I pc,I pp,I ps,I pw,Bo fl,Bo fi,I ph])] M0 =
 (bif he then (bif wI ((BitVec.ofInt (64:Nat) pw &&& BitVec.ofInt (64:Nat) (1:Int)).toNat:Int) != (0:Int) then some (.v (Bo true),M0) else (bif ps==(1:Int) then some (.v (Bo true),M0) else some (.v (Bo (ps==(2:Int))),M0))) else some (.v (Bo false),M0)):=by kernel_rfl
def Eo (vs:List Value):Option (Bool×Value) :=
 match vs with
 | [.agg ⟨[.int .i64 c,.bool he,.int .i64 pc,.int .i64 pp,.int .i64 ps,.int .i64 pw,.bool fl,.bool fi,.int .i64 ph]⟩]=>some (true,Bo (armB he ps pw))
 | _=>none
theorem qd4:am 282 Eo:=by
 intro vs r h
 unfold Eo at h
 split at h
 ·rename_i c he pc pp ps pw fl fi ph
  obtain ⟨h1,rfl⟩:=ab h
  refine ak (vs:=[.agg #[I c,Bo he,I pc,I pp,I ps,I pw,Bo fl,Bo fi,I ph]]) (Λ:=L0) (m':=M0) OkG2 func282 rfl (fun z _ _=>aV (by kernel_rfl) z) ?_
  exact (WH c he pc pp ps pw fl fi ph).trans (by rw [show (wI ((BitVec.ofInt 64 pw &&& BitVec.ofInt 64 1).toNat:Int) != 0)=qC pw 1 from rfl];unfold armB;cases he<;>cases qC pw 1<;>cases ps==1<;>cases ps==2<;>rfl)
 ·cases h
def ΓG3:Orc:=ah 282 Eo ΓG2
theorem OkG3:ΓG3.Ok prog:=ac OkG2 qd4
theorem Wz (c:Int) (he:Bool) (pc pp ps pw:Int) (fl fi:Bool) (ph:Int):runG ΓG3 L0 prog f283 [.v (.agg #[I c,Bo he,I pc,I pp,I ps,I pw,Bo fl,Bo fi,I ph])] M0 =
 (bif he then (bif wI ((BitVec.ofInt (64:Nat) pw &&& BitVec.ofInt (64:Nat) (2:Int)).toNat:Int) != (0:Int) then some (.v (Bo true),M0) else some (.v (Bo (ps==(0:Int))),M0)) else some (.v (Bo false),M0)):=by kernel_rfl
def Ek (vs:List Value):Option (Bool×Value) :=
 match vs with
 | [.agg ⟨[.int .i64 c,.bool he,.int .i64 pc,.int .i64 pp,.int .i64 ps,.int .i64 pw,.bool fl,.bool fi,.int .i64 ph]⟩]=>some (true,Bo (safB he ps pw))
 | _=>none
theorem qd0:am 283 Ek:=by
 intro vs r h
 unfold Ek at h
 split at h
 ·rename_i c he pc pp ps pw fl fi ph
  obtain ⟨h1,rfl⟩:=ab h
  refine ak (vs:=[.agg #[I c,Bo he,I pc,I pp,I ps,I pw,Bo fl,Bo fi,I ph]]) (Λ:=L0) (m':=M0) OkG3 func283 rfl (fun z _ _=>aV (by kernel_rfl) z) ?_
  exact (Wz c he pc pp ps pw fl fi ph).trans (by rw [show (wI ((BitVec.ofInt 64 pw &&& BitVec.ofInt 64 2).toNat:Int) != 0)=qC pw 2 from rfl];unfold safB;cases he<;>cases qC pw 2<;>cases ps==0<;>rfl)
 ·cases h
def ΓG4:Orc:=ah 283 Ek ΓG3
theorem RV:ΓG4.Ok prog:=ac OkG3 qd0
theorem Wr (c:Int) (he:Bool) (pc pp ps pw:Int) (fl fi:Bool) (ph:Int) (s:Int) (l:Bool) (t w:Int):runG ΓG4 L0 prog f218 [.ptr 0 0,.v (.agg #[I c,Bo he,I pc,I pp,I ps,I pw,Bo fl,Bo fi,I ph])] (SM s l t w) =
 (bif dropW w (2:Int)==(1:Int) then (bif armB he ps pw then some (.v (.tuple #[]),⟨[[.v (I s),.v (Bo l),.v (I 1),.v (I 0)]],[true],[]⟩) else some (.v (.tuple #[]),⟨[[.v (I s),.v (Bo l),.v (I t),.v (I (dropW w (2:Int)))]],[true],[]⟩)) else some (.v (.tuple #[]),⟨[[.v (I s),.v (Bo l),.v (I t),.v (I (dropW w (2:Int)))]],[true],[]⟩)):=by kernel_rfl
def Ei (xs:List SV) (m:Mem):Option (Bool×SV×Mem) :=
 match xs,m with
 | [.ptr 0 0,.v (.agg ⟨[.int .i64 c,.bool he,.int .i64 pc,.int .i64 pp,.int .i64 ps,.int .i64 pw,.bool fl,.bool fi,.int .i64 ph]⟩)],⟨[[.v (.int .i64 s),.v (.bool l),.v (.int .i64 t),.v (.int .i64 w)]],[true],[]⟩=>some (true,.v (.tuple #[]),SM s l (j9 w t (armB he ps pw)) (wsW w (armB he ps pw)))
 | _,_=>none
theorem qdY:aM 218 Ei:=by
 intro xs m r m' h
 unfold Ei at h
 split at h
 ·rename_i c he pc pp ps pw fl fi ph s l t w
  obtain ⟨h1,rfl,rfl⟩:=an h
  refine af (Λ:=L0) RV func218 rfl (fun z _ _=>aV (by kernel_rfl) z) ?_
  exact (Wr c he pc pp ps pw fl fi ph s l t w).trans (by unfold j9 wsW;cases dropW w 2==1<;>cases armB he ps pw<;>rfl)
 ·cases h
def ΓG5:Orc:=aw 218 Ei ΓG4
theorem RU:ΓG5.Ok prog:=aq RV qdY
theorem Wu (c:Int) (he:Bool) (pc pp ps pw:Int) (fl fi:Bool) (ph:Int) (s:Int) (l:Bool) (t w:Int):runG ΓG5 L0 prog f219 [.ptr 0 0,.v (.agg #[I c,Bo he,I pc,I pp,I ps,I pw,Bo fl,Bo fi,I ph])] (SM s l t w) =
 (bif c==(3:Int) then some (.v (.tuple #[]),⟨[[.v (I s),.v (Bo l),.v (I 2),.v (I 0)]],[true],[]⟩) else (bif fi then some (.v (.tuple #[]),⟨[[.v (I s),.v (Bo l),.v (I 2),.v (I 0)]],[true],[]⟩) else (bif fl then (bif decide (ph<s) then some (.v (.tuple #[]),⟨[[.v (I s),.v (Bo l),.v (I t),.v (I (dropW (dropW w (1:Int)) (2:Int)))]],[true],[]⟩) else (bif dropW w (1:Int)==(2:Int) then (bif safB he ps pw then some (.v (.tuple #[]),⟨[[.v (I s),.v (Bo l),.v (I 0),.v (I 0)]],[true],[]⟩) else some (.v (.tuple #[]),⟨[[.v (I s),.v (Bo l),.v (I t),.v (I (dropW w (1:Int)))]],[true],[]⟩)) else some (.v (.tuple #[]),⟨[[.v (I s),.v (Bo l),.v (I t),.v (I (dropW w (1:Int)))]],[true],[]⟩))) else (bif dropW w (1:Int)==(2:Int) then (bif safB he ps pw then some (.v (.tuple #[]),⟨[[.v (I s),.v (Bo l),.v (I 0),.v (I 0)]],[true],[]⟩) else some (.v (.tuple #[]),⟨[[.v (I s),.v (Bo l),.v (I t),.v (I (dropW w (1:Int)))]],[true],[]⟩)) else some (.v (.tuple #[]),⟨[[.v (I s),.v (Bo l),.v (I t),.v (I (dropW w (1:Int)))]],[true],[]⟩))))):=by kernel_rfl
def Ej (xs:List SV) (m:Mem):Option (Bool×SV×Mem) :=
 match xs,m with
 | [.ptr 0 0,.v (.agg ⟨[.int .i64 c,.bool he,.int .i64 pc,.int .i64 pp,.int .i64 ps,.int .i64 pw,.bool fl,.bool fi,.int .i64 ph]⟩)],⟨[[.v (.int .i64 s),.v (.bool l),.v (.int .i64 t),.v (.int .i64 w)]],[true],[]⟩=>some (true,.v (.tuple #[]),SM s l (kb s t w c ph fl fi (safB he ps pw)) (waW s w c ph fl fi (safB he ps pw)))
 | _,_=>none
theorem qdZ:aM 219 Ej:=by
 intro xs m r m' h
 unfold Ej at h
 split at h
 ·rename_i c he pc pp ps pw fl fi ph s l t w
  obtain ⟨h1,rfl,rfl⟩:=an h
  refine af (Λ:=L0) RU func219 rfl (fun z _ _=>aV (by kernel_rfl) z) ?_
  exact (Wu c he pc pp ps pw fl fi ph s l t w).trans (by unfold kb waW;cases c==3<;>cases fi<;>cases fl<;>cases decide (ph<s)<;>cases dropW w 1==2<;>cases safB he ps pw<;>rfl)
 ·cases h
def ΓG6:Orc:=aw 219 Ej ΓG5
theorem IZ:ΓG6.Ok prog:=aq RU qdZ
theorem WF (c:Int) (he:Bool) (pc pp ps pw:Int) (fl fi:Bool) (ph:Int) (s:Int) (l:Bool) (t w:Int):runG ΓG6 L0 prog f149 [.ptr 0 0,.v (.agg #[I c,Bo he,I pc,I pp,I ps,I pw,Bo fl,Bo fi,I ph])] (SM s l t w) =
 (bif l then some (.v (I 0),⟨[[.v (I s),.v (Bo l),.v (I t),.v (I w)]],[true],[]⟩) else (bif c==(1:Int) then (bif t==(0:Int) then some (.v (I (j9 (1:Int) t (armB he ps pw))),⟨[[.v (I s),.v (Bo l),.v (I (j9 (1:Int) t (armB he ps pw))),.v (I (wsW (1:Int) (armB he ps pw)))]],[true],[]⟩) else (bif t==(1:Int) then some (.v (I (kb s t (1:Int) c ph fl fi (safB he ps pw))),⟨[[.v (I s),.v (Bo l),.v (I (kb s t (1:Int) c ph fl fi (safB he ps pw))),.v (I (waW s (1:Int) c ph fl fi (safB he ps pw)))]],[true],[]⟩) else (bif t==(2:Int) then some (.v (I t),⟨[[.v (I s),.v (Bo l),.v (I t),.v (I 0)]],[true],[]⟩) else some (.v (I t),⟨[[.v (I s),.v (Bo l),.v (I t),.v (I 1)]],[true],[]⟩)))) else (bif c==(2:Int) then (bif t==(0:Int) then some (.v (I (j9 (2:Int) t (armB he ps pw))),⟨[[.v (I s),.v (Bo l),.v (I (j9 (2:Int) t (armB he ps pw))),.v (I (wsW (2:Int) (armB he ps pw)))]],[true],[]⟩) else (bif t==(1:Int) then some (.v (I (kb s t (2:Int) c ph fl fi (safB he ps pw))),⟨[[.v (I s),.v (Bo l),.v (I (kb s t (2:Int) c ph fl fi (safB he ps pw))),.v (I (waW s (2:Int) c ph fl fi (safB he ps pw)))]],[true],[]⟩) else (bif t==(2:Int) then some (.v (I t),⟨[[.v (I s),.v (Bo l),.v (I t),.v (I 0)]],[true],[]⟩) else some (.v (I t),⟨[[.v (I s),.v (Bo l),.v (I t),.v (I 2)]],[true],[]⟩)))) else (bif t==(0:Int) then some (.v (I (j9 w t (armB he ps pw))),⟨[[.v (I s),.v (Bo l),.v (I (j9 w t (armB he ps pw))),.v (I (wsW w (armB he ps pw)))]],[true],[]⟩) else (bif t==(1:Int) then some (.v (I (kb s t w c ph fl fi (safB he ps pw))),⟨[[.v (I s),.v (Bo l),.v (I (kb s t w c ph fl fi (safB he ps pw))),.v (I (waW s w c ph fl fi (safB he ps pw)))]],[true],[]⟩) else (bif t==(2:Int) then some (.v (I t),⟨[[.v (I s),.v (Bo l),.v (I t),.v (I 0)]],[true],[]⟩) else some (.v (I t),⟨[[.v (I s),.v (Bo l),.v (I t),.v (I w)]],[true],[]⟩))))))):=by kernel_rfl
theorem WE (c:Int) (he:Bool) (pc pp ps pw:Int) (fl fi:Bool) (ph:Int):runG ΓG6 L0 prog f149 [.v (.pointer none),.v (.agg #[I c,Bo he,I pc,I pp,I ps,I pw,Bo fl,Bo fi,I ph])] M0=some (.v (I 0),M0):=by kernel_rfl
def gSCyc (xs:List SV) (m:Mem):Option (Bool×SV×Mem) :=
 match xs,m with
 | [.ptr 0 0,.v (.agg ⟨[.int .i64 c,.bool he,.int .i64 pc,.int .i64 pp,.int .i64 ps,.int .i64 pw,.bool fl,.bool fi,.int .i64 ph]⟩)],⟨[[.v (.int .i64 s),.v (.bool l),.v (.int .i64 t),.v (.int .i64 w)]],[true],[]⟩=>some (true,.v (I (bif l then 0 else cyT s l t w c ph fl fi (armB he ps pw) (safB he ps pw))),SM s l (cyT s l t w c ph fl fi (armB he ps pw) (safB he ps pw)) (cyW s l t w c ph fl fi (armB he ps pw) (safB he ps pw)))
 | [.v (.pointer none),.v (.agg ⟨[.int .i64 c,.bool he,.int .i64 pc,.int .i64 pp,.int .i64 ps,.int .i64 pw,.bool fl,.bool fi,.int .i64 ph]⟩)],⟨[],[],[]⟩=>some (true,.v (I 0),M0)
 | _,_=>none
theorem gSCyc_ok:aM 149 gSCyc:=by
 intro xs m r m' h
 unfold gSCyc at h
 split at h
 ·rename_i c he pc pp ps pw fl fi ph s l t w
  obtain ⟨h1,rfl,rfl⟩:=an h
  refine af (Λ:=L0) IZ func149 rfl (fun z _ _=>aV (by kernel_rfl) z) ?_
  exact (WF c he pc pp ps pw fl fi ph s l t w).trans (by unfold cyT cyW w1N;cases l<;>cases c==1<;>cases c==2<;>cases t==0<;>cases t==1<;>cases t==2<;>rfl)
 ·rename_i c he pc pp ps pw fl fi ph
  obtain ⟨h1,rfl,rfl⟩:=an h
  refine af (Λ:=L0) IZ func149 rfl (fun z _ _=>aV (by kernel_rfl) z) ?_
  exact (WE c he pc pp ps pw fl fi ph).trans (rfl)
 ·cases h
def ΓG7:Orc:=aw 149 gSCyc ΓG6
theorem IY:ΓG7.Ok prog:=aq IZ gSCyc_ok
theorem Ww (s:Int) (l:Bool) (t w:Int):runG ΓG7 L0 prog f147 [.ptr 0 0] (SM s l t w)=some (.v (I t),SM s l t w):=by kernel_rfl
theorem Wv:runG ΓG7 L0 prog f147 [.v (.pointer none)] M0=some (.v (I 0),M0):=by kernel_rfl
def gSSta (xs:List SV) (m:Mem):Option (Bool×Value) :=
 match xs,m with
 | [.ptr 0 0],⟨[[.v (.int .i64 s),.v (.bool l),.v (.int .i64 t),.v (.int .i64 w)]],[true],[]⟩=>some (true,I t)
 | [.v (.pointer none)],⟨[],[],[]⟩=>some (true,I 0)
 | _,_=>none
theorem gSSta_ok:bi 147 gSSta:=by
 intro xs m r h
 unfold gSSta at h
 split at h
 ·rename_i s l t w
  obtain ⟨h1,rfl⟩:=ab h
  refine af (Λ:=L0) IY func147 rfl (fun z _ _=>aV (by kernel_rfl) z) ?_
  exact (Ww s l t w).trans (rfl)
 ·obtain ⟨h1,rfl⟩:=ab h
  refine af (Λ:=L0) IY func147 rfl (fun z _ _=>aV (by kernel_rfl) z) ?_
  exact (Wv ).trans (rfl)
 ·cases h
def ΓG8:Orc:=aQ 147 gSSta ΓG7
theorem IX:ΓG8.Ok prog:=aJ IY gSSta_ok
theorem Wt (s:Int) (l:Bool) (t w:Int):runG ΓG8 L0 prog f157 [.ptr 0 0] (SM s l t w)=some (.v (I w),SM s l t w):=by kernel_rfl
theorem Ws:runG ΓG8 L0 prog f157 [.v (.pointer none)] M0=some (.v (I 0),M0):=by kernel_rfl
def gSWis (xs:List SV) (m:Mem):Option (Bool×Value) :=
 match xs,m with
 | [.ptr 0 0],⟨[[.v (.int .i64 s),.v (.bool l),.v (.int .i64 t),.v (.int .i64 w)]],[true],[]⟩=>some (true,I w)
 | [.v (.pointer none)],⟨[],[],[]⟩=>some (true,I 0)
 | _,_=>none
theorem gSWis_ok:bi 157 gSWis:=by
 intro xs m r h
 unfold gSWis at h
 split at h
 ·rename_i s l t w
  obtain ⟨h1,rfl⟩:=ab h
  refine af (Λ:=L0) IX func157 rfl (fun z _ _=>aV (by kernel_rfl) z) ?_
  exact (Wt s l t w).trans (rfl)
 ·obtain ⟨h1,rfl⟩:=ab h
  refine af (Λ:=L0) IX func157 rfl (fun z _ _=>aV (by kernel_rfl) z) ?_
  exact (Ws ).trans (rfl)
 ·cases h
def ΓG9:Orc:=aQ 157 gSWis ΓG8
theorem IW:ΓG9.Ok prog:=aJ IX gSWis_ok
theorem WC (s:Int) (l:Bool) (t w:Int):runG ΓG9 L0 prog f263 [.ptr 0 0] (SM s l t w)=some (.v (Bo l),SM s l t w):=by kernel_rfl
theorem WB:runG ΓG9 L0 prog f263 [.v (.pointer none)] M0=some (.v (Bo true),M0):=by kernel_rfl
def El (xs:List SV) (m:Mem):Option (Bool×Value) :=
 match xs,m with
 | [.ptr 0 0],⟨[[.v (.int .i64 s),.v (.bool l),.v (.int .i64 t),.v (.int .i64 w)]],[true],[]⟩=>some (true,Bo l)
 | [.v (.pointer none)],⟨[],[],[]⟩=>some (true,Bo true)
 | _,_=>none
theorem qd1:bi 263 El:=by
 intro xs m r h
 unfold El at h
 split at h
 ·rename_i s l t w
  obtain ⟨h1,rfl⟩:=ab h
  refine af (Λ:=L0) IW func263 rfl (fun z _ _=>aV (by kernel_rfl) z) ?_
  exact (WC s l t w).trans (rfl)
 ·obtain ⟨h1,rfl⟩:=ab h
  refine af (Λ:=L0) IW func263 rfl (fun z _ _=>aV (by kernel_rfl) z) ?_
  exact (WB ).trans (rfl)
 ·cases h
def ΓG10:Orc:=aQ 263 El ΓG9
theorem I0:ΓG10.Ok prog:=aJ IW qd1
theorem Wy (n:Int) (s:Int) (l:Bool) (t w:Int):runG ΓG10 L0 prog f196 [.ptr 0 0,.v (I n)] (SM s l t w) =
 (bif l then some (.v (Bo false),⟨[[.v (I s),.v (Bo l),.v (I t),.v (I w)]],[true],[]⟩) else (bif decide (n<(0:Int)) then some (.v (Bo false),⟨[[.v (I s),.v (Bo l),.v (I t),.v (I w)]],[true],[]⟩) else (bif decide (n>(2:Int)) then some (.v (Bo false),⟨[[.v (I s),.v (Bo l),.v (I t),.v (I w)]],[true],[]⟩) else some (.v (Bo true),⟨[[.v (I s),.v (Bo l),.v (I n),.v (I 0)]],[true],[]⟩)))):=by kernel_rfl
theorem Wx (n:Int):runG ΓG10 L0 prog f196 [.v (.pointer none),.v (I n)] M0=some (.v (Bo false),M0):=by kernel_rfl
def gSSet (xs:List SV) (m:Mem):Option (Bool×SV×Mem) :=
 match xs,m with
 | [.ptr 0 0,.v (.int .i64 n)],⟨[[.v (.int .i64 s),.v (.bool l),.v (.int .i64 t),.v (.int .i64 w)]],[true],[]⟩=>some (true,.v (Bo (setB l n)),SM s l (bif setB l n then n else t) (bif setB l n then 0 else w))
 | [.v (.pointer none),.v (.int .i64 n)],⟨[],[],[]⟩=>some (true,.v (Bo false),M0)
 | _,_=>none
theorem gSSet_ok:aM 196 gSSet:=by
 intro xs m r m' h
 unfold gSSet at h
 split at h
 ·rename_i n s l t w
  obtain ⟨h1,rfl,rfl⟩:=an h
  refine af (Λ:=L0) I0 func196 rfl (fun z _ _=>aV (by kernel_rfl) z) ?_
  exact (Wy n s l t w).trans (by unfold setB;cases l<;>cases decide (n<0)<;>cases decide (n>2)<;>rfl)
 ·rename_i n
  obtain ⟨h1,rfl,rfl⟩:=an h
  refine af (Λ:=L0) I0 func196 rfl (fun z _ _=>aV (by kernel_rfl) z) ?_
  exact (Wx n).trans (rfl)
 ·cases h
def ΓG11:Orc:=aw 196 gSSet ΓG10
theorem qjU:ΓG11.Ok prog:=aq I0 gSSet_ok
theorem WA (s:Int) (l:Bool):runG ΓG11 L0 prog f121 [.v (I s),.v (Bo l)] M0=some (.ptr 0 0,SM s l 0 0):=by kernel_rfl
def gSNew (xs:List SV) (m:Mem):Option (Bool×SV×Mem) :=
 match xs,m with
 | [.v (.int .i64 s),.v (.bool l)],⟨[],[],[]⟩=>some (true,.ptr 0 0,SM s l 0 0)
 | _,_=>none
theorem gSNew_ok:aM 121 gSNew:=by
 intro xs m r m' h
 unfold gSNew at h
 split at h
 ·rename_i s l
  obtain ⟨h1,rfl,rfl⟩:=an h
  refine af (Λ:=L0) qjU func121 rfl (fun z _ _=>aV (by kernel_rfl) z) ?_
  exact (WA s l).trans (rfl)
 ·cases h
end Go.Proofs.YtainfdcfkgemhaaGreat.Se
